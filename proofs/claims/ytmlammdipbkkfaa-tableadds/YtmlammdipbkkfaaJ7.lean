/-
  The sort of pile.widestFirst: places of cubes, those that care for the fewest bits first, out of the library's contract of slices.SortFunc. Conditions as each theorem lists them.
  Contract of pile.widestFirst: the places of the sound cubes, those that care for the fewest bits first. Conditions as each theorem lists them.
  Plain mathematics on what pile.leanUpTo keeps: taking the widest cubes first and leaving out what lies within a kept one is leaving out the spare ones. No program in sight. Conditions as each theorem lists them.
  Contracts of slices.ContainsFunc and slices.Sort over ints and of the closure of pile.leanUpTo. Conditions as each theorem lists them.
  Appending a slice of cubes, wherever it lies, to a row of the call's own; contracts of slices.Clone, slices.Grow (of nil) and slices.Concat (of two) over cubes. Conditions as each theorem lists them.
  Contract of pile.leanUpTo and of pile.Lean: the cubes that remain, or ErrCubes where there are more than the limit. Conditions as each theorem lists them.
  Contracts of pile.Lean and pile.Pick. Conditions as each theorem lists them.
  Contracts of slices.Clone, slices.Grow (of nil) and slices.Concat (of two) over cubes. Conditions as each theorem lists them.
  Contract: Has of the reference of layer 2 tells whether a header is in the cube of a text. Conditions: the text is that of a sound cube.
  The law CubeHas returns true for all cubes and headers, and changes nothing that was there. No conditions.
  Plain facts on rows of bytes in memory and on the signs of two cubes' intersection. No program in sight. No conditions.
  Contracts: Meet and Within of the reference of layer 2, on the texts of two sound cubes. Conditions: both texts are those of sound cubes.
  Plain facts on the bits of a field. No conditions.
  Plain facts on whole arrays that are written place by place. No conditions.
  Contract: Cube of the reference of layer 2 returns the cube of a text. Conditions: the text is that of a sound cube.
  The law CubeMeets returns true for all cubes, and changes nothing that was there. No conditions.
  Contract of pile.without: the differences of each cube and the one that goes, in a row. Conditions as the theorem lists them.
-/
import Derived.Test.YtmlammdipbkkfaaJ6
import Derived.Deep.AppendLies
import Derived.Deep.DeepCutAuto
import Derived.Deep.Light
import Derived.OwnWalk
import Derived.Shelf.Slices.In.SortNone
import Derived.Maps.AppendAt
import Derived.Lib.AppendZeros
import Derived.Laws.AppendOwnNone
import Derived.Laws.MakeOwn
import Derived.Lib.SliceRun
import Derived.Deep.QuietTactic
import Derived.BigQuiet
import Derived.Deep.RegionHeld
namespace Go.Proofs.Hd
open Go.RowKit Go.Sort Go.Shelf Go.Lib
/-- How many bits cube number k of a list cares for. -/
def szAt (L : List Cb) (k : Nat) : Int := match L[k]? with
  | some c => ((ones c.ch + ones c.cl : Nat) : Int)
  | none => 0
theorem szAt_some {L : List Cb} {k : Nat} {c : Cb} (h : L[k]? = some c) : szAt L k = ((ones c.ch + ones c.cl : Nat) : Int) := by unfold szAt; rw [h]
def cfW (L : List Cb) (x y : {k : Nat // k < L.length}) : Int := or2 (icmp (szAt L x.1) (szAt L y.1)) (icmp (x.1 : Int) (y.1 : Int))
theorem ltW (L : List Cb) (x y : {k : Nat // k < L.length}) : ltOf (cfW L) x y = decide (szAt L x.1 < szAt L y.1 ∨ (szAt L x.1 = szAt L y.1 ∧ x.1 < y.1)) := by
  unfold ltOf cfW or2 icmp
  by_cases h1 : szAt L x.1 < szAt L y.1
  · simp [h1]
  · by_cases h2 : szAt L y.1 < szAt L x.1
    · have : ¬ szAt L x.1 = szAt L y.1 := by omega
      simp [h1, h2, this]
    · have : szAt L x.1 = szAt L y.1 := by omega
      by_cases h3 : x.1 < y.1
      · simp [this, h3]
      · by_cases h4 : y.1 < x.1 <;> simp [this, h3, h4]
theorem swoW (L : List Cb) : SWO (ltOf (cfW L)) where
  irrefl x := by rw [ltW]; simp
  trans x y z h1 h2 := by rw [ltW, decide_eq_true_eq] at *; omega
  ntrans x y z h1 h2 := by rw [ltW, decide_eq_false_iff_not] at *; omega
/-- Number a stands ahead of number b, or is it. -/
def wle (L : List Cb) (a b : Nat) : Prop := szAt L a < szAt L b ∨ (szAt L a = szAt L b ∧ a ≤ b)
theorem sortWorld_cell {α : Type} [Inhabited α] (enc : α → Value) (w : World) (g off m : Nat) (dk : Array α) (os : Array Obj) (p : Addr) {u : Value} (hp : w.cell? p = some u) (hg : p.block ≠ g) : (sortWorld enc w g off m dk os).cell? p = some u := by
  have hl := World.block_lt_of_cell? w p hp
  unfold sortWorld
  rw [cell?_grow _ _ _ (by rw [size_putRow]; exact hl), cell?_putRow_other _ _ _ _ _ _ (.inl hg), cell?_ahead]
  exact hp
theorem sortWorld_grown {α : Type} [Inhabited α] (enc : α → Value) (w : World) (g off m : Nat) (dk : Array α) (os : Array Obj) : w.grownBy (sortWorld enc w g off m dk os) (some g) := by
  refine ⟨rfl, rfl, rfl, ?_, fun k hk hne => ?_⟩
  · unfold sortWorld; simp [grow]; try (unfold putRow mapBlock; simp [ahead])
  · unfold sortWorld
    rw [heap_grow_old _ _ (by rw [size_putRow]; exact hk)]
    unfold putRow mapBlock
    simp only [Array.getElem?_modify]
    rw [if_neg (fun e => hne (by rw [e]))]
    rfl
end Go.Proofs.Hd
namespace Go.Proofs
open Go.RowKit Go.Proofs.Hd Go.Sort Go.Shelf Go.Lib
theorem wide_sort (L : List Cb) (v : Value) (ks : List Nat) (base b off cap pb : Nat) (w : World) (hn : L.length ≤ maxLen) (hown : w.ownsRow base 3 1 v ks.length (ints ks)) (hks : ∀ k ∈ ks, k < L.length) (hsz : ks.length < 4611686018427387904)
    (hp : w.cell? ⟨pb, 0, none⟩ = some (.slice (some ⟨b, off, none⟩) L.length cap)) (hc : ∀ k c, L[k]? = some c → At4 w b (off + k * 4) c) (h1 : some pb ≠ v.ownBlock) (h2 : some b ≠ v.ownBlock) :
    Calls Try.prog 46 #[v, .func (.func 82) #[] #[.pointer (some ⟨pb, 0, none⟩)]] w fun e w' => e = .returned (.tuple #[]) ∧ w.grownBy w' v.ownBlock ∧ ∃ ks', ks'.Perm ks ∧ ks'.Pairwise (wle L) ∧ PlI w' v ks' := by
  rcases hown.2 with ⟨rfl, h0⟩ | ⟨g, cp, cur, rfl, hge, hheap, _⟩
  · have e : ks = [] := List.eq_nil_of_length_eq_zero h0
    subst e
    have hcon := AnyF.slices_SortFunc_none { Try.sortF with } none 0 (.func (.func 82) #[] #[.pointer (some ⟨pb, 0, none⟩)]) w
    change Calls Try.prog 46 _ _ _ at hcon
    refine hcon.mono ?_
    rintro e w' ⟨rfl, rfl⟩
    exact ⟨rfl, ⟨rfl, rfl, rfl, Nat.le_refl _, fun _ _ _ => rfl⟩, [], List.Perm.refl _, List.Pairwise.nil, .inl ⟨rfl, _, _, rfl⟩⟩
  · by_cases h0 : ks = []
    · subst h0
      have hcon := AnyF.slices_SortFunc_none { Try.sortF with } (some ⟨g, 0, none⟩) cp (.func (.func 82) #[] #[.pointer (some ⟨pb, 0, none⟩)]) w
      change Calls Try.prog 46 _ _ _ at hcon
      refine hcon.mono ?_
      rintro e w' ⟨rfl, rfl⟩
      exact ⟨rfl, ⟨rfl, rfl, rfl, Nat.le_refl _, fun _ _ _ => rfl⟩, [], List.Perm.refl _, List.Pairwise.nil, .inl ⟨rfl, _, _, rfl⟩⟩
    · have eg : ∀ args w, (callFunc 82 args).run Try.prog w = .ok (.enter 82 args) w := enters_of Try.func82 (by kernel_rfl) rfl
      obtain ⟨k0, hk0⟩ := List.exists_mem_of_ne_nil ks h0
      haveI : Inhabited {k : Nat // k < L.length} := ⟨⟨k0, hks k0 hk0⟩⟩
      let d : Array {k : Nat // k < L.length} := (ks.pmap (fun k h => ⟨k, h⟩) hks).toArray
      have dsz : d.size = ks.length := by simp [d]
      have dval : d.toList.map (·.1) = ks := by simp [d, List.map_pmap]
      have dget : ∀ j, j < d.size → ks[j]? = some (d[j]!).1 := fun j hj => by
        rw [← dval, List.getElem?_map, getElem!_pos d j hj]
        simp [hj]
      have n1 : pb ≠ g := fun e => h1 (by simp [Value.ownBlock, e])
      have n2 : b ≠ g := fun e => h2 (by simp [Value.ownBlock, e])
      have hH : Holds (fun x : {k : Nat // k < L.length} => Value.int .i64 (x.1 : Int)) w g 0 d := fun j hj => by
        constructor
        · rw [Nat.zero_add, hown.cellAt j (by omega)]
          unfold ints
          rw [List.getElem?_map, dget j hj]; rfl
        · exact hown.frozenAt _
      have hcmp : CmpLays1 Try.prog 82 #[.pointer (some ⟨pb, 0, none⟩)] (fun x : {k : Nat // k < L.length} => Value.int .i64 (x.1 : Int)) (cfW L) g 0 d.size w := fun m os dk _ x y => by
        obtain ⟨ci, hi⟩ : ∃ c, L[x.1]? = some c := ⟨_, List.getElem?_eq_getElem x.2⟩
        obtain ⟨cj, hj⟩ : ∃ c, L[y.1]? = some c := ⟨_, List.getElem?_eq_getElem y.2⟩
        have a1 := hc _ _ hi
        have a2 := hc _ _ hj
        exact wide1_g (szAt L x.1) (szAt L y.1) _ _ _ ci cj x.1 y.1 L.length b off cap pb _ x.2 y.2 hn (Lib.hid (szAt_some hi).symm) (Lib.hid (szAt_some hj).symm) rfl rfl rfl (sortWorld_cell _ _ _ _ _ _ _ _ hp n1)
          ⟨sortWorld_cell _ _ _ _ _ _ _ _ a1.1 n2, sortWorld_cell _ _ _ _ _ _ _ _ a1.2.1 n2, sortWorld_cell _ _ _ _ _ _ _ _ a1.2.2.1 n2, sortWorld_cell _ _ _ _ _ _ _ _ a1.2.2.2 n2⟩
          ⟨sortWorld_cell _ _ _ _ _ _ _ _ a2.1 n2, sortWorld_cell _ _ _ _ _ _ _ _ a2.2.1 n2, sortWorld_cell _ _ _ _ _ _ _ _ a2.2.2.1 n2, sortWorld_cell _ _ _ _ _ _ _ _ a2.2.2.2 n2⟩
      have hlt : g < w.heap.size := by
        rcases Nat.lt_or_ge g w.heap.size with h | h
        · exact h
        · rw [Array.getElem?_eq_none h] at hheap; cases hheap
      have hcon := Any.slices_SortFunc Try.sortF (fun x : {k : Nat // k < L.length} => Value.int .i64 (x.1 : Int)) (fun _ => rfl) (cfW L) (swoW L) 82 #[.pointer (some ⟨pb, 0, none⟩)] g 0 cp d w eg hcmp hH hlt (by omega)
      change Calls Try.prog 46 _ _ _ at hcon
      rw [dsz] at hcon
      refine hcon.mono ?_
      rintro e w' ⟨rfl, d', n, os, hperm, hsort, rfl⟩
      obtain ⟨hs1, _, hs3⟩ := hperm
      have hp3 : d'.toList.Perm d.toList := by
        have e1 : (d'.extract 0 ks.length).toList = d'.toList := by rw [show ks.length = d'.size by omega]; simp
        have e2 : (d.extract 0 ks.length).toList = d.toList := by rw [← dsz]; simp
        rw [e1, e2] at hs3; exact hs3
      refine ⟨rfl, sortWorld_grown _ _ _ _ _ _ _, d'.toList.map (·.1), by rw [← dval]; exact hp3.map _, ?_, .inr ⟨g, cp, ?_, ?_, fun j k hk => ?_⟩⟩
      · rw [List.pairwise_map, List.pairwise_iff_getElem]
        intro i j hi hj hij
        have hi' : i < d'.size := by simpa using hi
        have hj' : j < d'.size := by simpa using hj
        have := hsort i j (Nat.zero_le _) hij (by omega)
        rw [ltW, decide_eq_false_iff_not, getElem!_pos d' i hi', getElem!_pos d' j hj'] at this
        simp only [Array.getElem_toList]
        unfold wle
        omega
      · simp; omega
      · have := (sortWorld_grown (fun x : {k : Nat // k < L.length} => Value.int .i64 (x.1 : Int)) w g 0 n d' os).size
        omega
      · have hjl : j < d'.size := by have := (List.getElem?_eq_some_iff.1 hk).1; simpa using this
        unfold sortWorld
        rw [cell?_grow _ _ _ (by rw [size_putRow]; exact hlt)]
        have := cell?_putRow (fun x : {k : Nat // k < L.length} => Value.int .i64 (x.1 : Int)) (Sort.ahead w n) g 0 d d' hH hs1 j hjl
        rw [Nat.zero_add] at this
        rw [this]
        rw [List.getElem?_map] at hk
        have e : d'.toList[j]? = some d'[j]! := by rw [getElem!_pos d' j hjl]; simp [hjl]
        rw [e] at hk
        simp only [Option.map_some, Option.some.injEq] at hk
        rw [hk]
end Go.Proofs

namespace Go.Proofs.Hd
open Go.RowKit Go.Sort Go.Shelf Go.Lib
def sndAt (L : List Cb) (i : Nat) : Bool := match L[i]? with
  | some c => c.snd
  | none => false
theorem sndAt_some {L : List Cb} {k : Nat} {c : Cb} (h : L[k]? = some c) : sndAt L k = c.snd := by unfold sndAt; rw [h]
/-- The places of the sound cubes among the first k. -/
def sI (L : List Cb) (k : Nat) : List Nat := (List.range k).filter (sndAt L)
theorem sI_succ (L : List Cb) (k : Nat) : sI L (k + 1) = if sndAt L k = true then sI L k ++ [k] else sI L k := by
  unfold sI
  rw [List.range_succ, List.filter_append]
  cases h : sndAt L k <;> simp [h]
theorem sI_len (L : List Cb) (k : Nat) : (sI L k).length ≤ k := by
  unfold sI
  exact Nat.le_trans (List.length_filter_le _ _) (by simp)
theorem sI_lt (L : List Cb) : ∀ k ∈ sI L L.length, k < L.length := fun k hk => by
  unfold sI at hk
  simpa using (List.mem_filter.1 hk).1
/-- What pile.widestFirst holds in memory. -/
structure Wd (w wr : World) (v s : Value) (ks : List Nat) : Prop where
  bel : Below w.heap.size w wr
  box : Blk wr w.heap.size 44 #[v]
  own : wr.ownsRow (w.heap.size + 1) 3 1 s ks.length (ints ks)
theorem Wd.on {w wr w2 : World} {v s : Value} {ks : List Nat} (h : Wd w wr v s ks) (hb : Below wr.heap.size wr w2) : Wd w w2 v s ks :=
  ⟨h.bel.trans (hb.mono h.bel.size), h.box.on hb, own_on h.own hb⟩
theorem Wd.append {w wr w2 : World} {v s s' : Value} {ks : List Nat} {k : Nat} (h : Wd w wr v s ks) (hg : wr.grownBy w2 s.ownBlock)
    (hown : w2.ownsRow (w.heap.size + 1) 3 1 s' (ks.length + 1) (ints ks ++ [.int .i64 (k : Int)])) : Wd w w2 v s' (ks ++ [k]) := by
  have hz := h.bel.size
  refine ⟨h.bel.grown hg hz (fun j hj => by have := (h.own.lt j hj).1; omega), h.box.grown hg (own_base h.own (by omega)), ?_⟩
  rw [ints_snoc]; simpa using hown
end Go.Proofs.Hd
namespace Go.Proofs
open Go.RowKit Go.Proofs.Hd Go.Sort Go.Shelf Go.Lib
attribute [local go_sem] uv_nonneg
theorem infoInt : (Try.prog.info? 3).map (fun i => (i.zero, i.size, i.bytes)) = some (some (.int .i64 0), 1, 8) := by kernel_rfl
set_option maxHeartbeats 2000000 in
set_option maxRecDepth 100000 in
theorem widest_c (v : Value) (L : List Cb) (w : World) (hl : L.length ≤ 1000000) (hv : Pl w v L) :
    Calls Try.prog 65 #[v] w fun e w' => ∃ s ks, e = .returned s ∧ Below w.heap.size w w' ∧ ks.Perm (sI L L.length) ∧ ks.Pairwise (wle L) ∧ PlI w' s ks := by
  rcases hv with ⟨rfl, A, cap, rfl⟩ | ⟨b, off, cap, rfl, hlen, hb, hc⟩
  · have B0 := below1 w (.cells #[.slice A 0 cap] 44)
    have hcon := AnyF.slices_SortFunc_none { Try.sortF with } none 0 (.func (.func 82) #[] #[.pointer (some ⟨w.heap.size, 0, none⟩)]) (w.alloc (.cells #[.slice A 0 cap] 44))
    change Calls Try.prog 46 _ _ _ at hcon
    go_enter Try.func65, Try.ntmps65
    go_wp2
    refine wp_loop_rounds 1 ?_
    rw [rounds_succ]
    go_wp2_with (go_at_call 46; refine hcon.mono ?_; rintro e w' ⟨rfl, rfl⟩)
    go_ret
    exact ⟨_, [], rfl, B0, List.Perm.refl _, List.Pairwise.nil, .inl ⟨rfl, _, _, rfl⟩⟩
  · have hlz : (L.length : Int) ≤ 1000000 := by omega
    have HC := Lib.hid hc
    have W0 : Wd w (w.alloc (.cells #[.slice (some ⟨b, off, none⟩) L.length cap] 44)) (.slice (some ⟨b, off, none⟩) L.length cap) (.slice none 0 0) (sI L 0) := ⟨below1 _ _, Blk.new _ _ _, World.ownsRow_nil _ _ _ _⟩
    have HW := Lib.hid W0
    clear hc W0
    go_enter Try.func65, Try.ntmps65
    go_wp2
    go_loopg [3, 8] L.length (fun gk s i wr => ∃ k : Nat, k ≤ L.length ∧ gk = L.length - k ∧ i = .int .i64 k ∧ Wd w wr (.slice (some ⟨b, off, none⟩) L.length cap) s (sI L k))
    case atStart => exact ⟨0, Nat.zero_le _, rfl, rfl, HW.out⟩
    case round =>
      clear HW
      obtain ⟨k, hk, rfl, rfl, H⟩ := hrel
      by_cases hlt : k < L.length
      · have hltz : (k : Int) < (L.length : Int) := by omega
        obtain ⟨c, hc⟩ : ∃ c, L[k]? = some c := ⟨_, List.getElem?_eq_getElem hlt⟩
        obtain ⟨c0, c1, c2, c3⟩ := (HC.out k c hc).on (w' := wr) H.bel
        have B := Lib.hid hc
        clear hc
        have hb1 := below1 wr (.cells #[.int .u64 (uv c.vh), .int .u64 (uv c.vl), .int .u64 (uv c.ch), .int .u64 (uv c.cl)] 51)
        have H1 := H.on hb1
        clear H
        have hsl := sI_len L k
        cases hs : c.snd with
        | false =>
          have HN : Hid (sI L (k + 1) = sI L k) := Lib.hid (by rw [sI_succ, sndAt_some B.out, hs, if_neg (by simp)])
          go_wp2_with fail
          (with_reducible refine (csound _ c _ hs).mono ?_)
          rintro e w2 ⟨rfl, hb2⟩
          have H2 := H1.on hb2
          clear H1 hb1 hb2 c0 c1 c2 c3
          go_wp2
          go_roundg (L.length - (k + 1))
          case measure => omega
          case rel => exact ⟨k + 1, by omega, rfl, by go_num, by rw [HN.out]; exact H2⟩
        | true =>
          have HN : Hid (sI L (k + 1) = sI L k ++ [k]) := Lib.hid (by rw [sI_succ, sndAt_some B.out, hs, if_pos rfl])
          go_wp2_with fail
          (with_reducible refine (csound _ c _ hs).mono ?_)
          rintro e w2 ⟨rfl, hb2⟩
          have H2 := H1.on hb2
          clear H1 hb1 hb2 c0 c1 c2 c3
          have N3 : Blk (w2.alloc (.cells #[.int .i64 (k : Int)] 3)) w2.heap.size 3 #[.int .i64 (k : Int)] := Blk.new w2 _ _
          have H3 := H2.on (below1 w2 (.cells #[.int .i64 (k : Int)] 3))
          obtain ⟨i0, hi0, hz0, hz1, hz2⟩ := info_parts infoInt
          go_wp2_with (at_builtin; refine wpList_append_lies _ rfl (.tmp 15) (.tmp 17) 36 rfl (w.heap.size + 1) 3 i0 _ 1 8 Try.underlying36 hi0 hz0 hz1 hz2 rfl (by decide) _ (sI L k).length (ints (sI L k)) rfl H3.own ⟨w2.heap.size, 0, none⟩ 1 1 [.int .i64 (k : Int)] rfl rfl (World.news_of_block N3) (by intro u hu; simp only [List.mem_singleton] at hu; subst hu; rfl) (by omega) (by unfold maxLen; omega) (by omega) (H3.box.lt) _ rfl ?_)
          intro g2 cap2 w4 hown hgrow hat hgl
          have H4 := H3.append hgrow hown
          clear H2 H3 N3 hi0 hz0 hz1 hz2 hown hgrow hat hgl
          go_wp2
          go_roundg (L.length - (k + 1))
          case measure => omega
          case rel => exact ⟨k + 1, by omega, rfl, by go_num, by rw [HN.out]; exact H4⟩
      · have hltz : ¬ (k : Int) < (L.length : Int) := by omega
        obtain rfl : k = L.length := by omega
        have hsl := sI_len L L.length
        have hcon := wide_sort L _ (sI L L.length) (w.heap.size + 1) b off cap w.heap.size wr hlen H.own (sI_lt L) (by omega) (H.box.cell 0) (fun k c hk => (HC.out k c hk).on H.bel) (own_base H.own (by omega)) (own_base H.own (by omega))
        have HB : Hid (∀ w', wr.grownBy w' u3.ownBlock → Below w.heap.size w w') := fun w' hg => H.bel.grown hg H.bel.size (fun j hj => by have := (H.own.lt j hj).1; omega)
        clear H HC
        go_wp2_with (go_at_call 46; refine hcon.mono ?_; rintro e w' ⟨rfl, hg, ks', hp1, hp2, hp3⟩)
        go_ret
        exact ⟨_, ks', rfl, HB.out _ hg, hp1, hp2, hp3⟩
end Go.Proofs

namespace Go.Proofs.Hd
open Go.RowKit
theorem szAt_size {L : List Cb} {k : Nat} {c : Cb} (h : L[k]? = some c) : szAt L k = (c.size : Int) := by
  rw [szAt_some h]
  have : c.size = ones c.ch + ones c.cl := cnt_128 c.ch c.cl
  rw [this]
def witAt (L : List Cb) (n k : Nat) : Bool := match L[n]?, L[k]? with
  | some a, some b => a.wit b
  | _, _ => false
theorem witAt_some {L : List Cb} {n k : Nat} {a b : Cb} (h1 : L[n]? = some a) (h2 : L[k]? = some b) : witAt L n k = a.wit b := by unfold witAt; rw [h1, h2]
theorem witAt_true {L : List Cb} {n k : Nat} {a : Cb} (h1 : L[n]? = some a) (h : witAt L n k = true) : ∃ b, L[k]? = some b ∧ a.wit b = true := by
  unfold witAt at h
  rw [h1] at h
  cases h2 : L[k]? with
  | none => rw [h2] at h; cases h
  | some b => rw [h2] at h; exact ⟨b, rfl, h⟩
theorem sI_mem {L : List Cb} {k : Nat} : k ∈ sI L L.length ↔ ∃ c, L[k]? = some c ∧ c.snd = true := by
  unfold sI
  rw [List.mem_filter, List.mem_range]
  constructor
  · rintro ⟨h1, h2⟩
    refine ⟨_, List.getElem?_eq_getElem h1, ?_⟩
    rw [← sndAt_some (List.getElem?_eq_getElem h1)]; exact h2
  · rintro ⟨c, hc, hs⟩
    exact ⟨(List.getElem?_eq_some_iff.1 hc).1, by rw [sndAt_some hc]; exact hs⟩
theorem sI_nodup (L : List Cb) (n : Nat) : (sI L n).Nodup := List.Nodup.sublist List.filter_sublist List.nodup_range
theorem sI_sorted (L : List Cb) (n : Nat) : (sI L n).Pairwise (· < ·) := List.Pairwise.sublist List.filter_sublist List.pairwise_lt_range
/-- What was ahead of place i, if it is to be ahead by the order. -/
theorem ahead_of {L : List Cb} {ks : List Nat} (hs : ks.Pairwise (wle L)) {i n m : Nat} (hn : ks[i]? = some n) (hm : m ∈ ks) (hne : m ≠ n) (hle : wle L m n) : m ∈ ks.take i := by
  obtain ⟨j, hj⟩ := List.mem_iff_getElem?.1 hm
  obtain ⟨hj1, hj2⟩ := List.getElem?_eq_some_iff.1 hj
  obtain ⟨hi1, hi2⟩ := List.getElem?_eq_some_iff.1 hn
  rcases Nat.lt_trichotomy j i with h | h | h
  · refine List.mem_iff_getElem?.2 ⟨j, ?_⟩
    rw [List.getElem?_take_of_lt h]; exact hj
  · subst h; exact absurd (hj2.symm.trans hi2) hne
  · have := (List.pairwise_iff_getElem.1 hs) i j hi1 hj1 h
    rw [hi2, hj2] at this
    unfold wle at this hle
    exact absurd (show m = n by omega) hne
theorem behind_of {L : List Cb} {ks : List Nat} (hnd : ks.Nodup) (hs : ks.Pairwise (wle L)) {i n m : Nat} (hn : ks[i]? = some n) (hm : m ∈ ks.take i) : m ≠ n ∧ wle L m n := by
  obtain ⟨j, hj⟩ := List.mem_iff_getElem?.1 hm
  have hji : j < i := by
    have := (List.getElem?_eq_some_iff.1 hj).1
    simp at this; omega
  rw [List.getElem?_take_of_lt hji] at hj
  obtain ⟨hj1, hj2⟩ := List.getElem?_eq_some_iff.1 hj
  obtain ⟨hi1, hi2⟩ := List.getElem?_eq_some_iff.1 hn
  refine ⟨fun e => ?_, ?_⟩
  · have := (List.pairwise_iff_getElem.1 hnd) j i hj1 hi1 hji
    rw [hj2, hi2] at this; exact this e
  · have := (List.pairwise_iff_getElem.1 hs) j i hj1 hi1 hji
    rw [hj2, hi2] at this; exact this
/-- The places that are kept so far. -/
def keptOf (L : List Cb) (ks : List Nat) (i : Nat) : List Nat := (ks.take i).filter fun m => !spare L m
theorem spare_kept {L : List Cb} {ks : List Nat} (hp : ks.Perm (sI L L.length)) (hs : ks.Pairwise (wle L)) {i n : Nat} (hn : ks[i]? = some n) : ((keptOf L ks i).any fun k => witAt L n k) = spare L n := by
  have hnd : ks.Nodup := hp.symm.nodup (sI_nodup L _)
  obtain ⟨a, ha, has⟩ := sI_mem.1 (hp.mem_iff.1 (List.mem_of_getElem? hn))
  rw [Bool.eq_iff_iff, List.any_eq_true]
  constructor
  · rintro ⟨k, hk, hw⟩
    unfold keptOf at hk
    obtain ⟨hk1, hk2⟩ := List.mem_filter.1 hk
    obtain ⟨b, hb, hwb⟩ := witAt_true ha hw
    obtain ⟨hne, hle⟩ := behind_of hnd hs hn hk1
    refine (spare_iff ha).2 ⟨k, b, hb, hne, hwb, ?_⟩
    by_cases e : a = b
    · right
      subst e
      unfold wle at hle
      rw [szAt_size ha, szAt_size hb] at hle
      omega
    · exact .inl e
  · intro hsp
    obtain ⟨k, b, hb, hkn, hwb, hor⟩ := (spare_iff ha).1 hsp
    have hbs := ((Cb.wit_iff a b).1 hwb).2.1
    obtain ⟨c, hc, hwc⟩ := kept_over (L := L) b.size k b (Nat.le_refl _) hb hbs
    obtain ⟨m, hm, hms⟩ := leanL_mem.1 hc
    have hac := wit_trans hwb hwc
    have hcs := ((Cb.wit_iff b c).1 hwc).2.1
    have hmn : m ≠ n := fun e => by subst e; rw [hsp] at hms; cases hms
    have hle : wle L m n := by
      unfold wle
      rw [szAt_size ha, szAt_size hm]
      have s1 := wit_size hwb
      have s2 := wit_size hwc
      by_cases hlt : c.size < a.size
      · left; omega
      · right
        have e1 := wit_same_size hwb (by omega)
        have e2 := wit_same_size hwc (by omega)
        subst e1 e2
        refine ⟨rfl, ?_⟩
        rcases Nat.lt_or_ge n m with h | h
        · exfalso
          have := (spare_iff hm).2 ⟨n, a, ha, fun e => hmn e.symm, wit_self has, .inr h⟩
          rw [this] at hms; cases hms
        · exact h
    refine ⟨m, List.mem_filter.2 ⟨ahead_of hs hn (hp.mem_iff.2 (sI_mem.2 ⟨c, hm, hcs⟩)) hmn hle, by rw [hms]; rfl⟩, ?_⟩
    rw [witAt_some ha hm]; exact hac
theorem keptOf_succ {L : List Cb} {ks : List Nat} {i n : Nat} (hn : ks[i]? = some n) : keptOf L ks (i + 1) = if spare L n = true then keptOf L ks i else keptOf L ks i ++ [n] := by
  obtain ⟨hi, rfl⟩ := List.getElem?_eq_some_iff.1 hn
  unfold keptOf
  rw [List.take_succ_eq_append_getElem hi, List.filter_append]
  cases h : spare L ks[i] <;> simp [h]
/-- The places of the cubes that remain, in order. -/
def leanI (L : List Cb) : List Nat := (sI L L.length).filter fun m => !spare L m
/-- A list without cubes that are not sound, and without those that lie within others. -/
def leanS (L : List Cb) : List Cb := (leanI L).filterMap fun i => L[i]?
theorem leanI_lt {L : List Cb} {i : Nat} (h : i ∈ leanI L) : i < L.length := sI_lt L i (List.mem_filter.1 h).1
theorem leanS_len (L : List Cb) : (leanS L).length = (leanI L).length := by
  unfold leanS
  have : ∀ I : List Nat, (∀ i ∈ I, i < L.length) → (I.filterMap fun i => L[i]?).length = I.length := by
    intro I
    induction I with
    | nil => intro _; rfl
    | cons i I ih =>
      intro h
      rw [List.filterMap_cons_some (List.getElem?_eq_getElem (h i (by simp)))]
      simp [ih (fun j hj => h j (by simp [hj]))]
  exact this _ (fun i hi => leanI_lt hi)
theorem keptOf_all {L : List Cb} {ks : List Nat} (hp : ks.Perm (sI L L.length)) : (keptOf L ks ks.length).Perm (leanI L) := by
  unfold keptOf leanI
  rw [List.take_length]
  exact hp.filter _
theorem keptOf_le {L : List Cb} {ks : List Nat} (hp : ks.Perm (sI L L.length)) (i : Nat) : (keptOf L ks i).length ≤ (leanS L).length := by
  rw [leanS_len, ← (keptOf_all hp).length_eq]
  unfold keptOf
  rw [List.take_length]
  exact ((List.take_sublist i ks).filter _).length_le
theorem keptOf_lt {L : List Cb} {ks : List Nat} {k : Nat} (hp : ks.Perm (sI L L.length)) (i : Nat) (h : k ∈ keptOf L ks i) : k < L.length := by
  unfold keptOf at h
  exact sI_lt L k (hp.mem_iff.1 (List.mem_of_mem_take (List.mem_filter.1 h).1))
theorem kept_sorted {L : List Cb} {ks : List Nat} (hp : ks.Perm (sI L L.length)) : (((keptOf L ks ks.length).map fun (k : Nat) => (k : Int)).mergeSort fun x y => decide (x ≤ y)) = (leanI L).map fun (k : Nat) => (k : Int) := by
  have tr : ∀ a b c : Int, (decide (a ≤ b)) = true → (decide (b ≤ c)) = true → (decide (a ≤ c)) = true := fun a b c h1 h2 => by simp at *; omega
  have tot : ∀ a b : Int, ((decide (a ≤ b)) || (decide (b ≤ a))) = true := fun a b => by simp; omega
  refine List.Perm.eq_of_pairwise (le := fun a b => decide (a ≤ b) = true) (fun a b _ _ h1 h2 => by simp at h1 h2; omega) (List.pairwise_mergeSort tr tot _) ?_ ((List.mergeSort_perm _ _).trans ((keptOf_all hp).map _))
  rw [List.pairwise_map]
  have : (leanI L).Pairwise (· < ·) := List.Pairwise.sublist List.filter_sublist (sI_sorted L _)
  exact this.imp fun {a b} h => by simp; omega
theorem leanS_mem {L : List Cb} {c : Cb} : c ∈ leanS L ↔ ∃ i, L[i]? = some c ∧ c.snd = true ∧ spare L i = false := by
  unfold leanS leanI
  rw [List.mem_filterMap]
  constructor
  · rintro ⟨i, hi, hc⟩
    obtain ⟨h1, h2⟩ := List.mem_filter.1 hi
    obtain ⟨d, hd, hs⟩ := sI_mem.1 h1
    rw [hc] at hd; injection hd with hd; subst hd
    exact ⟨i, hc, hs, by simpa using h2⟩
  · rintro ⟨i, hi, hs, hsp⟩
    exact ⟨i, List.mem_filter.2 ⟨sI_mem.2 ⟨c, hi, hs⟩, by rw [hsp]; rfl⟩, hi⟩
/-- The first k that remain. -/
theorem leanS_take (L : List Cb) (k i : Nat) (c : Cb) (hi : (leanI L)[k]? = some i) (hc : L[i]? = some c) : ((leanI L).take (k + 1)).filterMap (fun i => L[i]?) = ((leanI L).take k).filterMap (fun i => L[i]?) ++ [c] := by
  obtain ⟨hk, rfl⟩ := List.getElem?_eq_some_iff.1 hi
  rw [List.take_succ_eq_append_getElem hk, List.filterMap_append]
  congr 1
  simp [hc]
theorem take_len (L : List Cb) (k : Nat) (hk : k ≤ (leanI L).length) : (((leanI L).take k).filterMap (fun i => L[i]?)).length = k := by
  induction k with
  | zero => simp
  | succ k ih =>
    have hi := List.getElem?_eq_getElem (l := leanI L) (i := k) (by omega)
    rw [leanS_take L k _ _ hi (List.getElem?_eq_getElem (leanI_lt (List.mem_of_getElem? hi)))]
    simp [ih (by omega)]
end Go.Proofs.Hd

namespace Go.Proofs
open Go.RowKit Go.Proofs.Hd Go.Sort Go.Shelf Go.Lib
attribute [local go_sem] uv_nonneg
set_option maxHeartbeats 2000000 in
set_option maxRecDepth 100000 in
theorem idx_ints (g : Nat) (lb : Array Value) (q : Nat → Bool) (eg : ∀ args w, (callFunc g args).run Try.prog w = .ok (.enter g args) w) (v : Value) (ks : List Nat) (w : World) (r : Int) (hr : IdxIs q ks r) (hlen : ks.length ≤ 1000000)
    (hp : ∀ (W : World) (k : Nat), k ∈ ks → Below w.heap.size w W → Calls Try.prog g (#[.int .i64 (k : Int)] ++ lb) W fun e w' => e = .returned (.bool (q k)) ∧ Below w.heap.size w w') (hv : PlI w v ks) :
    Calls Try.prog 86 #[v, .func (.func g) #[] lb] w fun e w' => e = .returned (.int .i64 r) ∧ Below w.heap.size w w' := by
  rcases hv with ⟨rfl, A, cap, rfl⟩ | ⟨b, cap, rfl, hb, hc⟩
  · obtain rfl : r = -1 := hr.miss (fun j d h => by simp at h)
    clear hp hr
    go_enter Try.func86, Try.ntmps86
    go_wp2
    refine wp_loop_rounds 1 ?_
    rw [rounds_succ]
    go_wp2
    go_ret
    exact ⟨rfl, Below.refl _ _⟩
  · have HR := Lib.hid hr
    have HC := Lib.hid hc
    have HP := Lib.hid hp
    have hl : (ks.length : Int) ≤ 1000000 := by omega
    clear hr hc hp
    go_enter Try.func86, Try.ntmps86
    go_wp2
    go_loopg [5, 8] ks.length (fun gg _ s8 wr => ∃ kk : Nat, kk ≤ ks.length ∧ ks.length - kk ≤ gg ∧ s8 = .int .i64 kk ∧ Hid (Below w.heap.size w wr) ∧ Hid (∀ (j d : Nat), j < kk → ks[j]? = some d → q d = false))
    case atStart => exact ⟨0, Nat.zero_le _, by omega, rfl, Below.refl _ w, fun j d hj => absurd hj (Nat.not_lt_zero _)⟩
    case round =>
      obtain ⟨kk, hkk, hg, rfl, BW, A⟩ := hrel
      by_cases hlt : kk < ks.length
      · have hltz : (kk : Int) < (ks.length : Int) := by omega
        obtain ⟨c, hc⟩ : ∃ c, ks[kk]? = some c := ⟨_, List.getElem?_eq_getElem hlt⟩
        have c0 := (BW.out.cell (p := ⟨b, kk, none⟩) hb).trans (HC.out kk c hc)
        have hcall := HP.out wr c (List.mem_of_getElem? hc) BW.out
        have B := Lib.hid hc
        clear HP HC hc
        cases hq : q c with
        | true =>
          rw [hq] at hcall
          go_wp2_with (go_at_fn g; refine hcall.mono ?_; rintro e w' ⟨rfl, hb'⟩)
          go_ret
          exact ⟨by rw [HR.out.hit B.out hq A.out]; rfl, hb'⟩
        | false =>
          rw [hq] at hcall
          go_wp2_with (go_at_fn g; refine hcall.mono ?_; rintro e w' ⟨rfl, hb'⟩)
          go_roundg (ks.length - (kk + 1))
          case measure => omega
          case rel =>
            refine ⟨kk + 1, by omega, by omega, by go_num, hb', fun j d hj hd => ?_⟩
            by_cases e : j = kk
            · subst e
              have := B.out
              rw [hd] at this; injection this with this; subst this; exact hq
            · exact A.out j d (by omega) hd
      · have hltz : ¬ (kk : Int) < (ks.length : Int) := by omega
        have hk : kk = ks.length := by omega
        have := HR.out.miss (fun j d hd => A.out j d (by rw [hk]; exact (List.getElem?_eq_some_iff.1 hd).1) hd)
        subst this
        go_wp2
        go_ret
        exact ⟨rfl, BW.out⟩
theorem cont_ints (g : Nat) (lb : Array Value) (q : Nat → Bool) (eg : ∀ args w, (callFunc g args).run Try.prog w = .ok (.enter g args) w) (v : Value) (ks : List Nat) (w : World) (x : Bool) (hx : ks.any q = x) (hlen : ks.length ≤ 1000000)
    (hp : ∀ (W : World) (k : Nat), k ∈ ks → Below w.heap.size w W → Calls Try.prog g (#[.int .i64 (k : Int)] ++ lb) W fun e w' => e = .returned (.bool (q k)) ∧ Below w.heap.size w w') (hv : PlI w v ks) :
    Calls Try.prog 68 #[v, .func (.func g) #[] lb] w fun e w' => e = .returned (.bool x) ∧ Below w.heap.size w w' := by
  obtain ⟨r, hr⟩ := IdxIs.ex q ks
  have hcon := idx_ints g lb q eg v ks w r hr hlen hp hv
  have ha := hr.any
  rw [hx] at ha
  subst ha
  clear hr hx hp hv
  go_enter Try.func68, Try.ntmps68
  go_wp2_with (go_at_call 86; refine hcon.mono ?_; rintro e w' ⟨rfl, hb'⟩)
  go_ret
  exact ⟨rfl, hb'⟩
set_option maxHeartbeats 2000000 in
set_option maxRecDepth 100000 in
theorem cov1_c (x : Bool) (ci cj : Cb) (i j n b off cap pb nb : Nat) (w : World) (hx : ci.wit cj = x) (hi : i < n) (hj : j < n) (hn : n ≤ maxLen)
    (hp : w.cell? ⟨pb, 0, none⟩ = some (.slice (some ⟨b, off, none⟩) n cap)) (hq : w.cell? ⟨nb, 0, none⟩ = some (.int .i64 (i : Int))) (h1 : At4 w b (off + i * 4) ci) (h2 : At4 w b (off + j * 4) cj) :
    Calls Try.prog 66 #[.int .i64 j, .pointer (some ⟨pb, 0, none⟩), .pointer (some ⟨nb, 0, none⟩)] w fun e w' => e = .returned (.bool x) ∧ Below w.heap.size w w' := by
  have hiz : (i : Int) < (n : Int) := by omega
  have hjz : (j : Int) < (n : Int) := by omega
  have hnz : (n : Int) ≤ 9223372036854775807 := by unfold maxLen at hn; omega
  obtain ⟨a0, a1, a2, a3⟩ := h1
  obtain ⟨b0, b1, b2, b3⟩ := h2
  have HX := Lib.hid hx
  clear hx
  go_enter Try.func66, Try.ntmps66
  go_wp2_with fail
  go_region_held3 (fun w' => Below w.heap.size w w' ∧ w'.cell? ⟨pb, 0, none⟩ = some (.slice (some ⟨b, off, none⟩) n cap) ∧ w'.cell? ⟨nb, 0, none⟩ = some (.int .i64 (i : Int)) ∧ w'.cell? ⟨b, off + i * 4, none⟩ = some (.int .u64 (uv ci.vh)) ∧ w'.cell? ⟨b, off + i * 4 + 1, none⟩ = some (.int .u64 (uv ci.vl)) ∧ w'.cell? ⟨b, off + i * 4 + 2, none⟩ = some (.int .u64 (uv ci.ch)) ∧ w'.cell? ⟨b, off + i * 4 + 3, none⟩ = some (.int .u64 (uv ci.cl)) ∧ w'.cell? ⟨b, off + j * 4, none⟩ = some (.int .u64 (uv cj.vh)) ∧ w'.cell? ⟨b, off + j * 4 + 1, none⟩ = some (.int .u64 (uv cj.vl)) ∧ w'.cell? ⟨b, off + j * 4 + 2, none⟩ = some (.int .u64 (uv cj.ch)) ∧ w'.cell? ⟨b, off + j * 4 + 3, none⟩ = some (.int .u64 (uv cj.cl)))
    (first
      | exact hold10 (by assumption) (by assumption)
      | exact ⟨(Below.refl _ _).drew, hp, hq, a0, a1, a2, a3, b0, b1, b2, b3⟩)
    (first
      | (go_at_call 67; (with_reducible refine (cwithin _ ci cj _ HX.out).mono ?_); rintro e w' ⟨rfl, hb⟩))
  go_wp2
  go_ret
  exact ⟨rfl, And.left (by assumption)⟩
theorem sort_c (v : Value) (ks ks' : List Nat) (base : Nat) (w : World) (hown : w.ownsRow base 3 1 v ks.length (ints ks)) (hsz : ks.length ≤ 1000000) (hk : ((ks.map fun (k : Nat) => (k : Int)).mergeSort fun x y => decide (x ≤ y)) = ks'.map fun (k : Nat) => (k : Int)) :
    Calls Try.prog 69 #[v] w fun e w' => e = .returned (.tuple #[]) ∧ w.grownBy w' v.ownBlock ∧ PlI w' v ks' := by
  have hl : ks'.length = ks.length := by
    have := congrArg List.length hk
    simpa [List.length_mergeSort] using this.symm
  have none_case : ∀ A cap, v = .slice A 0 cap → ks = [] → Calls Try.prog 69 #[v] w fun e w' => e = .returned (.tuple #[]) ∧ w.grownBy w' v.ownBlock ∧ PlI w' v ks' := by
    rintro A cap rfl rfl
    have e : ks' = [] := List.eq_nil_of_length_eq_zero hl
    subst e
    have hcon := Any.slices_Sort_int_none Try.sortI A cap w
    change Calls Try.prog 69 _ _ _ at hcon
    refine hcon.mono ?_
    rintro e w' ⟨rfl, rfl⟩
    exact ⟨rfl, ⟨rfl, rfl, rfl, Nat.le_refl _, fun _ _ _ => rfl⟩, .inl ⟨rfl, _, _, rfl⟩⟩
  rcases hown.2 with ⟨rfl, h0⟩ | ⟨g, cp, cur, hv, hge, hheap, _⟩
  · exact none_case none 0 rfl (List.eq_nil_of_length_eq_zero h0)
  · by_cases h0 : ks = []
    · exact none_case (some ⟨g, 0, none⟩) cp (by rw [hv, h0]; rfl) h0
    · subst hv
      have hlt : g < w.heap.size := by
        rcases Nat.lt_or_ge g w.heap.size with h | h
        · exact h
        · rw [Array.getElem?_eq_none h] at hheap; cases hheap
      have hH : Holds (Value.int .i64) w g 0 (ks.map fun (k : Nat) => (k : Int)).toArray := fun j hj => by
        have hj' : j < ks.length := by simpa using hj
        constructor
        · rw [Nat.zero_add, hown.cellAt j (by omega)]
          unfold ints
          rw [List.getElem?_map, List.getElem?_eq_getElem hj', getElem!_pos _ j hj]
          simp
        · exact hown.frozenAt _
      have hcon := Any.slices_Sort_int Try.sortI g 0 cp (ks.map fun (k : Nat) => (k : Int)) w hH hlt (by simp; omega)
      change Calls Try.prog 69 _ _ _ at hcon
      rw [hk, List.length_map] at hcon
      refine hcon.mono ?_
      rintro e w' ⟨rfl, n, os, rfl⟩
      have hg := sortWorld_grown (Value.int .i64) w g 0 n (ks'.map fun (k : Nat) => (k : Int)).toArray os
      refine ⟨rfl, hg, .inr ⟨g, cp, by rw [hl], Nat.lt_of_lt_of_le hlt hg.size, fun j k hk => ?_⟩⟩
      have hjl : j < ks'.length := (List.getElem?_eq_some_iff.1 hk).1
      rw [cell?_grow _ _ _ (by rw [size_putRow]; exact hlt)]
      have := cell?_putRow (Value.int .i64) (Sort.ahead w n) g 0 (ks.map fun (k : Nat) => (k : Int)).toArray (ks'.map fun (k : Nat) => (k : Int)).toArray hH (by simp [hl]) j (by simpa using hjl)
      rw [Nat.zero_add] at this
      rw [this, getElem!_pos _ j (by simpa using hjl)]
      have e := (List.getElem?_eq_some_iff.1 hk).2
      simp [e]
end Go.Proofs

namespace Go.Proofs.Hd
open Go.RowKit
theorem flat_one (L : List Cb) : ∀ u ∈ flat L, u.oneCell' = true := by
  induction L with
  | nil => intro u hu; simp [flat] at hu
  | cons c L ih =>
    intro u hu
    have : u ∈ c.cells ++ flat L := by simpa [flat] using hu
    rcases List.mem_append.1 this with h | h
    · simp only [Cb.cells, List.mem_cons, List.not_mem_nil, or_false] at h
      rcases h with rfl | rfl | rfl | rfl <;> rfl
    · exact ih u h
theorem Pl.src {w : World} {v : Value} {L : List Cb} (h : Pl w v L) : Src w 4 v L.length (flat L) := by
  refine ⟨flat_len L, flat_one L, ?_⟩
  rcases h with ⟨rfl, A, cap, rfl⟩ | ⟨b, off, cap, rfl, hlen, hb, hc⟩
  · cases A with
    | none => exact .inl ⟨rfl, cap, rfl⟩
    | some ad => exact .inr ⟨ad, cap, rfl, fun j u hu => by simp [flat] at hu⟩
  · refine .inr ⟨_, cap, rfl, fun j u hu => ?_⟩
    have hj : j < L.length * 4 := by rw [← flat_len]; exact (List.getElem?_eq_some_iff.1 hu).1
    have hk : j / 4 < L.length := by omega
    have hg := flat_get L (j / 4) hk (j % 4) (Nat.mod_lt _ (by omega))
    rw [show j / 4 * 4 + j % 4 = j by omega, hu] at hg
    have h4 := hc (j / 4) _ (List.getElem?_eq_getElem hk)
    have e : (⟨b, off, none⟩ : Addr).add j = ⟨b, off + j / 4 * 4 + j % 4, none⟩ := by
      unfold Addr.add
      by_cases h0 : j = 0
      · subst h0; rfl
      · rw [if_neg h0]; simp; omega
    rw [e]
    obtain ⟨h0, h1, h2, h3⟩ := h4
    have hm : j % 4 = 0 ∨ j % 4 = 1 ∨ j % 4 = 2 ∨ j % 4 = 3 := by omega
    rcases hm with hm | hm | hm | hm <;> rw [hm] at hg ⊢
    · rw [Nat.add_zero, h0]; exact hg.symm
    · rw [h1]; exact hg.symm
    · rw [h2]; exact hg.symm
    · rw [h3]; exact hg.symm
theorem Pl.form {w : World} {v : Value} {L : List Cb} (h : Pl w v L) : ∃ A cap, v = .slice A L.length cap ∧ L.length ≤ maxLen ∧ (L ≠ [] → ∃ b off, A = some ⟨b, off, none⟩ ∧ b < w.heap.size ∧ ∀ (k : Nat) (c : Cb), L[k]? = some c → At4 w b (off + k * 4) c) := by
  rcases h with ⟨rfl, A, cap, rfl⟩ | ⟨b, off, cap, rfl, hlen, hb, hc⟩
  · exact ⟨A, cap, rfl, by simp [maxLen], fun h => absurd rfl h⟩
  · exact ⟨_, cap, rfl, hlen, fun _ => ⟨b, off, rfl, hb, hc⟩⟩
theorem own_Pl {w : World} {base : Nat} {v : Value} {L : List Cb} (h : w.ownsRow base 51 4 v L.length (flat L)) : Pl w v L := by
  rcases h.2 with ⟨rfl, h0⟩ | ⟨g, cap, cur, hv, hge, hheap, hlc, hcm, _⟩
  · exact .inl ⟨List.eq_nil_of_length_eq_zero h0, _, _, rfl⟩
  · subst hv
    refine .inr ⟨g, 0, cap, rfl, Nat.le_trans hlc hcm, (h.lt g rfl).2, fun k c hc => ?_⟩
    rw [Nat.zero_add]
    exact ⟨own_at h k hc 0 (by omega), own_at h k hc 1 (by omega), own_at h k hc 2 (by omega), own_at h k hc 3 (by omega)⟩
theorem ne_nil_of {α : Type} {L : List α} {k : Nat} {c : α} (h : L[k]? = some c) : L ≠ [] := fun e => by rw [e] at h; simp at h
end Go.Proofs.Hd

namespace Go.Proofs.Hd
open Go.RowKit
theorem own_PlI {w : World} {base : Nat} {v : Value} {ks : List Nat} (h : w.ownsRow base 3 1 v ks.length (ints ks)) : PlI w v ks := by
  rcases h.2 with ⟨rfl, h0⟩ | ⟨g, cap, cur, hv, hge, hheap, _⟩
  · exact .inl ⟨List.eq_nil_of_length_eq_zero h0, _, _, rfl⟩
  · subst hv
    refine .inr ⟨g, cap, rfl, (h.lt g rfl).2, fun j k hk => ?_⟩
    have hj := (List.getElem?_eq_some_iff.1 hk).1
    rw [h.cellAt j (by omega)]
    unfold ints
    rw [List.getElem?_map, hk]; rfl
theorem PlI.at {w : World} {v : Value} {ks : List Nat} (h : PlI w v ks) : ∃ A cap, v = .slice A ks.length cap ∧ (ks ≠ [] → ∃ g, A = some ⟨g, 0, none⟩ ∧ g < w.heap.size ∧ ∀ (j k : Nat), ks[j]? = some k → w.cell? ⟨g, j, none⟩ = some (.int .i64 (k : Int))) := by
  rcases h with ⟨rfl, A, cap, rfl⟩ | ⟨g, cap, rfl, hg, hc⟩
  · exact ⟨A, cap, rfl, fun h => absurd rfl h⟩
  · exact ⟨_, cap, rfl, fun _ => ⟨g, rfl, hg, hc⟩⟩
end Go.Proofs.Hd
namespace Go.Proofs
open Go.RowKit Go.Proofs.Hd Go.Sort Go.Shelf Go.Lib
attribute [local go_sem] uv_nonneg
set_option maxHeartbeats 4000000 in
set_option maxRecDepth 100000 in
theorem leanUp_c (limit : Nat) (v : Value) (L : List Cb) (w : World) (hl : L.length ≤ 1000000) (hm : limit ≤ 1000000) (hv : Pl w v L) :
    Calls Try.prog 57 #[.int .i64 (limit : Int), v] w fun e w' => Below w.heap.size w w' ∧ (((leanS L).length ≤ limit ∧ ∃ s, e = .returned (.tuple #[s, .int .i64 0]) ∧ w'.ownsRow w.heap.size 51 4 s (leanS L).length (flat (leanS L))) ∨ (limit < (leanS L).length ∧ e = .returned (.tuple #[.slice none 0 0, .int .i64 10]))) := by
  obtain ⟨A, cap, rfl, hlen, hA⟩ := hv.form
  have HV := Lib.hid hv
  clear hv
  have hb0 := below1 w (.cells #[.slice A L.length cap] 44)
  have X0 := Blk.new w 44 #[.slice A L.length cap]
  have hcon := widest_c _ L _ hl (HV.out.on hb0)
  clear HV
  go_enter Try.func57, Try.ntmps57
  go_wp2_with fail
  refine hcon.mono ?_
  rintro e wA ⟨s, ks, rfl, hbA, hp, hs, PI⟩
  have BA : Below w.heap.size w wA := hb0.trans (hbA.mono hb0.size)
  have XA := X0.on hbA
  have HP := Lib.hid hp
  have HS := Lib.hid hs
  have hkl : ks.length ≤ L.length := by rw [hp.length_eq]; exact sI_len L _
  obtain ⟨SA, scap, rfl, hSA⟩ := PI.at
  have HC : Hid (∀ (k : Nat) (c : Cb), L[k]? = some c → ∃ b off, A = some ⟨b, off, none⟩ ∧ b < wA.heap.size ∧ ∀ (k : Nat) (c : Cb), L[k]? = some c → At4 wA b (off + k * 4) c) := fun k c hc => by
    obtain ⟨b, off, e, hb, h⟩ := hA (ne_nil_of hc)
    exact ⟨b, off, e, Nat.lt_of_lt_of_le hb BA.size, fun k c hc => (h k c hc).on BA⟩
  have HSA := Lib.hid hSA
  have zA : w.heap.size < wA.heap.size := XA.lt
  have HX := Lib.hid XA
  have HBA := Lib.hid BA
  clear hb0 X0 hcon hbA hp hs PI hA hSA XA BA
  have hkz : (ks.length : Int) ≤ 1000000 := by omega
  have hlz : (L.length : Int) ≤ 1000000 := by omega
  have hmz : (limit : Int) ≤ 1000000 := by omega
  go_wp2_with fail
  go_loopg [6, 16] ks.length (fun gk s6 s16 wr => ∃ i : Nat, i ≤ ks.length ∧ gk = ks.length - i ∧ s16 = .int .i64 i ∧ Below wA.heap.size wA wr ∧ wr.ownsRow wA.heap.size 3 1 s6 (keptOf L ks i).length (ints (keptOf L ks i)) ∧ (keptOf L ks i).length ≤ limit)
  case atStart => exact ⟨0, Nat.zero_le _, rfl, rfl, Below.refl _ _, by simp [keptOf, ints]; exact World.ownsRow_nil _ _ _ _, by simp [keptOf]⟩
  case round =>
    obtain ⟨i, hi, rfl, rfl, B, O, hk⟩ := hrel
    have hkl2 : (keptOf L ks i).length ≤ i := by unfold keptOf; exact Nat.le_trans (List.length_filter_le _ _) (by simp; omega)
    by_cases hlt : i < ks.length
    · have hltz : (i : Int) < (ks.length : Int) := by omega
      obtain ⟨n, hn⟩ : ∃ n, ks[i]? = some n := ⟨_, List.getElem?_eq_getElem hlt⟩
      obtain ⟨a, ha, has⟩ := sI_mem.1 (HP.out.mem_iff.1 (List.mem_of_getElem? hn))
      obtain ⟨g, rfl, hg, hsc⟩ := HSA.out (ne_nil_of hn)
      obtain ⟨b, off, rfl, hb, hpc⟩ := HC.out n a ha
      have hnl : n < L.length := (List.getElem?_eq_some_iff.1 ha).1
      have c0 := on_some B (hsc i n hn)
      have hb1 := below1 wr (.cells #[.int .i64 (n : Int)] 3)
      have N1 := Blk.new wr 3 #[.int .i64 (n : Int)]
      have B1 := B.trans (hb1.mono B.size)
      have O1 := own_on O hb1
      have eg : ∀ args w, (callFunc 66 args).run Try.prog w = .ok (.enter 66 args) w := enters_of Try.func66 (by kernel_rfl) rfl
      have hcon := cont_ints 66 #[.pointer (some ⟨w.heap.size, 0, none⟩), .pointer (some ⟨wr.heap.size, 0, none⟩)] (fun k => witAt L n k) eg _ (keptOf L ks i) (wr.alloc (.cells #[.int .i64 (n : Int)] 3)) (spare L n) (spare_kept HP.out HS.out hn) (by omega)
        (fun W k hkm hW => by
          obtain ⟨d, hd⟩ : ∃ d, L[k]? = some d := ⟨_, List.getElem?_eq_getElem (keptOf_lt HP.out i hkm)⟩
          have hBW : Below wA.heap.size wA W := B1.trans (hW.mono B1.size)
          exact (cov1_c (witAt L n k) a d n k L.length b off cap w.heap.size wr.heap.size W (witAt_some ha hd).symm hnl (keptOf_lt HP.out i hkm) hlen (on_some hBW (HX.out.cell 0)) (on_some hW (N1.cell 0)) ((hpc n a ha).on hBW) ((hpc k d hd).on hBW)).mono fun e w' h => ⟨h.1, hW.trans (h.2.mono hW.size)⟩)
        (own_PlI O1)
      have HK := Lib.hid (keptOf_succ (L := L) hn)
      have n0 : wr.cell? ⟨g, i, none⟩ = some (.int .i64 (n : Int)) := c0
      clear hsc hpc hb1 B O c0
      cases hsp : spare L n with
      | true =>
        rw [hsp] at hcon
        have HE : Hid (keptOf L ks (i + 1) = keptOf L ks i) := Lib.hid (by rw [HK.out, hsp]; rfl)
        clear HK
        go_wp2_with (go_at_call 68; refine hcon.mono ?_; rintro e w2 ⟨rfl, hb2⟩)
        have B2 := B1.trans (hb2.mono B1.size)
        have O2 := own_on O1 hb2
        go_roundg (ks.length - (i + 1))
        case measure => omega
        case rel =>
          exact ⟨i + 1, by omega, rfl, by go_num, B2, by rw [HE.out]; exact O2, by rw [HE.out]; exact hk⟩
      | false =>
        rw [hsp] at hcon
        have HE : Hid (keptOf L ks (i + 1) = keptOf L ks i ++ [n]) := Lib.hid (by rw [HK.out, hsp]; rfl)
        clear HK
        by_cases he : (keptOf L ks i).length = limit
        · have hez : ((keptOf L ks i).length : Int) = (limit : Int) := by omega
          have HT : Hid (limit < (leanS L).length) := by
            have h1 := keptOf_le (L := L) HP.out (i + 1)
            rw [HE.out] at h1
            simp at h1
            exact (show limit < (leanS L).length by omega)
          obtain ⟨ka, kc, hu, _⟩ := own_form O1
          subst hu
          clear he
          go_wp2_with fail
          refine hcon.mono ?_
          rintro e w2 ⟨rfl, hb2⟩
          go_wp2
          go_ret2
          exact ⟨HBA.out.trans ((B1.trans (hb2.mono B1.size)).mono HBA.out.size), .inr ⟨HT.out, rfl⟩⟩
        · have hez : ¬ ((keptOf L ks i).length : Int) = (limit : Int) := by omega
          obtain ⟨ka, kc, hu, _⟩ := own_form O1
          subst hu
          go_wp2_with fail
          refine hcon.mono ?_
          rintro e w2 ⟨rfl, hb2⟩
          have B2 := B1.trans (hb2.mono B1.size)
          have O2 := own_on O1 hb2
          have N2 := N1.on hb2
          have m0 := N2.cell 0
          have hb3 := below1 w2 (.cells #[.int .i64 (n : Int)] 3)
          have N3 := Blk.new w2 3 #[.int .i64 (n : Int)]
          have B3 := B2.trans (hb3.mono B2.size)
          have O3 := own_on O2 hb3
          have hz3 := B3.size
          obtain ⟨i0, hi0, hz0, hz1, hz2⟩ := info_parts infoInt
          clear O1 O2 B1 B2 hb3 N1 N2 hcon
          go_wp2_with (at_builtin; refine wpList_append_lies _ rfl (.tmp 28) (.tmp 30) 36 rfl wA.heap.size 3 i0 _ 1 8 Try.underlying36 hi0 hz0 hz1 hz2 rfl (by decide) _ (keptOf L ks i).length (ints (keptOf L ks i)) rfl O3 ⟨w2.heap.size, 0, none⟩ 1 1 [.int .i64 (n : Int)] rfl rfl (World.news_of_block N3) (by intro u hu; simp only [List.mem_singleton] at hu; subst hu; rfl) (by omega) (by unfold maxLen; omega) (by omega) hz3 _ rfl ?_)
          intro g2 cap2 w4 hown hgrow hat hgl
          have B4 : Below wA.heap.size wA w4 := B3.grown hgrow hz3 (fun j hj => (O3.lt j hj).1)
          clear O3 B3 N3 hi0 hz0 hz1 hz2 hgrow hat
          go_wp2
          go_roundg (ks.length - (i + 1))
          case measure => omega
          case rel =>
            exact ⟨i + 1, by omega, rfl, by go_num, B4, by rw [HE.out, ints_snoc]; simpa using hown, by rw [HE.out]; simp; omega⟩
    · have hltz : ¬ (i : Int) < (ks.length : Int) := by omega
      obtain rfl : i = ks.length := by omega
      have hlim : Hid ((leanS L).length ≤ limit) := Lib.hid (by rw [leanS_len, ← (keptOf_all HP.out).length_eq]; exact hk)
      have hLI : (leanI L).length ≤ 1000000 := by rw [← (keptOf_all HP.out).length_eq]; omega
      have hcon := sort_c _ (keptOf L ks ks.length) (leanI L) wA.heap.size wr O (by omega) (kept_sorted HP.out)
      have HG : Hid (∀ w', wr.grownBy w' u6.ownBlock → Below wA.heap.size wA w') := fun w' hg => B.grown hg B.size (fun j hj => (O.lt j hj).1)
      obtain ⟨ka, kc, hu, _⟩ := own_form O
      subst hu
      clear hk hkl2 O B HS
      go_wp2_with fail
      refine hcon.mono ?_
      rintro e wB ⟨rfl, hg, PB⟩
      have BB := HG.out wB hg
      have hLe : (keptOf L ks ks.length).length = (leanI L).length := (keptOf_all HP.out).length_eq
      have HL1 := Lib.hid hLe
      have BL := BB.cell (p := ⟨w.heap.size, 0, none⟩) zA
      obtain ⟨KA, kcap, hke, hKA⟩ := PB.at
      have e1 : ka = KA ∧ kc = kcap := by injection hke with e1 e2 e3; exact ⟨e1, e3⟩
      obtain ⟨rfl, rfl⟩ := e1
      have HKA := Lib.hid hKA
      have HBB := Lib.hid BB
      obtain ⟨ic, hic, hcz0, hcz1, hcz2⟩ := info_parts infoCube
      obtain ⟨wM, hmk, OM, GM⟩ := run_make_own (P := Try.prog) wB wB.heap.size 44 51 ic _ 4 Try.underlying44 hic hcz0 hcz1 .i64 .i64 (leanI L).length (by rw [hcz2]; omega) (by unfold maxLen; omega) (Nat.le_refl _)
      have HM : Hid (Below wB.heap.size wB wM) := (Below.refl _ _).grown GM (Nat.le_refl _) (fun j hj => by cases hj)
      rw [hLe]
      clear hg PB BB hke hKA GM hLe BL hcon HG
      have hLz : ((leanI L).length : Int) ≤ 1000000 := by omega
      go_wp2_with fail
      go_loopg [10, 40] (leanI L).length (fun gk s10 s40 wq => ∃ k : Nat, k ≤ (leanI L).length ∧ gk = (leanI L).length - k ∧ s40 = .int .i64 k ∧ Below wB.heap.size wB wq ∧ wq.ownsRow wB.heap.size 51 4 s10 k (flat (((leanI L).take k).filterMap fun i => L[i]?)))
      case atStart => exact ⟨0, Nat.zero_le _, rfl, rfl, HM.out, by simpa [flat] using OM⟩
      case round =>
        clear hmk OM HM
        obtain ⟨k, hk, rfl, rfl, B, O⟩ := hrel
        by_cases hlt : k < (leanI L).length
        · have hltz : (k : Int) < ((leanI L).length : Int) := by omega
          obtain ⟨i, hi⟩ : ∃ i, (leanI L)[k]? = some i := ⟨_, List.getElem?_eq_getElem hlt⟩
          have hil : i < L.length := leanI_lt (List.mem_of_getElem? hi)
          have hilz : (i : Int) < (L.length : Int) := by omega
          obtain ⟨c, hc⟩ : ∃ c, L[i]? = some c := ⟨_, List.getElem?_eq_getElem hil⟩
          obtain ⟨g, rfl, hg, hsc⟩ := HKA.out (ne_nil_of hi)
          obtain ⟨b, off, rfl, hb, hpc⟩ := HC.out i c hc
          have n0 := on_some B (hsc k i hi)
          have x0 := on_some B (on_some HBB.out (HX.out.cell 0))
          obtain ⟨c0, c1, c2, c3⟩ := ((hpc i c hc).on HBB.out).on B
          have HT := Lib.hid (leanS_take L k i c hi hc)
          have hb1 := below1 wr (.cells #[.int .u64 (uv c.vh), .int .u64 (uv c.vl), .int .u64 (uv c.ch), .int .u64 (uv c.cl)] 51)
          have N1 : Blk (wr.alloc (.cells #[.int .u64 (uv c.vh), .int .u64 (uv c.vl), .int .u64 (uv c.ch), .int .u64 (uv c.cl)] 51)) wr.heap.size 51 c.arr := Blk.new wr _ _
          have B1 := B.trans (hb1.mono B.size)
          have O1 := own_on O hb1
          have hz1' := B1.size
          clear hsc hpc B O hb1 hi hc
          go_wp2_with (at_builtin; refine wpList_append_lies _ rfl (.tmp 44) (.tmp 49) 44 rfl wB.heap.size 51 ic _ 4 32 Try.underlying44 hic hcz0 hcz1 hcz2 rfl (by decide) _ k (flat (((leanI L).take k).filterMap fun i => L[i]?)) rfl O1 ⟨wr.heap.size, 0, none⟩ 1 1 c.cells rfl rfl (World.news_of_block N1) (by intro u hu; simp only [Cb.cells, List.mem_cons, List.not_mem_nil, or_false] at hu; rcases hu with rfl | rfl | rfl | rfl <;> rfl) (by omega) (by unfold maxLen; omega) (by omega) hz1' _ rfl ?_)
          intro g2 cap2 w4 hown hgrow hat hgl
          have B4 : Below wB.heap.size wB w4 := B1.grown hgrow hz1' (fun j hj => (O1.lt j hj).1)
          clear O1 B1 N1 hgrow hat
          go_wp2
          go_roundg ((leanI L).length - (k + 1))
          case measure => omega
          case rel => exact ⟨k + 1, by omega, rfl, by go_num, B4, by rw [HT.out, flat_snoc]; exact hown⟩
        · have hltz : ¬ (k : Int) < ((leanI L).length : Int) := by omega
          obtain rfl : k = (leanI L).length := by omega
          go_wp2
          go_ret2
          have hsz := HBA.out.size
          have hsz2 := HBB.out.size
          refine ⟨HBA.out.trans ((HBB.out.trans (B.mono hsz2)).mono hsz), .inl ⟨hlim.out, _, rfl, ?_⟩⟩
          rw [List.take_length] at O
          rw [leanS_len]
          exact O.mono (by omega)
end Go.Proofs

namespace Go.Proofs.Hd
open Go.RowKit
theorem leanS_le (L : List Cb) : (leanS L).length ≤ L.length := by
  rw [leanS_len]
  exact Nat.le_trans (List.length_filter_le _ _) (sI_len L _)
end Go.Proofs.Hd
namespace Go.Proofs
open Go.RowKit Go.Proofs.Hd Go.Sort Go.Shelf Go.Lib
attribute [local go_sem] uv_nonneg
end Go.Proofs

namespace Go.Proofs
open Go.RowKit Go.Proofs.Hd Go.Lib
attribute [local go_sem] uv_nonneg
theorem nilCubes : ∀ (w : World) (a : Option Addr) (n c n' c' : Nat), (binOp .eql 44 (.slice a n c) (.slice none n' c')).run Try.prog w = .ok (.bool a.isNone) w := fun w a n c n' c' => Lib.run_eql_slice_nil w _ _ a n c n' c' Try.underlying44
set_option maxRecDepth 100000 in
theorem clone_c (v : Value) (L : List Cb) (w : World) (hl : L.length ≤ 1000000) (hv : Pl w v L) : Calls Try.prog 56 #[v] w (Got w L) := by
  have hs := hv.src
  have B0 := below1 w (.cells #[] 51)
  have hs1 := (hv.on B0).src
  have q := nilCubes
  clear hv
  obtain ⟨ic, hic, hcz0, hcz1, hcz2⟩ := info_parts infoCube
  obtain ⟨_, _, ⟨h0, c, rfl⟩ | ⟨ad, c, rfl, _⟩⟩ := hs
  · obtain rfl : L = [] := List.eq_nil_of_length_eq_zero h0
    go_enter Try.func56, Try.ntmps56
    go_wp2
    go_ret
    exact ⟨_, rfl, World.ownsRow_nil _ _ _ _, Below.refl _ _⟩
  · have O := World.ownsRow_made (base := w.heap.size) (e := 51) (size := 4) w #[] 0 (Nat.le_refl _) (Nat.zero_le _) rfl
    go_enter Try.func56, Try.ntmps56
    go_wp2_with (at_builtin; refine wpList_app _ rfl (.tmp 5) (.tmp 6) 44 rfl w.heap.size 51 ic _ 4 32 Try.underlying44 hic hcz0 hcz1 hcz2 rfl (by decide) _ 0 [] rfl O _ L.length (flat L) rfl hs1 (by unfold maxLen; omega) (by omega) (by simp) ?_)
    intro v2 w2 hown hg
    have B2 := B0.grown hg (by simp) (fun j hj => by simp [Value.ownBlock] at hj; omega)
    clear hs1 O B0 hg
    go_wp2
    go_ret
    exact ⟨_, rfl, by simpa using hown, B2⟩
end Go.Proofs

namespace Go.Proofs
open Go.RowKit Go.Proofs.Hd
attribute [local go_sem] uv_nonneg
theorem has_match (c : Cb) (h l : BitVec 64) (hs : c.snd = true) : c.has h l = true ↔ ∀ j, j < 128 → c.K j = true → hbit h l j = c.V j := by
  rw [Cb.has_iff]
  rw [Cb.snd_iff] at hs
  constructor
  · intro H j hj hk
    have := H j hj
    rw [hk, Bool.and_true] at this
    exact this
  · intro H j hj
    cases hk : c.K j with
    | true => rw [H j hj hk, Bool.and_true]
    | false =>
      cases hv : c.V j with
      | false => simp
      | true => rw [hs j hj hv] at hk; cases hk
/-- Sign k of a text. -/
theorem sign_x {c : Cb} {s : ByteArray} (hs : txt c = s) (k m : Nat) (hm : m + k = 127) (hk : k < s.size) (h : c.K m = false) : ((s[k]'hk).toNat : Int) = 120 := by
  subst hs; rw [txt_get, show 127 - k = m by omega]; unfold sgn; rw [h]; rfl
theorem sign_1 {c : Cb} {s : ByteArray} (hs : txt c = s) (k m : Nat) (hm : m + k = 127) (hk : k < s.size) (h : c.K m = true) (hv : c.V m = true) : ((s[k]'hk).toNat : Int) = 49 := by
  subst hs; rw [txt_get, show 127 - k = m by omega]; unfold sgn; rw [h, hv]; rfl
theorem sign_0 {c : Cb} {s : ByteArray} (hs : txt c = s) (k m : Nat) (hm : m + k = 127) (hk : k < s.size) (h : c.K m = true) (hv : c.V m = false) : ((s[k]'hk).toNat : Int) = 48 := by
  subst hs; rw [txt_get, show 127 - k = m by omega]; unfold sgn; rw [h, hv]; rfl
theorem has_fails {c : Cb} {h l : BitVec 64} {j : Nat} (hs : c.snd = true) (hj : j < 128) (hk : c.K j = true) (hne : ¬ hbit h l j = c.V j) : c.has h l = false := by
  cases e : c.has h l with
  | false => rfl
  | true => exact absurd ((has_match c h l hs).1 e j hj hk) hne
theorem step_ok {P : Nat → Prop} {k m : Nat} (hm : m + k = 127) (h : ∀ j, j < 128 → 128 ≤ j + k → P j) (hp : P m) : ∀ j, j < 128 → 128 ≤ j + (k + 1) → P j := fun j hj hk => by
  by_cases e : j = m
  · subst e; exact hp
  · exact h j hj (by omega)
theorem text_len {c : Cb} {s : ByteArray} (hs : txt c = s) : s.size = 128 := by subst hs; exact txt_size c

set_option maxRecDepth 100000 in
set_option maxHeartbeats 4000000 in
set_option maxRecDepth 100000 in
theorem rhas_s (s : ByteArray) (c : Cb) (hh hl : BitVec 64) (w : World) (hc : c.snd = true) (hs : txt c = s) :
    Calls Try.prog 23 #[.string s, .agg #[.int .u64 (uv hh), .int .u64 (uv hl)]] w fun e w' => e = .returned (.bool (c.has hh hl)) ∧ Below w.heap.size w w' := by
  have hz := zero25
  have l1 : s.size ≤ 128 := by rw [text_len hs]; omega
  have l2 : 128 ≤ s.size := by rw [text_len hs]; omega
  have HS := Lib.hid hs
  have HC := Lib.hid hc
  clear hs hc
  obtain ⟨x, hx⟩ : ∃ x, c.has hh hl = x := ⟨_, rfl⟩
  rw [hx]
  have HX := Lib.hid hx
  clear hx
  have b0 := below1 w (.cells #[.int .u64 (uv hh), .int .u64 (uv hl)] 25)
  go_enter Try.func23, Try.ntmps23
  go_wp2_with fail
  (with_reducible refine (bits_c _ _ _).mono ?_)
  rintro e w1 ⟨rfl, hb1⟩
  have B1 := b0.trans (hb1.mono b0.size)
  clear hb1 b0
  go_wp2_with (refine put_new rfl _ _ rfl (fun _ => false) (hbit hh hl) _ (by simp) rfl rfl ?_)
  go_loopg [6] 128 (fun g i wr => ∃ k : Nat, k ≤ 128 ∧ g = 128 - k ∧ i = .int .i64 k ∧ (∀ j, j < 128 → 128 ≤ j + k → c.K j = true → hbit hh hl j = c.V j) ∧ wr = w1.alloc (.cells (bl (hbit hh hl)).toArray 71))
  case atStart => exact ⟨0, by omega, rfl, rfl, fun j hj h => by omega, rfl⟩
  case round =>
    obtain ⟨k, hk, rfl, rfl, hok, rfl⟩ := hrel
    have HOK := Lib.hid hok
    clear hok
    by_cases hlt : k < 128
    · have hlt' : (k : Int) < 128 := by omega
      have hks : k < s.size := by omega
      have hks' : (k : Int) < (s.size : Int) := by omega
      obtain ⟨m, hm⟩ : ∃ m, m + k = 127 := ⟨127 - k, by omega⟩
      have hi : (127 : Int) - (k : Int) = (m : Int) := by omega
      have hm1 : m < 128 := by omega
      have hm2 : (m : Int) < 128 := by omega
      have hg := bl_get (hbit hh hl) m hm1
      have HM := Lib.hid hm
      clear hm
      cases hK : c.K m
      · have sg := sign_x HS.out k m HM.out hks hK
        have HK := Lib.hid hK
        clear hK hg
        go_wp2
        go_roundg (128 - (k + 1))
        case measure => omega
        case rel => exact ⟨k + 1, by omega, rfl, by go_num, step_ok HM.out HOK.out (fun h => by rw [HK.out] at h; cases h), rfl⟩
      · cases hV : c.V m <;> cases hB : hbit hh hl m
        · have sg := sign_0 HS.out k m HM.out hks hK hV
          rw [hB] at hg
          have HV := Lib.hid (hB.trans hV.symm)
          clear hK hV hB
          go_wp2
          go_roundg (128 - (k + 1))
          case measure => omega
          case rel => exact ⟨k + 1, by omega, rfl, by go_num, step_ok HM.out HOK.out (fun _ => HV.out), rfl⟩
        · have sg := sign_0 HS.out k m HM.out hks hK hV
          rw [hB] at hg
          have HF : c.has hh hl = false := has_fails HC.out hm1 hK (by rw [hB, hV]; simp)
          have e := HX.out
          rw [HF] at e
          subst e
          clear hK hV hB HF
          go_wp2
          go_ret
          exact ⟨rfl, B1.alloc B1.size _⟩
        · have sg := sign_1 HS.out k m HM.out hks hK hV
          rw [hB] at hg
          have HF : c.has hh hl = false := has_fails HC.out hm1 hK (by rw [hB, hV]; simp)
          have e := HX.out
          rw [HF] at e
          subst e
          clear hK hV hB HF
          go_wp2
          go_ret
          exact ⟨rfl, B1.alloc B1.size _⟩
        · have sg := sign_1 HS.out k m HM.out hks hK hV
          rw [hB] at hg
          have HV := Lib.hid (hB.trans hV.symm)
          clear hK hV hB
          go_wp2
          go_roundg (128 - (k + 1))
          case measure => omega
          case rel => exact ⟨k + 1, by omega, rfl, by go_num, step_ok HM.out HOK.out (fun _ => HV.out), rfl⟩
    · obtain rfl : k = 128 := by omega
      have HT : c.has hh hl = true := (has_match c hh hl HC.out).2 (fun j hj => HOK.out j hj (by omega))
      have e := HX.out
      rw [HT] at e
      subst e
      clear HT
      go_wp2
      go_ret
      exact ⟨rfl, B1.alloc B1.size _⟩
end Go.Proofs

namespace Go.Proofs
open Go.RowKit Go.Proofs.Hd
attribute [local go_sem] uv_nonneg eq4_self eq2_self
attribute [local go_sem high] run_eq2 run_eq4
theorem text_s (s : ByteArray) (c : Cb) (w : World) (hs : c.snd = true) (h : txt c = s) : Calls Try.prog 22 #[.agg #[.int .u64 (uv c.vh), .int .u64 (uv c.vl), .int .u64 (uv c.ch), .int .u64 (uv c.cl)]] w fun e w' => e = .returned (.tuple #[.string s, .bool true]) ∧ Below w.heap.size w w' := by
  subst h; exact text_yes c w hs
theorem rhas_is (x : Bool) (s : ByteArray) (c : Cb) (hh hl : BitVec 64) (w : World) (hc : c.snd = true) (hs : txt c = s) (hx : c.has hh hl = x) :
    Calls Try.prog 23 #[.string s, .agg #[.int .u64 (uv hh), .int .u64 (uv hl)]] w fun e w' => e = .returned (.bool x) ∧ Below w.heap.size w w' := by
  subst hx; exact rhas_s s c hh hl w hc hs
theorem has_none {c : Cb} (h l : BitVec 64) (hs : c.snd = false) : c.has h l = false := by
  cases e : c.has h l with
  | false => rfl
  | true =>
    have hh := (Cb.has_iff c h l).1 e
    have := (Cb.snd_iff c).2 (fun j hj hv => by have := hh j hj; rw [hv] at this; revert this; cases c.K j <;> simp)
    rw [hs] at this; cases this
end Go.Proofs

namespace Go.Proofs.Hd
open Go.RowKit
/-- Block b begins with the 128 bytes f, which may be written. -/
def ByRow (w : World) (b : Nat) (f : Nat → UInt8) : Prop := ∀ i, i < 128 → w.cell? ⟨b, i, none⟩ = some (.int .u8 (f i).toNat) ∧ w.frozen? ⟨b, i, none⟩ = false
theorem ByRow.start (w : World) (s : ByteArray) (cap : Nat) (t : TypeId) (hs : s.size = 128) (f : Nat → UInt8) (hf : ∀ i (h : i < s.size), s[i] = f i) :
    ByRow (w.drew.alloc (.cells (bytesRow s cap) t ((bytesRow s cap).size, (bytesRow s cap).size + 1))) w.heap.size f := by
  intro i hi
  have hh : (w.drew.alloc (.cells (bytesRow s cap) t ((bytesRow s cap).size, (bytesRow s cap).size + 1))).heap[w.heap.size]? = some (.cells (bytesRow s cap) t ((bytesRow s cap).size, (bytesRow s cap).size + 1)) := heap_alloc_new w.drew _
  have hn : 128 ≤ (bytesRow s cap).size := by
    unfold bytesRow
    rw [Array.size_append, Array.size_map]
    have : s.data.size = 128 := hs
    omega
  constructor
  · rw [cell_of_row _ _ _ _ _ _ hh]
    unfold bytesRow
    have hd : i < s.data.size := by have : s.data.size = 128 := hs; omega
    rw [Array.getElem?_append_left (by rw [Array.size_map]; exact hd), Array.getElem?_map, Array.getElem?_eq_getElem hd]
    have := hf i (by omega)
    rw [← this]; rfl
  · simp only [World.frozen?, hh]
    simp; omega
theorem ByRow.set {w : World} {b : Nat} {f : Nat → UInt8} (h : ByRow w b f) (k : Nat) (hk : k < 128) (g : Nat → UInt8) (v : Int) (hv : v = ((g k).toNat : Int)) (hg : ∀ i, i < 128 → i ≠ k → g i = f i) : ByRow (w.setCell ⟨b, k, none⟩ (.int .u8 v)) b g := by
  intro i hi
  subst hv
  refine ⟨?_, by rw [World.frozen?_setCell]; exact (h i hi).2⟩
  by_cases e : i = k
  · subst e; exact World.cell?_setCell_same _ _ _ (h i hi).1
  · rw [World.cell?_setCell_other (h := by intro c; injection c with _ c; exact e c.symm), (h i hi).1, hg i hi e]
theorem ByRow.congr {w : World} {b : Nat} {f g : Nat → UInt8} (h : ByRow w b f) (hg : ∀ i, i < 128 → g i = f i) : ByRow w b g := fun i hi => by rw [hg i hi]; exact h i hi
theorem ByRow.on {w w' : World} {b : Nat} {f : Nat → UInt8} (h : ByRow w b f) (hb : Below w.heap.size w w') : ByRow w' b f := fun i hi =>
  have hl := World.block_lt_of_cell? w ⟨b, i, none⟩ (h i hi).1
  ⟨(hb.cell hl).trans (h i hi).1, (hb.frozen hl).trans (h i hi).2⟩
theorem join_sign {a b : Cb} (ha : a.snd = true) (hb : b.snd = true) {j : Nat} (hj : j < 128) :
    (a.K j = false → sgn (a.join b) j = sgn b j) ∧ (a.K j = true → (b.K j = true → a.V j = b.V j) → sgn (a.join b) j = sgn a j) := by
  have jv : (a.join b).V j = (a.V j || b.V j) := by unfold Cb.V Cb.join; rw [hbit_or]
  have jk : (a.join b).K j = (a.K j || b.K j) := by unfold Cb.K Cb.join; rw [hbit_or]
  have h3 := (Cb.snd_iff a).1 ha j hj
  have h4 := (Cb.snd_iff b).1 hb j hj
  unfold sgn
  rw [jv, jk]
  revert h3 h4
  generalize a.K j = k1
  generalize b.K j = k2
  generalize a.V j = v1
  generalize b.V j = v2
  cases k1 <;> cases k2 <;> cases v1 <;> cases v2 <;> simp
/-- The first k signs are those of the intersection, the others those of the first. -/
def mixT (a b : Cb) (k : Nat) : Nat → UInt8 := fun i => if i < k then sgn (a.join b) (127 - i) else sgn a (127 - i)
theorem mixT_zero (a b : Cb) (i : Nat) : mixT a b 0 i = sgn a (127 - i) := by simp [mixT]
theorem mixT_far (a b : Cb) (k : Nat) : ∀ i, i < 128 → i ≠ k → mixT a b (k + 1) i = mixT a b k i := fun i _ h => by
  unfold mixT
  by_cases c : i < k
  · rw [if_pos c, if_pos (by omega)]
  · rw [if_neg c, if_neg (by omega)]
theorem mixT_at (a b : Cb) (k : Nat) : mixT a b (k + 1) k = sgn (a.join b) (127 - k) := by unfold mixT; rw [if_pos (by omega)]
theorem mixT_same (a b : Cb) (k m : Nat) (hm : m + k = 127) (h : sgn (a.join b) m = sgn a m) : ∀ i, i < 128 → mixT a b (k + 1) i = mixT a b k i := fun i hi => by
  by_cases e : i = k
  · subst e
    rw [mixT_at, show 127 - i = m by omega, h]
    unfold mixT; rw [if_neg (by omega), show 127 - i = m by omega]
  · exact mixT_far a b k i hi e
theorem mixT_all (a b : Cb) (i : Nat) (hi : i < 128) : mixT a b 128 i = sgn (a.join b) (127 - i) := by unfold mixT; rw [if_pos hi]
theorem txtL_get (c : Cb) (j : Nat) (hj : j < (txtL c).length) : (txtL c)[j] = sgn c (127 - j) := by simp [txtL]
theorem agr_fails {a b : Cb} {j : Nat} (hj : j < 128) (h1 : a.K j = true) (h2 : b.K j = true) (hne : ¬ a.V j = b.V j) : a.agr b = false := by
  cases e : a.agr b with
  | false => rfl
  | true => exact absurd ((Cb.agr_iff a b).1 e j hj h1 h2) hne
theorem wit_match {a b : Cb} (ha : a.snd = true) (hb : b.snd = true) : a.wit b = true ↔ ∀ j, j < 128 → b.K j = true → a.K j = true ∧ a.V j = b.V j := by
  rw [Cb.wit_iff]
  constructor
  · rintro ⟨_, _, h3, h4⟩ j hj hk; exact ⟨h3 j hj hk, h4 j hj (h3 j hj hk) hk⟩
  · intro H; exact ⟨ha, hb, fun j hj hk => (H j hj hk).1, fun j hj _ hk => (H j hj hk).2⟩
theorem wit_fails {a b : Cb} (ha : a.snd = true) (hb : b.snd = true) {j : Nat} (hj : j < 128) (h2 : b.K j = true) (hne : ¬ (a.K j = true ∧ a.V j = b.V j)) : a.wit b = false := by
  cases e : a.wit b with
  | false => rfl
  | true => exact absurd ((wit_match ha hb).1 e j hj h2) hne
end Go.Proofs.Hd

namespace Go.Proofs
open Go.RowKit Go.Proofs.Hd
attribute [local go_sem] uv_nonneg
theorem bel_drewN {B : Nat} {w w' : World} (n : Nat) (h : Below B w w') : Below B w (w'.drewN n) := ⟨h.os, h.tape, h.output, h.size, h.block⟩
theorem sgnat {c : Cb} {s : ByteArray} (hs : txt c = s) (k m : Nat) (hm : m + k = 127) (hk : k < s.size) : s[k]'hk = sgn c m := by
  subst hs; rw [txt_get, show 127 - k = m by omega]
theorem toBytes (u : World) (s : ByteArray) : (convert 9 74 (.string s)).run Try.prog u = .ok (.slice (some ⟨u.heap.size, 0, none⟩) s.size (grownCap u s.size 0 5))
      (u.drew.alloc (.cells (bytesRow s (grownCap u s.size 0 5)) 5 ((bytesRow s (grownCap u s.size 0 5)).size, (bytesRow s (grownCap u s.size 0 5)).size + 1))) :=
  run_bytes_of_string u 9 74 5 s Try.underlying9 Try.underlying74 Try.underlying5
theorem fromBytes (u : World) (c : Cb) (b n cap : Nat) (hn : n = 128) (h : ByRow u b (fun i => sgn c (127 - i))) : (convert 74 9 (.slice (some ⟨b, 0, none⟩) n cap)).run Try.prog u = .ok (.string (txt c)) u := by
  subst hn
  have k := run_convert_bytes_back (P := Try.prog) u 74 9 5 ⟨b, 0, none⟩ cap (txtL c) Try.underlying74 Try.underlying5 Try.underlying9 (fun j hj => by
    have ha : (⟨b, 0, none⟩ : Addr).add j = ⟨b, j, none⟩ := by unfold Addr.add; split <;> simp_all
    rw [ha, (h j (by rw [txtL_len] at hj; exact hj)).1, txtL_get])
  rw [txtL_len] at k
  exact k

set_option maxHeartbeats 4000000 in
set_option maxRecDepth 100000 in
theorem rwithin_s (s t : ByteArray) (a b : Cb) (w : World) (ha : a.snd = true) (hb : b.snd = true) (hs : txt a = s) (ht : txt b = t) :
    Calls Try.prog 62 #[.string s, .string t] w fun e w' => e = .returned (.bool (a.wit b)) ∧ Below w.heap.size w w' := by
  have l1 : s.size ≤ 128 := by rw [text_len hs]; omega
  have l2 : 128 ≤ s.size := by rw [text_len hs]; omega
  have l3 : t.size ≤ 128 := by rw [text_len ht]; omega
  have l4 : 128 ≤ t.size := by rw [text_len ht]; omega
  have HS := Lib.hid hs
  have HT := Lib.hid ht
  have HA := Lib.hid ha
  have HB := Lib.hid hb
  clear hs ht ha hb
  obtain ⟨x, hx⟩ : ∃ x, a.wit b = x := ⟨_, rfl⟩
  rw [hx]
  have HX := Lib.hid hx
  clear hx
  go_enter Try.func62, Try.ntmps62
  go_wp2_with fail
  go_loopg [5] 128 (fun g i wr => ∃ k : Nat, k ≤ 128 ∧ g = 128 - k ∧ i = .int .i64 k ∧ (∀ j, j < 128 → 128 ≤ j + k → b.K j = true → a.K j = true ∧ a.V j = b.V j) ∧ Below w.heap.size w wr)
  case atStart => exact ⟨0, by omega, rfl, rfl, fun j hj h => by omega, Below.refl _ _⟩
  case round =>
    obtain ⟨k, hk, rfl, rfl, hok, BW⟩ := hrel
    have HOK := Lib.hid hok
    clear hok
    by_cases hlt : k < 128
    · skip
      have hlt' : (k : Int) < 128 := by omega
      have hks : k < s.size := by omega
      have hks' : (k : Int) < (s.size : Int) := by omega
      have hkt : k < t.size := by omega
      have hkt' : (k : Int) < (t.size : Int) := by omega
      obtain ⟨m, hm⟩ : ∃ m, m + k = 127 := ⟨127 - k, by omega⟩
      have hm1 : m < 128 := by omega
      have HM := Lib.hid hm
      clear hm
      cases hKb : b.K m
      · have sgt := sign_x HT.out k m HM.out hkt hKb
        have HK := Lib.hid hKb
        clear hKb
        go_wp2
        go_quiet (fail)
        go_wp2
        go_roundg (128 - (k + 1))
        case measure => omega
        case rel => exact ⟨k + 1, by omega, rfl, by go_num, step_ok HM.out HOK.out (fun h => by rw [HK.out] at h; cases h), bel_drewN _ BW⟩
      · cases hVb : b.V m <;> cases hKa : a.K m <;> cases hVa : a.V m
        · have sgt := sign_0 HT.out k m HM.out hkt hKb hVb
          have sgs := sign_x HS.out k m HM.out hks hKa
          have e := HX.out
          rw [wit_fails HA.out HB.out hm1 hKb (fun h => by have h1 := h.1; rw [hKa] at h1; cases h1)] at e
          subst e
          clear hKb hVb hKa hVa
          go_wp2
          go_quiet (fail)
          go_wp2
          go_ret
          exact ⟨rfl, bel_drewN _ BW⟩
        · have sgt := sign_0 HT.out k m HM.out hkt hKb hVb
          have sgs := sign_x HS.out k m HM.out hks hKa
          have e := HX.out
          rw [wit_fails HA.out HB.out hm1 hKb (fun h => by have h1 := h.1; rw [hKa] at h1; cases h1)] at e
          subst e
          clear hKb hVb hKa hVa
          go_wp2
          go_quiet (fail)
          go_wp2
          go_ret
          exact ⟨rfl, bel_drewN _ BW⟩
        · have sgt := sign_0 HT.out k m HM.out hkt hKb hVb
          have sgs := sign_0 HS.out k m HM.out hks hKa hVa
          have HV := Lib.hid (And.intro hKa (hVa.trans hVb.symm))
          clear hKb hVb hKa hVa
          go_wp2
          go_quiet (fail)
          go_wp2
          go_roundg (128 - (k + 1))
          case measure => omega
          case rel => exact ⟨k + 1, by omega, rfl, by go_num, step_ok HM.out HOK.out (fun _ => HV.out), bel_drewN _ BW⟩
        · have sgt := sign_0 HT.out k m HM.out hkt hKb hVb
          have sgs := sign_1 HS.out k m HM.out hks hKa hVa
          have e := HX.out
          rw [wit_fails HA.out HB.out hm1 hKb (fun h => by have h1 := h.2; rw [hVa, hVb] at h1; cases h1)] at e
          subst e
          clear hKb hVb hKa hVa
          go_wp2
          go_quiet (fail)
          go_wp2
          go_ret
          exact ⟨rfl, bel_drewN _ BW⟩
        · have sgt := sign_1 HT.out k m HM.out hkt hKb hVb
          have sgs := sign_x HS.out k m HM.out hks hKa
          have e := HX.out
          rw [wit_fails HA.out HB.out hm1 hKb (fun h => by have h1 := h.1; rw [hKa] at h1; cases h1)] at e
          subst e
          clear hKb hVb hKa hVa
          go_wp2
          go_quiet (fail)
          go_wp2
          go_ret
          exact ⟨rfl, bel_drewN _ BW⟩
        · have sgt := sign_1 HT.out k m HM.out hkt hKb hVb
          have sgs := sign_x HS.out k m HM.out hks hKa
          have e := HX.out
          rw [wit_fails HA.out HB.out hm1 hKb (fun h => by have h1 := h.1; rw [hKa] at h1; cases h1)] at e
          subst e
          clear hKb hVb hKa hVa
          go_wp2
          go_quiet (fail)
          go_wp2
          go_ret
          exact ⟨rfl, bel_drewN _ BW⟩
        · have sgt := sign_1 HT.out k m HM.out hkt hKb hVb
          have sgs := sign_0 HS.out k m HM.out hks hKa hVa
          have e := HX.out
          rw [wit_fails HA.out HB.out hm1 hKb (fun h => by have h1 := h.2; rw [hVa, hVb] at h1; cases h1)] at e
          subst e
          clear hKb hVb hKa hVa
          go_wp2
          go_quiet (fail)
          go_wp2
          go_ret
          exact ⟨rfl, bel_drewN _ BW⟩
        · have sgt := sign_1 HT.out k m HM.out hkt hKb hVb
          have sgs := sign_1 HS.out k m HM.out hks hKa hVa
          have HV := Lib.hid (And.intro hKa (hVa.trans hVb.symm))
          clear hKb hVb hKa hVa
          go_wp2
          go_quiet (fail)
          go_wp2
          go_roundg (128 - (k + 1))
          case measure => omega
          case rel => exact ⟨k + 1, by omega, rfl, by go_num, step_ok HM.out HOK.out (fun _ => HV.out), bel_drewN _ BW⟩
    · obtain rfl : k = 128 := by omega
      have e := HX.out
      rw [(wit_match HA.out HB.out).2 (fun j hj => HOK.out j hj (by omega))] at e
      subst e
      go_wp2
      go_ret
      exact ⟨rfl, BW⟩

set_option maxHeartbeats 4000000 in
set_option maxRecDepth 100000 in
theorem rmeet_s (s t : ByteArray) (a b : Cb) (w : World) (ha : a.snd = true) (hb : b.snd = true) (hs : txt a = s) (ht : txt b = t) (x : Bool) (r : ByteArray) (hx : a.agr b = x) (HR : Hid (x = true → r = txt (a.join b))) (HN : Hid (x = false → r = ⟨#[]⟩)) :
    Calls Try.prog 61 #[.string s, .string t] w fun e w' => e = .returned (.tuple #[.string r, .bool x]) ∧ Below w.heap.size w w' := by
  have l1 : s.size ≤ 128 := by rw [text_len hs]; omega
  have l2 : 128 ≤ s.size := by rw [text_len hs]; omega
  have l3 : t.size ≤ 128 := by rw [text_len ht]; omega
  have l4 : 128 ≤ t.size := by rw [text_len ht]; omega
  have HS := Lib.hid hs
  have HT := Lib.hid ht
  have HA := Lib.hid ha
  have HB := Lib.hid hb
  have R0 := ByRow.start w s (grownCap w s.size 0 5) 5 (text_len hs) (mixT a b 0) (fun i h => by subst hs; rw [txt_get, mixT_zero])
  have HR0 := Lib.hid R0
  have hcv := toBytes w s
  clear hs ht ha hb R0
  have HX := Lib.hid hx
  clear hx
  go_enter Try.func61, Try.ntmps61
  go_wp2_with fail
  generalize grownCap w s.size 0 5 = cap at *
  clear hcv
  go_loopg [7] 128 (fun g i wr => ∃ k : Nat, k ≤ 128 ∧ g = 128 - k ∧ i = .int .i64 k ∧ (∀ j, j < 128 → 128 ≤ j + k → a.K j = true → b.K j = true → a.V j = b.V j) ∧ Below w.heap.size w wr ∧ ByRow wr w.heap.size (mixT a b k))
  case atStart => exact ⟨0, by omega, rfl, rfl, fun j hj h => by omega, ((Below.refl _ w).drew).alloc (Nat.le_refl _) _, HR0.out⟩
  case round =>
    clear HR0
    obtain ⟨k, hk, rfl, rfl, hok, BW, RW⟩ := hrel
    have HOK := Lib.hid hok
    clear hok
    by_cases hlt : k < 128
    · skip
      have hlt' : (k : Int) < 128 := by omega
      have hks : k < s.size := by omega
      have hks' : (k : Int) < (s.size : Int) := by omega
      have hkt : k < t.size := by omega
      have hkt' : (k : Int) < (t.size : Int) := by omega
      obtain ⟨m, hm⟩ : ∃ m, m + k = 127 := ⟨127 - k, by omega⟩
      have hm1 : m < 128 := by omega
      have HM := Lib.hid hm
      clear hm
      have f1 := (RW k hlt).1
      have f2 := (RW k hlt).2
      have J := Lib.hid (join_sign HA.out HB.out hm1)
      cases hKa : a.K m
      · have sgs := sign_x HS.out k m HM.out hks hKa
        have HSB := Lib.hid (sgnat HT.out k m HM.out hkt)
        have HKA := Lib.hid hKa
        clear hKa
        go_wp2
        go_roundg (128 - (k + 1))
        case measure => omega
        case rel => exact ⟨k + 1, by omega, rfl, by go_num, step_ok HM.out HOK.out (fun h => by rw [HKA.out] at h; cases h), BW.setCell (Nat.le_refl _) _, RW.set k hlt _ _ (by rw [mixT_at, show 127 - k = m by have := HM.out; omega, J.out.1 HKA.out, HSB.out]) (mixT_far a b k)⟩
      · cases hVa : a.V m <;> cases hKb : b.K m <;> cases hVb : b.V m
        · have sgs := sign_0 HS.out k m HM.out hks hKa hVa
          have sgt := sign_x HT.out k m HM.out hkt hKb
          have HOK2 := Lib.hid (step_ok (P := fun j => a.K j = true → b.K j = true → a.V j = b.V j) HM.out HOK.out (fun _ => fun h => by rw [hKb] at h; cases h))
          have HSM := Lib.hid (mixT_same a b k m HM.out (J.out.2 hKa (fun h => by rw [hKb] at h; cases h)))
          clear hKb hVb hKa hVa
          go_wp2
          go_quiet (fail)
          go_wp2
          go_roundg (128 - (k + 1))
          case measure => omega
          case rel => exact ⟨k + 1, by omega, rfl, by go_num, HOK2.out, bel_drewN _ BW, RW.congr HSM.out⟩
        · have sgs := sign_0 HS.out k m HM.out hks hKa hVa
          have sgt := sign_x HT.out k m HM.out hkt hKb
          have HOK2 := Lib.hid (step_ok (P := fun j => a.K j = true → b.K j = true → a.V j = b.V j) HM.out HOK.out (fun _ => fun h => by rw [hKb] at h; cases h))
          have HSM := Lib.hid (mixT_same a b k m HM.out (J.out.2 hKa (fun h => by rw [hKb] at h; cases h)))
          clear hKb hVb hKa hVa
          go_wp2
          go_quiet (fail)
          go_wp2
          go_roundg (128 - (k + 1))
          case measure => omega
          case rel => exact ⟨k + 1, by omega, rfl, by go_num, HOK2.out, bel_drewN _ BW, RW.congr HSM.out⟩
        · have sgs := sign_0 HS.out k m HM.out hks hKa hVa
          have sgt := sign_0 HT.out k m HM.out hkt hKb hVb
          have HOK2 := Lib.hid (step_ok (P := fun j => a.K j = true → b.K j = true → a.V j = b.V j) HM.out HOK.out (fun _ => fun _ => hVa.trans hVb.symm))
          have HSM := Lib.hid (mixT_same a b k m HM.out (J.out.2 hKa (fun _ => hVa.trans hVb.symm)))
          clear hKb hVb hKa hVa
          go_wp2
          go_quiet (fail)
          go_wp2
          go_roundg (128 - (k + 1))
          case measure => omega
          case rel => exact ⟨k + 1, by omega, rfl, by go_num, HOK2.out, bel_drewN _ BW, RW.congr HSM.out⟩
        · have sgs := sign_0 HS.out k m HM.out hks hKa hVa
          have sgt := sign_1 HT.out k m HM.out hkt hKb hVb
          have e := HX.out
          rw [agr_fails hm1 hKa hKb (fun h => by rw [hVa, hVb] at h; cases h)] at e
          subst e
          have er := HN.out rfl
          subst er
          clear HR HN hKb hVb hKa hVa
          go_wp2
          go_quiet (fail)
          go_wp2
          go_ret2
          exact ⟨rfl, bel_drewN _ BW⟩
        · have sgs := sign_1 HS.out k m HM.out hks hKa hVa
          have sgt := sign_x HT.out k m HM.out hkt hKb
          have HOK2 := Lib.hid (step_ok (P := fun j => a.K j = true → b.K j = true → a.V j = b.V j) HM.out HOK.out (fun _ => fun h => by rw [hKb] at h; cases h))
          have HSM := Lib.hid (mixT_same a b k m HM.out (J.out.2 hKa (fun h => by rw [hKb] at h; cases h)))
          clear hKb hVb hKa hVa
          go_wp2
          go_quiet (fail)
          go_wp2
          go_roundg (128 - (k + 1))
          case measure => omega
          case rel => exact ⟨k + 1, by omega, rfl, by go_num, HOK2.out, bel_drewN _ BW, RW.congr HSM.out⟩
        · have sgs := sign_1 HS.out k m HM.out hks hKa hVa
          have sgt := sign_x HT.out k m HM.out hkt hKb
          have HOK2 := Lib.hid (step_ok (P := fun j => a.K j = true → b.K j = true → a.V j = b.V j) HM.out HOK.out (fun _ => fun h => by rw [hKb] at h; cases h))
          have HSM := Lib.hid (mixT_same a b k m HM.out (J.out.2 hKa (fun h => by rw [hKb] at h; cases h)))
          clear hKb hVb hKa hVa
          go_wp2
          go_quiet (fail)
          go_wp2
          go_roundg (128 - (k + 1))
          case measure => omega
          case rel => exact ⟨k + 1, by omega, rfl, by go_num, HOK2.out, bel_drewN _ BW, RW.congr HSM.out⟩
        · have sgs := sign_1 HS.out k m HM.out hks hKa hVa
          have sgt := sign_0 HT.out k m HM.out hkt hKb hVb
          have e := HX.out
          rw [agr_fails hm1 hKa hKb (fun h => by rw [hVa, hVb] at h; cases h)] at e
          subst e
          have er := HN.out rfl
          subst er
          clear HR HN hKb hVb hKa hVa
          go_wp2
          go_quiet (fail)
          go_wp2
          go_ret2
          exact ⟨rfl, bel_drewN _ BW⟩
        · have sgs := sign_1 HS.out k m HM.out hks hKa hVa
          have sgt := sign_1 HT.out k m HM.out hkt hKb hVb
          have HOK2 := Lib.hid (step_ok (P := fun j => a.K j = true → b.K j = true → a.V j = b.V j) HM.out HOK.out (fun _ => fun _ => hVa.trans hVb.symm))
          have HSM := Lib.hid (mixT_same a b k m HM.out (J.out.2 hKa (fun _ => hVa.trans hVb.symm)))
          clear hKb hVb hKa hVa
          go_wp2
          go_quiet (fail)
          go_wp2
          go_roundg (128 - (k + 1))
          case measure => omega
          case rel => exact ⟨k + 1, by omega, rfl, by go_num, HOK2.out, bel_drewN _ BW, RW.congr HSM.out⟩
    · obtain rfl : k = 128 := by omega
      have e := HX.out
      rw [(Cb.agr_iff a b).2 (fun j hj => HOK.out j hj (by omega))] at e
      subst e
      have er := HR.out rfl
      have hcv := fromBytes wr (a.join b) w.heap.size s.size cap (by omega) (RW.congr (fun i hi => (mixT_all a b i hi).symm))
      rw [← er] at hcv
      clear er HR HN
      go_wp2
      go_ret2
      exact ⟨rfl, BW⟩
end Go.Proofs

namespace Go.Proofs.Hd
open Go.RowKit
/-- The bits a .. a + k - 1. -/
def mk (a k : Nat) : Nat → Bool := fun j => decide (a ≤ j) && decide (j < a + k)
theorem mk_zero (a : Nat) : bl (mk a 0) = bl (fun _ => false) := bl_congr fun j _ => by
  unfold mk; by_cases h : a ≤ j
  · simp [h, show ¬ j < a by omega]
  · simp [h]
theorem mk_succ (a k : Nat) : (bl (mk a k)).set (a + k) (.bool true) = bl (mk a (k + 1)) := by
  rw [bl_set]
  apply bl_congr
  intro j _
  unfold mk
  by_cases e : j = a + k
  · subst e; simp
  · by_cases h : a ≤ j
    · have : (j < a + (k + 1)) ↔ (j < a + k) := by omega
      simp [e, h, this]
    · simp [e, h]
theorem mk_num (a n : Nat) (h : a + n ≤ 128) : num (mk a n) 64 64 = maskH a n ∧ num (mk a n) 0 64 = maskL a n :=
  num_of_bits fun j hj => by rw [mask_bit a n j h hj]; rfl
/-- A header's bits, of which k from a on are those of v. -/
def pt (h l v : BitVec 64) (a k : Nat) : Nat → Bool := fun j => if a ≤ j ∧ j < a + k then v.getLsbD (j - a) else hbit h l j
theorem pt_zero (h l v : BitVec 64) (a : Nat) : pt h l v a 0 = hbit h l := by
  funext j; unfold pt; rw [if_neg (by omega)]
theorem pt_succ (h l v : BitVec 64) (a k : Nat) (b : Bool) (hb : b = v.getLsbD k) : (bl (pt h l v a k)).set (a + k) (.bool b) = bl (pt h l v a (k + 1)) := by
  subst hb
  rw [bl_set]
  apply bl_congr
  intro j _
  unfold pt
  by_cases e : j = a + k
  · subst e; rw [if_pos rfl, if_pos (by omega), Nat.add_sub_cancel_left]
  · rw [if_neg e]
    by_cases c : a ≤ j ∧ j < a + k
    · rw [if_pos c, if_pos (by omega)]
    · rw [if_neg c, if_neg (by omega)]
theorem fit_bits (v : BitVec 64) (n i : Nat) (hn : n ≤ 64) (h : ¬ uv (low n) < uv v) (hi : n ≤ i) : v.getLsbD i = false := by
  unfold uv at h
  rw [low_nat n hn] at h
  have h2 : v.toNat < 2 ^ n := by have := Nat.two_pow_pos n; omega
  rw [BitVec.getLsbD, Nat.testBit_lt_two_pow]
  exact Nat.lt_of_lt_of_le h2 (Nat.pow_le_pow_right (by omega) hi)
theorem pt_num (h l v : BitVec 64) (a n : Nat) (hn : n ≤ 64) (hv : ¬ uv (low n) < uv v) : num (pt h l v a n) 64 64 = putH h a n v ∧ num (pt h l v a n) 0 64 = putL l a n v :=
  num_of_bits fun j hj => by
    rw [put_bit h l a n v j hn hj]
    unfold pt
    by_cases c : a ≤ j ∧ j < a + n
    · rw [if_pos c]; simp [c.1, c.2]
    · rw [if_neg c]
      by_cases c1 : a ≤ j
      · have c2 : ¬ j < a + n := fun h2 => c ⟨c1, h2⟩
        simp [c1, c2, fit_bits v n (j - a) hn hv (by omega)]
      · simp [c1]
theorem over_small (v : BitVec 64) (n : Nat) (hn : n ≤ 64) (hv : uv (low n) < uv v) : n < 64 ∧ (uv (v >>> n) != 0) = true := by
  unfold uv at *
  rw [low_nat n hn] at hv
  have hl := v.isLt
  have hp := Nat.two_pow_pos n
  have h1 : n < 64 := by
    rcases Nat.lt_or_ge n 64 with h | h
    · exact h
    · have : n = 64 := by omega
      subst this; omega
  refine ⟨h1, ?_⟩
  rw [BitVec.toNat_ushiftRight, Nat.shiftRight_eq_div_pow]
  have : 0 < v.toNat / 2 ^ n := Nat.div_pos (by omega) hp
  simp only [bne_iff_ne, ne_eq]; omega
theorem fit_small (v : BitVec 64) (n : Nat) (hn : n ≤ 64) (hv : ¬ uv (low n) < uv v) : (uv (v >>> n) != 0) = false := by
  unfold uv at *
  rw [low_nat n hn] at hv
  have hp := Nat.two_pow_pos n
  rw [BitVec.toNat_ushiftRight, Nat.shiftRight_eq_div_pow, Nat.div_eq_of_lt (by omega)]
  rfl
theorem v_bit (v : BitVec 64) (k : Nat) : ((uv (v >>> k)).tmod 2 == 1) = v.getLsbD k := by
  rw [uv_odd, BitVec.getLsbD_ushiftRight, Nat.add_zero]
end Go.Proofs.Hd

namespace Go.Proofs.Hd
open Go.RowKit
/-- The array f lies in block b, whole, and may be written. -/
def Row (w : World) (b : Nat) (f : Nat → Bool) : Prop := w.rangeAt b 0 (bl f) ∧ w.there b 0 128
theorem Row.cell {w : World} {b k : Nat} {f : Nat → Bool} (h : Row w b f) (hk : k < 128) : w.cell? ⟨b, k, none⟩ = some (.bool (f k)) := range_cell h.1 hk
theorem Row.froz {w : World} {b k : Nat} {f : Nat → Bool} (h : Row w b f) (hk : k < 128) : w.frozen? ⟨b, k, none⟩ = false := by
  have := (h.2 k hk).2; rwa [Nat.zero_add] at this
theorem Row.lt {w : World} {b : Nat} {f : Nat → Bool} (h : Row w b f) : b < w.heap.size := World.block_lt_of_cell? w ⟨b, 0, none⟩ (h.cell (by omega))
theorem Row.drew {w : World} {b : Nat} {f : Nat → Bool} (h : Row w b f) : Row w.drew b f := h
theorem Row.far {w : World} {b : Nat} {f : Nat → Bool} {p : Addr} {v : Value} (h : Row w b f) (hp : p.block ≠ b) : Row (w.setCell p v) b f := by
  refine ⟨fun j x hj => ?_, fun j hj => ?_⟩
  · rw [World.cell?_setCell_far w p ⟨b, 0 + j, none⟩ v hp]; exact h.1 j x hj
  · rw [World.cell?_setCell_far w p ⟨b, 0 + j, none⟩ v hp, World.frozen?_setCell]; exact h.2 j hj
theorem Row.set {w : World} {b k : Nat} {f g : Nat → Bool} {x : Bool} (h : Row w b f) (hk : k < 128) (e : (bl f).set k (.bool x) = bl g) : Row (w.setCell ⟨b, k, none⟩ (.bool x)) b g := by
  have hc : ∀ j, j < 128 → (w.setCell ⟨b, k, none⟩ (.bool x)).cell? ⟨b, j, none⟩ = some (if j = k then .bool x else .bool (f j)) := by
    intro j hj
    by_cases ej : j = k
    · subst ej; rw [if_pos rfl]; exact World.cell?_setCell_same w ⟨b, j, none⟩ (.bool x) (h.cell hj)
    · rw [if_neg ej, World.cell?_setCell_other w ⟨b, k, none⟩ ⟨b, j, none⟩ (.bool x) (fun e2 => ej (by injection e2 with _ e3; exact e3.symm)), h.cell hj]
  refine ⟨fun j y hj => ?_, fun j hj => ?_⟩
  · have hj' : j < 128 := by
      have := (List.getElem?_eq_some_iff.1 hj).1; rwa [bl_len] at this
    rw [Nat.zero_add, hc j hj', ← hj, ← e, bl_set, bl_get _ _ hj']
    by_cases ej : j = k <;> simp [ej]
  · rw [Nat.zero_add, hc j hj, World.frozen?_setCell]
    exact ⟨rfl, h.froz hj⟩
theorem Row.below {B b : Nat} {w w' : World} {f : Nat → Bool} (h : Row w b f) (hb : Below B w w') (hl : b < B) : Row w' b f := ⟨range_below hb h.1 hl, there_below hb h.2 hl⟩
theorem Row.of_set {w : World} {b : Nat} (f : Nat → Bool) (h : w.there b 0 128) : Row (w.setCells b 0 (bl f)) b f :=
  ⟨World.rangeAt_setCells_same w b 0 (bl f) (by rw [bl_len]; exact h), World.there_setCells h b 0 (bl f)⟩
theorem Row.apart {w : World} {b c : Nat} {f : Nat → Bool} {vs : List Value} (h : Row w b f) (hne : b ≠ c) : Row (w.setCells c 0 vs) b f :=
  ⟨World.rangeAt_setCells_apart h.1 c 0 vs (Or.inl hne), World.there_setCells h.2 c 0 vs⟩
theorem Row.congr {w : World} {b : Nat} {f g : Nat → Bool} (h : Row w b f) (e : bl f = bl g) : Row w b g := ⟨e ▸ h.1, h.2⟩
/-- g below k, f from k on. -/
def mix (f g : Nat → Bool) (k : Nat) : Nat → Bool := fun j => if j < k then g j else f j
theorem mix_zero (f g : Nat → Bool) : mix f g 0 = f := by funext j; simp [mix]
theorem mix_all (f g : Nat → Bool) : bl (mix f g 128) = bl g := bl_congr fun j hj => by simp [mix, hj]
theorem mix_set (f g : Nat → Bool) (k : Nat) (b : Bool) (h : b = g k) : (bl (mix f g k)).set k (.bool b) = bl (mix f g (k + 1)) := by
  subst h
  rw [bl_set]
  apply bl_congr
  intro j _
  unfold mix
  by_cases e : j = k
  · subst e; simp
  · rw [if_neg e]
    have : (j < k + 1) ↔ (j < k) := by omega
    simp [this]
theorem and127i (m : Nat) (h : m < 128) : bits .and .i64 (m : Int) 127 = (m : Int) := by
  have e : wrap64 (uv (BitVec.ofNat 64 m)) = (m : Int) := by
    rw [uv_ofNat, IntKind.wrap_u64]; unfold wrap64; omega
  have := and127 (BitVec.ofNat 64 m)
  rw [e, BitVec.toNat_ofNat] at this
  have e2 : (2 : Nat) ^ 64 = 18446744073709551616 := by decide +kernel
  rw [this, e2]; omega
/-- Bit n of a header, false outside 0 .. 127. -/
def bitI (h l : BitVec 64) (n : Int) : Bool := if 0 ≤ n ∧ n < 128 then hbit h l n.toNat else false
theorem and_num (h l p q : BitVec 64) : num (fun j => hbit h l j && hbit p q j) 64 64 = h &&& p ∧ num (fun j => hbit h l j && hbit p q j) 0 64 = l &&& q := num_of_bits fun j _ => hbit_and h l p q j
theorem or_num (h l p q : BitVec 64) : num (fun j => hbit h l j || hbit p q j) 64 64 = h ||| p ∧ num (fun j => hbit h l j || hbit p q j) 0 64 = l ||| q := num_of_bits fun j _ => hbit_or h l p q j
theorem xor_num (h l p q : BitVec 64) : num (fun j => hbit h l j ^^ hbit p q j) 64 64 = h ^^^ p ∧ num (fun j => hbit h l j ^^ hbit p q j) 0 64 = l ^^^ q := num_of_bits fun j _ => hbit_xor h l p q j
theorem less_num (h l p q : BitVec 64) : num (fun j => hbit h l j && !hbit p q j) 64 64 = h &&& ~~~p ∧ num (fun j => hbit h l j && !hbit p q j) 0 64 = l &&& ~~~q := num_of_bits fun j hj => hbit_andNot h l p q j hj
theorem two_Rows {V : World} {b c : Nat} (f g : Nat → Bool) (h1 : V.there b 0 128) (h2 : V.there c 0 128) (hne : b ≠ c) :
    Row ((V.setCells b 0 (bl f)).setCells c 0 (bl g)) b f ∧ Row ((V.setCells b 0 (bl f)).setCells c 0 (bl g)) c g :=
  ⟨(Row.of_set f h1).apart hne, Row.of_set g (World.there_setCells h2 b 0 (bl f))⟩
theorem four_Rows {V : World} {b c d e : Nat} (f : Nat → Bool) (h1 : V.there b 0 128) (h2 : V.there c 0 128) (h3 : V.there d 0 128) (h4 : V.there e 0 128) (n1 : b ≠ c) (n2 : b ≠ d) (n3 : b ≠ e) (n4 : c ≠ d) (n5 : c ≠ e) (n6 : d ≠ e) :
    Row ((((V.setCells b 0 (bl f)).setCells c 0 (bl f)).setCells d 0 (bl f)).setCells e 0 (bl f)) b f ∧ Row ((((V.setCells b 0 (bl f)).setCells c 0 (bl f)).setCells d 0 (bl f)).setCells e 0 (bl f)) c f ∧
    Row ((((V.setCells b 0 (bl f)).setCells c 0 (bl f)).setCells d 0 (bl f)).setCells e 0 (bl f)) d f ∧ Row ((((V.setCells b 0 (bl f)).setCells c 0 (bl f)).setCells d 0 (bl f)).setCells e 0 (bl f)) e f :=
  ⟨(((Row.of_set f h1).apart n1).apart n2).apart n3, ((Row.of_set f (World.there_setCells h2 _ _ _)).apart n4).apart n5, (Row.of_set f (World.there_setCells (World.there_setCells h3 _ _ _) _ _ _)).apart n6, Row.of_set f (World.there_setCells (World.there_setCells (World.there_setCells h4 _ _ _) _ _ _) _ _ _)⟩
end Go.Proofs.Hd

namespace Go.Proofs
open Go.RowKit Go.Proofs.Hd
attribute [local go_sem] uv_nonneg
/-- The bits from bit 128 - k on. -/
def upB (f : Nat → Bool) (k : Nat) : Nat → Bool := fun j => decide (128 ≤ j + k) && f j
theorem upB_zero (f : Nat → Bool) : bl (fun _ => false) = bl (upB f 0) := bl_congr fun j hj => by simp [upB]; omega
theorem upB_put (f : Nat → Bool) (k m : Nat) (hm : m + k = 127) (x : Bool) (hx : f m = x) : (bl (upB f k)).set m (.bool x) = bl (upB f (k + 1)) := by
  subst hx
  rw [bl_set]
  apply bl_congr
  intro j hj
  unfold upB
  by_cases e : j = m
  · subst e; rw [if_pos rfl]; simp; omega
  · rw [if_neg e]
    have : (128 ≤ j + (k + 1)) ↔ (128 ≤ j + k) := by omega
    simp [this]
theorem upB_num (h l : BitVec 64) : num (upB (hbit h l) 128) 64 64 = h ∧ num (upB (hbit h l) 128) 0 64 = l := num_of_bits fun j hj => by simp [upB]
theorem zfar {w : World} {r : Nat} {p : Addr} {v : Value} (h : Zero4 w r) (hp : p.block ≠ r) : Zero4 (w.setCell p v) r := fun i hi =>
  ⟨(World.cell?_setCell_far w p ⟨r, i, none⟩ v hp).trans (h i hi).1, by rw [World.frozen?_setCell]; exact (h i hi).2⟩
theorem zcells {w : World} {r b : Nat} {vs : List Value} (h : Zero4 w r) (hp : r < b) : Zero4 (w.setCells b 0 vs) r := by
  have hb : Below b w (w.setCells b 0 vs) := Below.setCells vs 0 w (Below.refl _ _) (Nat.le_refl _)
  exact fun i hi => ⟨(hb.cell (p := ⟨r, i, none⟩) hp).trans (h i hi).1, (hb.frozen (p := ⟨r, i, none⟩) hp).trans (h i hi).2⟩

theorem rhead_is (f : Nat → Bool) (h l : BitVec 64) (w : World) (hn : num f 64 64 = h ∧ num f 0 64 = l) : Calls Try.prog 36 #[.agg (bl f).toArray] w fun e w' => e = .returned (.agg #[.int .u64 (uv h), .int .u64 (uv l)]) ∧ Below w.heap.size w w' := by
  obtain ⟨rfl, rfl⟩ := hn; exact refhead_c f w
theorem range_apart4 {b r : Nat} {f : Nat → Bool} {w : World} {a0 a1 a2 a3 : Value} (h : w.rangeAt b 0 (bl f)) (hne : r ≠ b) : ((((w.setCell ⟨r, 0, none⟩ a0).setCell ⟨r, 1, none⟩ a1).setCell ⟨r, 2, none⟩ a2).setCell ⟨r, 3, none⟩ a3).rangeAt b 0 (bl f) := by
  intro j v hv
  rw [World.cell?_setCell_far _ _ _ _ hne, World.cell?_setCell_far _ _ _ _ hne, World.cell?_setCell_far _ _ _ _ hne, World.cell?_setCell_far _ _ _ _ hne]
  exact h j v hv
theorem range_on {b : Nat} {f : Nat → Bool} {w w' : World} (hb : Below w.heap.size w w') (h : w.rangeAt b 0 (bl f)) : w'.rangeAt b 0 (bl f) := range_below hb h (World.block_lt_of_cell? w ⟨b, 0, none⟩ (range_cell h (by omega : 0 < 128)))
end Go.Proofs

namespace Go.Proofs
open Go.RowKit Go.Proofs.Hd
attribute [local go_sem] uv_nonneg eq4_self eq2_self
attribute [local go_sem high] run_eq2 run_eq4
theorem cless_no (a b : Cb) (w : World) (h : a.snd = false ∨ (a.snd = true ∧ b.snd = false)) : Calls Try.prog 70 #[.agg #[.int .u64 (uv a.vh), .int .u64 (uv a.vl), .int .u64 (uv a.ch), .int .u64 (uv a.cl)], .agg #[.int .u64 (uv b.vh), .int .u64 (uv b.vl), .int .u64 (uv b.ch), .int .u64 (uv b.cl)]] w fun e w' => e = .returned (.slice none 0 0) ∧ Below w.heap.size w w' := by
  rcases h with h | ⟨h1, h2⟩
  · exact less_no1 a b w h
  · exact less_no2 a b w h1 h2
theorem met_no {a b : Cb} (h : a.snd = false ∨ (a.snd = true ∧ b.snd = false)) : a.met b = false := by
  unfold Cb.met metB
  show (a.snd && (b.snd && a.agr b)) = false
  rcases h with h | ⟨h1, h2⟩
  · rw [h]; rfl
  · rw [h1, h2]; rfl
theorem wit_no {a b : Cb} (h : a.snd = false ∨ (a.snd = true ∧ b.snd = false)) : a.wit b = false := by
  cases e : a.wit b with
  | false => rfl
  | true =>
    have := (Cb.wit_iff a b).1 e
    rcases h with h | ⟨h1, h2⟩
    · rw [h] at this; cases this.1
    · rw [h2] at this; cases this.2.1
theorem rwithin_is (x : Bool) (s t : ByteArray) (a b : Cb) (w : World) (ha : a.snd = true) (hb : b.snd = true) (hs : txt a = s) (ht : txt b = t) (hx : a.wit b = x) :
    Calls Try.prog 62 #[.string s, .string t] w fun e w' => e = .returned (.bool x) ∧ Below w.heap.size w w' := by
  subst hx; exact rwithin_s s t a b w ha hb hs ht
theorem rmeet_t (s t r : ByteArray) (a b : Cb) (w : World) (ha : a.snd = true) (hb : b.snd = true) (hs : txt a = s) (ht : txt b = t) (hx : a.agr b = true) (hr : txt (a.join b) = r) :
    Calls Try.prog 61 #[.string s, .string t] w fun e w' => e = .returned (.tuple #[.string r, .bool true]) ∧ Below w.heap.size w w' :=
  rmeet_s s t a b w ha hb hs ht true r hx (Lib.hid fun _ => hr.symm) (Lib.hid fun h => by cases h)
theorem rmeet_f (s t : ByteArray) (a b : Cb) (w : World) (ha : a.snd = true) (hb : b.snd = true) (hs : txt a = s) (ht : txt b = t) (hx : a.agr b = false) :
    Calls Try.prog 61 #[.string s, .string t] w fun e w' => e = .returned (.tuple #[.string ⟨#[]⟩, .bool false]) ∧ Below w.heap.size w w' :=
  rmeet_s s t a b w ha hb hs ht false _ hx (Lib.hid fun h => by cases h) (Lib.hid fun _ => rfl)
theorem join_snd {a b : Cb} (ha : a.snd = true) (hb : b.snd = true) : (a.join b).snd = true := by
  rw [Cb.snd_iff] at *
  intro j hj h
  have jv : (a.join b).V j = (a.V j || b.V j) := by unfold Cb.V Cb.join; rw [hbit_or]
  have jk : (a.join b).K j = (a.K j || b.K j) := by unfold Cb.K Cb.join; rw [hbit_or]
  rw [jv] at h
  rw [jk]
  have h1 := ha j hj
  have h2 := hb j hj
  revert h h1 h2
  cases a.V j <;> cases b.V j <;> cases a.K j <;> cases b.K j <;> simp
end Go.Proofs

namespace Go.Proofs.Hd
open Go.RowKit
/-- The differences of each cube of L and g. -/
def offL (L : List Cb) (g : Cb) : List Cb := L.flatMap fun c => lessC c g
theorem offL_take {L : List Cb} {g : Cb} {k : Nat} {c : Cb} (h : L[k]? = some c) : offL (L.take (k + 1)) g = offL (L.take k) g ++ lessC c g := by
  obtain ⟨hk, rfl⟩ := List.getElem?_eq_some_iff.1 h
  unfold offL
  rw [List.take_succ_eq_append_getElem hk, List.flatMap_append]
  simp
theorem offL_len (L : List Cb) (g : Cb) : (offL L g).length ≤ L.length * 128 := by
  unfold offL
  induction L with
  | nil => simp
  | cons c L ih =>
    rw [List.flatMap_cons, List.length_append]
    have := lessC_le c g
    simp only [List.length_cons]
    omega
theorem offL_le (L : List Cb) (g : Cb) (k : Nat) : (offL (L.take k) g).length ≤ (offL L g).length := by
  have h : offL L g = offL (L.take k) g ++ offL (L.drop k) g := by unfold offL; rw [← List.flatMap_append, List.take_append_drop]
  rw [h, List.length_append]; omega
theorem offL_snd {L : List Cb} {g : Cb} (hL : ∀ c ∈ L, c.snd = true) : ∀ c ∈ offL L g, c.snd = true := by
  intro c hc
  unfold offL at hc
  obtain ⟨d, hd, hcd⟩ := List.mem_flatMap.1 hc
  exact ((Cb.wit_iff _ _).1 (lessC_wit (hL d hd) c hcd)).1
theorem flat_append (A B : List Cb) : flat (A ++ B) = flat A ++ flat B := by simp [flat]
end Go.Proofs.Hd
namespace Go.Proofs
open Go.RowKit Go.Proofs.Hd Go.Lib
attribute [local go_sem] uv_nonneg
set_option maxHeartbeats 1000000 in
set_option maxRecDepth 100000 in
theorem without_c (v : Value) (L : List Cb) (g : Cb) (w : World) (hl : L.length ≤ 4000) (hL : ∀ c ∈ L, c.snd = true) (hg : g.snd = true) (hv : Pl w v L) :
    Calls Try.prog 58 #[v, .agg #[.int .u64 (uv g.vh), .int .u64 (uv g.vl), .int .u64 (uv g.ch), .int .u64 (uv g.cl)]] w (Got w (offL L g)) := by
  obtain ⟨ic, hic, hcz0, hcz1, hcz2⟩ := info_parts infoCube
  obtain ⟨A, cap, rfl, _, hA⟩ := hv.form
  have hlz : (L.length : Int) ≤ 4000 := by omega
  have HA := Lib.hid hA
  have HL := Lib.hid hL
  have hb0 := below1 w (.cells #[.int .u64 (uv g.vh), .int .u64 (uv g.vl), .int .u64 (uv g.ch), .int .u64 (uv g.cl)] 51)
  have X0 : Blk (w.alloc (.cells #[.int .u64 (uv g.vh), .int .u64 (uv g.vl), .int .u64 (uv g.ch), .int .u64 (uv g.cl)] 51)) w.heap.size 51 g.arr := Blk.new w _ _
  have HX := Lib.hid X0
  have HB := Lib.hid hb0
  have hTot := offL_len L g
  clear hv hA hL X0 hb0
  go_enter Try.func58, Try.ntmps58
  go_wp2
  go_loopg [5, 10] L.length (fun gk s5 s10 wr => ∃ k : Nat, k ≤ L.length ∧ gk = L.length - k ∧ s10 = .int .i64 k ∧ Below w.heap.size w wr ∧ Blk wr w.heap.size 51 g.arr ∧ wr.ownsRow (w.heap.size + 1) 51 4 s5 (offL (L.take k) g).length (flat (offL (L.take k) g)))
  case atStart => exact ⟨0, Nat.zero_le _, rfl, rfl, HB.out, HX.out, by simp [offL, flat]; exact World.ownsRow_nil _ _ _ _⟩
  case round =>
    clear HX HB
    obtain ⟨k, hk, rfl, rfl, B, X, O⟩ := hrel
    by_cases hlt : k < L.length
    · have hltz : (k : Int) < (L.length : Int) := by omega
      obtain ⟨c, hc⟩ : ∃ c, L[k]? = some c := ⟨_, List.getElem?_eq_getElem hlt⟩
      obtain ⟨b, off, rfl, hb, hpc⟩ := HA.out (ne_nil_of hc)
      have hcs := HL.out c (List.mem_of_getElem? hc)
      obtain ⟨c0, c1, c2, c3⟩ := (hpc k c hc).on B
      have HT := Lib.hid (offL_take (g := g) hc)
      have hle1 := offL_le L g k
      have hle2 := offL_le L g (k + 1)
      have hle3 : (offL (L.take k) g).length + (lessC c g).length ≤ (offL L g).length := by rw [HT.out, List.length_append] at hle2; exact hle2
      have hb1 := below1 wr (.cells #[.int .u64 (uv c.vh), .int .u64 (uv c.vl), .int .u64 (uv c.ch), .int .u64 (uv c.cl)] 51)
      have N1 : Blk (wr.alloc (.cells #[.int .u64 (uv c.vh), .int .u64 (uv c.vl), .int .u64 (uv c.ch), .int .u64 (uv c.cl)] 51)) wr.heap.size 51 c.arr := Blk.new wr _ _
      have B1 := B.trans (hb1.mono B.size)
      have O1 := own_on O hb1
      have X1 := X.on hb1
      obtain ⟨x0, x1, x2, x3⟩ := Blk.four X1
      have hbase : w.heap.size + 1 ≤ wr.heap.size := X.lt
      clear hc hpc B O X hb1 hle1 hle2
      go_wp2_with fail
      (with_reducible refine (cless_q c g _ _ hcs hg rfl).mono ?_)
      rintro e w2 ⟨v2, rfl, O2, hb2⟩
      have B2 := B1.trans (hb2.mono B1.size)
      have O3 := own_on O1 hb2
      have X3 := X1.on hb2
      have S2 := (own_Pl O2).src
      have hz2 := hb2.size
      have hz3 : w.heap.size + 1 ≤ w2.heap.size := X3.lt
      clear B1 O1 X1 hb2 O2 N1
      go_wp2_with (at_builtin; refine wpList_app _ rfl (.tmp 14) (.tmp 17) 44 rfl (w.heap.size + 1) 51 ic _ 4 32 Try.underlying44 hic hcz0 hcz1 hcz2 rfl (by decide) _ _ _ rfl O3 _ (lessC c g).length (flat (lessC c g)) rfl S2 (by unfold maxLen; omega) (by omega) hz3 ?_)
      intro v4 w4 O4 hg4
      have B4 := B2.grown hg4 B2.size (fun j hj => by have := (O3.lt j hj).1; omega)
      have X4 := X3.grown hg4 (own_base O3 (by omega))
      clear B2 O3 X3 S2 hg4
      go_wp2
      go_roundg (L.length - (k + 1))
      case measure => omega
      case rel => exact ⟨k + 1, by omega, rfl, by go_num, B4, X4, by rw [HT.out, flat_append, List.length_append]; exact O4⟩
    · have hltz : ¬ (k : Int) < (L.length : Int) := by omega
      obtain rfl : k = L.length := by omega
      rw [List.take_length] at O
      go_wp2
      go_ret
      exact ⟨_, rfl, O.mono (by omega), B⟩
end Go.Proofs
