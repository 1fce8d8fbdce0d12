/-
  The library's contracts of slices.SortFunc and slices.Sort lie at this program: their functions' bodies are compared by the kernel. No conditions.
  The sort of pile.widestFirst: places of cubes, those that care for the fewest bits first, out of the library's contract of slices.SortFunc. Conditions as each theorem lists them.
  Contract of pile.widestFirst: the places of the sound cubes, those that care for the fewest bits first. Conditions as each theorem lists them.
  Plain mathematics on what pile.leanUpTo keeps: taking the widest cubes first and leaving out what lies within a kept one is leaving out the spare ones. No program in sight. Conditions as each theorem lists them.
  Contracts of slices.ContainsFunc and slices.Sort over ints and of the closure of pile.leanUpTo. Conditions as each theorem lists them.
  Appending a slice of cubes, wherever it lies, to a row of the call's own; contracts of slices.Clone, slices.Grow (of nil) and slices.Concat (of two) over cubes. Conditions as each theorem lists them.
  Contract of pile.leanUpTo and of pile.Lean: the cubes that remain, or ErrCubes where there are more than the limit. Conditions as each theorem lists them.
  Contracts of pile.Lean and pile.Pick. Conditions as each theorem lists them.
  Contracts of slices.Clone, slices.Grow (of nil) and slices.Concat (of two) over cubes. Conditions as each theorem lists them.
  Contract of Compare of package head, and the calls at the numbers that the laws begin with. No conditions.
  The function awake of the laws of layer 1 returns true. No conditions.
  Plain facts on arrays of 128 bools as values in memory: no program in sight. No conditions.
  Contract: Bits of the reference of layer 1 returns the 128 bits of a header. No conditions.
  Plain facts on the number that some bits are. No conditions.
  Contract: Head of the reference of layer 1 returns the header of 128 bits. No conditions.
  Plain facts on arrays of 128 bools that a statement makes in whatever order: that they are there, and what they hold. No conditions.
  Plain facts: a cube as a text of 128 signs, the highest bit first; rows of 128 bytes in memory. No program in sight. No conditions.
  Plain facts on comparing headers bit by bit. No conditions.
-/
import Derived.Test.YtpmgbofnikmhgaaGreatJ3
import Derived.Shelf.SlSortCmp.NoneTotal
import Derived.Shelf.Sort.Plain
import Derived.Test.YtpmgbofnikmhgaaGreatProg
import Derived.Deep.AppendLies
import Derived.Deep.DeepCutAuto
import Derived.Deep.Light
import Derived.OwnWalk
import Derived.Shelf.Slices.In.SortNone
import Derived.Maps.AppendAt
import Derived.Lib.AppendZeros
import Derived.Laws.AppendOwnNone
import Derived.Laws.MakeOwn
import Derived.Lib.SliceRun
import Derived.Deep.MidRow
import Derived.Deep.WholeRow
import Derived.Below
import Derived.Deep.LoopGhost
import Derived.Lib.Hide
import Derived.Laws.IdiomStrings
namespace Go.Proofs
open Go.Shelf
def Tryz.sortF_ren : Go.Shelf.Ren := ⟨fun | 6 => 101 | 15 => 78 | 14 => 116 | 28 => 99 | 29 => 100 | 20 => 124 | 21 => 125 | 22 => 126 | 23 => 127 | 24 => 128 | 25 => 129 | 26 => 130 | 27 => 131 | 46 => 135 | 47 => 111 | 48 => 112 | 49 => 136 | 50 => 137 | 57 => 138 | n => n, fun | 22 => 36 | 24 => 3 | 25 => 129 | 3 => 3 | 39 => 87 | 0 => 0 | 53 => 125 | 55 => 23 | 4 => 4 | 46 => 118 | 45 => 117 | 50 => 38 | 5 => 5 | 9 => 9 | 66 => 134 | 70 => 138 | 76 => 143 | 77 => 144 | n => n, fun | n => n⟩
theorem Tryz.sortF : Go.Proofs.SlLaysF.n6 Tryz.prog Tryz.sortF_ren := {
  mixed := by kernel_rfl
  f6 := ⟨Tryz.f101.name, by decide, Tryz.func101.trans (congrArg some (by kernel_rfl))⟩
  f14 := ⟨Tryz.f116.name, by decide, Tryz.func116.trans (congrArg some (by kernel_rfl))⟩
  f15 := Tryz.func78.trans (congrArg some (by kernel_rfl))
  f20 := ⟨Tryz.f124.name, by decide, Tryz.func124.trans (congrArg some (by kernel_rfl))⟩
  f21 := ⟨Tryz.f125.name, by decide, Tryz.func125.trans (congrArg some (by kernel_rfl))⟩
  f22 := ⟨Tryz.f126.name, by decide, Tryz.func126.trans (congrArg some (by kernel_rfl))⟩
  f23 := ⟨Tryz.f127.name, by decide, Tryz.func127.trans (congrArg some (by kernel_rfl))⟩
  f24 := ⟨Tryz.f128.name, by decide, Tryz.func128.trans (congrArg some (by kernel_rfl))⟩
  f25 := ⟨Tryz.f129.name, by decide, Tryz.func129.trans (congrArg some (by kernel_rfl))⟩
  f26 := ⟨Tryz.f130.name, by decide, Tryz.func130.trans (congrArg some (by kernel_rfl))⟩
  f27 := ⟨Tryz.f131.name, by decide, Tryz.func131.trans (congrArg some (by kernel_rfl))⟩
  f28 := Tryz.func99.trans (congrArg some (by kernel_rfl))
  f29 := Tryz.func100.trans (congrArg some (by kernel_rfl))
  f46 := ⟨Tryz.f135.name, by decide, Tryz.func135.trans (congrArg some (by kernel_rfl))⟩
  f47 := Tryz.func111.trans (congrArg some (by kernel_rfl))
  f48 := Tryz.func112.trans (congrArg some (by kernel_rfl))
  f49 := ⟨Tryz.f136.name, by decide, Tryz.func136.trans (congrArg some (by kernel_rfl))⟩
  f50 := ⟨Tryz.f137.name, by decide, Tryz.func137.trans (congrArg some (by kernel_rfl))⟩
  f57 := ⟨Tryz.f138.name, by decide, Tryz.func138.trans (congrArg some (by kernel_rfl))⟩
  t0 := Tryz.underlying0
  a0 := Tryz.isAgg0
  z0 := Tryz.sizeOf0
  v0 := Tryz.zeroValue0
  t3 := Tryz.underlying3
  a3 := Tryz.isAgg3
  z3 := Tryz.sizeOf3
  v3 := Tryz.zeroValue3
  t4 := Tryz.underlying4
  a4 := Tryz.isAgg4
  z4 := Tryz.sizeOf4
  v4 := Tryz.zeroValue4
  t5 := Tryz.underlying5
  a5 := Tryz.isAgg5
  z5 := Tryz.sizeOf5
  v5 := Tryz.zeroValue5
  t9 := Tryz.underlying9
  a9 := Tryz.isAgg9
  z9 := Tryz.sizeOf9
  v9 := Tryz.zeroValue9
  t22 := Tryz.underlying36
  a22 := Tryz.isAgg36
  z22 := Tryz.sizeOf36
  v22 := Tryz.zeroValue36
  a24 := Tryz.isAgg3
  z24 := Tryz.sizeOf3
  t25 := Tryz.underlying129
  a25 := Tryz.isAgg129
  z25 := Tryz.sizeOf129
  v25 := Tryz.zeroValue129
  t39 := Tryz.underlying87
  a39 := Tryz.isAgg87
  z39 := Tryz.sizeOf87
  v39 := Tryz.zeroValue87
  t45 := Tryz.underlying117
  a45 := Tryz.isAgg117
  z45 := Tryz.sizeOf117
  v45 := Tryz.zeroValue117
  t46 := Tryz.underlying118
  a46 := Tryz.isAgg118
  z46 := Tryz.sizeOf118
  v46 := Tryz.zeroValue118
  t50 := Tryz.underlying38
  a50 := Tryz.isAgg38
  z50 := Tryz.sizeOf38
  v50 := Tryz.zeroValue38
  t53 := Tryz.underlying125
  a53 := Tryz.isAgg125
  z53 := Tryz.sizeOf125
  v53 := Tryz.zeroValue125
  t55 := Tryz.underlying23
  a55 := Tryz.isAgg23
  z55 := Tryz.sizeOf23
  v55 := Tryz.zeroValue23
  t66 := Tryz.underlying134
  a66 := Tryz.isAgg134
  z66 := Tryz.sizeOf134
  v66 := Tryz.zeroValue134
  t70 := Tryz.underlying138
  a70 := Tryz.isAgg138
  z70 := Tryz.sizeOf138
  v70 := Tryz.zeroValue138
  t76 := Tryz.underlying143
  a76 := Tryz.isAgg143
  z76 := Tryz.sizeOf143
  v76 := Tryz.zeroValue143
  t77 := Tryz.underlying144
  a77 := Tryz.isAgg144
  z77 := Tryz.sizeOf144
  v77 := Tryz.zeroValue144 }
def Tryz.sortI_ren : Go.Shelf.Ren := ⟨fun | 189 => 59 | 125 => 78 | 257 => 77 | 128 => 99 | 129 => 100 | 294 => 90 | 295 => 91 | 296 => 92 | 297 => 93 | 298 => 94 | 299 => 95 | 216 => 96 | 300 => 97 | 301 => 98 | 328 => 110 | 329 => 111 | 330 => 112 | 331 => 113 | 332 => 114 | 215 => 115 | 343 => 123 | n => n, fun | 28 => 36 | 3 => 3 | 46 => 87 | 0 => 0 | 51 => 125 | 53 => 23 | 4 => 4 | 183 => 118 | 182 => 117 | 131 => 38 | 5 => 5 | 9 => 9 | 218 => 134 | 222 => 138 | 228 => 143 | 229 => 144 | n => n, fun | n => n⟩
theorem Tryz.sortI : Go.Proofs.Lays.n189 Tryz.prog Tryz.sortI_ren := {
  mixed := by kernel_rfl
  f125 := Tryz.func78.trans (congrArg some (by kernel_rfl))
  f128 := Tryz.func99.trans (congrArg some (by kernel_rfl))
  f129 := Tryz.func100.trans (congrArg some (by kernel_rfl))
  f189 := Tryz.func59.trans (congrArg some (by kernel_rfl))
  f215 := Tryz.func115.trans (congrArg some (by kernel_rfl))
  f216 := Tryz.func96.trans (congrArg some (by kernel_rfl))
  f257 := Tryz.func77.trans (congrArg some (by kernel_rfl))
  f294 := Tryz.func90.trans (congrArg some (by kernel_rfl))
  f295 := Tryz.func91.trans (congrArg some (by kernel_rfl))
  f296 := Tryz.func92.trans (congrArg some (by kernel_rfl))
  f297 := Tryz.func93.trans (congrArg some (by kernel_rfl))
  f298 := Tryz.func94.trans (congrArg some (by kernel_rfl))
  f299 := Tryz.func95.trans (congrArg some (by kernel_rfl))
  f300 := Tryz.func97.trans (congrArg some (by kernel_rfl))
  f301 := Tryz.func98.trans (congrArg some (by kernel_rfl))
  f328 := Tryz.func110.trans (congrArg some (by kernel_rfl))
  f329 := Tryz.func111.trans (congrArg some (by kernel_rfl))
  f330 := Tryz.func112.trans (congrArg some (by kernel_rfl))
  f331 := Tryz.func113.trans (congrArg some (by kernel_rfl))
  f332 := Tryz.func114.trans (congrArg some (by kernel_rfl))
  f343 := Tryz.func123.trans (congrArg some (by kernel_rfl))
  t0 := Tryz.underlying0
  a0 := Tryz.isAgg0
  z0 := Tryz.sizeOf0
  v0 := Tryz.zeroValue0
  t3 := Tryz.underlying3
  a3 := Tryz.isAgg3
  z3 := Tryz.sizeOf3
  v3 := Tryz.zeroValue3
  t4 := Tryz.underlying4
  a4 := Tryz.isAgg4
  z4 := Tryz.sizeOf4
  v4 := Tryz.zeroValue4
  t5 := Tryz.underlying5
  a5 := Tryz.isAgg5
  z5 := Tryz.sizeOf5
  v5 := Tryz.zeroValue5
  t9 := Tryz.underlying9
  a9 := Tryz.isAgg9
  z9 := Tryz.sizeOf9
  v9 := Tryz.zeroValue9
  t28 := Tryz.underlying36
  a28 := Tryz.isAgg36
  z28 := Tryz.sizeOf36
  v28 := Tryz.zeroValue36
  t46 := Tryz.underlying87
  a46 := Tryz.isAgg87
  z46 := Tryz.sizeOf87
  v46 := Tryz.zeroValue87
  t51 := Tryz.underlying125
  a51 := Tryz.isAgg125
  z51 := Tryz.sizeOf125
  v51 := Tryz.zeroValue125
  t53 := Tryz.underlying23
  a53 := Tryz.isAgg23
  z53 := Tryz.sizeOf23
  v53 := Tryz.zeroValue23
  t131 := Tryz.underlying38
  a131 := Tryz.isAgg38
  z131 := Tryz.sizeOf38
  v131 := Tryz.zeroValue38
  t182 := Tryz.underlying117
  a182 := Tryz.isAgg117
  z182 := Tryz.sizeOf117
  v182 := Tryz.zeroValue117
  t183 := Tryz.underlying118
  a183 := Tryz.isAgg118
  z183 := Tryz.sizeOf118
  v183 := Tryz.zeroValue118
  t218 := Tryz.underlying134
  a218 := Tryz.isAgg134
  z218 := Tryz.sizeOf134
  v218 := Tryz.zeroValue134
  t222 := Tryz.underlying138
  a222 := Tryz.isAgg138
  z222 := Tryz.sizeOf138
  v222 := Tryz.zeroValue138
  t228 := Tryz.underlying143
  a228 := Tryz.isAgg143
  z228 := Tryz.sizeOf143
  v228 := Tryz.zeroValue143
  t229 := Tryz.underlying144
  a229 := Tryz.isAgg144
  z229 := Tryz.sizeOf144
  v229 := Tryz.zeroValue144 }
end Go.Proofs

namespace Go.Proofs.Hd
open Go.RowKit Go.Sort Go.Shelf Go.Lib
/-- How many bits cube number k of a list cares for. -/
def szAt (L : List Cb) (k : Nat) : Int := match L[k]? with
  | some c => ((ones c.ch + ones c.cl : Nat) : Int)
  | none => 0
theorem szAt_some {L : List Cb} {k : Nat} {c : Cb} (h : L[k]? = some c) : szAt L k = ((ones c.ch + ones c.cl : Nat) : Int) := by unfold szAt; rw [h]
def cfW (L : List Cb) (x y : {k : Nat // k < L.length}) : Int := or2 (icmp (szAt L x.1) (szAt L y.1)) (icmp (x.1 : Int) (y.1 : Int))
theorem ltW (L : List Cb) (x y : {k : Nat // k < L.length}) : ltOf (cfW L) x y = decide (szAt L x.1 < szAt L y.1 ∨ (szAt L x.1 = szAt L y.1 ∧ x.1 < y.1)) := by
  unfold ltOf cfW or2 icmp
  by_cases h1 : szAt L x.1 < szAt L y.1
  · simp [h1]
  · by_cases h2 : szAt L y.1 < szAt L x.1
    · have : ¬ szAt L x.1 = szAt L y.1 := by omega
      simp [h1, h2, this]
    · have : szAt L x.1 = szAt L y.1 := by omega
      by_cases h3 : x.1 < y.1
      · simp [this, h3]
      · by_cases h4 : y.1 < x.1 <;> simp [this, h3, h4]
theorem swoW (L : List Cb) : SWO (ltOf (cfW L)) where
  irrefl x := by rw [ltW]; simp
  trans x y z h1 h2 := by rw [ltW, decide_eq_true_eq] at *; omega
  ntrans x y z h1 h2 := by rw [ltW, decide_eq_false_iff_not] at *; omega
/-- Number a stands ahead of number b, or is it. -/
def wle (L : List Cb) (a b : Nat) : Prop := szAt L a < szAt L b ∨ (szAt L a = szAt L b ∧ a ≤ b)
theorem sortWorld_cell {α : Type} [Inhabited α] (enc : α → Value) (w : World) (g off m : Nat) (dk : Array α) (os : Array Obj) (p : Addr) {u : Value} (hp : w.cell? p = some u) (hg : p.block ≠ g) : (sortWorld enc w g off m dk os).cell? p = some u := by
  have hl := World.block_lt_of_cell? w p hp
  unfold sortWorld
  rw [cell?_grow _ _ _ (by rw [size_putRow]; exact hl), cell?_putRow_other _ _ _ _ _ _ (.inl hg), cell?_ahead]
  exact hp
theorem sortWorld_grown {α : Type} [Inhabited α] (enc : α → Value) (w : World) (g off m : Nat) (dk : Array α) (os : Array Obj) : w.grownBy (sortWorld enc w g off m dk os) (some g) := by
  refine ⟨rfl, rfl, rfl, ?_, fun k hk hne => ?_⟩
  · unfold sortWorld; simp [grow]; try (unfold putRow mapBlock; simp [ahead])
  · unfold sortWorld
    rw [heap_grow_old _ _ (by rw [size_putRow]; exact hk)]
    unfold putRow mapBlock
    simp only [Array.getElem?_modify]
    rw [if_neg (fun e => hne (by rw [e]))]
    rfl
end Go.Proofs.Hd
namespace Go.Proofs
open Go.RowKit Go.Proofs.Hd Go.Sort Go.Shelf Go.Lib
theorem wide_sort (L : List Cb) (v : Value) (ks : List Nat) (base b off cap pb : Nat) (w : World) (hn : L.length ≤ maxLen) (hown : w.ownsRow base 3 1 v ks.length (ints ks)) (hks : ∀ k ∈ ks, k < L.length) (hsz : ks.length < 4611686018427387904)
    (hp : w.cell? ⟨pb, 0, none⟩ = some (.slice (some ⟨b, off, none⟩) L.length cap)) (hc : ∀ k c, L[k]? = some c → At4 w b (off + k * 4) c) (h1 : some pb ≠ v.ownBlock) (h2 : some b ≠ v.ownBlock) :
    Calls Tryz.prog 101 #[v, .func (.func 102) #[] #[.pointer (some ⟨pb, 0, none⟩)]] w fun e w' => e = .returned (.tuple #[]) ∧ w.grownBy w' v.ownBlock ∧ ∃ ks', ks'.Perm ks ∧ ks'.Pairwise (wle L) ∧ PlI w' v ks' := by
  rcases hown.2 with ⟨rfl, h0⟩ | ⟨g, cp, cur, rfl, hge, hheap, _⟩
  · have e : ks = [] := List.eq_nil_of_length_eq_zero h0
    subst e
    have hcon := AnyF.slices_SortFunc_none { Tryz.sortF with } none 0 (.func (.func 102) #[] #[.pointer (some ⟨pb, 0, none⟩)]) w
    change Calls Tryz.prog 101 _ _ _ at hcon
    refine hcon.mono ?_
    rintro e w' ⟨rfl, rfl⟩
    exact ⟨rfl, ⟨rfl, rfl, rfl, Nat.le_refl _, fun _ _ _ => rfl⟩, [], List.Perm.refl _, List.Pairwise.nil, .inl ⟨rfl, _, _, rfl⟩⟩
  · by_cases h0 : ks = []
    · subst h0
      have hcon := AnyF.slices_SortFunc_none { Tryz.sortF with } (some ⟨g, 0, none⟩) cp (.func (.func 102) #[] #[.pointer (some ⟨pb, 0, none⟩)]) w
      change Calls Tryz.prog 101 _ _ _ at hcon
      refine hcon.mono ?_
      rintro e w' ⟨rfl, rfl⟩
      exact ⟨rfl, ⟨rfl, rfl, rfl, Nat.le_refl _, fun _ _ _ => rfl⟩, [], List.Perm.refl _, List.Pairwise.nil, .inl ⟨rfl, _, _, rfl⟩⟩
    · have eg : ∀ args w, (callFunc 102 args).run Tryz.prog w = .ok (.enter 102 args) w := enters_of Tryz.func102 (by kernel_rfl) rfl
      obtain ⟨k0, hk0⟩ := List.exists_mem_of_ne_nil ks h0
      haveI : Inhabited {k : Nat // k < L.length} := ⟨⟨k0, hks k0 hk0⟩⟩
      let d : Array {k : Nat // k < L.length} := (ks.pmap (fun k h => ⟨k, h⟩) hks).toArray
      have dsz : d.size = ks.length := by simp [d]
      have dval : d.toList.map (·.1) = ks := by simp [d, List.map_pmap]
      have dget : ∀ j, j < d.size → ks[j]? = some (d[j]!).1 := fun j hj => by
        rw [← dval, List.getElem?_map, getElem!_pos d j hj]
        simp [hj]
      have n1 : pb ≠ g := fun e => h1 (by simp [Value.ownBlock, e])
      have n2 : b ≠ g := fun e => h2 (by simp [Value.ownBlock, e])
      have hH : Holds (fun x : {k : Nat // k < L.length} => Value.int .i64 (x.1 : Int)) w g 0 d := fun j hj => by
        constructor
        · rw [Nat.zero_add, hown.cellAt j (by omega)]
          unfold ints
          rw [List.getElem?_map, dget j hj]; rfl
        · exact hown.frozenAt _
      have hcmp : CmpLays1 Tryz.prog 102 #[.pointer (some ⟨pb, 0, none⟩)] (fun x : {k : Nat // k < L.length} => Value.int .i64 (x.1 : Int)) (cfW L) g 0 d.size w := fun m os dk _ x y => by
        obtain ⟨ci, hi⟩ : ∃ c, L[x.1]? = some c := ⟨_, List.getElem?_eq_getElem x.2⟩
        obtain ⟨cj, hj⟩ : ∃ c, L[y.1]? = some c := ⟨_, List.getElem?_eq_getElem y.2⟩
        have a1 := hc _ _ hi
        have a2 := hc _ _ hj
        exact wide1_g (szAt L x.1) (szAt L y.1) _ _ _ ci cj x.1 y.1 L.length b off cap pb _ x.2 y.2 hn (Lib.hid (szAt_some hi).symm) (Lib.hid (szAt_some hj).symm) rfl rfl rfl (sortWorld_cell _ _ _ _ _ _ _ _ hp n1)
          ⟨sortWorld_cell _ _ _ _ _ _ _ _ a1.1 n2, sortWorld_cell _ _ _ _ _ _ _ _ a1.2.1 n2, sortWorld_cell _ _ _ _ _ _ _ _ a1.2.2.1 n2, sortWorld_cell _ _ _ _ _ _ _ _ a1.2.2.2 n2⟩
          ⟨sortWorld_cell _ _ _ _ _ _ _ _ a2.1 n2, sortWorld_cell _ _ _ _ _ _ _ _ a2.2.1 n2, sortWorld_cell _ _ _ _ _ _ _ _ a2.2.2.1 n2, sortWorld_cell _ _ _ _ _ _ _ _ a2.2.2.2 n2⟩
      have hlt : g < w.heap.size := by
        rcases Nat.lt_or_ge g w.heap.size with h | h
        · exact h
        · rw [Array.getElem?_eq_none h] at hheap; cases hheap
      have hcon := Any.slices_SortFunc Tryz.sortF (fun x : {k : Nat // k < L.length} => Value.int .i64 (x.1 : Int)) (fun _ => rfl) (cfW L) (swoW L) 102 #[.pointer (some ⟨pb, 0, none⟩)] g 0 cp d w eg hcmp hH hlt (by omega)
      change Calls Tryz.prog 101 _ _ _ at hcon
      rw [dsz] at hcon
      refine hcon.mono ?_
      rintro e w' ⟨rfl, d', n, os, hperm, hsort, rfl⟩
      obtain ⟨hs1, _, hs3⟩ := hperm
      have hp3 : d'.toList.Perm d.toList := by
        have e1 : (d'.extract 0 ks.length).toList = d'.toList := by rw [show ks.length = d'.size by omega]; simp
        have e2 : (d.extract 0 ks.length).toList = d.toList := by rw [← dsz]; simp
        rw [e1, e2] at hs3; exact hs3
      refine ⟨rfl, sortWorld_grown _ _ _ _ _ _ _, d'.toList.map (·.1), by rw [← dval]; exact hp3.map _, ?_, .inr ⟨g, cp, ?_, ?_, fun j k hk => ?_⟩⟩
      · rw [List.pairwise_map, List.pairwise_iff_getElem]
        intro i j hi hj hij
        have hi' : i < d'.size := by simpa using hi
        have hj' : j < d'.size := by simpa using hj
        have := hsort i j (Nat.zero_le _) hij (by omega)
        rw [ltW, decide_eq_false_iff_not, getElem!_pos d' i hi', getElem!_pos d' j hj'] at this
        simp only [Array.getElem_toList]
        unfold wle
        omega
      · simp; omega
      · have := (sortWorld_grown (fun x : {k : Nat // k < L.length} => Value.int .i64 (x.1 : Int)) w g 0 n d' os).size
        omega
      · have hjl : j < d'.size := by have := (List.getElem?_eq_some_iff.1 hk).1; simpa using this
        unfold sortWorld
        rw [cell?_grow _ _ _ (by rw [size_putRow]; exact hlt)]
        have := cell?_putRow (fun x : {k : Nat // k < L.length} => Value.int .i64 (x.1 : Int)) (Sort.ahead w n) g 0 d d' hH hs1 j hjl
        rw [Nat.zero_add] at this
        rw [this]
        rw [List.getElem?_map] at hk
        have e : d'.toList[j]? = some d'[j]! := by rw [getElem!_pos d' j hjl]; simp [hjl]
        rw [e] at hk
        simp only [Option.map_some, Option.some.injEq] at hk
        rw [hk]
end Go.Proofs

namespace Go.Proofs.Hd
open Go.RowKit Go.Sort Go.Shelf Go.Lib
def sndAt (L : List Cb) (i : Nat) : Bool := match L[i]? with
  | some c => c.snd
  | none => false
theorem sndAt_some {L : List Cb} {k : Nat} {c : Cb} (h : L[k]? = some c) : sndAt L k = c.snd := by unfold sndAt; rw [h]
/-- The places of the sound cubes among the first k. -/
def sI (L : List Cb) (k : Nat) : List Nat := (List.range k).filter (sndAt L)
theorem sI_succ (L : List Cb) (k : Nat) : sI L (k + 1) = if sndAt L k = true then sI L k ++ [k] else sI L k := by
  unfold sI
  rw [List.range_succ, List.filter_append]
  cases h : sndAt L k <;> simp [h]
theorem sI_len (L : List Cb) (k : Nat) : (sI L k).length ≤ k := by
  unfold sI
  exact Nat.le_trans (List.length_filter_le _ _) (by simp)
theorem sI_lt (L : List Cb) : ∀ k ∈ sI L L.length, k < L.length := fun k hk => by
  unfold sI at hk
  simpa using (List.mem_filter.1 hk).1
/-- What pile.widestFirst holds in memory. -/
structure Wd (w wr : World) (v s : Value) (ks : List Nat) : Prop where
  bel : Below w.heap.size w wr
  box : Blk wr w.heap.size 22 #[v]
  own : wr.ownsRow (w.heap.size + 1) 3 1 s ks.length (ints ks)
theorem Wd.on {w wr w2 : World} {v s : Value} {ks : List Nat} (h : Wd w wr v s ks) (hb : Below wr.heap.size wr w2) : Wd w w2 v s ks :=
  ⟨h.bel.trans (hb.mono h.bel.size), h.box.on hb, own_on h.own hb⟩
theorem Wd.append {w wr w2 : World} {v s s' : Value} {ks : List Nat} {k : Nat} (h : Wd w wr v s ks) (hg : wr.grownBy w2 s.ownBlock)
    (hown : w2.ownsRow (w.heap.size + 1) 3 1 s' (ks.length + 1) (ints ks ++ [.int .i64 (k : Int)])) : Wd w w2 v s' (ks ++ [k]) := by
  have hz := h.bel.size
  refine ⟨h.bel.grown hg hz (fun j hj => by have := (h.own.lt j hj).1; omega), h.box.grown hg (own_base h.own (by omega)), ?_⟩
  rw [ints_snoc]; simpa using hown
end Go.Proofs.Hd
namespace Go.Proofs
open Go.RowKit Go.Proofs.Hd Go.Sort Go.Shelf Go.Lib
attribute [local go_sem] uv_nonneg
theorem infoInt : (Tryz.prog.info? 3).map (fun i => (i.zero, i.size, i.bytes)) = some (some (.int .i64 0), 1, 8) := by kernel_rfl
set_option maxHeartbeats 2000000 in
set_option maxRecDepth 100000 in
theorem widest_c (v : Value) (L : List Cb) (w : World) (hl : L.length ≤ 1000000) (hv : Pl w v L) :
    Calls Tryz.prog 79 #[v] w fun e w' => ∃ s ks, e = .returned s ∧ Below w.heap.size w w' ∧ ks.Perm (sI L L.length) ∧ ks.Pairwise (wle L) ∧ PlI w' s ks := by
  rcases hv with ⟨rfl, A, cap, rfl⟩ | ⟨b, off, cap, rfl, hlen, hb, hc⟩
  · have B0 := below1 w (.cells #[.slice A 0 cap] 22)
    have hcon := AnyF.slices_SortFunc_none { Tryz.sortF with } none 0 (.func (.func 102) #[] #[.pointer (some ⟨w.heap.size, 0, none⟩)]) (w.alloc (.cells #[.slice A 0 cap] 22))
    change Calls Tryz.prog 101 _ _ _ at hcon
    go_enter Tryz.func79, Tryz.ntmps79
    go_wp2
    refine wp_loop_rounds 1 ?_
    rw [rounds_succ]
    go_wp2_with (go_at_call 101; refine hcon.mono ?_; rintro e w' ⟨rfl, rfl⟩)
    go_ret
    exact ⟨_, [], rfl, B0, List.Perm.refl _, List.Pairwise.nil, .inl ⟨rfl, _, _, rfl⟩⟩
  · have hlz : (L.length : Int) ≤ 1000000 := by omega
    have HC := Lib.hid hc
    have W0 : Wd w (w.alloc (.cells #[.slice (some ⟨b, off, none⟩) L.length cap] 22)) (.slice (some ⟨b, off, none⟩) L.length cap) (.slice none 0 0) (sI L 0) := ⟨below1 _ _, Blk.new _ _ _, World.ownsRow_nil _ _ _ _⟩
    have HW := Lib.hid W0
    clear hc W0
    go_enter Tryz.func79, Tryz.ntmps79
    go_wp2
    go_loopg [3, 8] L.length (fun gk s i wr => ∃ k : Nat, k ≤ L.length ∧ gk = L.length - k ∧ i = .int .i64 k ∧ Wd w wr (.slice (some ⟨b, off, none⟩) L.length cap) s (sI L k))
    case atStart => exact ⟨0, Nat.zero_le _, rfl, rfl, HW.out⟩
    case round =>
      clear HW
      obtain ⟨k, hk, rfl, rfl, H⟩ := hrel
      by_cases hlt : k < L.length
      · have hltz : (k : Int) < (L.length : Int) := by omega
        obtain ⟨c, hc⟩ : ∃ c, L[k]? = some c := ⟨_, List.getElem?_eq_getElem hlt⟩
        obtain ⟨c0, c1, c2, c3⟩ := (HC.out k c hc).on (w' := wr) H.bel
        have B := Lib.hid hc
        clear hc
        have hb1 := below1 wr (.cells #[.int .u64 (uv c.vh), .int .u64 (uv c.vl), .int .u64 (uv c.ch), .int .u64 (uv c.cl)] 53)
        have H1 := H.on hb1
        clear H
        have hsl := sI_len L k
        cases hs : c.snd with
        | false =>
          have HN : Hid (sI L (k + 1) = sI L k) := Lib.hid (by rw [sI_succ, sndAt_some B.out, hs, if_neg (by simp)])
          go_wp2_with fail
          (with_reducible refine (csound _ c _ hs).mono ?_)
          rintro e w2 ⟨rfl, hb2⟩
          have H2 := H1.on hb2
          clear H1 hb1 hb2 c0 c1 c2 c3
          go_wp2
          go_roundg (L.length - (k + 1))
          case measure => omega
          case rel => exact ⟨k + 1, by omega, rfl, by go_num, by rw [HN.out]; exact H2⟩
        | true =>
          have HN : Hid (sI L (k + 1) = sI L k ++ [k]) := Lib.hid (by rw [sI_succ, sndAt_some B.out, hs, if_pos rfl])
          go_wp2_with fail
          (with_reducible refine (csound _ c _ hs).mono ?_)
          rintro e w2 ⟨rfl, hb2⟩
          have H2 := H1.on hb2
          clear H1 hb1 hb2 c0 c1 c2 c3
          have N3 : Blk (w2.alloc (.cells #[.int .i64 (k : Int)] 3)) w2.heap.size 3 #[.int .i64 (k : Int)] := Blk.new w2 _ _
          have H3 := H2.on (below1 w2 (.cells #[.int .i64 (k : Int)] 3))
          obtain ⟨i0, hi0, hz0, hz1, hz2⟩ := info_parts infoInt
          go_wp2_with (at_builtin; refine wpList_append_lies _ rfl (.tmp 15) (.tmp 17) 36 rfl (w.heap.size + 1) 3 i0 _ 1 8 Tryz.underlying36 hi0 hz0 hz1 hz2 rfl (by decide) _ (sI L k).length (ints (sI L k)) rfl H3.own ⟨w2.heap.size, 0, none⟩ 1 1 [.int .i64 (k : Int)] rfl rfl (World.news_of_block N3) (by intro u hu; simp only [List.mem_singleton] at hu; subst hu; rfl) (by omega) (by unfold maxLen; omega) (by omega) (H3.box.lt) _ rfl ?_)
          intro g2 cap2 w4 hown hgrow hat hgl
          have H4 := H3.append hgrow hown
          clear H2 H3 N3 hi0 hz0 hz1 hz2 hown hgrow hat hgl
          go_wp2
          go_roundg (L.length - (k + 1))
          case measure => omega
          case rel => exact ⟨k + 1, by omega, rfl, by go_num, by rw [HN.out]; exact H4⟩
      · have hltz : ¬ (k : Int) < (L.length : Int) := by omega
        obtain rfl : k = L.length := by omega
        have hsl := sI_len L L.length
        have hcon := wide_sort L _ (sI L L.length) (w.heap.size + 1) b off cap w.heap.size wr hlen H.own (sI_lt L) (by omega) (H.box.cell 0) (fun k c hk => (HC.out k c hk).on H.bel) (own_base H.own (by omega)) (own_base H.own (by omega))
        have HB : Hid (∀ w', wr.grownBy w' u3.ownBlock → Below w.heap.size w w') := fun w' hg => H.bel.grown hg H.bel.size (fun j hj => by have := (H.own.lt j hj).1; omega)
        clear H HC
        go_wp2_with (go_at_call 101; refine hcon.mono ?_; rintro e w' ⟨rfl, hg, ks', hp1, hp2, hp3⟩)
        go_ret
        exact ⟨_, ks', rfl, HB.out _ hg, hp1, hp2, hp3⟩
end Go.Proofs

namespace Go.Proofs.Hd
open Go.RowKit
theorem szAt_size {L : List Cb} {k : Nat} {c : Cb} (h : L[k]? = some c) : szAt L k = (c.size : Int) := by
  rw [szAt_some h]
  have : c.size = ones c.ch + ones c.cl := cnt_128 c.ch c.cl
  rw [this]
def witAt (L : List Cb) (n k : Nat) : Bool := match L[n]?, L[k]? with
  | some a, some b => a.wit b
  | _, _ => false
theorem witAt_some {L : List Cb} {n k : Nat} {a b : Cb} (h1 : L[n]? = some a) (h2 : L[k]? = some b) : witAt L n k = a.wit b := by unfold witAt; rw [h1, h2]
theorem witAt_true {L : List Cb} {n k : Nat} {a : Cb} (h1 : L[n]? = some a) (h : witAt L n k = true) : ∃ b, L[k]? = some b ∧ a.wit b = true := by
  unfold witAt at h
  rw [h1] at h
  cases h2 : L[k]? with
  | none => rw [h2] at h; cases h
  | some b => rw [h2] at h; exact ⟨b, rfl, h⟩
theorem sI_mem {L : List Cb} {k : Nat} : k ∈ sI L L.length ↔ ∃ c, L[k]? = some c ∧ c.snd = true := by
  unfold sI
  rw [List.mem_filter, List.mem_range]
  constructor
  · rintro ⟨h1, h2⟩
    refine ⟨_, List.getElem?_eq_getElem h1, ?_⟩
    rw [← sndAt_some (List.getElem?_eq_getElem h1)]; exact h2
  · rintro ⟨c, hc, hs⟩
    exact ⟨(List.getElem?_eq_some_iff.1 hc).1, by rw [sndAt_some hc]; exact hs⟩
theorem sI_nodup (L : List Cb) (n : Nat) : (sI L n).Nodup := List.Nodup.sublist List.filter_sublist List.nodup_range
theorem sI_sorted (L : List Cb) (n : Nat) : (sI L n).Pairwise (· < ·) := List.Pairwise.sublist List.filter_sublist List.pairwise_lt_range
/-- What was ahead of place i, if it is to be ahead by the order. -/
theorem ahead_of {L : List Cb} {ks : List Nat} (hs : ks.Pairwise (wle L)) {i n m : Nat} (hn : ks[i]? = some n) (hm : m ∈ ks) (hne : m ≠ n) (hle : wle L m n) : m ∈ ks.take i := by
  obtain ⟨j, hj⟩ := List.mem_iff_getElem?.1 hm
  obtain ⟨hj1, hj2⟩ := List.getElem?_eq_some_iff.1 hj
  obtain ⟨hi1, hi2⟩ := List.getElem?_eq_some_iff.1 hn
  rcases Nat.lt_trichotomy j i with h | h | h
  · refine List.mem_iff_getElem?.2 ⟨j, ?_⟩
    rw [List.getElem?_take_of_lt h]; exact hj
  · subst h; exact absurd (hj2.symm.trans hi2) hne
  · have := (List.pairwise_iff_getElem.1 hs) i j hi1 hj1 h
    rw [hi2, hj2] at this
    unfold wle at this hle
    exact absurd (show m = n by omega) hne
theorem behind_of {L : List Cb} {ks : List Nat} (hnd : ks.Nodup) (hs : ks.Pairwise (wle L)) {i n m : Nat} (hn : ks[i]? = some n) (hm : m ∈ ks.take i) : m ≠ n ∧ wle L m n := by
  obtain ⟨j, hj⟩ := List.mem_iff_getElem?.1 hm
  have hji : j < i := by
    have := (List.getElem?_eq_some_iff.1 hj).1
    simp at this; omega
  rw [List.getElem?_take_of_lt hji] at hj
  obtain ⟨hj1, hj2⟩ := List.getElem?_eq_some_iff.1 hj
  obtain ⟨hi1, hi2⟩ := List.getElem?_eq_some_iff.1 hn
  refine ⟨fun e => ?_, ?_⟩
  · have := (List.pairwise_iff_getElem.1 hnd) j i hj1 hi1 hji
    rw [hj2, hi2] at this; exact this e
  · have := (List.pairwise_iff_getElem.1 hs) j i hj1 hi1 hji
    rw [hj2, hi2] at this; exact this
/-- The places that are kept so far. -/
def keptOf (L : List Cb) (ks : List Nat) (i : Nat) : List Nat := (ks.take i).filter fun m => !spare L m
theorem spare_kept {L : List Cb} {ks : List Nat} (hp : ks.Perm (sI L L.length)) (hs : ks.Pairwise (wle L)) {i n : Nat} (hn : ks[i]? = some n) : ((keptOf L ks i).any fun k => witAt L n k) = spare L n := by
  have hnd : ks.Nodup := hp.symm.nodup (sI_nodup L _)
  obtain ⟨a, ha, has⟩ := sI_mem.1 (hp.mem_iff.1 (List.mem_of_getElem? hn))
  rw [Bool.eq_iff_iff, List.any_eq_true]
  constructor
  · rintro ⟨k, hk, hw⟩
    unfold keptOf at hk
    obtain ⟨hk1, hk2⟩ := List.mem_filter.1 hk
    obtain ⟨b, hb, hwb⟩ := witAt_true ha hw
    obtain ⟨hne, hle⟩ := behind_of hnd hs hn hk1
    refine (spare_iff ha).2 ⟨k, b, hb, hne, hwb, ?_⟩
    by_cases e : a = b
    · right
      subst e
      unfold wle at hle
      rw [szAt_size ha, szAt_size hb] at hle
      omega
    · exact .inl e
  · intro hsp
    obtain ⟨k, b, hb, hkn, hwb, hor⟩ := (spare_iff ha).1 hsp
    have hbs := ((Cb.wit_iff a b).1 hwb).2.1
    obtain ⟨c, hc, hwc⟩ := kept_over (L := L) b.size k b (Nat.le_refl _) hb hbs
    obtain ⟨m, hm, hms⟩ := leanL_mem.1 hc
    have hac := wit_trans hwb hwc
    have hcs := ((Cb.wit_iff b c).1 hwc).2.1
    have hmn : m ≠ n := fun e => by subst e; rw [hsp] at hms; cases hms
    have hle : wle L m n := by
      unfold wle
      rw [szAt_size ha, szAt_size hm]
      have s1 := wit_size hwb
      have s2 := wit_size hwc
      by_cases hlt : c.size < a.size
      · left; omega
      · right
        have e1 := wit_same_size hwb (by omega)
        have e2 := wit_same_size hwc (by omega)
        subst e1 e2
        refine ⟨rfl, ?_⟩
        rcases Nat.lt_or_ge n m with h | h
        · exfalso
          have := (spare_iff hm).2 ⟨n, a, ha, fun e => hmn e.symm, wit_self has, .inr h⟩
          rw [this] at hms; cases hms
        · exact h
    refine ⟨m, List.mem_filter.2 ⟨ahead_of hs hn (hp.mem_iff.2 (sI_mem.2 ⟨c, hm, hcs⟩)) hmn hle, by rw [hms]; rfl⟩, ?_⟩
    rw [witAt_some ha hm]; exact hac
theorem keptOf_succ {L : List Cb} {ks : List Nat} {i n : Nat} (hn : ks[i]? = some n) : keptOf L ks (i + 1) = if spare L n = true then keptOf L ks i else keptOf L ks i ++ [n] := by
  obtain ⟨hi, rfl⟩ := List.getElem?_eq_some_iff.1 hn
  unfold keptOf
  rw [List.take_succ_eq_append_getElem hi, List.filter_append]
  cases h : spare L ks[i] <;> simp [h]
/-- The places of the cubes that remain, in order. -/
def leanI (L : List Cb) : List Nat := (sI L L.length).filter fun m => !spare L m
/-- A list without cubes that are not sound, and without those that lie within others. -/
def leanS (L : List Cb) : List Cb := (leanI L).filterMap fun i => L[i]?
theorem leanI_lt {L : List Cb} {i : Nat} (h : i ∈ leanI L) : i < L.length := sI_lt L i (List.mem_filter.1 h).1
theorem leanS_len (L : List Cb) : (leanS L).length = (leanI L).length := by
  unfold leanS
  have : ∀ I : List Nat, (∀ i ∈ I, i < L.length) → (I.filterMap fun i => L[i]?).length = I.length := by
    intro I
    induction I with
    | nil => intro _; rfl
    | cons i I ih =>
      intro h
      rw [List.filterMap_cons_some (List.getElem?_eq_getElem (h i (by simp)))]
      simp [ih (fun j hj => h j (by simp [hj]))]
  exact this _ (fun i hi => leanI_lt hi)
theorem keptOf_all {L : List Cb} {ks : List Nat} (hp : ks.Perm (sI L L.length)) : (keptOf L ks ks.length).Perm (leanI L) := by
  unfold keptOf leanI
  rw [List.take_length]
  exact hp.filter _
theorem keptOf_le {L : List Cb} {ks : List Nat} (hp : ks.Perm (sI L L.length)) (i : Nat) : (keptOf L ks i).length ≤ (leanS L).length := by
  rw [leanS_len, ← (keptOf_all hp).length_eq]
  unfold keptOf
  rw [List.take_length]
  exact ((List.take_sublist i ks).filter _).length_le
theorem keptOf_lt {L : List Cb} {ks : List Nat} {k : Nat} (hp : ks.Perm (sI L L.length)) (i : Nat) (h : k ∈ keptOf L ks i) : k < L.length := by
  unfold keptOf at h
  exact sI_lt L k (hp.mem_iff.1 (List.mem_of_mem_take (List.mem_filter.1 h).1))
theorem kept_sorted {L : List Cb} {ks : List Nat} (hp : ks.Perm (sI L L.length)) : (((keptOf L ks ks.length).map fun (k : Nat) => (k : Int)).mergeSort fun x y => decide (x ≤ y)) = (leanI L).map fun (k : Nat) => (k : Int) := by
  have tr : ∀ a b c : Int, (decide (a ≤ b)) = true → (decide (b ≤ c)) = true → (decide (a ≤ c)) = true := fun a b c h1 h2 => by simp at *; omega
  have tot : ∀ a b : Int, ((decide (a ≤ b)) || (decide (b ≤ a))) = true := fun a b => by simp; omega
  refine List.Perm.eq_of_pairwise (le := fun a b => decide (a ≤ b) = true) (fun a b _ _ h1 h2 => by simp at h1 h2; omega) (List.pairwise_mergeSort tr tot _) ?_ ((List.mergeSort_perm _ _).trans ((keptOf_all hp).map _))
  rw [List.pairwise_map]
  have : (leanI L).Pairwise (· < ·) := List.Pairwise.sublist List.filter_sublist (sI_sorted L _)
  exact this.imp fun {a b} h => by simp; omega
theorem leanS_mem {L : List Cb} {c : Cb} : c ∈ leanS L ↔ ∃ i, L[i]? = some c ∧ c.snd = true ∧ spare L i = false := by
  unfold leanS leanI
  rw [List.mem_filterMap]
  constructor
  · rintro ⟨i, hi, hc⟩
    obtain ⟨h1, h2⟩ := List.mem_filter.1 hi
    obtain ⟨d, hd, hs⟩ := sI_mem.1 h1
    rw [hc] at hd; injection hd with hd; subst hd
    exact ⟨i, hc, hs, by simpa using h2⟩
  · rintro ⟨i, hi, hs, hsp⟩
    exact ⟨i, List.mem_filter.2 ⟨sI_mem.2 ⟨c, hi, hs⟩, by rw [hsp]; rfl⟩, hi⟩
/-- The first k that remain. -/
theorem leanS_take (L : List Cb) (k i : Nat) (c : Cb) (hi : (leanI L)[k]? = some i) (hc : L[i]? = some c) : ((leanI L).take (k + 1)).filterMap (fun i => L[i]?) = ((leanI L).take k).filterMap (fun i => L[i]?) ++ [c] := by
  obtain ⟨hk, rfl⟩ := List.getElem?_eq_some_iff.1 hi
  rw [List.take_succ_eq_append_getElem hk, List.filterMap_append]
  congr 1
  simp [hc]
theorem take_len (L : List Cb) (k : Nat) (hk : k ≤ (leanI L).length) : (((leanI L).take k).filterMap (fun i => L[i]?)).length = k := by
  induction k with
  | zero => simp
  | succ k ih =>
    have hi := List.getElem?_eq_getElem (l := leanI L) (i := k) (by omega)
    rw [leanS_take L k _ _ hi (List.getElem?_eq_getElem (leanI_lt (List.mem_of_getElem? hi)))]
    simp [ih (by omega)]
end Go.Proofs.Hd

namespace Go.Proofs
open Go.RowKit Go.Proofs.Hd Go.Sort Go.Shelf Go.Lib
attribute [local go_sem] uv_nonneg
set_option maxHeartbeats 2000000 in
set_option maxRecDepth 100000 in
theorem idx_ints (g : Nat) (lb : Array Value) (q : Nat → Bool) (eg : ∀ args w, (callFunc g args).run Tryz.prog w = .ok (.enter g args) w) (v : Value) (ks : List Nat) (w : World) (r : Int) (hr : IdxIs q ks r) (hlen : ks.length ≤ 1000000)
    (hp : ∀ (W : World) (k : Nat), k ∈ ks → Below w.heap.size w W → Calls Tryz.prog g (#[.int .i64 (k : Int)] ++ lb) W fun e w' => e = .returned (.bool (q k)) ∧ Below w.heap.size w w') (hv : PlI w v ks) :
    Calls Tryz.prog 106 #[v, .func (.func g) #[] lb] w fun e w' => e = .returned (.int .i64 r) ∧ Below w.heap.size w w' := by
  rcases hv with ⟨rfl, A, cap, rfl⟩ | ⟨b, cap, rfl, hb, hc⟩
  · obtain rfl : r = -1 := hr.miss (fun j d h => by simp at h)
    clear hp hr
    go_enter Tryz.func106, Tryz.ntmps106
    go_wp2
    refine wp_loop_rounds 1 ?_
    rw [rounds_succ]
    go_wp2
    go_ret
    exact ⟨rfl, Below.refl _ _⟩
  · have HR := Lib.hid hr
    have HC := Lib.hid hc
    have HP := Lib.hid hp
    have hl : (ks.length : Int) ≤ 1000000 := by omega
    clear hr hc hp
    go_enter Tryz.func106, Tryz.ntmps106
    go_wp2
    go_loopg [5, 8] ks.length (fun gg _ s8 wr => ∃ kk : Nat, kk ≤ ks.length ∧ ks.length - kk ≤ gg ∧ s8 = .int .i64 kk ∧ Hid (Below w.heap.size w wr) ∧ Hid (∀ (j d : Nat), j < kk → ks[j]? = some d → q d = false))
    case atStart => exact ⟨0, Nat.zero_le _, by omega, rfl, Below.refl _ w, fun j d hj => absurd hj (Nat.not_lt_zero _)⟩
    case round =>
      obtain ⟨kk, hkk, hg, rfl, BW, A⟩ := hrel
      by_cases hlt : kk < ks.length
      · have hltz : (kk : Int) < (ks.length : Int) := by omega
        obtain ⟨c, hc⟩ : ∃ c, ks[kk]? = some c := ⟨_, List.getElem?_eq_getElem hlt⟩
        have c0 := (BW.out.cell (p := ⟨b, kk, none⟩) hb).trans (HC.out kk c hc)
        have hcall := HP.out wr c (List.mem_of_getElem? hc) BW.out
        have B := Lib.hid hc
        clear HP HC hc
        cases hq : q c with
        | true =>
          rw [hq] at hcall
          go_wp2_with (go_at_fn g; refine hcall.mono ?_; rintro e w' ⟨rfl, hb'⟩)
          go_ret
          exact ⟨by rw [HR.out.hit B.out hq A.out]; rfl, hb'⟩
        | false =>
          rw [hq] at hcall
          go_wp2_with (go_at_fn g; refine hcall.mono ?_; rintro e w' ⟨rfl, hb'⟩)
          go_roundg (ks.length - (kk + 1))
          case measure => omega
          case rel =>
            refine ⟨kk + 1, by omega, by omega, by go_num, hb', fun j d hj hd => ?_⟩
            by_cases e : j = kk
            · subst e
              have := B.out
              rw [hd] at this; injection this with this; subst this; exact hq
            · exact A.out j d (by omega) hd
      · have hltz : ¬ (kk : Int) < (ks.length : Int) := by omega
        have hk : kk = ks.length := by omega
        have := HR.out.miss (fun j d hd => A.out j d (by rw [hk]; exact (List.getElem?_eq_some_iff.1 hd).1) hd)
        subst this
        go_wp2
        go_ret
        exact ⟨rfl, BW.out⟩
theorem cont_ints (g : Nat) (lb : Array Value) (q : Nat → Bool) (eg : ∀ args w, (callFunc g args).run Tryz.prog w = .ok (.enter g args) w) (v : Value) (ks : List Nat) (w : World) (x : Bool) (hx : ks.any q = x) (hlen : ks.length ≤ 1000000)
    (hp : ∀ (W : World) (k : Nat), k ∈ ks → Below w.heap.size w W → Calls Tryz.prog g (#[.int .i64 (k : Int)] ++ lb) W fun e w' => e = .returned (.bool (q k)) ∧ Below w.heap.size w w') (hv : PlI w v ks) :
    Calls Tryz.prog 81 #[v, .func (.func g) #[] lb] w fun e w' => e = .returned (.bool x) ∧ Below w.heap.size w w' := by
  obtain ⟨r, hr⟩ := IdxIs.ex q ks
  have hcon := idx_ints g lb q eg v ks w r hr hlen hp hv
  have ha := hr.any
  rw [hx] at ha
  subst ha
  clear hr hx hp hv
  go_enter Tryz.func81, Tryz.ntmps81
  go_wp2_with (go_at_call 106; refine hcon.mono ?_; rintro e w' ⟨rfl, hb'⟩)
  go_ret
  exact ⟨rfl, hb'⟩
set_option maxHeartbeats 2000000 in
set_option maxRecDepth 100000 in
theorem cov1_c (x : Bool) (ci cj : Cb) (i j n b off cap pb nb : Nat) (w : World) (hx : ci.wit cj = x) (hi : i < n) (hj : j < n) (hn : n ≤ maxLen)
    (hp : w.cell? ⟨pb, 0, none⟩ = some (.slice (some ⟨b, off, none⟩) n cap)) (hq : w.cell? ⟨nb, 0, none⟩ = some (.int .i64 (i : Int))) (h1 : At4 w b (off + i * 4) ci) (h2 : At4 w b (off + j * 4) cj) :
    Calls Tryz.prog 80 #[.int .i64 j, .pointer (some ⟨pb, 0, none⟩), .pointer (some ⟨nb, 0, none⟩)] w fun e w' => e = .returned (.bool x) ∧ Below w.heap.size w w' := by
  have hiz : (i : Int) < (n : Int) := by omega
  have hjz : (j : Int) < (n : Int) := by omega
  have hnz : (n : Int) ≤ 9223372036854775807 := by unfold maxLen at hn; omega
  obtain ⟨a0, a1, a2, a3⟩ := h1
  obtain ⟨b0, b1, b2, b3⟩ := h2
  have HX := Lib.hid hx
  clear hx
  go_enter Tryz.func80, Tryz.ntmps80
  go_wp2_with fail
  go_region_held3 (fun w' => Below w.heap.size w w' ∧ w'.cell? ⟨pb, 0, none⟩ = some (.slice (some ⟨b, off, none⟩) n cap) ∧ w'.cell? ⟨nb, 0, none⟩ = some (.int .i64 (i : Int)) ∧ w'.cell? ⟨b, off + i * 4, none⟩ = some (.int .u64 (uv ci.vh)) ∧ w'.cell? ⟨b, off + i * 4 + 1, none⟩ = some (.int .u64 (uv ci.vl)) ∧ w'.cell? ⟨b, off + i * 4 + 2, none⟩ = some (.int .u64 (uv ci.ch)) ∧ w'.cell? ⟨b, off + i * 4 + 3, none⟩ = some (.int .u64 (uv ci.cl)) ∧ w'.cell? ⟨b, off + j * 4, none⟩ = some (.int .u64 (uv cj.vh)) ∧ w'.cell? ⟨b, off + j * 4 + 1, none⟩ = some (.int .u64 (uv cj.vl)) ∧ w'.cell? ⟨b, off + j * 4 + 2, none⟩ = some (.int .u64 (uv cj.ch)) ∧ w'.cell? ⟨b, off + j * 4 + 3, none⟩ = some (.int .u64 (uv cj.cl)))
    (first
      | exact hold10 (by assumption) (by assumption)
      | exact ⟨(Below.refl _ _).drew, hp, hq, a0, a1, a2, a3, b0, b1, b2, b3⟩)
    (first
      | (go_at_call 71; (with_reducible refine (cwithin _ ci cj _ HX.out).mono ?_); rintro e w' ⟨rfl, hb⟩))
  go_wp2
  go_ret
  exact ⟨rfl, And.left (by assumption)⟩
theorem sort_c (v : Value) (ks ks' : List Nat) (base : Nat) (w : World) (hown : w.ownsRow base 3 1 v ks.length (ints ks)) (hsz : ks.length ≤ 1000000) (hk : ((ks.map fun (k : Nat) => (k : Int)).mergeSort fun x y => decide (x ≤ y)) = ks'.map fun (k : Nat) => (k : Int)) :
    Calls Tryz.prog 59 #[v] w fun e w' => e = .returned (.tuple #[]) ∧ w.grownBy w' v.ownBlock ∧ PlI w' v ks' := by
  have hl : ks'.length = ks.length := by
    have := congrArg List.length hk
    simpa [List.length_mergeSort] using this.symm
  have none_case : ∀ A cap, v = .slice A 0 cap → ks = [] → Calls Tryz.prog 59 #[v] w fun e w' => e = .returned (.tuple #[]) ∧ w.grownBy w' v.ownBlock ∧ PlI w' v ks' := by
    rintro A cap rfl rfl
    have e : ks' = [] := List.eq_nil_of_length_eq_zero hl
    subst e
    have hcon := Any.slices_Sort_int_none Tryz.sortI A cap w
    change Calls Tryz.prog 59 _ _ _ at hcon
    refine hcon.mono ?_
    rintro e w' ⟨rfl, rfl⟩
    exact ⟨rfl, ⟨rfl, rfl, rfl, Nat.le_refl _, fun _ _ _ => rfl⟩, .inl ⟨rfl, _, _, rfl⟩⟩
  rcases hown.2 with ⟨rfl, h0⟩ | ⟨g, cp, cur, hv, hge, hheap, _⟩
  · exact none_case none 0 rfl (List.eq_nil_of_length_eq_zero h0)
  · by_cases h0 : ks = []
    · exact none_case (some ⟨g, 0, none⟩) cp (by rw [hv, h0]; rfl) h0
    · subst hv
      have hlt : g < w.heap.size := by
        rcases Nat.lt_or_ge g w.heap.size with h | h
        · exact h
        · rw [Array.getElem?_eq_none h] at hheap; cases hheap
      have hH : Holds (Value.int .i64) w g 0 (ks.map fun (k : Nat) => (k : Int)).toArray := fun j hj => by
        have hj' : j < ks.length := by simpa using hj
        constructor
        · rw [Nat.zero_add, hown.cellAt j (by omega)]
          unfold ints
          rw [List.getElem?_map, List.getElem?_eq_getElem hj', getElem!_pos _ j hj]
          simp
        · exact hown.frozenAt _
      have hcon := Any.slices_Sort_int Tryz.sortI g 0 cp (ks.map fun (k : Nat) => (k : Int)) w hH hlt (by simp; omega)
      change Calls Tryz.prog 59 _ _ _ at hcon
      rw [hk, List.length_map] at hcon
      refine hcon.mono ?_
      rintro e w' ⟨rfl, n, os, rfl⟩
      have hg := sortWorld_grown (Value.int .i64) w g 0 n (ks'.map fun (k : Nat) => (k : Int)).toArray os
      refine ⟨rfl, hg, .inr ⟨g, cp, by rw [hl], Nat.lt_of_lt_of_le hlt hg.size, fun j k hk => ?_⟩⟩
      have hjl : j < ks'.length := (List.getElem?_eq_some_iff.1 hk).1
      rw [cell?_grow _ _ _ (by rw [size_putRow]; exact hlt)]
      have := cell?_putRow (Value.int .i64) (Sort.ahead w n) g 0 (ks.map fun (k : Nat) => (k : Int)).toArray (ks'.map fun (k : Nat) => (k : Int)).toArray hH (by simp [hl]) j (by simpa using hjl)
      rw [Nat.zero_add] at this
      rw [this, getElem!_pos _ j (by simpa using hjl)]
      have e := (List.getElem?_eq_some_iff.1 hk).2
      simp [e]
end Go.Proofs

namespace Go.Proofs.Hd
open Go.RowKit
theorem flat_one (L : List Cb) : ∀ u ∈ flat L, u.oneCell' = true := by
  induction L with
  | nil => intro u hu; simp [flat] at hu
  | cons c L ih =>
    intro u hu
    have : u ∈ c.cells ++ flat L := by simpa [flat] using hu
    rcases List.mem_append.1 this with h | h
    · simp only [Cb.cells, List.mem_cons, List.not_mem_nil, or_false] at h
      rcases h with rfl | rfl | rfl | rfl <;> rfl
    · exact ih u h
theorem Pl.src {w : World} {v : Value} {L : List Cb} (h : Pl w v L) : Src w 4 v L.length (flat L) := by
  refine ⟨flat_len L, flat_one L, ?_⟩
  rcases h with ⟨rfl, A, cap, rfl⟩ | ⟨b, off, cap, rfl, hlen, hb, hc⟩
  · cases A with
    | none => exact .inl ⟨rfl, cap, rfl⟩
    | some ad => exact .inr ⟨ad, cap, rfl, fun j u hu => by simp [flat] at hu⟩
  · refine .inr ⟨_, cap, rfl, fun j u hu => ?_⟩
    have hj : j < L.length * 4 := by rw [← flat_len]; exact (List.getElem?_eq_some_iff.1 hu).1
    have hk : j / 4 < L.length := by omega
    have hg := flat_get L (j / 4) hk (j % 4) (Nat.mod_lt _ (by omega))
    rw [show j / 4 * 4 + j % 4 = j by omega, hu] at hg
    have h4 := hc (j / 4) _ (List.getElem?_eq_getElem hk)
    have e : (⟨b, off, none⟩ : Addr).add j = ⟨b, off + j / 4 * 4 + j % 4, none⟩ := by
      unfold Addr.add
      by_cases h0 : j = 0
      · subst h0; rfl
      · rw [if_neg h0]; simp; omega
    rw [e]
    obtain ⟨h0, h1, h2, h3⟩ := h4
    have hm : j % 4 = 0 ∨ j % 4 = 1 ∨ j % 4 = 2 ∨ j % 4 = 3 := by omega
    rcases hm with hm | hm | hm | hm <;> rw [hm] at hg ⊢
    · rw [Nat.add_zero, h0]; exact hg.symm
    · rw [h1]; exact hg.symm
    · rw [h2]; exact hg.symm
    · rw [h3]; exact hg.symm
theorem Pl.form {w : World} {v : Value} {L : List Cb} (h : Pl w v L) : ∃ A cap, v = .slice A L.length cap ∧ L.length ≤ maxLen ∧ (L ≠ [] → ∃ b off, A = some ⟨b, off, none⟩ ∧ b < w.heap.size ∧ ∀ (k : Nat) (c : Cb), L[k]? = some c → At4 w b (off + k * 4) c) := by
  rcases h with ⟨rfl, A, cap, rfl⟩ | ⟨b, off, cap, rfl, hlen, hb, hc⟩
  · exact ⟨A, cap, rfl, by simp [maxLen], fun h => absurd rfl h⟩
  · exact ⟨_, cap, rfl, hlen, fun _ => ⟨b, off, rfl, hb, hc⟩⟩
theorem own_Pl {w : World} {base : Nat} {v : Value} {L : List Cb} (h : w.ownsRow base 53 4 v L.length (flat L)) : Pl w v L := by
  rcases h.2 with ⟨rfl, h0⟩ | ⟨g, cap, cur, hv, hge, hheap, hlc, hcm, _⟩
  · exact .inl ⟨List.eq_nil_of_length_eq_zero h0, _, _, rfl⟩
  · subst hv
    refine .inr ⟨g, 0, cap, rfl, Nat.le_trans hlc hcm, (h.lt g rfl).2, fun k c hc => ?_⟩
    rw [Nat.zero_add]
    exact ⟨own_at h k hc 0 (by omega), own_at h k hc 1 (by omega), own_at h k hc 2 (by omega), own_at h k hc 3 (by omega)⟩
theorem ne_nil_of {α : Type} {L : List α} {k : Nat} {c : α} (h : L[k]? = some c) : L ≠ [] := fun e => by rw [e] at h; simp at h
end Go.Proofs.Hd

namespace Go.Proofs.Hd
open Go.RowKit
theorem own_PlI {w : World} {base : Nat} {v : Value} {ks : List Nat} (h : w.ownsRow base 3 1 v ks.length (ints ks)) : PlI w v ks := by
  rcases h.2 with ⟨rfl, h0⟩ | ⟨g, cap, cur, hv, hge, hheap, _⟩
  · exact .inl ⟨List.eq_nil_of_length_eq_zero h0, _, _, rfl⟩
  · subst hv
    refine .inr ⟨g, cap, rfl, (h.lt g rfl).2, fun j k hk => ?_⟩
    have hj := (List.getElem?_eq_some_iff.1 hk).1
    rw [h.cellAt j (by omega)]
    unfold ints
    rw [List.getElem?_map, hk]; rfl
theorem PlI.at {w : World} {v : Value} {ks : List Nat} (h : PlI w v ks) : ∃ A cap, v = .slice A ks.length cap ∧ (ks ≠ [] → ∃ g, A = some ⟨g, 0, none⟩ ∧ g < w.heap.size ∧ ∀ (j k : Nat), ks[j]? = some k → w.cell? ⟨g, j, none⟩ = some (.int .i64 (k : Int))) := by
  rcases h with ⟨rfl, A, cap, rfl⟩ | ⟨g, cap, rfl, hg, hc⟩
  · exact ⟨A, cap, rfl, fun h => absurd rfl h⟩
  · exact ⟨_, cap, rfl, fun _ => ⟨g, rfl, hg, hc⟩⟩
end Go.Proofs.Hd
namespace Go.Proofs
open Go.RowKit Go.Proofs.Hd Go.Sort Go.Shelf Go.Lib
attribute [local go_sem] uv_nonneg
set_option maxHeartbeats 4000000 in
set_option maxRecDepth 100000 in
theorem leanUp_c (limit : Nat) (v : Value) (L : List Cb) (w : World) (hl : L.length ≤ 1000000) (hm : limit ≤ 1000000) (hv : Pl w v L) :
    Calls Tryz.prog 61 #[.int .i64 (limit : Int), v] w fun e w' => Below w.heap.size w w' ∧ (((leanS L).length ≤ limit ∧ ∃ s, e = .returned (.tuple #[s, .int .i64 0]) ∧ w'.ownsRow w.heap.size 53 4 s (leanS L).length (flat (leanS L))) ∨ (limit < (leanS L).length ∧ e = .returned (.tuple #[.slice none 0 0, .int .i64 10]))) := by
  obtain ⟨A, cap, rfl, hlen, hA⟩ := hv.form
  have HV := Lib.hid hv
  clear hv
  have hb0 := below1 w (.cells #[.slice A L.length cap] 22)
  have X0 := Blk.new w 22 #[.slice A L.length cap]
  have hcon := widest_c _ L _ hl (HV.out.on hb0)
  clear HV
  go_enter Tryz.func61, Tryz.ntmps61
  go_wp2_with fail
  refine hcon.mono ?_
  rintro e wA ⟨s, ks, rfl, hbA, hp, hs, PI⟩
  have BA : Below w.heap.size w wA := hb0.trans (hbA.mono hb0.size)
  have XA := X0.on hbA
  have HP := Lib.hid hp
  have HS := Lib.hid hs
  have hkl : ks.length ≤ L.length := by rw [hp.length_eq]; exact sI_len L _
  obtain ⟨SA, scap, rfl, hSA⟩ := PI.at
  have HC : Hid (∀ (k : Nat) (c : Cb), L[k]? = some c → ∃ b off, A = some ⟨b, off, none⟩ ∧ b < wA.heap.size ∧ ∀ (k : Nat) (c : Cb), L[k]? = some c → At4 wA b (off + k * 4) c) := fun k c hc => by
    obtain ⟨b, off, e, hb, h⟩ := hA (ne_nil_of hc)
    exact ⟨b, off, e, Nat.lt_of_lt_of_le hb BA.size, fun k c hc => (h k c hc).on BA⟩
  have HSA := Lib.hid hSA
  have zA : w.heap.size < wA.heap.size := XA.lt
  have HX := Lib.hid XA
  have HBA := Lib.hid BA
  clear hb0 X0 hcon hbA hp hs PI hA hSA XA BA
  have hkz : (ks.length : Int) ≤ 1000000 := by omega
  have hlz : (L.length : Int) ≤ 1000000 := by omega
  have hmz : (limit : Int) ≤ 1000000 := by omega
  go_wp2_with fail
  go_loopg [6, 16] ks.length (fun gk s6 s16 wr => ∃ i : Nat, i ≤ ks.length ∧ gk = ks.length - i ∧ s16 = .int .i64 i ∧ Below wA.heap.size wA wr ∧ wr.ownsRow wA.heap.size 3 1 s6 (keptOf L ks i).length (ints (keptOf L ks i)) ∧ (keptOf L ks i).length ≤ limit)
  case atStart => exact ⟨0, Nat.zero_le _, rfl, rfl, Below.refl _ _, by simp [keptOf, ints]; exact World.ownsRow_nil _ _ _ _, by simp [keptOf]⟩
  case round =>
    obtain ⟨i, hi, rfl, rfl, B, O, hk⟩ := hrel
    have hkl2 : (keptOf L ks i).length ≤ i := by unfold keptOf; exact Nat.le_trans (List.length_filter_le _ _) (by simp; omega)
    by_cases hlt : i < ks.length
    · have hltz : (i : Int) < (ks.length : Int) := by omega
      obtain ⟨n, hn⟩ : ∃ n, ks[i]? = some n := ⟨_, List.getElem?_eq_getElem hlt⟩
      obtain ⟨a, ha, has⟩ := sI_mem.1 (HP.out.mem_iff.1 (List.mem_of_getElem? hn))
      obtain ⟨g, rfl, hg, hsc⟩ := HSA.out (ne_nil_of hn)
      obtain ⟨b, off, rfl, hb, hpc⟩ := HC.out n a ha
      have hnl : n < L.length := (List.getElem?_eq_some_iff.1 ha).1
      have c0 := on_some B (hsc i n hn)
      have hb1 := below1 wr (.cells #[.int .i64 (n : Int)] 3)
      have N1 := Blk.new wr 3 #[.int .i64 (n : Int)]
      have B1 := B.trans (hb1.mono B.size)
      have O1 := own_on O hb1
      have eg : ∀ args w, (callFunc 80 args).run Tryz.prog w = .ok (.enter 80 args) w := enters_of Tryz.func80 (by kernel_rfl) rfl
      have hcon := cont_ints 80 #[.pointer (some ⟨w.heap.size, 0, none⟩), .pointer (some ⟨wr.heap.size, 0, none⟩)] (fun k => witAt L n k) eg _ (keptOf L ks i) (wr.alloc (.cells #[.int .i64 (n : Int)] 3)) (spare L n) (spare_kept HP.out HS.out hn) (by omega)
        (fun W k hkm hW => by
          obtain ⟨d, hd⟩ : ∃ d, L[k]? = some d := ⟨_, List.getElem?_eq_getElem (keptOf_lt HP.out i hkm)⟩
          have hBW : Below wA.heap.size wA W := B1.trans (hW.mono B1.size)
          exact (cov1_c (witAt L n k) a d n k L.length b off cap w.heap.size wr.heap.size W (witAt_some ha hd).symm hnl (keptOf_lt HP.out i hkm) hlen (on_some hBW (HX.out.cell 0)) (on_some hW (N1.cell 0)) ((hpc n a ha).on hBW) ((hpc k d hd).on hBW)).mono fun e w' h => ⟨h.1, hW.trans (h.2.mono hW.size)⟩)
        (own_PlI O1)
      have HK := Lib.hid (keptOf_succ (L := L) hn)
      have n0 : wr.cell? ⟨g, i, none⟩ = some (.int .i64 (n : Int)) := c0
      clear hsc hpc hb1 B O c0
      cases hsp : spare L n with
      | true =>
        rw [hsp] at hcon
        have HE : Hid (keptOf L ks (i + 1) = keptOf L ks i) := Lib.hid (by rw [HK.out, hsp]; rfl)
        clear HK
        go_wp2_with (go_at_call 81; refine hcon.mono ?_; rintro e w2 ⟨rfl, hb2⟩)
        have B2 := B1.trans (hb2.mono B1.size)
        have O2 := own_on O1 hb2
        go_roundg (ks.length - (i + 1))
        case measure => omega
        case rel =>
          exact ⟨i + 1, by omega, rfl, by go_num, B2, by rw [HE.out]; exact O2, by rw [HE.out]; exact hk⟩
      | false =>
        rw [hsp] at hcon
        have HE : Hid (keptOf L ks (i + 1) = keptOf L ks i ++ [n]) := Lib.hid (by rw [HK.out, hsp]; rfl)
        clear HK
        by_cases he : (keptOf L ks i).length = limit
        · have hez : ((keptOf L ks i).length : Int) = (limit : Int) := by omega
          have HT : Hid (limit < (leanS L).length) := by
            have h1 := keptOf_le (L := L) HP.out (i + 1)
            rw [HE.out] at h1
            simp at h1
            exact (show limit < (leanS L).length by omega)
          obtain ⟨ka, kc, hu, _⟩ := own_form O1
          subst hu
          clear he
          go_wp2_with fail
          refine hcon.mono ?_
          rintro e w2 ⟨rfl, hb2⟩
          go_wp2
          go_ret2
          exact ⟨HBA.out.trans ((B1.trans (hb2.mono B1.size)).mono HBA.out.size), .inr ⟨HT.out, rfl⟩⟩
        · have hez : ¬ ((keptOf L ks i).length : Int) = (limit : Int) := by omega
          obtain ⟨ka, kc, hu, _⟩ := own_form O1
          subst hu
          go_wp2_with fail
          refine hcon.mono ?_
          rintro e w2 ⟨rfl, hb2⟩
          have B2 := B1.trans (hb2.mono B1.size)
          have O2 := own_on O1 hb2
          have N2 := N1.on hb2
          have m0 := N2.cell 0
          have hb3 := below1 w2 (.cells #[.int .i64 (n : Int)] 3)
          have N3 := Blk.new w2 3 #[.int .i64 (n : Int)]
          have B3 := B2.trans (hb3.mono B2.size)
          have O3 := own_on O2 hb3
          have hz3 := B3.size
          obtain ⟨i0, hi0, hz0, hz1, hz2⟩ := info_parts infoInt
          clear O1 O2 B1 B2 hb3 N1 N2 hcon
          go_wp2_with (at_builtin; refine wpList_append_lies _ rfl (.tmp 28) (.tmp 30) 36 rfl wA.heap.size 3 i0 _ 1 8 Tryz.underlying36 hi0 hz0 hz1 hz2 rfl (by decide) _ (keptOf L ks i).length (ints (keptOf L ks i)) rfl O3 ⟨w2.heap.size, 0, none⟩ 1 1 [.int .i64 (n : Int)] rfl rfl (World.news_of_block N3) (by intro u hu; simp only [List.mem_singleton] at hu; subst hu; rfl) (by omega) (by unfold maxLen; omega) (by omega) hz3 _ rfl ?_)
          intro g2 cap2 w4 hown hgrow hat hgl
          have B4 : Below wA.heap.size wA w4 := B3.grown hgrow hz3 (fun j hj => (O3.lt j hj).1)
          clear O3 B3 N3 hi0 hz0 hz1 hz2 hgrow hat
          go_wp2
          go_roundg (ks.length - (i + 1))
          case measure => omega
          case rel =>
            exact ⟨i + 1, by omega, rfl, by go_num, B4, by rw [HE.out, ints_snoc]; simpa using hown, by rw [HE.out]; simp; omega⟩
    · have hltz : ¬ (i : Int) < (ks.length : Int) := by omega
      obtain rfl : i = ks.length := by omega
      have hlim : Hid ((leanS L).length ≤ limit) := Lib.hid (by rw [leanS_len, ← (keptOf_all HP.out).length_eq]; exact hk)
      have hLI : (leanI L).length ≤ 1000000 := by rw [← (keptOf_all HP.out).length_eq]; omega
      have hcon := sort_c _ (keptOf L ks ks.length) (leanI L) wA.heap.size wr O (by omega) (kept_sorted HP.out)
      have HG : Hid (∀ w', wr.grownBy w' u6.ownBlock → Below wA.heap.size wA w') := fun w' hg => B.grown hg B.size (fun j hj => (O.lt j hj).1)
      obtain ⟨ka, kc, hu, _⟩ := own_form O
      subst hu
      clear hk hkl2 O B HS
      go_wp2_with fail
      refine hcon.mono ?_
      rintro e wB ⟨rfl, hg, PB⟩
      have BB := HG.out wB hg
      have hLe : (keptOf L ks ks.length).length = (leanI L).length := (keptOf_all HP.out).length_eq
      have HL1 := Lib.hid hLe
      have BL := BB.cell (p := ⟨w.heap.size, 0, none⟩) zA
      obtain ⟨KA, kcap, hke, hKA⟩ := PB.at
      have e1 : ka = KA ∧ kc = kcap := by injection hke with e1 e2 e3; exact ⟨e1, e3⟩
      obtain ⟨rfl, rfl⟩ := e1
      have HKA := Lib.hid hKA
      have HBB := Lib.hid BB
      obtain ⟨ic, hic, hcz0, hcz1, hcz2⟩ := info_parts infoCube
      obtain ⟨wM, hmk, OM, GM⟩ := run_make_own (P := Tryz.prog) wB wB.heap.size 22 53 ic _ 4 Tryz.underlying22 hic hcz0 hcz1 .i64 .i64 (leanI L).length (by rw [hcz2]; omega) (by unfold maxLen; omega) (Nat.le_refl _)
      have HM : Hid (Below wB.heap.size wB wM) := (Below.refl _ _).grown GM (Nat.le_refl _) (fun j hj => by cases hj)
      rw [hLe]
      clear hg PB BB hke hKA GM hLe BL hcon HG
      have hLz : ((leanI L).length : Int) ≤ 1000000 := by omega
      go_wp2_with fail
      go_loopg [10, 40] (leanI L).length (fun gk s10 s40 wq => ∃ k : Nat, k ≤ (leanI L).length ∧ gk = (leanI L).length - k ∧ s40 = .int .i64 k ∧ Below wB.heap.size wB wq ∧ wq.ownsRow wB.heap.size 53 4 s10 k (flat (((leanI L).take k).filterMap fun i => L[i]?)))
      case atStart => exact ⟨0, Nat.zero_le _, rfl, rfl, HM.out, by simpa [flat] using OM⟩
      case round =>
        clear hmk OM HM
        obtain ⟨k, hk, rfl, rfl, B, O⟩ := hrel
        by_cases hlt : k < (leanI L).length
        · have hltz : (k : Int) < ((leanI L).length : Int) := by omega
          obtain ⟨i, hi⟩ : ∃ i, (leanI L)[k]? = some i := ⟨_, List.getElem?_eq_getElem hlt⟩
          have hil : i < L.length := leanI_lt (List.mem_of_getElem? hi)
          have hilz : (i : Int) < (L.length : Int) := by omega
          obtain ⟨c, hc⟩ : ∃ c, L[i]? = some c := ⟨_, List.getElem?_eq_getElem hil⟩
          obtain ⟨g, rfl, hg, hsc⟩ := HKA.out (ne_nil_of hi)
          obtain ⟨b, off, rfl, hb, hpc⟩ := HC.out i c hc
          have n0 := on_some B (hsc k i hi)
          have x0 := on_some B (on_some HBB.out (HX.out.cell 0))
          obtain ⟨c0, c1, c2, c3⟩ := ((hpc i c hc).on HBB.out).on B
          have HT := Lib.hid (leanS_take L k i c hi hc)
          have hb1 := below1 wr (.cells #[.int .u64 (uv c.vh), .int .u64 (uv c.vl), .int .u64 (uv c.ch), .int .u64 (uv c.cl)] 53)
          have N1 : Blk (wr.alloc (.cells #[.int .u64 (uv c.vh), .int .u64 (uv c.vl), .int .u64 (uv c.ch), .int .u64 (uv c.cl)] 53)) wr.heap.size 53 c.arr := Blk.new wr _ _
          have B1 := B.trans (hb1.mono B.size)
          have O1 := own_on O hb1
          have hz1' := B1.size
          clear hsc hpc B O hb1 hi hc
          go_wp2_with (at_builtin; refine wpList_append_lies _ rfl (.tmp 44) (.tmp 49) 22 rfl wB.heap.size 53 ic _ 4 32 Tryz.underlying22 hic hcz0 hcz1 hcz2 rfl (by decide) _ k (flat (((leanI L).take k).filterMap fun i => L[i]?)) rfl O1 ⟨wr.heap.size, 0, none⟩ 1 1 c.cells rfl rfl (World.news_of_block N1) (by intro u hu; simp only [Cb.cells, List.mem_cons, List.not_mem_nil, or_false] at hu; rcases hu with rfl | rfl | rfl | rfl <;> rfl) (by omega) (by unfold maxLen; omega) (by omega) hz1' _ rfl ?_)
          intro g2 cap2 w4 hown hgrow hat hgl
          have B4 : Below wB.heap.size wB w4 := B1.grown hgrow hz1' (fun j hj => (O1.lt j hj).1)
          clear O1 B1 N1 hgrow hat
          go_wp2
          go_roundg ((leanI L).length - (k + 1))
          case measure => omega
          case rel => exact ⟨k + 1, by omega, rfl, by go_num, B4, by rw [HT.out, flat_snoc]; exact hown⟩
        · have hltz : ¬ (k : Int) < ((leanI L).length : Int) := by omega
          obtain rfl : k = (leanI L).length := by omega
          go_wp2
          go_ret2
          have hsz := HBA.out.size
          have hsz2 := HBB.out.size
          refine ⟨HBA.out.trans ((HBB.out.trans (B.mono hsz2)).mono hsz), .inl ⟨hlim.out, _, rfl, ?_⟩⟩
          rw [List.take_length] at O
          rw [leanS_len]
          exact O.mono (by omega)
end Go.Proofs

namespace Go.Proofs.Hd
open Go.RowKit
theorem leanS_le (L : List Cb) : (leanS L).length ≤ L.length := by
  rw [leanS_len]
  exact Nat.le_trans (List.length_filter_le _ _) (sI_len L _)
end Go.Proofs.Hd
namespace Go.Proofs
open Go.RowKit Go.Proofs.Hd Go.Sort Go.Shelf Go.Lib
attribute [local go_sem] uv_nonneg
set_option maxRecDepth 100000 in
theorem plean_c (v : Value) (L : List Cb) (w : World) (hl : L.length ≤ 1000000) (hv : Pl w v L) : Calls Tryz.prog 43 #[v] w (Got w (leanS L)) := by
  have hcon := leanUp_c L.length v L w hl hl hv
  have h1 := leanS_le L
  obtain ⟨A, cap, rfl, _, _⟩ := hv.form
  have H1 := Lib.hid h1
  clear hv h1
  go_enter Tryz.func43, Tryz.ntmps43
  go_wp2_with fail
  refine hcon.mono ?_
  rintro e w' ⟨hb, ⟨_, s, rfl, O⟩ | ⟨h, _⟩⟩
  · go_wp2
    go_ret
    exact ⟨_, rfl, O, hb⟩
  · have := H1.out; omega
set_option maxRecDepth 100000 in
theorem ppick_no (v : Value) (L : List Cb) (w : World) (hn : ∀ (k : Nat) (c : Cb), L[k]? = some c → c.snd = false) (hv : Pl w v L) :
    Calls Tryz.prog 50 #[v] w fun e w' => e = .returned (.tuple #[.agg #[.int .u64 0, .int .u64 0], .bool false]) ∧ Below w.heap.size w w' := by
  have eg : ∀ args w, (callFunc 27 args).run Tryz.prog w = .ok (.enter 27 args) w := enters_of Tryz.func27 (by kernel_rfl) rfl
  have B0 := below1 w (.cells #[.int .u64 0, .int .u64 0] 25)
  have X0 := Blk.new w 25 #[.int .u64 0, .int .u64 0]
  have hcon := idx_cubes 27 #[] Cb.snd eg v L _ (-1) (.inl ⟨rfl, hn⟩) (fun W c _ hb => (csound _ c W rfl).mono fun e w' h => ⟨h.1, hb.trans (h.2.mono hb.size)⟩) (hv.on B0)
  clear hn hv
  go_enter Tryz.func50, Tryz.ntmps50
  go_wp2_with fail
  refine hcon.mono ?_
  rintro e w1 ⟨rfl, hb⟩
  have X1 := X0.on hb
  have x0 := X1.pair
  have f0 := X1.fr2
  have B1 := B0.trans (hb.mono B0.size)
  clear hcon B0 X0 hb
  go_wp2
  exact bodyPost_ret (v := .tuple #[.agg #[.int .u64 0, .int .u64 0], .bool false]) (by simp [results, Tryz.results50, go_sem, x0.1, x0.2]) rfl ⟨rfl, B1.trans ((sets2 _ _ _ _).mono (by omega))⟩
set_option maxRecDepth 100000 in
theorem ppick_yes (v : Value) (L : List Cb) (w : World) (k : Nat) (c : Cb) (hl : L.length ≤ 281474976710656) (hc : L[k]? = some c) (hs : c.snd = true) (hn : ∀ (j : Nat) (d : Cb), j < k → L[j]? = some d → d.snd = false) (hv : Pl w v L) :
    Calls Tryz.prog 50 #[v] w fun e w' => e = .returned (.tuple #[.agg #[.int .u64 (uv c.vh), .int .u64 (uv c.vl)], .bool true]) ∧ Below w.heap.size w w' := by
  have eg : ∀ args w, (callFunc 27 args).run Tryz.prog w = .ok (.enter 27 args) w := enters_of Tryz.func27 (by kernel_rfl) rfl
  have B0 := below1 w (.cells #[.int .u64 0, .int .u64 0] 25)
  have X0 := Blk.new w 25 #[.int .u64 0, .int .u64 0]
  have hcon := idx_cubes 27 #[] Cb.snd eg v L _ (k : Int) (.inr ⟨k, c, rfl, hc, hs, hn⟩) (fun W c _ hb => (csound _ c W rfl).mono fun e w' h => ⟨h.1, hb.trans (h.2.mono hb.size)⟩) (hv.on B0)
  have hkl : (k : Int) < (L.length : Int) := by have := (List.getElem?_eq_some_iff.1 hc).1; omega
  have hlz : (L.length : Int) ≤ 281474976710656 := by omega
  rcases hv with ⟨rfl, _⟩ | ⟨b, off, cap, rfl, _, hb0, hcs⟩
  · simp at hc
  have C0 := ((hcs k c hc).on B0)
  clear hn hcs hs hc
  go_enter Tryz.func50, Tryz.ntmps50
  go_wp2_with fail
  refine hcon.mono ?_
  rintro e w1 ⟨rfl, hb⟩
  have X1 := X0.on hb
  have x0 := X1.pair
  have f0 := X1.fr2
  obtain ⟨c0, c1, c2, c3⟩ := C0.on hb
  have B1 := B0.trans (hb.mono B0.size)
  have hne : b ≠ w.heap.size := by omega
  clear hcon B0 X0 hb C0 c2 c3
  go_wp2
  exact bodyPost_ret (v := .tuple #[.agg #[.int .u64 (uv c.vh), .int .u64 (uv c.vl)], .bool true]) (by simp [results, Tryz.results50, go_sem, x0.1, x0.2]) rfl ⟨rfl, B1.trans ((sets2 _ _ _ _).mono (by omega))⟩
end Go.Proofs

namespace Go.Proofs
open Go.RowKit Go.Proofs.Hd Go.Lib
attribute [local go_sem] uv_nonneg
theorem nilCubes : ∀ (w : World) (a : Option Addr) (n c n' c' : Nat), (binOp .eql 22 (.slice a n c) (.slice none n' c')).run Tryz.prog w = .ok (.bool a.isNone) w := fun w a n c n' c' => Lib.run_eql_slice_nil w _ _ a n c n' c' Tryz.underlying22
set_option maxRecDepth 100000 in
theorem clone_c (v : Value) (L : List Cb) (w : World) (hl : L.length ≤ 1000000) (hv : Pl w v L) : Calls Tryz.prog 87 #[v] w (Got w L) := by
  have hs := hv.src
  have B0 := below1 w (.cells #[] 53)
  have hs1 := (hv.on B0).src
  have q := nilCubes
  clear hv
  obtain ⟨ic, hic, hcz0, hcz1, hcz2⟩ := info_parts infoCube
  obtain ⟨_, _, ⟨h0, c, rfl⟩ | ⟨ad, c, rfl, _⟩⟩ := hs
  · obtain rfl : L = [] := List.eq_nil_of_length_eq_zero h0
    go_enter Tryz.func87, Tryz.ntmps87
    go_wp2
    go_ret
    exact ⟨_, rfl, World.ownsRow_nil _ _ _ _, Below.refl _ _⟩
  · have O := World.ownsRow_made (base := w.heap.size) (e := 53) (size := 4) w #[] 0 (Nat.le_refl _) (Nat.zero_le _) rfl
    go_enter Tryz.func87, Tryz.ntmps87
    go_wp2_with (at_builtin; refine wpList_app _ rfl (.tmp 5) (.tmp 6) 22 rfl w.heap.size 53 ic _ 4 32 Tryz.underlying22 hic hcz0 hcz1 hcz2 rfl (by decide) _ 0 [] rfl O _ L.length (flat L) rfl hs1 (by unfold maxLen; omega) (by omega) (by simp) ?_)
    intro v2 w2 hown hg
    have B2 := B0.grown hg (by simp) (fun j hj => by simp [Value.ownBlock] at hj; omega)
    clear hs1 O B0 hg
    go_wp2
    go_ret
    exact ⟨_, rfl, by simpa using hown, B2⟩
set_option maxRecDepth 100000 in
theorem growNil_c (n : Nat) (w : World) (hl : n ≤ 1000000) : Calls Tryz.prog 84 #[.slice none 0 0, .int .i64 (n : Int)] w (Got w []) := by
  have hz : (n : Int) ≤ 1000000 := by omega
  by_cases h0 : n = 0
  · subst h0
    go_enter Tryz.func84, Tryz.ntmps84
    go_wp2
    go_ret
    exact ⟨_, rfl, World.ownsRow_nil _ _ _ _, Below.refl _ _⟩
  · have hpz : (0 : Int) < (n : Int) := by omega
    obtain ⟨ic, hic, hcz0, hcz1, hcz2⟩ := info_parts infoCube
    have hr := fun ty => run_append_nil_zeros w 22 3 ty 53 ic _ .i64 .i64 Tryz.underlying22 Tryz.underlying3 hic hcz0 n (by omega) (by omega) (by omega) (by rw [hcz2]; omega)
    have hcap : n ≤ grownCap w n 0 53 ∧ grownCap w n 0 53 ≤ maxLen := ⟨grownCap_ge _ _ _ _, grownCap_le_maxLen _ _ _ _ (by unfold maxLen; omega)⟩
    generalize grownCap w n 0 53 = cap at hr hcap
    have O : (w.drew.alloc (.cells (Builtin.zeroCells (Value.agg #[.int .u64 0, .int .u64 0, .int .u64 0, .int .u64 0]).cells n ++ Builtin.zeroCells (Value.agg #[.int .u64 0, .int .u64 0, .int .u64 0, .int .u64 0]).cells (cap - n)) 53)).ownsRow w.heap.size 53 4 (.slice (some ⟨w.heap.size, 0, none⟩) 0 cap) 0 [] :=
      World.ownsRow_made (base := w.heap.size) (e := 53) (size := 4) w.drew _ cap (Nat.le_refl _) hcap.2 (by rw [Array.size_append, size_zeroCells, size_zeroCells, ← Nat.add_mul, show n + (cap - n) = cap by omega]; rfl)
    have B := (Below.refl w.heap.size w).drew.alloc (Nat.le_refl _) (.cells (Builtin.zeroCells (Value.agg #[.int .u64 0, .int .u64 0, .int .u64 0, .int .u64 0]).cells n ++ Builtin.zeroCells (Value.agg #[.int .u64 0, .int .u64 0, .int .u64 0, .int .u64 0]).cells (cap - n)) 53)
    have hcz := hcap.1
    go_enter Tryz.func84, Tryz.ntmps84
    go_wp2_with (at_builtin; refine Lib.wpList_append_run _ rfl _ _ _ _ rfl _ _ rfl rfl _ _ (hr _) ?_)
    go_wp2
    go_ret
    exact ⟨_, rfl, O, B⟩
set_option maxHeartbeats 1000000 in
set_option maxRecDepth 100000 in
theorem concat_c (a b : Value) (A B : List Cb) (g : Nat) (w : World) (hl : A.length ≤ 400000) (hm : B.length ≤ 400000) (ha : Pl w a A) (hb : Pl w b B) (hg : w.cell? ⟨g, 0, none⟩ = some a ∧ w.cell? ⟨g, 1, none⟩ = some b) :
    Calls Tryz.prog 65 #[.slice (some ⟨g, 0, none⟩) 2 2] w (Got w (A ++ B)) := by
  obtain ⟨ic, hic, hcz0, hcz1, hcz2⟩ := info_parts infoCube
  have hlz : (A.length : Int) ≤ 400000 := by omega
  have hmz : (B.length : Int) ≤ 400000 := by omega
  obtain ⟨A1, c1, rfl, _, _⟩ := ha.form
  obtain ⟨A2, c2, rfl, _, _⟩ := hb.form
  have HA := Lib.hid ha
  have HB := Lib.hid hb
  have HG := Lib.hid hg
  obtain ⟨g0, g1⟩ := hg
  have HS : Hid (A.length + B.length ≤ 1000000) := by show _ ≤ _; omega
  have hcon := growNil_c (A.length + B.length) w HS.out
  rw [show ((A.length + B.length : Nat) : Int) = (A.length : Int) + (B.length : Int) by omega] at hcon
  clear ha hb HS
  go_enter Tryz.func65, Tryz.ntmps65
  go_wp2
  refine wp_loop_rounds 3 ?_
  rw [rounds_succ]
  go_wp2
  rw [rounds_succ]
  go_wp2
  rw [rounds_succ]
  go_wp2_with (go_at_call 84; refine hcon.mono ?_; rintro e w1 ⟨v1, rfl, O1, B1⟩)
  clear hcon
  replace g0 := on_some B1 HG.out.1
  replace g1 := on_some B1 HG.out.2
  have hz1 := B1.size
  refine wp_loop_rounds 3 ?_
  rw [rounds_succ]
  have hs1 := (HA.out.on B1).src
  go_wp2_with (at_builtin; refine wpList_app _ rfl (.tmp 31) (.tmp 32) 22 rfl w.heap.size 53 ic _ 4 32 Tryz.underlying22 hic hcz0 hcz1 hcz2 rfl (by decide) _ 0 [] rfl O1 _ A.length (flat A) rfl hs1 (by unfold maxLen; omega) (by omega) hz1 ?_)
  intro v2 w2 O2 hg2
  have B2 := B1.grown hg2 hz1 (fun j hj => (O1.lt j hj).1)
  have hz2 := B2.size
  clear O1 hs1 hg2 B1 g0 g1
  have g0 := on_some B2 HG.out.1
  have g1 := on_some B2 HG.out.2
  go_wp2
  rw [rounds_succ]
  have hs2 := (HB.out.on B2).src
  go_wp2_with (at_builtin; refine wpList_app _ rfl (.tmp 31) (.tmp 32) 22 rfl w.heap.size 53 ic _ 4 32 Tryz.underlying22 hic hcz0 hcz1 hcz2 rfl (by decide) _ A.length (flat A) rfl O2 _ B.length (flat B) rfl hs2 (by unfold maxLen; omega) (by omega) hz2 ?_)
  intro v3 w3 O3 hg3
  have B3 := B2.grown hg3 hz2 (fun j hj => (O2.lt j hj).1)
  clear O2 hs2 hg3 B2 g0 g1
  go_wp2
  rw [rounds_succ]
  go_wp2
  go_ret
  exact ⟨_, rfl, by simpa [flat] using O3, B3⟩
end Go.Proofs

namespace Go.Proofs
open Go.RowKit Go.Proofs.Hd
attribute [local go_sem] uv_and uv_or uv_xor uv_andNot uv_shr uv_shl uv_add uv_sub uv_nonneg uv_shl_one uv_sub_one uv_and_one
theorem first_h (h l h' l' : BitVec 64) (b : Nat) (w : World) (h0 : w.cell? ⟨b, 0, none⟩ = some (.int .i64 (cmpW h h'))) (h1 : w.cell? ⟨b, 1, none⟩ = some (.int .i64 (cmpW l l'))) :
    Calls Tryz.prog 103 #[.slice (some ⟨b, 0, none⟩) 2 2] w fun e w' => e = .returned (.int .i64 (cmpH h l h' l')) ∧ w = w' := first_c _ _ b w h0 h1

theorem kones (w : World) : Calls Tryz.prog 105 #[.agg #[.int .u64 1, .int .u64 9223372036854775808]] w fun e w' => e = .returned (.int .i64 2) ∧ Below w.heap.size w w' := by
  have e1 : ((ones 1#64 + ones 9223372036854775808#64 : Nat) : Int) = 2 := by decide +kernel
  have h := ones_c 1#64 9223372036854775808#64 w
  rw [e1] at h
  exact h

end Go.Proofs

namespace Go.Proofs
open Go.RowKit Go.Proofs.Hd

theorem cell_on {W w1 : World} {b o : Nat} {v : Option Value} (hb : Below W.heap.size W w1) (h : W.cell? ⟨b, o, none⟩ = v) (hl : b < W.heap.size) : w1.cell? ⟨b, o, none⟩ = v := (hb.cell (p := ⟨b, o, none⟩) hl).trans h

end Go.Proofs

namespace Go.Proofs.Hd
open Go.RowKit
/-- An array of 128 bools. -/
def bl (f : Nat → Bool) : List Value := (List.range 128).map fun i => Value.bool (f i)
theorem bl_len (f : Nat → Bool) : (bl f).length = 128 := by simp [bl]
theorem bl_size (f : Nat → Bool) : (bl f).toArray.size = 128 := by simp [bl]
theorem bl_get (f : Nat → Bool) (k : Nat) (h : k < 128) : (bl f)[k]? = some (.bool (f k)) := by simp [bl, h]
theorem bl_geta (f : Nat → Bool) (k : Nat) (h : k < 128) : (bl f).toArray[k]? = some (.bool (f k)) := by simp [bl, h]
theorem bl_one (f : Nat → Bool) : ∀ v ∈ bl f, v.oneCell' = true := by
  intro v hv; simp only [bl, List.mem_map] at hv; obtain ⟨i, _, rfl⟩ := hv; rfl
theorem bl_all (f : Nat → Bool) : (bl f).toArray.all (·.oneCell') = true := all_oneCell_toArray (bl_one f)
theorem bl_congr {f g : Nat → Bool} (h : ∀ j, j < 128 → f j = g j) : bl f = bl g := by
  unfold bl; apply List.map_congr_left; intro i hi; rw [h i (by simpa using hi)]
theorem bl_set (f : Nat → Bool) (k : Nat) (b : Bool) : (bl f).set k (.bool b) = bl (fun j => if j = k then b else f j) := by
  apply List.ext_getElem?
  intro i
  rw [List.getElem?_set]
  by_cases hi : i < 128
  · by_cases e : k = i
    · subst e; simp [bl, hi]
    · simp [bl, hi, e, show ¬ i = k from fun h => e h.symm]
  · have : (bl (fun j => if j = k then b else f j))[i]? = none := by simp [bl]; omega
    rw [this]
    by_cases e : k = i
    · subst e; simp [bl, hi]
    · simp [e, bl]; omega
/-- The first k of f, the others false. -/
def upTo (f : Nat → Bool) (k : Nat) : Nat → Bool := fun j => decide (j < k) && f j
theorem upTo_zero (f : Nat → Bool) : bl (upTo f 0) = bl (fun _ => false) := bl_congr fun j _ => by simp [upTo]
theorem upTo_all (f : Nat → Bool) : bl (upTo f 128) = bl f := bl_congr fun j hj => by simp [upTo, hj]
theorem upTo_succ (f : Nat → Bool) (k : Nat) : (bl (upTo f k)).toArray.setIfInBounds k (.bool (f k)) = (bl (upTo f (k + 1))).toArray := by
  rw [List.setIfInBounds_toArray, bl_set]
  congr 1
  apply bl_congr
  intro j _
  unfold upTo
  by_cases e : j = k
  · subst e; simp
  · have : (j < k + 1) ↔ (j < k) := by omega
    simp [e, this]
theorem upTo_set (f : Nat → Bool) (k : Nat) (b : Bool) (h : b = f k) : (bl (upTo f k)).set k (.bool b) = bl (upTo f (k + 1)) := by
  subst h
  rw [bl_set]
  apply bl_congr
  intro j _
  unfold upTo
  by_cases e : j = k
  · subst e; simp
  · have : (j < k + 1) ↔ (j < k) := by omega
    simp [e, this]
theorem uv_odd (x : BitVec 64) : ((uv x).tmod 2 == 1) = x.getLsbD 0 := by
  rw [Int.tmod_eq_emod_of_nonneg (uv_nonneg x)]
  unfold uv
  rw [BitVec.getLsbD, Nat.testBit_zero, Bool.eq_iff_iff]
  simp only [beq_iff_eq, decide_eq_true_eq]
  omega
theorem bit_lo (h l : BitVec 64) (k : Nat) (hk : k < 64) : ((uv (l >>> k)).tmod 2 == 1) = hbit h l k := by
  rw [uv_odd, BitVec.getLsbD_ushiftRight, hbit, if_pos hk, Nat.add_zero]
theorem bit_hi (h l : BitVec 64) (k : Nat) (hk : ¬ k < 64) : ((uv (h >>> (k - 64))).tmod 2 == 1) = hbit h l k := by
  rw [uv_odd, BitVec.getLsbD_ushiftRight, hbit, if_neg hk, Nat.add_zero]
theorem Below.setRow {B : Nat} {a w : World} (h : Below B a w) {g : Nat} (hg : B ≤ g) (cs : Array Value) : Below B a (w.setRow g cs) :=
  h.trans ⟨rfl, rfl, rfl, by simp, fun k hk => setRow_other _ _ _ _ (by omega)⟩
/-- A whole array of bools lies at the head of block b. -/
theorem range_of_alloc (w : World) (f : Nat → Bool) (t : TypeId) : (w.alloc (.cells (bl f).toArray t)).rangeAt w.heap.size 0 (bl f) := by
  intro j v hv
  rw [Nat.zero_add, World.cell?_alloc_new]
  simpa using hv
theorem Below.setCells {B b : Nat} {a : World} : ∀ (vs : List Value) (o : Nat) (w : World), Below B a w → B ≤ b → Below B a (w.setCells b o vs)
  | [], _, _, h, _ => h
  | v :: r, o, _, h, hb => Below.setCells r (o + 1) _ (h.setCell (p := ⟨b, o, none⟩) hb v) hb
theorem range_below {B b o : Nat} {cs : List Value} {w w' : World} (hb : Below B w w') (h : w.rangeAt b o cs) (hl : b < B) : w'.rangeAt b o cs :=
  fun j v hv => (hb.cell (p := ⟨b, o + j, none⟩) hl).trans (h j v hv)
theorem there_below {B b o n : Nat} {w w' : World} (hb : Below B w w') (h : w.there b o n) (hl : b < B) : w'.there b o n := by
  intro j hj
  have e1 := hb.cell (p := ⟨b, o + j, none⟩) hl
  have e2 := hb.frozen (p := ⟨b, o + j, none⟩) hl
  rw [e1, e2]; exact h j hj
theorem there_of_alloc (w : World) (f : Nat → Bool) (t : TypeId) : (w.alloc (.cells (bl f).toArray t)).there w.heap.size 0 128 := by
  intro j hj
  rw [Nat.zero_add, World.cell?_alloc_new]
  exact ⟨by simp [bl, hj], by simp⟩
attribute [irreducible] bl
end Go.Proofs.Hd

namespace Go.Proofs
open Go.RowKit Go.Proofs.Hd
attribute [local go_sem] uv_shr uv_nonneg

theorem info25 : (Tryz.prog.info? 73).map (fun i => (i.zero, i.size)) = some (some (.agg (bl (fun _ => false)).toArray), 128) := by kernel_rfl
theorem zero25 (w : World) : (zeroValue 73).run Tryz.prog w = .ok (.agg (bl (fun _ => false)).toArray) w := (zero_of_info info25).1 w
theorem size25 (f : Nat → Bool) : (Tryz.prog.info? 73).map (·.size) = some (bl f).toArray.size := by rw [(zero_of_info info25).2, bl_size]
theorem built25 : Tryz.prog.built 73 [] = some (bl (fun _ => false)).toArray := by kernel_rfl
theorem build25 (w : World) : (Instr.build 73 #[]).run Tryz.prog w = .ok (.agg (bl (fun _ => false)).toArray) w := run_build w 73 #[] _ built25
theorem loadNew (f : Nat → Bool) (w : World) : (Instr.loadAt 73 (.pointer (some ⟨w.heap.size, 0, none⟩))).run Tryz.prog (w.alloc (.cells (bl f).toArray 73)) = .ok (.agg (bl f).toArray) (w.alloc (.cells (bl f).toArray 73)) :=
  run_loadAt_new w 73 (bl f).toArray 128 4 Tryz.underlying73 (size25 f)
theorem storeNew (f g : Nat → Bool) (w : World) : (Instr.storeAt 73 (.pointer (some ⟨w.heap.size, 0, none⟩)) (.agg (bl g).toArray)).run Tryz.prog (w.alloc (.cells (bl f).toArray 73)) = .ok () (w.alloc (.cells (bl g).toArray 73)) :=
  run_storeAt_new w 73 (bl f).toArray (bl g).toArray (size25 g) (by rw [bl_size, bl_size]) (bl_all g)

theorem heap_two (w : World) (a b c : Obj) : (((w.alloc a).alloc b).alloc c).heap[w.heap.size + 1]? = some b := by
  show (((w.heap.push a).push b).push c)[w.heap.size + 1]? = some b
  simp only [Array.getElem?_push, Array.size_push]
  rw [if_neg (by omega), if_pos trivial]
theorem put_new {ops : Array Oper} {rest : List Oper} {op : Oper} {a : Act} {w : World} {Q : Exit → Act → World → Prop} (hgd : op.guard = none) (x y : Operand) (ho : op.op = .store 73 x y)
    (f g : Nat → Bool) (b : Nat) (hb : b = w.heap.size) (hx : a.eval x = .pointer (some ⟨b, 0, none⟩)) (hy : a.eval y = .agg (bl g).toArray)
    (h : wpList Tryz.prog ops Q rest (a.put op.dst undef) (w.alloc (.cells (bl g).toArray 73))) : wpList Tryz.prog ops Q (op :: rest) a (w.alloc (.cells (bl f).toArray 73)) :=
  wpList_plain hgd fun _ hK => by
    subst hb
    unfold Oper.wp execOp
    simp only [ho, hx, hy, Instr.storeAt, Instr.sureAddr, Sem.run_bind, Sem.run_pure, Result.andThen_ok, run_storeVar_new w 73 (bl f).toArray (bl g).toArray (size25 g) (by rw [bl_size, bl_size]) (bl_all g)]
    exact hK _ _ h
theorem get_new {ops : Array Oper} {rest : List Oper} {op : Oper} {a : Act} {w : World} {Q : Exit → Act → World → Prop} (hgd : op.guard = none) (x : Operand) (ho : op.op = .load 73 x)
    (f : Nat → Bool) (b : Nat) (hb : b = w.heap.size) (hx : a.eval x = .pointer (some ⟨b, 0, none⟩))
    (h : wpList Tryz.prog ops Q rest (a.put op.dst (.agg (bl f).toArray)) (w.alloc (.cells (bl f).toArray 73))) : wpList Tryz.prog ops Q (op :: rest) a (w.alloc (.cells (bl f).toArray 73)) :=
  wpList_plain hgd fun _ hK => by
    subst hb
    unfold Oper.wp execOp
    simp only [ho, hx, Instr.loadAt, Instr.sureAddr, Sem.run_bind, Sem.run_pure, Result.andThen_ok, run_loadVar_new w 73 (bl f).toArray 128 4 Tryz.underlying73 (size25 f)]
    exact hK _ _ h

set_option maxRecDepth 100000 in
set_option maxHeartbeats 400000 in
theorem bits_c (h l : BitVec 64) (w : World) : Calls Tryz.prog 40 #[.agg #[.int .u64 (uv h), .int .u64 (uv l)]] w fun e w' => e = .returned (.agg (bl (hbit h l)).toArray) ∧ Below w.heap.size w w' := by
  have hz := zero25
  have hb := build25
  go_enter Tryz.func40, Tryz.ntmps40
  go_wp2_with (refine put_new rfl _ _ rfl (fun _ => false) (fun _ => false) _ (by simp) rfl rfl ?_)
  go_loopg [4] 128 (fun g i wr => ∃ k : Nat, k ≤ 128 ∧ g = 128 - k ∧ i = .int .i64 k ∧ wr = ((w.alloc (.cells #[.int .u64 (uv h), .int .u64 (uv l)] 25)).alloc (.cells (bl (fun _ => false)).toArray 73)).alloc (.cells (bl (upTo (hbit h l) k)).toArray 73))
  case atStart => exact ⟨0, by omega, rfl, rfl, by rw [upTo_zero]⟩
  case round =>
    obtain ⟨k, hk, rfl, rfl, rfl⟩ := hrel
    by_cases hlt : k < 128
    · have hlt' : (k : Int) < 128 := by omega
      by_cases h64 : k < 64
      · have h64' : (k : Int) < 64 := by omega
        have hg := bl_get (upTo (hbit h l) k) k hlt
        go_wp2
        go_roundg (128 - (k + 1))
        case measure => omega
        case rel => exact ⟨k + 1, by omega, rfl, by go_num, by rw [upTo_set _ _ _ (bit_lo h l k h64)]⟩
      · have h64' : ¬ (k : Int) < 64 := by omega
        have hg := bl_get (upTo (hbit h l) k) k hlt
        go_wp2
        go_roundg (128 - (k + 1))
        case measure => omega
        case rel => exact ⟨k + 1, by omega, rfl, by go_num, by rw [upTo_set _ _ _ (bit_hi h l k h64)]⟩
    · obtain rfl : k = 128 := by omega
      go_wp2_with (first
        | refine get_new rfl _ rfl (upTo (hbit h l) 128) _ (by simp) rfl ?_
        | refine wpList_store_row rfl 73 _ _ rfl (w.heap.size + 1) (bl (upTo (hbit h l) 128)).toArray rfl rfl 73 (bl (fun _ => false)).toArray (heap_two _ _ _ _) (size25 _) (by rw [bl_size, bl_size]) (bl_all _) ?_)
      rw [upTo_all]
      exact bodyPost_ret (v := .agg (bl (hbit h l)).toArray) (results_cell_row Tryz.results40 _ _ (w.heap.size + 1) 73 _ (0, 0) _ rfl (setRow_heap _ _ (bl (fun _ => false)).toArray _ 73 (0, 0) (heap_two _ _ _ _)) Tryz.underlying73 rfl (size25 _)) rfl
        ⟨rfl, Below.setRow ((((Below.refl _ w).alloc (Nat.le_refl _) _).alloc (by simp) _).alloc (by simp <;> omega) _) (by omega) _⟩
end Go.Proofs

namespace Go.Proofs.Hd
open Go.RowKit
/-- The number of n bits from bit lo on. -/
def valN (f : Nat → Bool) : Nat → Nat → Nat
  | _, 0 => 0
  | lo, n + 1 => (f lo).toNat + 2 * valN f (lo + 1) n
def num (f : Nat → Bool) (lo n : Nat) : BitVec 64 := BitVec.ofNat 64 (valN f lo n)
theorem num_zero (f : Nat → Bool) (lo : Nat) : num f lo 0 = 0#64 := rfl
theorem valN_bit (f : Nat → Bool) (lo n i : Nat) : (valN f lo n).testBit i = (decide (i < n) && f (lo + i)) := by
  induction n generalizing lo i with
  | zero => simp [valN]
  | succ n ih =>
    rw [valN]
    cases i with
    | zero =>
      rw [Nat.testBit_zero]
      cases f lo <;> simp <;> omega
    | succ i =>
      rw [Nat.testBit_succ]
      have e : ((f lo).toNat + 2 * valN f (lo + 1) n) / 2 = valN f (lo + 1) n := by
        have := Bool.toNat_le (f lo); omega
      rw [e, ih, show lo + 1 + i = lo + (i + 1) by omega]
      congr 1
      simp
theorem num_bit (f : Nat → Bool) (lo n i : Nat) (hn : n ≤ 64) : (num f lo n).getLsbD i = (decide (i < n) && f (lo + i)) := by
  unfold num
  rw [BitVec.getLsbD_ofNat, valN_bit]
  by_cases c : i < n
  · simp [c, show i < 64 by omega]
  · simp [c]
theorem num_step (f : Nat → Bool) (lo n : Nat) (h : 0 < lo) (b : BitVec 64) (hb : b = BitVec.ofNat 64 (f (lo - 1)).toNat) : num f lo n + num f lo n + b = num f (lo - 1) (n + 1) := by
  subst hb
  unfold num
  rw [valN, show lo - 1 + 1 = lo by omega]
  apply BitVec.eq_of_toNat_eq
  simp only [BitVec.toNat_add, BitVec.toNat_ofNat]
  omega
theorem head_num (f : Nat → Bool) (j : Nat) (hj : j < 128) : hbit (num f 64 64) (num f 0 64) j = f j := by
  unfold hbit
  by_cases c : j < 64
  · rw [if_pos c, num_bit _ _ _ _ (by omega)]; simp [c]
  · rw [if_neg c, num_bit _ _ _ _ (by omega)]; simp only [show j - 64 < 64 by omega, decide_true, Bool.true_and]; congr 1; omega
/-- A header that has these bits is their number. -/
theorem num_of_bits {h l : BitVec 64} {f : Nat → Bool} (hb : ∀ j, j < 128 → hbit h l j = f j) : num f 64 64 = h ∧ num f 0 64 = l :=
  head_ext fun j hj => by rw [head_num f j hj, hb j hj]
theorem num_get (h l : BitVec 64) (a n : Nat) (hn : n ≤ 64) : num (hbit h l) a n = getW h l a n := by
  apply BitVec.eq_of_getLsbD_eq
  intro i _
  rw [num_bit _ _ _ _ hn, get_bit _ _ _ _ _ hn]
theorem num_congr {f g : Nat → Bool} (lo n : Nat) (h : ∀ i, lo ≤ i → i < lo + n → f i = g i) : num f lo n = num g lo n := by
  have : valN f lo n = valN g lo n := by
    induction n generalizing lo with
    | zero => rfl
    | succ n ih => rw [valN, valN, h lo (by omega) (by omega), ih (lo + 1) (fun i h1 h2 => h i (by omega) (by omega))]
  unfold num; rw [this]
theorem uv_twice (x : BitVec 64) : IntKind.u64.wrap (uv x * 2) = uv (x + x) := by
  rw [← uv_add]; congr 1; omega
theorem uv_add_one (x : BitVec 64) : IntKind.u64.wrap (uv x + 1) = uv (x + 1#64) := by
  rw [uv_one, uv_add]
theorem uv_wrap (x : BitVec 64) : IntKind.u64.wrap (uv x) = uv x := by
  rw [IntKind.wrap_u64]; have := uv_nonneg x; have := uv_lt x; omega
theorem num_step1 (f : Nat → Bool) (m n : Nat) (h : f m = true) : num f (m + 1) n + num f (m + 1) n + 1#64 = num f m (n + 1) :=
  num_step f (m + 1) n (by omega) 1#64 (by rw [Nat.add_sub_cancel, h]; rfl)
theorem num_step0 (f : Nat → Bool) (m n : Nat) (h : f m = false) : num f (m + 1) n + num f (m + 1) n = num f m (n + 1) := by
  have := num_step f (m + 1) n (by omega) 0#64 (by rw [Nat.add_sub_cancel, h]; rfl)
  rwa [BitVec.add_zero] at this
/-- The two words of a header whose bits from k on are known. -/
def hiW (f : Nat → Bool) (k : Nat) : BitVec 64 := num f (max k 64) (128 - max k 64)
def loW (f : Nat → Bool) (k : Nat) : BitVec 64 := num f (min k 64) (64 - min k 64)
theorem hiW_top (f : Nat → Bool) : hiW f 128 = 0#64 := num_zero f 128
theorem loW_top (f : Nat → Bool) : loW f 128 = 0#64 := num_zero f 64
theorem hiW_end (f : Nat → Bool) : hiW f 0 = num f 64 64 := rfl
theorem loW_end (f : Nat → Bool) : loW f 0 = num f 0 64 := rfl
theorem hiW_lo (f : Nat → Bool) (m : Nat) (h : m < 64) : hiW f (m + 1) = hiW f m := by
  unfold hiW; rw [show max (m + 1) 64 = 64 by omega, show max m 64 = 64 by omega]
theorem loW_hi (f : Nat → Bool) (m : Nat) (h : ¬ m < 64) : loW f (m + 1) = loW f m := by
  unfold loW; rw [show min (m + 1) 64 = 64 by omega, show min m 64 = 64 by omega]
theorem hiW_1 (f : Nat → Bool) (m : Nat) (h : ¬ m < 64) (h' : m < 128) (hf : f m = true) : hiW f (m + 1) + hiW f (m + 1) + 1#64 = hiW f m := by
  unfold hiW; rw [show max (m + 1) 64 = m + 1 by omega, show max m 64 = m by omega, num_step1 f m _ hf, show 128 - (m + 1) + 1 = 128 - m by omega]
theorem hiW_0 (f : Nat → Bool) (m : Nat) (h : ¬ m < 64) (h' : m < 128) (hf : f m = false) : hiW f (m + 1) + hiW f (m + 1) = hiW f m := by
  unfold hiW; rw [show max (m + 1) 64 = m + 1 by omega, show max m 64 = m by omega, num_step0 f m _ hf, show 128 - (m + 1) + 1 = 128 - m by omega]
theorem loW_1 (f : Nat → Bool) (m : Nat) (h : m < 64) (hf : f m = true) : loW f (m + 1) + loW f (m + 1) + 1#64 = loW f m := by
  unfold loW; rw [show min (m + 1) 64 = m + 1 by omega, show min m 64 = m by omega, num_step1 f m _ hf, show 64 - (m + 1) + 1 = 64 - m by omega]
theorem loW_0 (f : Nat → Bool) (m : Nat) (h : m < 64) (hf : f m = false) : loW f (m + 1) + loW f (m + 1) = loW f m := by
  unfold loW; rw [show min (m + 1) 64 = m + 1 by omega, show min m 64 = m by omega, num_step0 f m _ hf, show 64 - (m + 1) + 1 = 64 - m by omega]
attribute [irreducible] num hiW loW
end Go.Proofs.Hd

namespace Go.Proofs
open Go.RowKit Go.Proofs.Hd
attribute [local go_sem] uv_shr uv_nonneg uv_twice uv_add_one

end Go.Proofs

namespace Go.Proofs
open Go.RowKit Go.Proofs.Hd
theorem fl_lt {w : World} {b : Nat} (h : w.there b 0 128) : b < w.heap.size := by
  have := (h 0 (by omega)).1
  obtain ⟨u, hu⟩ := Option.isSome_iff_exists.1 this
  exact World.block_lt_of_cell? w ⟨b, 0 + 0, none⟩ hu
/-- An array of 128 cells is there in block b, at or behind block B; it is no block that is made later. -/
def Th (B : Nat) (w : World) (b : Nat) : Prop := w.there b 0 128 ∧ B ≤ b
theorem Th.on {B b : Nat} {W w' : World} (h : Th B W b) (hb : Below W.heap.size W w') : Th B w' b := ⟨there_below hb h.1 (fl_lt h.1), h.2⟩
theorem Th.top {B : Nat} (X : World) (b : Nat) (hb : b = X.heap.size) (h : B ≤ X.heap.size) : Th B (X.alloc (.cells (bl (fun _ => false)).toArray 73)) b := by
  subst hb; exact ⟨there_of_alloc X _ 73, h⟩
theorem Th.alloc {B b : Nat} {W : World} (h : Th B W b) (o : Obj) : Th B (W.alloc o) b := ⟨World.there_alloc h.1 o, h.2⟩
theorem Th.drew {B b : Nat} {W : World} (h : Th B W b) : Th B W.drew b := h
theorem Th.set {B b : Nat} {W : World} (h : Th B W b) (c : Nat) (vs : List Value) : Th B (W.setCells c 0 vs) b := ⟨World.there_setCells h.1 c 0 vs, h.2⟩
theorem Th.ne {B b : Nat} {W : World} (h : Th B W b) : b ≠ W.heap.size := Nat.ne_of_lt (fl_lt h.1)
theorem rows2 {V : World} {b c : Nat} (f g : Nat → Bool) (h1 : V.there b 0 128) (h2 : V.there c 0 128) (hne : b ≠ c) :
    ((V.setCells b 0 (bl f)).setCells c 0 (bl g)).rangeAt b 0 (bl f) ∧ ((V.setCells b 0 (bl f)).setCells c 0 (bl g)).rangeAt c 0 (bl g) :=
  ⟨World.rangeAt_setCells_apart (World.rangeAt_setCells_same V b 0 (bl f) (by rw [bl_len]; exact h1)) c 0 (bl g) (Or.inl hne),
   World.rangeAt_setCells_same _ c 0 (bl g) (by rw [bl_len]; exact World.there_setCells h2 b 0 (bl f))⟩
end Go.Proofs

namespace Go.Proofs.Hd
open Go.RowKit
/-- The sign of bit j. -/
def sgn (c : Cb) (j : Nat) : UInt8 := if c.K j = true then (if c.V j = true then 49 else 48) else 120
def txtL (c : Cb) : List UInt8 := (List.range 128).map fun i => sgn c (127 - i)
def txt (c : Cb) : ByteArray := ⟨(txtL c).toArray⟩
theorem txtL_len (c : Cb) : (txtL c).length = 128 := by simp [txtL]
theorem txt_size (c : Cb) : (txt c).size = 128 := by show (txtL c).toArray.size = 128; simp [txtL]
theorem txt_get (c : Cb) (i : Nat) (h : i < (txt c).size) : (txt c)[i] = sgn c (127 - i) := by
  show (txtL c).toArray[i]'h = _
  simp [txtL]
/-- 128 bytes as cells. -/
def by8 (f : Nat → UInt8) : List Value := (List.range 128).map fun i => Value.int .u8 (f i).toNat
theorem by8_len (f : Nat → UInt8) : (by8 f).length = 128 := by simp [by8]
theorem by8_get (f : Nat → UInt8) (k : Nat) (h : k < 128) : (by8 f)[k]? = some (.int .u8 (f k).toNat) := by simp [by8, h]
theorem by8_congr {f g : Nat → UInt8} (h : ∀ j, j < 128 → f j = g j) : by8 f = by8 g := by
  unfold by8; apply List.map_congr_left; intro i hi; rw [h i (by simpa using hi)]
theorem by8_set (f : Nat → UInt8) (k : Nat) (b : UInt8) : (by8 f).set k (.int .u8 b.toNat) = by8 (fun j => if j = k then b else f j) := by
  apply List.ext_getElem?
  intro i
  rw [List.getElem?_set]
  by_cases hi : i < 128
  · by_cases e : k = i
    · subst e; simp [by8, hi]
    · simp [by8, hi, e, show ¬ i = k from fun h => e h.symm]
  · have : (by8 (fun j => if j = k then b else f j))[i]? = none := by simp [by8]; omega
    rw [this]
    by_cases e : k = i
    · subst e; simp [by8, hi]
    · simp [e, by8]; omega
/-- The text from its k last signs on; the others 0. -/
def upTxt (c : Cb) (k : Nat) : Nat → UInt8 := fun i => if 128 ≤ i + k then sgn c (127 - i) else 0
theorem upTxt_zero (c : Cb) : by8 (upTxt c 0) = by8 (fun _ => 0) := by8_congr fun j hj => by simp [upTxt]; omega
theorem upTxt_set (c : Cb) (k : Nat) (hk : k < 128) (b : UInt8) (hb : b = sgn c k) : (by8 (upTxt c k)).set (127 - k) (.int .u8 b.toNat) = by8 (upTxt c (k + 1)) := by
  rw [by8_set]
  apply by8_congr
  intro j hj
  unfold upTxt
  by_cases e : j = 127 - k
  · subst e
    rw [if_pos rfl, if_pos (by omega), hb]
    congr 1; omega
  · rw [if_neg e]
    by_cases h : 128 ≤ j + k
    · rw [if_pos h, if_pos (by omega)]
    · rw [if_neg h, if_neg (by omega)]
theorem upTxt_all (c : Cb) : by8 (upTxt c 128) = (txtL c).map (fun b => Value.int .u8 b.toNat) := by
  unfold by8 txtL upTxt
  rw [List.map_map]
  apply List.map_congr_left
  intro i hi
  have : i < 128 := by simpa using hi
  simp [show 128 ≤ i + 128 by omega]
theorem upTxt_put (c : Cb) (k m : Nat) (hm : m + k = 127) (b : Int) (hb : b = ((sgn c k).toNat : Int)) : (by8 (upTxt c k)).set m (.int .u8 b) = by8 (upTxt c (k + 1)) := by
  subst hb
  have e : m = 127 - k := by omega
  subst e
  exact upTxt_set c k (by omega) _ rfl
theorem made8 : madeCells (Value.int .u8 0).cells (128 * 1) = (by8 (fun _ => 0)).toArray := by kernel_rfl
attribute [irreducible] by8
end Go.Proofs.Hd

namespace Go.Proofs.Hd
open Go.RowKit
/-- The number of the first k bits. -/
def V (f : Nat → Bool) : Nat → Nat
  | 0 => 0
  | k + 1 => V f k + 2 ^ k * (f k).toNat
theorem V_lt (f : Nat → Bool) (k : Nat) : V f k < 2 ^ k := by
  induction k with
  | zero => exact Nat.one_pos
  | succ k ih =>
    rw [V, Nat.pow_succ]
    cases f k <;> simp <;> omega
theorem V_congr {f g : Nat → Bool} (k : Nat) (h : ∀ i, i < k → f i = g i) : V f k = V g k := by
  induction k with
  | zero => rfl
  | succ k ih => rw [V, V, ih (fun i hi => h i (by omega)), h k (by omega)]
theorem V_testBit (x k : Nat) : V x.testBit k = x % 2 ^ k := by
  induction k with
  | zero => simp [V, Nat.mod_one]
  | succ k ih => rw [V, ih, Nat.mod_pow_succ, Nat.toNat_testBit]
theorem V_head (h l : BitVec 64) : V (hbit h l) 128 = 2 ^ 64 * h.toNat + l.toNat := by
  have hl := l.isLt
  have hh := h.isLt
  have e : ∀ i, i < 128 → hbit h l i = (2 ^ 64 * h.toNat + l.toNat).testBit i := by
    intro i _
    rw [Nat.testBit_two_pow_mul_add _ hl]
    unfold hbit BitVec.getLsbD
    by_cases c : i < 64 <;> simp [c]
  rw [V_congr 128 e, V_testBit, Nat.mod_eq_of_lt]
  have : (2 : Nat) ^ 128 = 2 ^ 64 * 2 ^ 64 := by decide +kernel
  rw [this]
  generalize (2 : Nat) ^ 64 = m at *
  calc m * h.toNat + l.toNat < m * h.toNat + m := by omega
    _ = m * (h.toNat + 1) := by rw [Nat.mul_add, Nat.mul_one]
    _ ≤ m * m := Nat.mul_le_mul_left m hh
/-- What the law's loop has found behind k bits. -/
def ordN (f g : Nat → Bool) : Nat → Int
  | 0 => 0
  | k + 1 => if (f k && !g k) = true then 1 else if (!f k && g k) = true then -1 else ordN f g k
theorem ordN_sign (f g : Nat → Bool) (k : Nat) : (V f k < V g k → ordN f g k = -1) ∧ (V g k < V f k → ordN f g k = 1) ∧ (V f k = V g k → ordN f g k = 0) := by
  induction k with
  | zero => exact ⟨fun h => absurd h (Nat.lt_irrefl _), fun h => absurd h (Nat.lt_irrefl _), fun _ => rfl⟩
  | succ k ih =>
    have h1 := V_lt f k
    have h2 := V_lt g k
    simp only [V, ordN]
    cases hf : f k <;> cases hg : g k <;> simp <;> omega
theorem ordN_cmp (h l p q : BitVec 64) : ordN (hbit h l) (hbit p q) 128 = cmpH h l p q := by
  have hs := ordN_sign (hbit h l) (hbit p q) 128
  rw [V_head, V_head] at hs
  have hl := l.isLt
  have hq := q.isLt
  rw [show (2 : Nat) ^ 64 = 18446744073709551616 by decide +kernel] at *
  unfold cmpH cmpW uv
  by_cases c1 : h.toNat < p.toNat
  · rw [hs.1 (by omega)]; simp [c1]
  · by_cases c2 : p.toNat < h.toNat
    · rw [hs.2.1 (by omega)]; simp [c1, c2]
    · have e : h.toNat = p.toNat := by omega
      by_cases c3 : l.toNat < q.toNat
      · rw [hs.1 (by omega)]; simp [e, c3]
      · by_cases c4 : q.toNat < l.toNat
        · rw [hs.2.1 (by omega)]; simp [e, c3, c4]
        · rw [hs.2.2 (by omega)]; simp [e, c3, c4]
theorem cmpH_neg (h l p q : BitVec 64) : cmpH p q h l = - cmpH h l p q := by
  have n1 : ∀ a b : BitVec 64, cmpW a b = - cmpW b a := by
    intro a b; unfold cmpW
    by_cases c1 : uv a < uv b
    · simp [c1, show ¬ uv b < uv a by omega]
    · by_cases c2 : uv b < uv a <;> simp [c1, c2]
  unfold cmpH
  rw [n1 p h, n1 q l]
  by_cases c : cmpW h p = 0 <;> simp [c]
theorem cmpH_bd (h l p q : BitVec 64) : -1 ≤ cmpH h l p q ∧ cmpH h l p q ≤ 1 := by
  have b : ∀ a b : BitVec 64, -1 ≤ cmpW a b ∧ cmpW a b ≤ 1 := by
    intro a b; unfold cmpW; by_cases c1 : uv a < uv b <;> by_cases c2 : uv b < uv a <;> simp [c1, c2]
  unfold cmpH
  by_cases c : cmpW h p = 0
  · rw [if_pos c]; exact b l q
  · rw [if_neg c]; exact b h p
theorem ordN_bd (f g : Nat → Bool) (k : Nat) : -1 ≤ ordN f g k ∧ ordN f g k ≤ 1 := by
  induction k with
  | zero => simp [ordN]
  | succ k ih => rw [ordN]; cases f k <;> cases g k <;> simp <;> omega
theorem range_cell {w : World} {b k : Nat} {f : Nat → Bool} (h : w.rangeAt b 0 (bl f)) (hk : k < 128) : w.cell? ⟨b, k, none⟩ = some (.bool (f k)) := by
  have := h k _ (bl_get f k hk)
  rwa [Nat.zero_add] at this
end Go.Proofs.Hd
