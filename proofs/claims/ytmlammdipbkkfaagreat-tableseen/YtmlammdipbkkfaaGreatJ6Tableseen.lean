/-
  Contract of table.Find: the first rule that is tried and whose match has the header. Conditions as each theorem lists them.
  Contracts of slices.insertionSortCmpFunc and slices.pdqsortCmpFunc at ints, by a comparison that is a method bound to its receiver, for at most twelve elements. Conditions as each theorem lists them.
  The library's contracts of slices.SortFunc and slices.Sort lie at this program: their functions' bodies are compared by the kernel. No conditions.
  Contract of (table.rules).tried: the places of at most twelve rules as they are tried. Conditions as each theorem lists them.
  Plain mathematics on lists of cubes: which cubes are spare, and that a list without them has the same headers. No program in sight. Conditions as each theorem lists them.
  A slice of cubes in memory, wherever it lies; contracts of slices.IndexFunc and slices.ContainsFunc over cubes, and of pile.Sound and pile.Has. Conditions as each theorem lists them.
  Contracts of slices.IndexFunc and slices.ContainsFunc at rules, of (table.rules).sound and of slices.Index at ints. Conditions as each theorem lists them.
  The order of pile.widestFirst: contracts of cmp.Compare and cmp.Or at ints, of head.Ones and of the comparing closure, each with what it adds to memory. Conditions as each theorem lists them.
  The sort of pile.widestFirst: places of cubes, those that care for the fewest bits first, out of the library's contract of slices.SortFunc. Conditions as each theorem lists them.
  Contract of pile.widestFirst: the places of the sound cubes, those that care for the fewest bits first. Conditions as each theorem lists them.
  Plain mathematics on what pile.leanUpTo keeps: taking the widest cubes first and leaving out what lies within a kept one is leaving out the spare ones. No program in sight. Conditions as each theorem lists them.
-/
import Derived.Test.YtmlammdipbkkfaaGreatJ5Tableseen
import Derived.Deep.LoopGhost
import Derived.Lib.Hide
import Derived.Shelf.SlSortCmp.Kit1
import Derived.Sort.WalkA
import Derived.Sort.WalkB2
import Derived.Sort.WalkB12
import Derived.Shelf.SlSortCmp.NoneTotal
import Derived.Shelf.Sort.Plain
import Derived.Test.YtmlammdipbkkfaaGreatProg
import Derived.Laws.MakeOwn
import Derived.Deep.AppendLies
import Derived.Deep.DeepCutAuto
import Derived.Deep.Light
import Derived.OwnWalk
import Derived.Shelf.GgClosure.Gives
import Derived.Sort.Grow
import Derived.Deep.RegionHeld3
namespace Go.Proofs.Hd
open Go.RowKit Go.Sort
/-- Does the match of rule number k have a header? -/
def hasI (L : List Rl) (x y : BitVec 64) (k : Nat) : Bool := L[k]!.m.has x y
/-- The first rule that is tried and has the header. -/
def fndI (L : List Rl) (x y : BitVec 64) : Option Nat := (ordI L).find? (hasI L x y)
theorem leI_lt {L : List Rl} {a b : Nat} (h : decide (cfB L a b < 0) = true) : leI L a b = true := by
  rw [cfB_lt, decide_eq_true_eq] at h
  unfold leI
  rw [decide_eq_true_eq]
  omega
theorem leI_ge {L : List Rl} {a b : Nat} (h : decide (cfB L a b < 0) = false) : leI L b a = true := by
  rw [cfB_lt, decide_eq_false_iff_not] at h
  unfold leI
  rw [decide_eq_true_eq]
  omega
theorem leI_self (L : List Rl) (a : Nat) : leI L a a = true := by unfold leI; rw [decide_eq_true_eq]; omega
theorem mem_ordI {L : List Rl} {k : Nat} : k ∈ ordI L ↔ k < L.length := by rw [(ordI_perm L).mem_iff, List.mem_range]
theorem fndI_none {L : List Rl} {x y : BitVec 64} (h : ∀ k, k < L.length → hasI L x y k = false) : fndI L x y = none := by
  unfold fndI
  rw [List.find?_eq_none]
  intro k hk
  rw [h k (mem_ordI.1 hk)]
  simp
theorem find_sorted {P : Nat → Bool} {R : Nat → Nat → Prop} (ra : ∀ a b, R a b → R b a → a = b) : ∀ {ks : List Nat} {b : Nat}, ks.Pairwise R → b ∈ ks → P b = true → (∀ k ∈ ks, P k = true → R b k) → ks.find? P = some b := by
  intro ks
  induction ks with
  | nil => intro b _ hb; simp at hb
  | cons a ks ih =>
    intro b hs hb hp hm
    rw [List.pairwise_cons] at hs
    rw [List.find?_cons]
    cases ha : P a with
    | true =>
      rcases List.mem_cons.1 hb with e | hb2
      · rw [e]
      · rw [ra a b (hs.1 b hb2) (hm a (List.mem_cons_self ..) ha)]
    | false =>
      rcases List.mem_cons.1 hb with e | hb2
      · rw [e, ha] at hp; cases hp
      · exact ih hs.2 hb2 hp (fun k hk => hm k (List.mem_cons_of_mem _ hk))
theorem fndI_some {L : List Rl} {x y : BitVec 64} {b : Nat} (hb : b < L.length) (hp : hasI L x y b = true) (h : ∀ k, k < L.length → hasI L x y k = true → leI L b k = true) : fndI L x y = some b :=
  find_sorted (R := fun a b => leI L a b = true) (fun a b => leI_anti L a b) (ordI_sorted L) (mem_ordI.2 hb) hp (fun k hk hpk => h k (mem_ordI.1 hk) hpk)
/-- What stands as the first so far, among the first i rules. -/
def FstIs (L : List Rl) (x y : BitVec 64) (i : Nat) (z : Option Nat) : Prop := (z = none ∧ ∀ j, j < i → hasI L x y j = false) ∨ ∃ b, z = some b ∧ b < i ∧ hasI L x y b = true ∧ ∀ j, j < i → hasI L x y j = true → leI L b j = true
theorem FstIs.zero (L : List Rl) (x y : BitVec 64) : FstIs L x y 0 none := .inl ⟨rfl, fun _ hj => absurd hj (Nat.not_lt_zero _)⟩
theorem FstIs.no {L : List Rl} {x y : BitVec 64} {i : Nat} {z : Option Nat} (h : FstIs L x y i z) (hi : hasI L x y i = false) : FstIs L x y (i + 1) z := by
  rcases h with ⟨e, h⟩ | ⟨b, e, hb, hp, h⟩
  · refine .inl ⟨e, fun j hj => ?_⟩
    rcases Nat.lt_or_ge j i with h1 | h1
    · exact h j h1
    · rw [show j = i by omega]; exact hi
  · refine .inr ⟨b, e, by omega, hp, fun j hj hpj => ?_⟩
    rcases Nat.lt_or_ge j i with h1 | h1
    · exact h j h1 hpj
    · rw [show j = i by omega, hi] at hpj; cases hpj
theorem FstIs.first {L : List Rl} {x y : BitVec 64} {i : Nat} (h : FstIs L x y i none) (hi : hasI L x y i = true) : FstIs L x y (i + 1) (some i) := by
  rcases h with ⟨_, h⟩ | ⟨b, e, _⟩
  · refine .inr ⟨i, rfl, by omega, hi, fun j hj hpj => ?_⟩
    rcases Nat.lt_or_ge j i with h1 | h1
    · rw [h j h1] at hpj; cases hpj
    · rw [show j = i by omega]; exact leI_self L i
  · cases e
theorem FstIs.more {L : List Rl} {x y : BitVec 64} {i b : Nat} (h : FstIs L x y i (some b)) (hi : hasI L x y i = true) (hl : leI L i b = true) : FstIs L x y (i + 1) (some i) := by
  rcases h with ⟨e, _⟩ | ⟨b', e, hb, hp, h⟩
  · cases e
  · injection e with e; subst e
    refine .inr ⟨i, rfl, by omega, hi, fun j hj hpj => ?_⟩
    rcases Nat.lt_or_ge j i with h1 | h1
    · exact leI_trans L _ _ _ hl (h j h1 hpj)
    · rw [show j = i by omega]; exact leI_self L i
theorem FstIs.keep {L : List Rl} {x y : BitVec 64} {i b : Nat} (h : FstIs L x y i (some b)) (hl : leI L b i = true) : FstIs L x y (i + 1) (some b) := by
  rcases h with ⟨e, _⟩ | ⟨b', e, hb, hp, h⟩
  · cases e
  · injection e with e; subst e
    refine .inr ⟨b, rfl, by omega, hp, fun j hj hpj => ?_⟩
    rcases Nat.lt_or_ge j i with h1 | h1
    · exact h j h1 hpj
    · rw [show j = i by omega]; exact hl
theorem FstIs.last {L : List Rl} {x y : BitVec 64} {z : Option Nat} (h : FstIs L x y L.length z) : fndI L x y = z := by
  rcases h with ⟨e, h⟩ | ⟨b, e, hb, hp, h⟩
  · rw [e]; exact fndI_none h
  · rw [e]; exact fndI_some hb hp h
theorem FstIs.lt {L : List Rl} {x y : BitVec 64} {i b : Nat} (h : FstIs L x y i (some b)) : b < i := by
  rcases h with ⟨e, _⟩ | ⟨b', e, hb, _⟩
  · cases e
  · injection e with e; subst e; exact hb
/-- A found place as Find hands it back. -/
def fz : Option Nat → Int | some b => (b : Int) | none => 0
theorem at_pos {L : List Rl} {k : Nat} {r : Rl} (h : L[k]? = some r) : L[k]! = r := by
  obtain ⟨hl, e⟩ := List.getElem?_eq_some_iff.1 h
  rw [getElem!_pos L k hl, e]
theorem hasI_at {L : List Rl} {k : Nat} {r : Rl} (h : L[k]? = some r) (x y : BitVec 64) : hasI L x y k = r.m.has x y := by unfold hasI; rw [at_pos h]
theorem cfB_at {L : List Rl} {i j : Nat} {p q : Rl} (hi : L[i]? = some p) (hj : L[j]? = some q) : cfB L i j = cfP p q i j := by unfold cfB; rw [at_pos hi, at_pos hj]
end Go.Proofs.Hd
namespace Go.Proofs
open Go.RowKit Go.Proofs.Hd Go.Sort Go.Lib
attribute [local go_sem] uv_nonneg
set_option maxHeartbeats 4000000 in
set_option maxRecDepth 100000 in
theorem find_c (v : Value) (L : List Rl) (hh hl : BitVec 64) (w : World) (hn : L.length ≤ 4611686018427387904) (hv : Ru w v L) :
    Calls Tryz.prog 20 #[v, .agg #[.int .u64 (uv hh), .int .u64 (uv hl)]] w fun e w' => e = .returned (.tuple #[.int .i64 (fz (fndI L hh hl)), .bool (fndI L hh hl).isSome]) ∧ Below w.heap.size w w' := by
  obtain ⟨A, cap, rfl, hA⟩ := hv.form
  have hlz : (L.length : Int) ≤ 4611686018427387904 := by omega
  have HA := Lib.hid hA
  have eg : ∀ args w, (callFunc 27 args).run Tryz.prog w = .ok (.enter 27 args) w := enters_of Tryz.func27 (by kernel_rfl) rfl
  have B0 := below1 w (.cells #[.int .u64 (uv hh), .int .u64 (uv hl)] 45)
  have X0 : Blk (w.alloc (.cells #[.int .u64 (uv hh), .int .u64 (uv hl)] 45)) w.heap.size 45 #[.int .u64 (uv hh), .int .u64 (uv hl)] := Blk.new w _ _
  have HB := Lib.hid B0
  have HX := Lib.hid X0
  clear hv hA B0 X0
  go_enter Tryz.func20, Tryz.ntmps20
  go_wp2
  go_loopg [7, 8, 9, 10, 15] L.length (fun gk s7 s8 _ _ s15 wr => ∃ (k : Nat) (z : Option Nat), k ≤ L.length ∧ gk = L.length - k ∧ s15 = .int .i64 k ∧ s7 = .int .i64 (fz z) ∧ s8 = .bool z.isSome ∧ Hid (FstIs L hh hl k z) ∧ Hid (Below w.heap.size w wr) ∧ Hid (Blk wr w.heap.size 45 #[.int .u64 (uv hh), .int .u64 (uv hl)]))
  case atStart => exact ⟨0, none, Nat.zero_le _, rfl, rfl, rfl, rfl, FstIs.zero L hh hl, HB, HX⟩
  case round =>
    clear HB HX
    obtain ⟨k, z, hk, rfl, rfl, rfl, rfl, HF, HB, HX⟩ := hrel
    by_cases hlt : k < L.length
    · have hltz : (k : Int) < (L.length : Int) := by omega
      obtain ⟨r, hr⟩ : ∃ r, L[k]? = some r := ⟨_, List.getElem?_eq_getElem hlt⟩
      obtain ⟨b, off, rfl, hb, hpc⟩ := HA.out (by intro h; rw [h] at hlt; simp at hlt)
      obtain ⟨c0, c1, c2, c3, c4, c5, c6, c7, c8, c9, c10, c11⟩ := ((hpc k r hr).on HB.out).out
      have hb1 := below1 wr (.cells #[.int .i64 r.pri, .int .u64 (uv r.m.vh), .int .u64 (uv r.m.vl), .int .u64 (uv r.m.ch), .int .u64 (uv r.m.cl), .int .i64 r.kind, .int .i64 r.port, .int .i64 r.tab, .int .u64 (uv r.s.vh), .int .u64 (uv r.s.vl), .int .u64 (uv r.s.ch), .int .u64 (uv r.s.cl)] 51)
      have HB1 := Lib.hid (HB.out.trans (hb1.mono HB.out.size))
      have HX1 := Lib.hid (HX.out.on hb1)
      have h0 := HX1.out.cell 0
      have h1 := HX1.out.cell 1
      have HR := Lib.hid hr
      have HPC := Lib.hid hpc
      have HI := Lib.hid (hasI_at hr hh hl)
      clear hr hpc hb1 HB HX
      cases hq : r.m.has hh hl with
      | false =>
        go_wp2_with fail
        (with_reducible refine (chas false r.m hh hl _ hq).mono ?_)
        rintro e w2 ⟨rfl, hb2⟩
        have HB2 := Lib.hid (HB1.out.trans (hb2.mono HB1.out.size))
        have HX2 := Lib.hid (HX1.out.on hb2)
        clear HB1 HX1 hb2 h0 h1 c0 c1 c2 c3 c4 c5 c6 c7 c8 c9 c10 c11
        go_wp2
        go_roundg (L.length - (k + 1))
        case measure => omega
        case rel => exact ⟨k + 1, z, by omega, rfl, by go_num, rfl, rfl, HF.out.no (by rw [HI.out, hq]), HB2, HX2⟩
      | true =>
        cases z with
        | none =>
          go_wp2_with fail
          (with_reducible refine (chas true r.m hh hl _ hq).mono ?_)
          rintro e w2 ⟨rfl, hb2⟩
          have HB2 := Lib.hid (HB1.out.trans (hb2.mono HB1.out.size))
          have HX2 := Lib.hid (HX1.out.on hb2)
          clear HB1 HX1 hb2 h0 h1 c0 c1 c2 c3 c4 c5 c6 c7 c8 c9 c10 c11
          go_wp2
          go_roundg (L.length - (k + 1))
          case measure => omega
          case rel => exact ⟨k + 1, some k, by omega, rfl, by go_num, rfl, rfl, HF.out.first (by rw [HI.out, hq]), HB2, HX2⟩
        | some z =>
          have hz := HF.out.lt
          obtain ⟨p, hp⟩ : ∃ p, L[z]? = some p := ⟨_, List.getElem?_eq_getElem (by omega)⟩
          have HP := Lib.hid hp
          clear hp
          obtain ⟨rr, hrr⟩ : ∃ rr, cfP r p k z = rr := ⟨_, rfl⟩
          have HQ : Hid (cfB L k z = rr) := by show _ = _; rw [cfB_at HR.out HP.out, hrr]
          have HRR := Lib.hid hrr
          clear hrr
          go_wp2_with fail
          (with_reducible refine (chas true r.m hh hl _ hq).mono ?_)
          rintro e w2 ⟨rfl, hb2⟩
          have HB2 := Lib.hid (HB1.out.trans (hb2.mono HB1.out.size))
          have HX2 := Lib.hid (HX1.out.on hb2)
          clear HB1 HX1 hb2 h0 h1 c0 c1 c2 c3 c4 c5 c6 c7 c8 c9 c10 c11
          have hcon := tcmp_g r p rr k z L.length b off cap w2 hlt (by omega) hn ((HPC.out k r HR.out).on HB2.out) ((HPC.out z p HP.out).on HB2.out) HRR.out
          cases hd : decide (rr < 0) with
          | true =>
            have hdz : rr < 0 := of_decide_eq_true hd
            go_wp2_with (go_at_fn 27; refine hcon.mono ?_; rintro e w3 ⟨rfl, hb3⟩)
            have HB3 := Lib.hid (HB2.out.trans (hb3.below.mono HB2.out.size))
            have HX3 := Lib.hid (HX2.out.on hb3.below)
            clear HB2 HX2 hb3
            go_roundg (L.length - (k + 1))
            case measure => omega
            case rel => exact ⟨k + 1, some k, by omega, rfl, by go_num, rfl, rfl, HF.out.more (by rw [HI.out, hq]) (leI_lt (by rw [HQ.out]; exact hd)), HB3, HX3⟩
          | false =>
            have hdz : ¬ rr < 0 := of_decide_eq_false hd
            go_wp2_with (go_at_fn 27; refine hcon.mono ?_; rintro e w3 ⟨rfl, hb3⟩)
            have HB3 := Lib.hid (HB2.out.trans (hb3.below.mono HB2.out.size))
            have HX3 := Lib.hid (HX2.out.on hb3.below)
            clear HB2 HX2 hb3
            go_roundg (L.length - (k + 1))
            case measure => omega
            case rel => exact ⟨k + 1, some z, by omega, rfl, by go_num, rfl, rfl, HF.out.keep (leI_ge (by rw [HQ.out]; exact hd)), HB3, HX3⟩
    · have hltz : ¬ (k : Int) < (L.length : Int) := by omega
      obtain rfl : k = L.length := by omega
      have HE : Hid (fndI L hh hl = z) := HF.out.last
      clear HF HA HX
      go_wp2
      go_ret2
      exact ⟨by rw [HE.out]; rfl, HB.out⟩
end Go.Proofs

namespace Go.Proofs
open Go.RowKit Go.Proofs.Hd Go.Sort Go.Shelf Go.Lib
/-- Numbers as cells. -/
def encN {α : Type} (en : α → Nat) (x : α) : Value := .int .i64 (en x : Int)
/-- What is asked of a comparison that is bound to a receiver: in each world of the sort it says cf; it may draw and lay blocks, and turns nothing. -/
def CmpB (g : Nat) (rv : Value) {α : Type} [Inhabited α] (en : α → Nat) (cf : α → α → Int) (blk off size : Nat) (w : World) : Prop :=
  ∀ (m : Nat) (os : Array Obj) (dk : Array α), dk.size = size → ∀ x y : α, Calls Tryz.prog g #[rv, encN en x, encN en y] (sortWorld (encN en) w blk off m dk os) fun e w' => e = .returned (.int .i64 (cf x y)) ∧ Grew (sortWorld (encN en) w blk off m dk os) w'
theorem cmpB_at {g : Nat} {rv : Value} {α : Type} [Inhabited α] {en : α → Nat} {cf : α → α → Int} {blk off size : Nat} {w W : World} {dk : Array α} (h : SW (encN en) w blk off dk W) (hC : CmpB g rv en cf blk off size w) (hs : dk.size = size) (x y : α) (n : Nat) (os : Array Obj) :
    Calls Tryz.prog g #[rv, .int .i64 (en x : Int), .int .i64 (en y : Int)] (grow (W.drewN n) os) fun e w' => e = .returned (.int .i64 (cf x y)) ∧ ∃ q os', w' = grow ((grow (W.drewN n) os).drewN q) os' := by
  obtain ⟨m, os0, hw⟩ := h.grown n os
  rw [hw]
  exact hC m os0 dk hs x y
set_option maxHeartbeats 16000000 in
set_option maxRecDepth 1000000 in
theorem insB_c {α : Type} [Inhabited α] (en : α → Nat) (cf : α → α → Int) (g : Nat) (rv : Value) (blk off cap n : Nat) (d0 d : Array α) (w0 w : World) (eg : ∀ args w, (callFunc g args).run Tryz.prog w = .ok (.enter g args) w)
    (hC : CmpB g rv en cf blk off n w0) (R : Row1 (encN en) w0 blk off d0) (h0 : d0.size = n) (hs : d.size = n) (hS : SW (encN en) w0 blk off d w) (hn : n ≤ 12) :
    Calls Tryz.prog 49 #[.slice (some ⟨blk, off, none⟩) n cap, .int .i64 0, .int .i64 n, .func (.func g) #[rv] #[]] w fun e w' => e = .returned (.tuple #[]) ∧ SW (encN en) w0 blk off (Sort.insertionSort (ltOf cf) d 0 n) w' := by
  have HC := Lib.hid hC
  have HS := Lib.hid hS
  have mixed : Tryz.prog.follows Departure.mixedOrders = true := by kernel_rfl
  have hnz : (n : Int) ≤ 12 := by omega
  clear hC hS
  go_enter Tryz.func49, Tryz.ntmps49
  go_wp2
  go_loopg [8, 9] n (fun gk s8 _ wr => ∃ (i : Nat) (dk : Array α), s8 = .int .i64 i ∧ 0 < i ∧ i ≤ n + 1 ∧ n + 1 - i ≤ gk + 1 ∧ dk.size = n ∧ Hid (SW (encN en) w0 blk off dk wr) ∧ Hid (insOuter (ltOf cf) 0 n i dk = insOuter (ltOf cf) 0 n 1 d))
  case atStart => exact ⟨1, d, rfl, by omega, by omega, by omega, hs, HS, rfl⟩
  case round =>
    clear HS
    obtain ⟨i, dk, rfl, hi0, hin, hgk, hsk, HW, HO⟩ := hrel
    by_cases hlt : i < n
    · have hltz : (i : Int) < (n : Int) := by omega
      go_wp2
      go_loopg [9] i (fun gj s9 wj => ∃ (j : Nat) (dj : Array α), s9 = .int .i64 j ∧ j ≤ i ∧ j ≤ gj ∧ dj.size = n ∧ Hid (SW (encN en) w0 blk off dj wj) ∧ Hid (insInner (ltOf cf) 0 j dj = insInner (ltOf cf) 0 i dk))
      case atStart => exact ⟨i, dk, rfl, Nat.le_refl _, Nat.le_refl _, hsk, HW, rfl⟩
      case round =>
        clear HW
        obtain ⟨j, dj, rfl, hji, hgj, hsj, HJ, HI⟩ := hrel
        have OUT : Hid ((j ≤ 0 ∨ (ltOf cf) dj[j]! dj[j - 1]! = false) → insOuter (ltOf cf) 0 n (i + 1) dj = insOuter (ltOf cf) 0 n 1 d) := fun h => by
          rw [← HO.out, insOuter_go _ _ _ _ _ hlt, ← HI.out, insInner_stop _ _ _ _ h]
        rcases Nat.eq_zero_or_pos j with hj0 | hj0
        · subst hj0
          go_wp2_with fail
          go_big_region_o
          have H2 : Hid (SW (encN en) w0 blk off dj wr.drew) := HJ.out.drew
          clear HJ
          generalize wr.drew = w2 at H2 ⊢
          go_wp2
          go_roundg (n - (i + 1))
          case measure => omega
          case rel => exact ⟨i + 1, dj, by go_num, by omega, by omega, by omega, hsj, H2, OUT.out (Or.inl (Nat.le_refl _))⟩
        · obtain ⟨p, rfl⟩ : ∃ p, j = p + 1 := ⟨j - 1, by omega⟩
          obtain ⟨q, hq⟩ : ∃ q, q = p + 1 := ⟨_, rfl⟩
          have hqz : (p : Int) + 1 = (q : Int) := by omega
          have zp : (0 : Int) ≤ (p : Int) := by omega
          have zq : ((q : Int)) < (n : Int) := by omega
          have zq0 : (0 : Int) < (q : Int) := by omega
          have zd : decide (0 < q) = true := decide_eq_true (by omega)
          have zq1 : 0 < q := by omega
          have zp2 : ((p : Int)) < (n : Int) := by omega
          have zs : IntKind.i64.wrap ((q : Int) - 1) = (p : Int) := by rw [IntKind.wrap_i64]; omega
          obtain ⟨x, hx⟩ : ∃ x, x = dj[q]! := ⟨_, rfl⟩
          obtain ⟨y, hy⟩ : ∃ y, y = dj[p]! := ⟨_, rfl⟩
          have l1 : ∀ m os, (grow (wr.drewN m) os).cell? ⟨blk, off + q, none⟩ = some (.int .i64 (en x : Int)) := fun m os => by rw [hx]; exact HJ.out.cl R (by omega) q (by omega) m os
          have l2 : ∀ m os, (grow (wr.drewN m) os).cell? ⟨blk, off + p, none⟩ = some (.int .i64 (en y : Int)) := fun m os => by rw [hy]; exact HJ.out.cl R (by omega) p (by omega) m os
          have hc := cmpB_at HJ.out HC.out hsj x y
          have HQ := Lib.hid hq
          have HX := Lib.hid hx
          have HY := Lib.hid hy
          obtain ⟨c, hcv⟩ : ∃ c, cf x y = c := ⟨_, rfl⟩
          rw [hcv] at hc
          have HV := Lib.hid hcv
          have ej : ((p + 1 : Nat) : Int) = (q : Int) := by omega
          rw [ej]
          clear hq hx hy hcv ej hqz
          cases hd : decide (c < 0) with
          | true =>
            have hdz : c < 0 := of_decide_eq_true hd
            have HL : Hid ((ltOf cf) dj[p + 1]! dj[p + 1 - 1]! = true) := by
              show decide (cf _ _ < 0) = true
              rw [Nat.add_sub_cancel, ← HQ.out, ← HX.out, ← HY.out, HV.out]; exact hd
            go_wp2_with fail
            go_quiet_grown (first | (go_at_fn g; refine Calls.grown_of (hc _ _)))
            have H2 : Hid (SW (encN en) w0 blk off dj (grow (wr.drewN nq) osq)) := HJ.out.grown nq osq
            clear l1 l2 hc HJ
            generalize grow (wr.drewN nq) osq = w2 at H2 ⊢
            clear nq osq
            have H3 : Hid (SW (encN en) w0 blk off (swp dj q p) ((w2.setCell ⟨blk, off + q, none⟩ (.int .i64 (en y : Int))).setCell ⟨blk, off + p, none⟩ (.int .i64 (en x : Int))).drew) := by
              show SW _ _ _ _ _ _
              rw [HX.out, HY.out]; exact H2.out.swapped R q p (by omega) (by omega)
            have ca : w2.cell? ⟨blk, off + q, none⟩ = some (.int .i64 (en x : Int)) := by rw [HX.out]; exact H2.out.c1 R (by omega) q (by omega)
            have cb : w2.cell? ⟨blk, off + p, none⟩ = some (.int .i64 (en y : Int)) := by rw [HY.out]; exact H2.out.c1 R (by omega) p (by omega)
            have fa := H2.out.f1 R (by omega) q (by omega)
            have fb := H2.out.f1 R (by omega) p (by omega)
            obtain ⟨u, cc⟩ := H2.out.c2 R (by omega) q p (by omega) (by omega) (.int .i64 (en y : Int))
            clear H2
            go_wp2_with fail
            go_big_region_o
            clear ca cb cc fa fb
            generalize ((w2.setCell ⟨blk, off + q, none⟩ (.int .i64 (en y : Int))).setCell ⟨blk, off + p, none⟩ (.int .i64 (en x : Int))).drew = w3 at H3 ⊢
            go_wp2
            go_roundg p
            case measure => omega
            case rel => exact ⟨p, swp dj q p, by first | rfl | go_num, by omega, Nat.le_refl _, by rw [size_swp]; exact hsj, H3, by show _ = _; rw [← HI.out, insInner_go (ltOf cf) 0 (p + 1) dj (by omega) HL.out, Nat.add_sub_cancel, HQ.out]⟩
          | false =>
            have hdz : ¬ c < 0 := of_decide_eq_false hd
            have HL : (ltOf cf) dj[p + 1]! dj[p + 1 - 1]! = false := by
              show decide (cf _ _ < 0) = false
              rw [Nat.add_sub_cancel, ← HQ.out, ← HX.out, ← HY.out, HV.out]; exact hd
            have HE := Lib.hid (OUT.out (Or.inr HL))
            clear HL OUT
            go_wp2_with fail
            go_quiet_grown (first | (go_at_fn g; refine Calls.grown_of (hc _ _)))
            have H2 : Hid (SW (encN en) w0 blk off dj (grow (wr.drewN nq) osq)) := HJ.out.grown nq osq
            clear l1 l2 hc HJ
            generalize grow (wr.drewN nq) osq = w2 at H2 ⊢
            clear nq osq
            go_wp2
            go_roundg (n - (i + 1))
            case measure => omega
            case rel => exact ⟨i + 1, dj, by go_num, by omega, by omega, by omega, hsj, H2, HE⟩
    · have hltz : ¬ (i : Int) < (n : Int) := by omega
      have HE : Hid (Sort.insertionSort (ltOf cf) d 0 n = dk) := by
        show _ = _
        unfold Sort.insertionSort
        rw [Nat.zero_add, ← HO.out, insOuter_stop _ _ _ _ _ hlt]
      clear HO
      go_wp2
      go_end0
      exact ⟨rfl, by rw [HE.out]; exact HW.out⟩
set_option maxHeartbeats 4000000 in
set_option maxRecDepth 1000000 in
theorem pdqB_c {α : Type} [Inhabited α] (en : α → Nat) (cf : α → α → Int) (g : Nat) (rv : Value) (blk off cap n k : Nat) (d0 d : Array α) (w0 w : World) (eg : ∀ args w, (callFunc g args).run Tryz.prog w = .ok (.enter g args) w)
    (hC : CmpB g rv en cf blk off n w0) (R : Row1 (encN en) w0 blk off d0) (h0 : d0.size = n) (hs : d.size = n) (hS : SW (encN en) w0 blk off d w) (hn : n ≤ 12) :
    Calls Tryz.prog 36 #[.slice (some ⟨blk, off, none⟩) n cap, .int .i64 0, .int .i64 n, .int .i64 k, .func (.func g) #[rv] #[]] w fun e w' => e = .returned (.tuple #[]) ∧ SW (encN en) w0 blk off (Sort.insertionSort (ltOf cf) d 0 n) w' := by
  have hcon := insB_c en cf g rv blk off cap n d0 d w0 w eg hC R h0 hs hS hn
  have hnz : (n : Int) ≤ 12 := by omega
  clear hC R hS
  go_enter Tryz.func36, Tryz.ntmps36
  go_wp2
  refine wp_loop_rounds 1 ?_
  rw [rounds_succ]
  go_wp2_with (go_at_call 49; refine hcon.mono ?_; rintro e w1 ⟨rfl, hw1⟩)
  refine bodyPost_ret (v := .tuple #[]) (results_none Tryz.results36 _ _ _) rfl ?_
  exact ⟨rfl, hw1⟩
end Go.Proofs

namespace Go.Proofs
open Go.Shelf
def Tryz.sortF_ren : Go.Shelf.Ren := ⟨fun | 6 => 26 | 15 => 37 | 14 => 36 | 28 => 57 | 29 => 58 | 20 => 49 | 21 => 50 | 22 => 51 | 23 => 52 | 24 => 53 | 25 => 54 | 26 => 55 | 27 => 56 | 46 => 70 | 47 => 71 | 48 => 72 | 49 => 73 | 50 => 74 | 57 => 86 | n => n, fun | 22 => 32 | 24 => 3 | 25 => 69 | 3 => 3 | 39 => 82 | 0 => 0 | 53 => 104 | 55 => 43 | 4 => 4 | 46 => 98 | 45 => 97 | 50 => 59 | 5 => 5 | 9 => 9 | 66 => 115 | 70 => 119 | 76 => 130 | 77 => 131 | n => n, fun | n => n⟩
theorem Tryz.sortF : Go.Proofs.SlLaysF.n6 Tryz.prog Tryz.sortF_ren := {
  mixed := by kernel_rfl
  f6 := ⟨Tryz.f26.name, by decide, Tryz.func26.trans (congrArg some (by kernel_rfl))⟩
  f14 := ⟨Tryz.f36.name, by decide, Tryz.func36.trans (congrArg some (by kernel_rfl))⟩
  f15 := Tryz.func37.trans (congrArg some (by kernel_rfl))
  f20 := ⟨Tryz.f49.name, by decide, Tryz.func49.trans (congrArg some (by kernel_rfl))⟩
  f21 := ⟨Tryz.f50.name, by decide, Tryz.func50.trans (congrArg some (by kernel_rfl))⟩
  f22 := ⟨Tryz.f51.name, by decide, Tryz.func51.trans (congrArg some (by kernel_rfl))⟩
  f23 := ⟨Tryz.f52.name, by decide, Tryz.func52.trans (congrArg some (by kernel_rfl))⟩
  f24 := ⟨Tryz.f53.name, by decide, Tryz.func53.trans (congrArg some (by kernel_rfl))⟩
  f25 := ⟨Tryz.f54.name, by decide, Tryz.func54.trans (congrArg some (by kernel_rfl))⟩
  f26 := ⟨Tryz.f55.name, by decide, Tryz.func55.trans (congrArg some (by kernel_rfl))⟩
  f27 := ⟨Tryz.f56.name, by decide, Tryz.func56.trans (congrArg some (by kernel_rfl))⟩
  f28 := Tryz.func57.trans (congrArg some (by kernel_rfl))
  f29 := Tryz.func58.trans (congrArg some (by kernel_rfl))
  f46 := ⟨Tryz.f70.name, by decide, Tryz.func70.trans (congrArg some (by kernel_rfl))⟩
  f47 := Tryz.func71.trans (congrArg some (by kernel_rfl))
  f48 := Tryz.func72.trans (congrArg some (by kernel_rfl))
  f49 := ⟨Tryz.f73.name, by decide, Tryz.func73.trans (congrArg some (by kernel_rfl))⟩
  f50 := ⟨Tryz.f74.name, by decide, Tryz.func74.trans (congrArg some (by kernel_rfl))⟩
  f57 := ⟨Tryz.f86.name, by decide, Tryz.func86.trans (congrArg some (by kernel_rfl))⟩
  t0 := Tryz.underlying0
  a0 := Tryz.isAgg0
  z0 := Tryz.sizeOf0
  v0 := Tryz.zeroValue0
  t3 := Tryz.underlying3
  a3 := Tryz.isAgg3
  z3 := Tryz.sizeOf3
  v3 := Tryz.zeroValue3
  t4 := Tryz.underlying4
  a4 := Tryz.isAgg4
  z4 := Tryz.sizeOf4
  v4 := Tryz.zeroValue4
  t5 := Tryz.underlying5
  a5 := Tryz.isAgg5
  z5 := Tryz.sizeOf5
  v5 := Tryz.zeroValue5
  t9 := Tryz.underlying9
  a9 := Tryz.isAgg9
  z9 := Tryz.sizeOf9
  v9 := Tryz.zeroValue9
  t22 := Tryz.underlying32
  a22 := Tryz.isAgg32
  z22 := Tryz.sizeOf32
  v22 := Tryz.zeroValue32
  a24 := Tryz.isAgg3
  z24 := Tryz.sizeOf3
  t25 := Tryz.underlying69
  a25 := Tryz.isAgg69
  z25 := Tryz.sizeOf69
  v25 := Tryz.zeroValue69
  t39 := Tryz.underlying82
  a39 := Tryz.isAgg82
  z39 := Tryz.sizeOf82
  v39 := Tryz.zeroValue82
  t45 := Tryz.underlying97
  a45 := Tryz.isAgg97
  z45 := Tryz.sizeOf97
  v45 := Tryz.zeroValue97
  t46 := Tryz.underlying98
  a46 := Tryz.isAgg98
  z46 := Tryz.sizeOf98
  v46 := Tryz.zeroValue98
  t50 := Tryz.underlying59
  a50 := Tryz.isAgg59
  z50 := Tryz.sizeOf59
  v50 := Tryz.zeroValue59
  t53 := Tryz.underlying104
  a53 := Tryz.isAgg104
  z53 := Tryz.sizeOf104
  v53 := Tryz.zeroValue104
  t55 := Tryz.underlying43
  a55 := Tryz.isAgg43
  z55 := Tryz.sizeOf43
  v55 := Tryz.zeroValue43
  t66 := Tryz.underlying115
  a66 := Tryz.isAgg115
  z66 := Tryz.sizeOf115
  v66 := Tryz.zeroValue115
  t70 := Tryz.underlying119
  a70 := Tryz.isAgg119
  z70 := Tryz.sizeOf119
  v70 := Tryz.zeroValue119
  t76 := Tryz.underlying130
  a76 := Tryz.isAgg130
  z76 := Tryz.sizeOf130
  v76 := Tryz.zeroValue130
  t77 := Tryz.underlying131
  a77 := Tryz.isAgg131
  z77 := Tryz.sizeOf131
  v77 := Tryz.zeroValue131 }
def Tryz.sortI_ren : Go.Shelf.Ren := ⟨fun | 189 => 67 | 125 => 37 | 257 => 81 | 128 => 57 | 129 => 58 | 294 => 88 | 295 => 89 | 296 => 90 | 297 => 91 | 298 => 92 | 299 => 93 | 216 => 94 | 300 => 95 | 301 => 96 | 328 => 101 | 329 => 71 | 330 => 72 | 331 => 102 | 332 => 103 | 215 => 60 | 343 => 105 | n => n, fun | 28 => 32 | 3 => 3 | 46 => 82 | 0 => 0 | 51 => 104 | 53 => 43 | 4 => 4 | 183 => 98 | 182 => 97 | 131 => 59 | 5 => 5 | 9 => 9 | 218 => 115 | 222 => 119 | 228 => 130 | 229 => 131 | n => n, fun | n => n⟩
theorem Tryz.sortI : Go.Proofs.Lays.n189 Tryz.prog Tryz.sortI_ren := {
  mixed := by kernel_rfl
  f125 := Tryz.func37.trans (congrArg some (by kernel_rfl))
  f128 := Tryz.func57.trans (congrArg some (by kernel_rfl))
  f129 := Tryz.func58.trans (congrArg some (by kernel_rfl))
  f189 := Tryz.func67.trans (congrArg some (by kernel_rfl))
  f215 := Tryz.func60.trans (congrArg some (by kernel_rfl))
  f216 := Tryz.func94.trans (congrArg some (by kernel_rfl))
  f257 := Tryz.func81.trans (congrArg some (by kernel_rfl))
  f294 := Tryz.func88.trans (congrArg some (by kernel_rfl))
  f295 := Tryz.func89.trans (congrArg some (by kernel_rfl))
  f296 := Tryz.func90.trans (congrArg some (by kernel_rfl))
  f297 := Tryz.func91.trans (congrArg some (by kernel_rfl))
  f298 := Tryz.func92.trans (congrArg some (by kernel_rfl))
  f299 := Tryz.func93.trans (congrArg some (by kernel_rfl))
  f300 := Tryz.func95.trans (congrArg some (by kernel_rfl))
  f301 := Tryz.func96.trans (congrArg some (by kernel_rfl))
  f328 := Tryz.func101.trans (congrArg some (by kernel_rfl))
  f329 := Tryz.func71.trans (congrArg some (by kernel_rfl))
  f330 := Tryz.func72.trans (congrArg some (by kernel_rfl))
  f331 := Tryz.func102.trans (congrArg some (by kernel_rfl))
  f332 := Tryz.func103.trans (congrArg some (by kernel_rfl))
  f343 := Tryz.func105.trans (congrArg some (by kernel_rfl))
  t0 := Tryz.underlying0
  a0 := Tryz.isAgg0
  z0 := Tryz.sizeOf0
  v0 := Tryz.zeroValue0
  t3 := Tryz.underlying3
  a3 := Tryz.isAgg3
  z3 := Tryz.sizeOf3
  v3 := Tryz.zeroValue3
  t4 := Tryz.underlying4
  a4 := Tryz.isAgg4
  z4 := Tryz.sizeOf4
  v4 := Tryz.zeroValue4
  t5 := Tryz.underlying5
  a5 := Tryz.isAgg5
  z5 := Tryz.sizeOf5
  v5 := Tryz.zeroValue5
  t9 := Tryz.underlying9
  a9 := Tryz.isAgg9
  z9 := Tryz.sizeOf9
  v9 := Tryz.zeroValue9
  t28 := Tryz.underlying32
  a28 := Tryz.isAgg32
  z28 := Tryz.sizeOf32
  v28 := Tryz.zeroValue32
  t46 := Tryz.underlying82
  a46 := Tryz.isAgg82
  z46 := Tryz.sizeOf82
  v46 := Tryz.zeroValue82
  t51 := Tryz.underlying104
  a51 := Tryz.isAgg104
  z51 := Tryz.sizeOf104
  v51 := Tryz.zeroValue104
  t53 := Tryz.underlying43
  a53 := Tryz.isAgg43
  z53 := Tryz.sizeOf43
  v53 := Tryz.zeroValue43
  t131 := Tryz.underlying59
  a131 := Tryz.isAgg59
  z131 := Tryz.sizeOf59
  v131 := Tryz.zeroValue59
  t182 := Tryz.underlying97
  a182 := Tryz.isAgg97
  z182 := Tryz.sizeOf97
  v182 := Tryz.zeroValue97
  t183 := Tryz.underlying98
  a183 := Tryz.isAgg98
  z183 := Tryz.sizeOf98
  v183 := Tryz.zeroValue98
  t218 := Tryz.underlying115
  a218 := Tryz.isAgg115
  z218 := Tryz.sizeOf115
  v218 := Tryz.zeroValue115
  t222 := Tryz.underlying119
  a222 := Tryz.isAgg119
  z222 := Tryz.sizeOf119
  v222 := Tryz.zeroValue119
  t228 := Tryz.underlying130
  a228 := Tryz.isAgg130
  z228 := Tryz.sizeOf130
  v228 := Tryz.zeroValue130
  t229 := Tryz.underlying131
  a229 := Tryz.isAgg131
  z229 := Tryz.sizeOf131
  v229 := Tryz.zeroValue131 }
end Go.Proofs

namespace Go.Proofs
open Go.RowKit Go.Proofs.Hd Go.Sort Go.Shelf Go.Lib
set_option maxHeartbeats 4000000 in
theorem sortB_c {α : Type} [Inhabited α] (en : α → Nat) (cf : α → α → Int) (hO : SWO (ltOf cf)) (g : Nat) (rv : Value) (blk off cap n : Nat) (d : Array α) (w : World) (eg : ∀ args w, (callFunc g args).run Tryz.prog w = .ok (.enter g args) w)
    (hC : CmpB g rv en cf blk off n w) (hH : Holds (encN en) w blk off d) (hblk : blk < w.heap.size) (hs : d.size = n) (hn : n ≤ 12) :
    Calls Tryz.prog 26 #[.slice (some ⟨blk, off, none⟩) n cap, .func (.func g) #[rv] #[]] w fun e w' => e = .returned (.tuple #[]) ∧ ∃ d' m os, PermIn 0 n d d' ∧ SortedIn (ltOf cf) 0 n d' ∧ w' = sortWorld (encN en) w blk off m d' os := by
  have hp : ∀ k : Nat, Calls Tryz.prog 36 #[.slice (some ⟨blk, off, none⟩) n cap, .int .i64 0, .int .i64 n, .int .i64 k, .func (.func g) #[rv] #[]] w fun e w' => e = .returned (.tuple #[]) ∧ SW (encN en) w blk off (Sort.insertionSort (ltOf cf) d 0 n) w' := fun k => pdqB_c en cf g rv blk off cap n k d d w w eg hC ⟨fun _ => rfl, hH, hblk⟩ hs hs (SW.start hH) hn
  have hl : Calls Tryz.prog 37 #[.int .u64 (n : Int)] w fun e w' => e = .returned (.int .i64 (Lib.bitLen n : Nat)) ∧ w' = w := by
    have h := Any.bits_Len (SlLaysF0.n15.bits (P := Tryz.prog) (ρ := Tryz.sortF_ren) { Tryz.sortF with }) (n : Int) w (by omega) (by omega)
    rw [Int.toNat_natCast] at h
    exact h
  have hq := hp (Lib.bitLen n)
  obtain ⟨k, hk⟩ : ∃ k, Lib.bitLen n = k := ⟨_, rfl⟩
  rw [hk] at hl hq
  have wr : IntKind.u64.wrap (n : Int) = n := by simp [IntKind.wrap, IntKind.bits, IntKind.signed]; omega
  have hnz : (n : Int) ≤ 12 := by omega
  have HZ := insertionSort_holds hO d 0 n (Nat.zero_le _) (by omega)
  clear hC hH hp hk
  go_enter Tryz.func26, Tryz.ntmps26
  go_wp2_with (first | (go_at_call 37; refine hl.mono ?_; rintro e w' ⟨rfl, rfl⟩) | (go_at_call 36; refine hq.mono ?_; rintro e w' ⟨rfl, hw1⟩))
  go_end0
  obtain ⟨m, os, rfl⟩ := hw1
  exact ⟨rfl, _, m, os, HZ.1, HZ.2, rfl⟩
end Go.Proofs
namespace Go.Proofs.Hd
open Go.RowKit Go.Sort Go.Shelf Go.Lib
/-- v is a slice that reads as the numbers ks, no longer than its capacity. -/
def PlK (w : World) (v : Value) (ks : List Nat) : Prop := ∃ A cap, v = .slice A ks.length cap ∧ ks.length ≤ cap ∧ cap ≤ maxLen ∧ (ks ≠ [] → ∃ g, A = some ⟨g, 0, none⟩ ∧ g < w.heap.size ∧ ∀ (j k : Nat), ks[j]? = some k → w.cell? ⟨g, j, none⟩ = some (.int .i64 (k : Int)))
theorem PlK.on {w w' : World} {v : Value} {ks : List Nat} (h : PlK w v ks) (hb : Below w.heap.size w w') : PlK w' v ks := by
  obtain ⟨A, cap, e, h1, h2, h⟩ := h
  refine ⟨A, cap, e, h1, h2, fun hne => ?_⟩
  obtain ⟨g, e2, hg, hc⟩ := h hne
  exact ⟨g, e2, Nat.lt_of_lt_of_le hg hb.size, fun j k hk => on_some hb (hc j k hk)⟩
theorem extract_whole {α : Type} (d : Array α) {n : Nat} (h : d.size = n) : (d.extract 0 n).toList = d.toList := by subst h; simp
theorem ordI_nil : ordI [] = [] := List.eq_nil_of_length_eq_zero (ordI_len [])
def cfS (L : List Rl) (x y : {k : Nat // k < L.length}) : Int := cfB L x.1 y.1
theorem ltS (L : List Rl) (x y : {k : Nat // k < L.length}) : ltOf (cfS L) x y = decide (L[y.1]!.pri < L[x.1]!.pri ∨ (L[x.1]!.pri = L[y.1]!.pri ∧ x.1 < y.1)) := cfB_lt L x.1 y.1
theorem swoS (L : List Rl) : SWO (ltOf (cfS L)) where
  irrefl x := by rw [ltS, decide_eq_false_iff_not]; omega
  trans x y z h1 h2 := by rw [ltS, decide_eq_true_eq] at *; omega
  ntrans x y z h1 h2 := by rw [ltS, decide_eq_false_iff_not] at *; omega
theorem sortWorld_cellB {α : Type} [Inhabited α] (enc : α → Value) (w : World) (g off m : Nat) (dk : Array α) (os : Array Obj) (p : Addr) {u : Value} (hp : w.cell? p = some u) (hg : p.block ≠ g) : (sortWorld enc w g off m dk os).cell? p = some u := by
  have hl := World.block_lt_of_cell? w p hp
  unfold sortWorld
  rw [cell?_grow _ _ _ (by rw [size_putRow]; exact hl), cell?_putRow_other _ _ _ _ _ _ (.inl hg), cell?_ahead]
  exact hp
theorem sortWorld_grownB {α : Type} [Inhabited α] (enc : α → Value) (w : World) (g off m : Nat) (dk : Array α) (os : Array Obj) : w.grownBy (sortWorld enc w g off m dk os) (some g) := by
  refine ⟨rfl, rfl, rfl, ?_, fun k hk hne => ?_⟩
  · unfold sortWorld; simp [grow]; try (unfold putRow mapBlock; simp [ahead])
  · unfold sortWorld
    rw [heap_grow_old _ _ (by rw [size_putRow]; exact hk)]
    unfold putRow mapBlock
    simp only [Array.getElem?_modify]
    rw [if_neg (fun e => hne (by rw [e]))]
    rfl
end Go.Proofs.Hd
namespace Go.Proofs
open Go.RowKit Go.Proofs.Hd Go.Sort Go.Shelf Go.Lib
attribute [local go_sem] uv_nonneg
theorem infoIb : (Tryz.prog.info? 3).map (fun i => (i.zero, i.size, i.bytes)) = some (some (.int .i64 0), 1, 8) := by kernel_rfl
/-- The places of the rules, sorted. -/
theorem tsort_c (L : List Rl) (b o cap g cp base : Nat) (w : World) (hl : L.length ≤ 12) (h0 : L ≠ []) (hc : ∀ k r, L[k]? = some r → AtR w b (o + k * 12) r) (hbg : b ≠ g) (hown : w.ownsRow base 3 1 (.slice (some ⟨g, 0, none⟩) L.length cp) L.length (ints (List.range L.length))) :
    Calls Tryz.prog 26 #[.slice (some ⟨g, 0, none⟩) L.length cp, .func (.func 27) #[.slice (some ⟨b, o, none⟩) L.length cap] #[]] w fun e w' => e = .returned (.tuple #[]) ∧ w.grownBy w' (some g) ∧ ∀ (j k : Nat), (ordI L)[j]? = some k → w'.cell? ⟨g, j, none⟩ = some (.int .i64 (k : Int)) := by
  have eg : ∀ args w, (callFunc 27 args).run Tryz.prog w = .ok (.enter 27 args) w := enters_of Tryz.func27 (by kernel_rfl) rfl
  have hpos : 0 < L.length := List.length_pos_iff.2 h0
  haveI : Inhabited {k : Nat // k < L.length} := ⟨⟨0, hpos⟩⟩
  let d : Array {k : Nat // k < L.length} := ((List.range L.length).pmap (fun k h => ⟨k, h⟩) (fun k hk => by simpa using hk)).toArray
  have dsz : d.size = L.length := by simp [d]
  have dval : d.toList.map (·.1) = List.range L.length := by simp [d, List.map_pmap]
  have dget : ∀ j, j < d.size → (List.range L.length)[j]? = some (d[j]!).1 := fun j hj => by
    rw [← dval, List.getElem?_map, getElem!_pos d j hj]
    simp [hj]
  have hH : Holds (encN (fun x : {k : Nat // k < L.length} => x.1)) w g 0 d := fun j hj => by
    constructor
    · rw [Nat.zero_add, hown.cellAt j (by omega)]
      unfold ints
      rw [List.getElem?_map, dget j hj]; rfl
    · exact hown.frozenAt _
  have hlt : g < w.heap.size := by
    rcases hown.2 with ⟨e, _⟩ | ⟨g', cap', cur, e, hge, hheap, _⟩
    · cases e
    · injection e with e1 _ _
      injection e1 with e1
      injection e1 with e1
      subst e1
      exact (Array.getElem?_eq_some_iff.1 hheap).1
  have hC : CmpB 27 (.slice (some ⟨b, o, none⟩) L.length cap) (fun x : {k : Nat // k < L.length} => x.1) (cfS L) g 0 L.length w := fun m os dk _ x y => by
    obtain ⟨p, hp⟩ : ∃ c, L[x.1]? = some c := ⟨_, List.getElem?_eq_getElem x.2⟩
    obtain ⟨q, hq⟩ : ∃ c, L[y.1]? = some c := ⟨_, List.getElem?_eq_getElem y.2⟩
    refine tcmp_g p q _ x.1 y.1 L.length b o cap _ x.2 y.2 (by omega) (fun j v hv => sortWorld_cellB _ _ _ _ _ _ _ _ (hc _ _ hp j v hv) hbg) (fun j v hv => sortWorld_cellB _ _ _ _ _ _ _ _ (hc _ _ hq j v hv) hbg) ?_
    unfold cfS
    rw [cfB_at hp hq]
  refine (sortB_c (fun x : {k : Nat // k < L.length} => x.1) (cfS L) (swoS L) 27 (.slice (some ⟨b, o, none⟩) L.length cap) g 0 cp L.length d w eg hC hH hlt dsz hl).mono ?_
  rintro e w' ⟨rfl, d', n, os, hperm, hsort, rfl⟩
  obtain ⟨hs1, _, hs3⟩ := hperm
  have hd' : d'.size = L.length := by omega
  have hp3 : d'.toList.Perm d.toList := by
    have e1 : (d'.extract 0 L.length).toList = d'.toList := extract_whole d' hd'
    have e2 : (d.extract 0 L.length).toList = d.toList := extract_whole d dsz
    rw [e1, e2] at hs3; exact hs3
  have hord : d'.toList.map (·.1) = ordI L := by
    refine ordI_unique (by rw [← dval]; exact hp3.map _) ?_
    rw [List.pairwise_map, List.pairwise_iff_getElem]
    intro i j hi hj hij
    have hi' : i < d'.size := by simpa using hi
    have hj' : j < d'.size := by simpa using hj
    have := hsort i j (Nat.zero_le _) hij (by omega)
    rw [ltS, decide_eq_false_iff_not, getElem!_pos d' i hi', getElem!_pos d' j hj'] at this
    simp only [Array.getElem_toList]
    unfold leI
    rw [decide_eq_true_eq]
    omega
  refine ⟨rfl, sortWorld_grownB _ _ _ _ _ _ _, fun j k hk => ?_⟩
  have hjl : j < d'.size := by have := (List.getElem?_eq_some_iff.1 hk).1; rw [ordI_len] at this; omega
  unfold sortWorld
  rw [cell?_grow _ _ _ (by rw [size_putRow]; exact hlt)]
  have := cell?_putRow (encN (fun x : {k : Nat // k < L.length} => x.1)) (Sort.ahead w n) g 0 d d' hH hs1 j hjl
  rw [Nat.zero_add] at this
  rw [this]
  rw [← hord, List.getElem?_map] at hk
  have e : d'.toList[j]? = some d'[j]! := by rw [getElem!_pos d' j hjl]; simp [hjl]
  rw [e] at hk
  simp only [Option.map_some, Option.some.injEq] at hk
  show some (Value.int .i64 ((d'[j]!.val : Nat) : Int)) = _
  rw [hk]
def mkI (n : Nat) : Array Value := madeCells (Value.int .i64 0).cells (n * 1)
theorem mkI_size (n : Nat) : (mkI n).size = n * 1 := size_madeCells _ _
theorem make_i (n : Nat) (hn : n ≤ 1000000) (u : World) : (Instr.makeSlice 32 (.int .i64 0) (.int .i64 (n : Int))).run Tryz.prog u = .ok (.slice (some ⟨u.heap.size, 0, none⟩) 0 n) (u.alloc (.cells (mkI n) 3)) := by
  obtain ⟨i0, hi0, hz0, hz1, hz2⟩ := info_parts infoIb
  have h := run_make (P := Tryz.prog) u 32 3 i0 _ Tryz.underlying32 hi0 hz0 .i64 .i64 0 n (by omega) (by omega) (by rw [hz2]; omega) (by omega)
  rw [hz1] at h
  exact h
theorem own_cap {w : World} {base : Nat} {t : TypeId} {n k g cap : Nat} {xs : List Value} (h : w.ownsRow base t k (.slice (some ⟨g, 0, none⟩) n cap) n xs) : n ≤ cap ∧ cap ≤ maxLen := by
  rcases h.2 with ⟨e, _⟩ | ⟨g', cap', cur, e, _, _, h1, h2, _⟩
  · cases e
  · injection e with _ _ e3
    subst e3
    exact ⟨h1, h2⟩
theorem range_snoc (k : Nat) : ints (List.range (k + 1)) = ints (List.range k) ++ [.int .i64 (k : Int)] := by rw [List.range_succ, ints_snoc]
set_option maxHeartbeats 4000000 in
set_option maxRecDepth 100000 in
theorem tried_c (v : Value) (L : List Rl) (w : World) (hl : L.length ≤ 12) (hv : Ru w v L) : Calls Tryz.prog 14 #[v] w fun e w' => ∃ s, e = .returned s ∧ PlK w' s (ordI L) ∧ Below w.heap.size w w' := by
  rcases hv with ⟨rfl, A, cap, rfl⟩ | ⟨b, o, cap, rfl, hb, hc⟩
  · have B0 := below1 w (.cells (mkI 0) 3)
    have hmk : ∀ u : World, (Instr.makeSlice 32 (.int .i64 0) (.int .i64 0)).run Tryz.prog u = .ok (.slice (some ⟨u.heap.size, 0, none⟩) 0 0) (u.alloc (.cells (mkI 0) 3)) := make_i 0 (by omega)
    have hcon := AnyF.slices_SortFunc_none { Tryz.sortF with } (some ⟨w.heap.size, 0, none⟩) 0 (.func (.func 27) #[.slice A 0 cap] #[]) (w.alloc (.cells (mkI 0) 3))
    change Calls Tryz.prog 26 _ _ _ at hcon
    go_enter Tryz.func14, Tryz.ntmps14
    go_wp2
    refine wp_loop_rounds 1 ?_
    rw [rounds_succ]
    go_wp2_with (go_at_call 26; refine hcon.mono ?_; rintro e w' ⟨rfl, rfl⟩)
    go_ret
    exact ⟨_, rfl, ⟨_, 0, by rw [ordI_nil]; rfl, by rw [ordI_nil]; exact Nat.zero_le _, Nat.zero_le _, fun h => absurd ordI_nil h⟩, B0⟩
  · by_cases h0 : L = []
    · subst h0
      have B0 := below1 w (.cells (mkI 0) 3)
      have hmk : ∀ u : World, (Instr.makeSlice 32 (.int .i64 0) (.int .i64 0)).run Tryz.prog u = .ok (.slice (some ⟨u.heap.size, 0, none⟩) 0 0) (u.alloc (.cells (mkI 0) 3)) := make_i 0 (by omega)
      have hcon := AnyF.slices_SortFunc_none { Tryz.sortF with } (some ⟨w.heap.size, 0, none⟩) 0 (.func (.func 27) #[.slice (some ⟨b, o, none⟩) 0 cap] #[]) (w.alloc (.cells (mkI 0) 3))
      change Calls Tryz.prog 26 _ _ _ at hcon
      clear hc
      go_enter Tryz.func14, Tryz.ntmps14
      go_wp2
      refine wp_loop_rounds 1 ?_
      rw [rounds_succ]
      go_wp2_with (go_at_call 26; refine hcon.mono ?_; rintro e w' ⟨rfl, rfl⟩)
      go_ret
      exact ⟨_, rfl, ⟨_, 0, by rw [ordI_nil]; rfl, by rw [ordI_nil]; exact Nat.zero_le _, Nat.zero_le _, fun h => absurd ordI_nil h⟩, B0⟩
    · have hlz : (L.length : Int) ≤ 12 := by omega
      have HC := Lib.hid hc
      have H0 := Lib.hid h0
      obtain ⟨i1, hi1, hz0, hz1, hz2⟩ := info_parts infoIb
      have hmk := make_i L.length (by omega)
      have B0 := Lib.hid (below1 w (.cells (mkI L.length) 3))
      have O0 : Hid ((w.alloc (.cells (mkI L.length) 3)).ownsRow w.heap.size 3 1 (.slice (some ⟨w.heap.size, 0, none⟩) 0 L.length) 0 (ints (List.range 0))) := World.ownsRow_made w _ _ (Nat.le_refl _) (by unfold maxLen; omega) (mkI_size _)
      have HN : Hid (w.heap.size < (w.alloc (.cells (mkI L.length) 3)).heap.size) := by show w.heap.size < _; simp
      clear hc h0
      go_enter Tryz.func14, Tryz.ntmps14
      go_wp2
      go_loopg [3, 4, 10] L.length (fun gk s3 _ s10 wr => ∃ (k g cp : Nat), k ≤ L.length ∧ gk = L.length - k ∧ s10 = .int .i64 k ∧ s3 = .slice (some ⟨g, 0, none⟩) k cp ∧ g < wr.heap.size ∧ Below w.heap.size w wr ∧ wr.ownsRow w.heap.size 3 1 (.slice (some ⟨g, 0, none⟩) k cp) k (ints (List.range k)))
      case atStart => exact ⟨0, w.heap.size, L.length, Nat.zero_le _, rfl, rfl, by simp, HN.out, B0.out, O0.out⟩
      case round =>
        clear B0 O0 HN hmk
        obtain ⟨k, g, cp, hk, rfl, rfl, rfl, hgl, B, O⟩ := hrel
        by_cases hlt : k < L.length
        · have hltz : (k : Int) < (L.length : Int) := by omega
          have hb1 := below1 wr (.cells #[.int .i64 (k : Int)] 3)
          have N1 : Blk (wr.alloc (.cells #[.int .i64 (k : Int)] 3)) wr.heap.size 3 #[.int .i64 (k : Int)] := Blk.new wr _ _
          have B1 := B.trans (hb1.mono B.size)
          have O1 := own_on O hb1
          have hz := B.size
          clear B O hb1
          go_wp2_with (at_builtin; refine wpList_append_lies _ rfl (.tmp 13) (.tmp 15) 32 rfl w.heap.size 3 i1 _ 1 8 Tryz.underlying32 hi1 hz0 hz1 hz2 rfl (by decide) _ k (ints (List.range k)) rfl O1 ⟨wr.heap.size, 0, none⟩ 1 1 [.int .i64 (k : Int)] rfl rfl (World.news_of_block N1) (by intro u hu; simp only [List.mem_singleton] at hu; subst hu; rfl) (by omega) (by unfold maxLen; omega) (by omega) (by simp; omega) _ rfl ?_)
          intro g2 cp2 w4 O4 hg4 _ hlt4
          have B4 := B1.grown hg4 B1.size (fun j hj => by have := (O1.lt j hj).1; omega)
          clear B1 O1 N1 hg4
          go_wp2
          go_roundg (L.length - (k + 1))
          case measure => omega
          case rel => exact ⟨k + 1, g2, cp2, by omega, rfl, by go_num, rfl, hlt4, B4, by rw [range_snoc]; exact O4⟩
        · have hltz : ¬ (k : Int) < (L.length : Int) := by omega
          obtain rfl : k = L.length := by omega
          have hg1 := (O.lt g rfl).1
          have hcap := Lib.hid (own_cap O)
          have hcon := tsort_c L b o cap g cp w.heap.size wr hl H0.out (fun k r h => (HC.out k r h).on B) (by omega) O
          have HB : Hid (∀ w', wr.grownBy w' (some g) → Below w.heap.size w w') := fun w' hg => B.grown hg B.size (fun j hj => by simp at hj; omega)
          clear B O HC
          go_wp2_with (go_at_call 26; refine hcon.mono ?_; rintro e w1 ⟨rfl, hg, hcells⟩)
          go_ret
          exact ⟨_, rfl, ⟨_, cp, by rw [ordI_len]; rfl, by rw [ordI_len]; exact hcap.out.1, hcap.out.2, fun _ => ⟨g, rfl, Nat.lt_of_lt_of_le hgl hg.size, hcells⟩⟩, HB.out _ hg⟩
end Go.Proofs

namespace Go.Proofs.Hd
open Go.RowKit
def Cb.same (a b : Cb) : Bool := (a.vh == b.vh && a.vl == b.vl) && (a.ch == b.ch && a.cl == b.cl)
theorem Cb.same_iff (a b : Cb) : a.same b = true ↔ a = b := by
  cases a; cases b
  simp [Cb.same, and_assoc]
/-- How many bits a cube cares for. -/
def Cb.size (c : Cb) : Nat := cnt c.K 128
theorem cnt_le_of {p q : Nat → Bool} (n : Nat) (h : ∀ j, j < n → p j = true → q j = true) : cnt p n ≤ cnt q n := by
  induction n with
  | zero => exact Nat.le_refl _
  | succ n ih =>
    rw [cnt, cnt]
    have h1 := ih (fun j hj => h j (by omega))
    have h2 := h n (by omega)
    cases hp : p n with
    | false => simp; omega
    | true => rw [h2 hp]; omega
theorem cnt_eq_of {p q : Nat → Bool} (n : Nat) (h : ∀ j, j < n → p j = true → q j = true) (he : cnt p n = cnt q n) : ∀ j, j < n → p j = q j := by
  induction n with
  | zero => intro j hj; omega
  | succ n ih =>
    rw [cnt, cnt] at he
    have h1 := cnt_le_of n (fun j hj => h j (by omega))
    have h2 := h n (by omega)
    have h3 : p n = q n := by
      cases hp : p n with
      | true => rw [h2 hp]
      | false => cases hq : q n with
        | false => rfl
        | true => rw [hp, hq] at he; simp at he; omega
    intro j hj
    by_cases e : j = n
    · subst e; exact h3
    · exact ih (fun j hj => h j (by omega)) (by rw [h3] at he; omega) j (by omega)
theorem wit_size {a b : Cb} (h : a.wit b = true) : b.size ≤ a.size := cnt_le_of 128 ((Cb.wit_iff a b).1 h).2.2.1
theorem cb_ext {a b : Cb} (hv : ∀ j, j < 128 → a.V j = b.V j) (hk : ∀ j, j < 128 → a.K j = b.K j) : a = b := by
  obtain ⟨e1, e2⟩ := head_ext hv
  obtain ⟨e3, e4⟩ := head_ext hk
  cases a; cases b; simp_all
theorem wit_same_size {a b : Cb} (h : a.wit b = true) (he : b.size = a.size) : a = b := by
  obtain ⟨h1, h2, h3, h4⟩ := (Cb.wit_iff a b).1 h
  have hk := cnt_eq_of 128 h3 he
  refine cb_ext (fun j hj => ?_) (fun j hj => (hk j hj).symm)
  cases hb : b.K j with
  | true => exact h4 j hj (h3 j hj hb) hb
  | false =>
    have ha : a.K j = false := by rw [← hk j hj, hb]
    rw [open_V hj h1 ha, open_V hj h2 hb]
theorem wit_has {a b : Cb} (x y : BitVec 64) (h : a.wit b = true) (hh : a.has x y = true) : b.has x y = true := by
  obtain ⟨h1, h2, h3, h4⟩ := (Cb.wit_iff a b).1 h
  rw [Cb.has_iff] at *
  intro j hj
  have g := hh j hj
  cases hb : b.K j with
  | true =>
    have ha := h3 j hj hb
    rw [ha, Bool.and_true] at g
    rw [Bool.and_true, g, h4 j hj ha hb]
  | false => rw [open_V hj h2 hb, Bool.and_false]
/-- Cube a, number i, is not wanted beside cube b, number k. -/
def spareBy (a : Cb) (i : Nat) (b : Cb) (k : Nat) : Bool := (k != i) && (a.wit b && (!a.same b || decide (k < i)))
/-- Number i of L is not wanted. -/
def spare (L : List Cb) (i : Nat) : Bool := (List.range L.length).any fun k => match L[i]?, L[k]? with
  | some a, some b => spareBy a i b k
  | _, _ => false
def leanL (L : List Cb) : List Cb := (List.range L.length).filterMap fun i => if spare L i = true then none else L[i]?
theorem leanL_mem {L : List Cb} {c : Cb} : c ∈ leanL L ↔ ∃ i, L[i]? = some c ∧ spare L i = false := by
  unfold leanL
  rw [List.mem_filterMap]
  constructor
  · rintro ⟨i, _, h⟩
    by_cases hs : spare L i = true
    · rw [if_pos hs] at h; cases h
    · rw [if_neg hs] at h; exact ⟨i, h, by simpa using hs⟩
  · rintro ⟨i, h, hs⟩
    exact ⟨i, List.mem_range.2 (List.getElem?_eq_some_iff.1 h).1, by rw [hs]; simpa using h⟩
theorem spare_iff {L : List Cb} {i : Nat} {a : Cb} (ha : L[i]? = some a) : spare L i = true ↔ ∃ k b, L[k]? = some b ∧ k ≠ i ∧ a.wit b = true ∧ (a ≠ b ∨ k < i) := by
  unfold spare
  rw [List.any_eq_true]
  constructor
  · rintro ⟨k, hk, h⟩
    rw [ha] at h
    cases hb : L[k]? with
    | none => rw [hb] at h; cases h
    | some b =>
      rw [hb] at h
      simp only [spareBy, Bool.and_eq_true, Bool.or_eq_true, bne_iff_ne, ne_eq, Bool.not_eq_true', decide_eq_true_eq] at h
      refine ⟨k, b, hb, h.1, h.2.1, h.2.2.imp (fun e c => ?_) id⟩
      rw [(Cb.same_iff a b).2 c] at e; cases e
  · rintro ⟨k, b, hb, h1, h2, h3⟩
    refine ⟨k, List.mem_range.2 (List.getElem?_eq_some_iff.1 hb).1, ?_⟩
    rw [ha, hb]
    simp only [spareBy, Bool.and_eq_true, Bool.or_eq_true, bne_iff_ne, ne_eq, Bool.not_eq_true', decide_eq_true_eq]
    refine ⟨h1, h2, h3.imp (fun c => ?_) id⟩
    cases e : a.same b with
    | false => rfl
    | true => exact absurd ((Cb.same_iff a b).1 e) c
/-- Each sound cube of a list lies within one that is kept. -/
theorem kept_over {L : List Cb} (s : Nat) : ∀ (i : Nat) (a : Cb), a.size ≤ s → L[i]? = some a → a.snd = true → ∃ b ∈ leanL L, a.wit b = true := by
  induction s with
  | zero =>
    intro i
    induction i using Nat.strongRecOn with
    | ind i ih =>
      intro a hs ha hsnd
      cases hsp : spare L i with
      | false => exact ⟨a, leanL_mem.2 ⟨i, ha, hsp⟩, wit_self hsnd⟩
      | true =>
        obtain ⟨k, b, hb, _, hw, hor⟩ := (spare_iff ha).1 hsp
        have hz := wit_size hw
        have e := wit_same_size hw (by omega)
        subst e
        exact ih k (hor.resolve_left (fun h => h rfl)) a hs hb hsnd
  | succ s ihs =>
    intro i
    induction i using Nat.strongRecOn with
    | ind i ih =>
      intro a hs ha hsnd
      cases hsp : spare L i with
      | false => exact ⟨a, leanL_mem.2 ⟨i, ha, hsp⟩, wit_self hsnd⟩
      | true =>
        obtain ⟨k, b, hb, _, hw, hor⟩ := (spare_iff ha).1 hsp
        have hz := wit_size hw
        by_cases e : a = b
        · subst e
          exact ih k (hor.resolve_left (fun h => h rfl)) a hs hb hsnd
        · have hlt : b.size < a.size := Nat.lt_of_le_of_ne hz (fun c => e (wit_same_size hw c))
          obtain ⟨c, hc, hwc⟩ := ihs k b (by omega) hb ((Cb.wit_iff a b).1 hw).2.1
          exact ⟨c, hc, wit_trans hw hwc⟩
def anyHas (L : List Cb) (x y : BitVec 64) : Bool := L.any fun c => c.has x y
/-- A list of sound cubes has the headers that it has without its spare cubes. -/
theorem lean_has {L : List Cb} (hs : ∀ c ∈ L, c.snd = true) (x y : BitVec 64) : anyHas (leanL L) x y = anyHas L x y := by
  rw [Bool.eq_iff_iff]
  unfold anyHas
  rw [List.any_eq_true, List.any_eq_true]
  constructor
  · rintro ⟨c, hc, h⟩
    obtain ⟨i, hi, _⟩ := leanL_mem.1 hc
    exact ⟨c, List.mem_of_getElem? hi, h⟩
  · rintro ⟨c, hc, h⟩
    obtain ⟨i, hi⟩ := List.mem_iff_getElem?.1 hc
    obtain ⟨b, hb, hw⟩ := kept_over c.size i c (Nat.le_refl _) hi (hs c hc)
    exact ⟨b, hb, wit_has x y hw h⟩
theorem lean_sub {L : List Cb} {c : Cb} (h : c ∈ leanL L) : c ∈ L := by
  obtain ⟨i, hi, _⟩ := leanL_mem.1 h
  exact List.mem_of_getElem? hi
end Go.Proofs.Hd

namespace Go.Proofs.Hd
open Go.RowKit
/-- The four words of a cube lie in block b from place o on. -/
def At4 (w : World) (b o : Nat) (c : Cb) : Prop := w.cell? ⟨b, o, none⟩ = some (.int .u64 (uv c.vh)) ∧ w.cell? ⟨b, o + 1, none⟩ = some (.int .u64 (uv c.vl)) ∧ w.cell? ⟨b, o + 2, none⟩ = some (.int .u64 (uv c.ch)) ∧ w.cell? ⟨b, o + 3, none⟩ = some (.int .u64 (uv c.cl))
theorem At4.on {w w' : World} {b o : Nat} {c : Cb} (h : At4 w b o c) (hb : Below w.heap.size w w') : At4 w' b o c := ⟨on_some hb h.1, on_some hb h.2.1, on_some hb h.2.2.1, on_some hb h.2.2.2⟩
/-- v is a slice that reads as the cubes L. -/
def Pl (w : World) (v : Value) (L : List Cb) : Prop := (L = [] ∧ ∃ A cap, v = .slice A 0 cap) ∨ ∃ b off cap, v = .slice (some ⟨b, off, none⟩) L.length cap ∧ L.length ≤ maxLen ∧ b < w.heap.size ∧ ∀ k c, L[k]? = some c → At4 w b (off + k * 4) c
theorem Pl.on {w w' : World} {v : Value} {L : List Cb} (h : Pl w v L) (hb : Below w.heap.size w w') : Pl w' v L := by
  rcases h with h | ⟨b, off, cap, e, hl, hs, h⟩
  · exact .inl h
  · exact .inr ⟨b, off, cap, e, hl, Nat.lt_of_lt_of_le hs hb.size, fun k c hk => (h k c hk).on hb⟩
/-- What an index says: the first place at which q holds, or -1. -/
def IdxIs {α : Type} (q : α → Bool) (L : List α) (r : Int) : Prop := (r = -1 ∧ ∀ (k : Nat) (c : α), L[k]? = some c → q c = false) ∨ ∃ (k : Nat) (c : α), r = k ∧ L[k]? = some c ∧ q c = true ∧ ∀ (j : Nat) (d : α), j < k → L[j]? = some d → q d = false
theorem IdxIs.ex {α : Type} (q : α → Bool) (L : List α) : ∃ r, IdxIs q L r := by
  by_cases h : ∃ (k : Nat) (c : α), L[k]? = some c ∧ q c = true
  · have : ∃ k : Nat, ∃ c, L[k]? = some c ∧ q c = true := h
    classical
    obtain ⟨k, ⟨c, hc, hq⟩, hmin⟩ : ∃ k : Nat, (∃ c, L[k]? = some c ∧ q c = true) ∧ ∀ j, j < k → ¬ ∃ c, L[j]? = some c ∧ q c = true := by
      obtain ⟨k, hk⟩ := this
      induction k using Nat.strongRecOn with
      | ind k ih =>
        by_cases hj : ∃ j, j < k ∧ ∃ c, L[j]? = some c ∧ q c = true
        · obtain ⟨j, hj, hc⟩ := hj; exact ih j hj hc
        · exact ⟨k, hk, fun j hjk hc => hj ⟨j, hjk, hc⟩⟩
    refine ⟨k, .inr ⟨k, c, rfl, hc, hq, fun j d hj hd => ?_⟩⟩
    cases e : q d with
    | false => rfl
    | true => exact absurd ⟨d, hd, e⟩ (hmin j hj)
  · refine ⟨-1, .inl ⟨rfl, fun k c hc => ?_⟩⟩
    cases e : q c with
    | false => rfl
    | true => exact absurd ⟨k, c, hc, e⟩ h
theorem IdxIs.hit {α : Type} {q : α → Bool} {L : List α} {r : Int} (h : IdxIs q L r) {k : Nat} {c : α} (hc : L[k]? = some c) (hq : q c = true) (hb : ∀ (j : Nat) (d : α), j < k → L[j]? = some d → q d = false) : r = k := by
  rcases h with ⟨_, h⟩ | ⟨k', c', rfl, hc', hq', hb'⟩
  · rw [h k c hc] at hq; cases hq
  · rcases Nat.lt_trichotomy k k' with hlt | rfl | hlt
    · rw [hb' k c hlt hc] at hq; cases hq
    · rfl
    · rw [hb k' c' hlt hc'] at hq'; cases hq'
theorem IdxIs.miss {α : Type} {q : α → Bool} {L : List α} {r : Int} (h : IdxIs q L r) (hb : ∀ (j : Nat) (d : α), L[j]? = some d → q d = false) : r = -1 := by
  rcases h with ⟨e, _⟩ | ⟨k', c', rfl, hc', hq', hb'⟩
  · exact e
  · rw [hb k' c' hc'] at hq'; cases hq'
theorem IdxIs.any {α : Type} {q : α → Bool} {L : List α} {r : Int} (h : IdxIs q L r) : L.any q = decide (0 ≤ r) := by
  rcases h with ⟨rfl, h⟩ | ⟨k', c', rfl, hc', hq', hb'⟩
  · rw [show decide ((0 : Int) ≤ -1) = false by decide, List.any_eq_false]
    intro c hc
    obtain ⟨k, hk⟩ := List.mem_iff_getElem?.1 hc
    rw [h k c hk]; simp
  · rw [show decide ((0 : Int) ≤ (k' : Int)) = true by simp, List.any_eq_true]
    exact ⟨c', List.mem_of_getElem? hc', hq'⟩
end Go.Proofs.Hd
namespace Go.Proofs
open Go.RowKit Go.Proofs.Hd Go.Shelf Go.Lib
attribute [local go_sem] uv_nonneg

set_option maxHeartbeats 2000000 in
set_option maxRecDepth 100000 in
theorem idx_cubes (g : Nat) (lb : Array Value) (q : Cb → Bool) (eg : ∀ args w, (callFunc g args).run Tryz.prog w = .ok (.enter g args) w) (v : Value) (L : List Cb) (w : World) (r : Int) (hr : IdxIs q L r)
    (hp : ∀ W c, c ∈ L → Below w.heap.size w W → Calls Tryz.prog g (#[.agg #[.int .u64 (uv c.vh), .int .u64 (uv c.vl), .int .u64 (uv c.ch), .int .u64 (uv c.cl)]] ++ lb) W fun e w' => e = .returned (.bool (q c)) ∧ Below w.heap.size w w') (hv : Pl w v L) :
    Calls Tryz.prog 75 #[v, .func (.func g) #[] lb] w fun e w' => e = .returned (.int .i64 r) ∧ Below w.heap.size w w' := by
  rcases hv with ⟨rfl, A, cap, rfl⟩ | ⟨b, off, cap, rfl, hlen, hb, hc⟩
  · obtain rfl : r = -1 := hr.miss (fun j d h => by simp at h)
    clear hp hr
    go_enter Tryz.func75, Tryz.ntmps75
    go_wp2
    refine wp_loop_rounds 1 ?_
    rw [rounds_succ]
    go_wp2
    go_ret
    exact ⟨rfl, Below.refl _ _⟩
  · have HR := Lib.hid hr
    have HC := Lib.hid hc
    have HP := Lib.hid hp
    have hl : (L.length : Int) ≤ 9223372036854775807 := by unfold maxLen at hlen; omega
    clear hr hc hp
    go_enter Tryz.func75, Tryz.ntmps75
    go_wp2
    go_loopg [5, 8] L.length (fun gg _ s8 wr => ∃ kk : Nat, kk ≤ L.length ∧ L.length - kk ≤ gg ∧ s8 = .int .i64 kk ∧ Hid (Below w.heap.size w wr) ∧ Hid (∀ (j : Nat) (d : Cb), j < kk → L[j]? = some d → q d = false))
    case atStart => exact ⟨0, Nat.zero_le _, by omega, rfl, Below.refl _ w, fun j d hj => absurd hj (Nat.not_lt_zero _)⟩
    case round =>
      obtain ⟨kk, hkk, hg, rfl, BW, A⟩ := hrel
      by_cases hlt : kk < L.length
      · have hltz : (kk : Int) < (L.length : Int) := by omega
        obtain ⟨c, hc⟩ : ∃ c, L[kk]? = some c := ⟨_, List.getElem?_eq_getElem hlt⟩
        obtain ⟨c0, c1, c2, c3⟩ := (HC.out kk c hc).on (w' := wr) BW.out
        have hcall := HP.out wr c (List.mem_of_getElem? hc) BW.out
        have B := Lib.hid hc
        clear HP HC hc
        cases hq : q c with
        | true =>
          rw [hq] at hcall
          go_wp2_with (go_at_fn g; refine hcall.mono ?_; rintro e w' ⟨rfl, hb'⟩)
          go_ret
          exact ⟨by rw [HR.out.hit B.out hq A.out]; rfl, hb'⟩
        | false =>
          rw [hq] at hcall
          go_wp2_with (go_at_fn g; refine hcall.mono ?_; rintro e w' ⟨rfl, hb'⟩)
          go_roundg (L.length - (kk + 1))
          case measure => omega
          case rel =>
            refine ⟨kk + 1, by omega, by omega, by go_num, hb', fun j d hj hd => ?_⟩
            by_cases e : j = kk
            · subst e
              have := B.out
              rw [hd] at this; injection this with this; subst this; exact hq
            · exact A.out j d (by omega) hd
      · have hltz : ¬ (kk : Int) < (L.length : Int) := by omega
        have hk : kk = L.length := by omega
        have := HR.out.miss (fun j d hd => A.out j d (by rw [hk]; exact (List.getElem?_eq_some_iff.1 hd).1) hd)
        subst this
        go_wp2
        go_ret
        exact ⟨rfl, BW.out⟩
theorem cont_cubes (g : Nat) (lb : Array Value) (q : Cb → Bool) (eg : ∀ args w, (callFunc g args).run Tryz.prog w = .ok (.enter g args) w) (v : Value) (L : List Cb) (w : World) (x : Bool) (hx : L.any q = x)
    (hp : ∀ W c, c ∈ L → Below w.heap.size w W → Calls Tryz.prog g (#[.agg #[.int .u64 (uv c.vh), .int .u64 (uv c.vl), .int .u64 (uv c.ch), .int .u64 (uv c.cl)]] ++ lb) W fun e w' => e = .returned (.bool (q c)) ∧ Below w.heap.size w w') (hv : Pl w v L) :
    Calls Tryz.prog 62 #[v, .func (.func g) #[] lb] w fun e w' => e = .returned (.bool x) ∧ Below w.heap.size w w' := by
  obtain ⟨r, hr⟩ := IdxIs.ex q L
  have hcon := idx_cubes g lb q eg v L w r hr hp hv
  have ha := hr.any
  rw [hx] at ha
  subst ha
  clear hr hx hp hv
  go_enter Tryz.func62, Tryz.ntmps62
  go_wp2_with (go_at_call 75; refine hcon.mono ?_; rintro e w' ⟨rfl, hb'⟩)
  go_ret
  exact ⟨rfl, hb'⟩
theorem psound1_c (c : Cb) (w : World) : Calls Tryz.prog 61 #[.agg #[.int .u64 (uv c.vh), .int .u64 (uv c.vl), .int .u64 (uv c.ch), .int .u64 (uv c.cl)]] w fun e w' => e = .returned (.bool (!c.snd)) ∧ Below w.heap.size w w' := by
  have B0 := below1 w (.cells #[.int .u64 (uv c.vh), .int .u64 (uv c.vl), .int .u64 (uv c.ch), .int .u64 (uv c.cl)] 47)
  go_enter Tryz.func61, Tryz.ntmps61
  go_wp2_with fail
  (with_reducible refine (csound _ c _ rfl).mono ?_)
  rintro e w1 ⟨rfl, hb⟩
  have L := B0.trans (hb.mono B0.size)
  clear B0 hb
  go_wp2
  go_ret
  exact ⟨rfl, L⟩
/-- Is a list of cubes sound? -/
def sndL (L : List Cb) : Bool := decide (L.length ≤ 200) && L.all Cb.snd
theorem any_not (L : List Cb) : (L.any fun c => !c.snd) = !L.all Cb.snd := by induction L <;> simp_all
theorem psound_c (x : Bool) (v : Value) (L : List Cb) (w : World) (hx : sndL L = x) (hv : Pl w v L) : Calls Tryz.prog 40 #[v] w fun e w' => e = .returned (.bool x) ∧ Below w.heap.size w w' := by
  have eg : ∀ args w, (callFunc 61 args).run Tryz.prog w = .ok (.enter 61 args) w := enters_of Tryz.func61 (by kernel_rfl) rfl
  have hcon := cont_cubes 61 #[] (fun c => !c.snd) eg v L w (!L.all Cb.snd) (any_not L) (fun W c _ hb => (psound1_c c W).mono fun e w' h => ⟨h.1, hb.trans (h.2.mono hb.size)⟩) hv
  obtain ⟨A, cap, hA⟩ : ∃ A cap, v = .slice A L.length cap := by
    rcases hv with ⟨rfl, A, cap, rfl⟩ | ⟨b, off, cap, rfl, _⟩ <;> exact ⟨_, _, rfl⟩
  subst hA
  clear hv
  unfold sndL at hx
  subst hx
  generalize L.all Cb.snd = y at hcon ⊢
  by_cases hl : L.length ≤ 200
  · have hz : (L.length : Int) ≤ 200 := by omega
    rw [show decide (L.length ≤ 200) = true by simpa using hl]
    go_enter Tryz.func40, Tryz.ntmps40
    go_wp2_with (go_at_call 62; refine hcon.mono ?_; rintro e w' ⟨rfl, hb'⟩)
    go_ret
    exact ⟨by simp, hb'⟩
  · have hz : ¬ (L.length : Int) ≤ 200 := by omega
    rw [show decide (L.length ≤ 200) = false by simpa using hl]
    go_enter Tryz.func40, Tryz.ntmps40
    go_wp2
    go_ret
    exact ⟨by simp, Below.refl _ _⟩
end Go.Proofs

namespace Go.Proofs.Hd
open Go.RowKit
/-- Are all matches sound? -/
def sndA (L : List Rl) : Bool := L.all fun r => r.m.snd
theorem any_notR (L : List Rl) : (L.any fun r => !r.m.snd) = !sndA L := by unfold sndA; induction L <;> simp_all
end Go.Proofs.Hd
namespace Go.Proofs
open Go.RowKit Go.Proofs.Hd Go.Sort Go.Shelf Go.Lib
attribute [local go_sem] uv_nonneg
set_option maxHeartbeats 2000000 in
set_option maxRecDepth 100000 in
theorem idx_rules (g : Nat) (lb : Array Value) (q : Rl → Bool) (eg : ∀ args w, (callFunc g args).run Tryz.prog w = .ok (.enter g args) w) (v : Value) (L : List Rl) (w : World) (r : Int) (hl : L.length ≤ 4611686018427387904) (hr : IdxIs q L r)
    (hp : ∀ W c, c ∈ L → Below w.heap.size w W → Calls Tryz.prog g (#[.agg #[.int .i64 c.pri, .int .u64 (uv c.m.vh), .int .u64 (uv c.m.vl), .int .u64 (uv c.m.ch), .int .u64 (uv c.m.cl), .int .i64 c.kind, .int .i64 c.port, .int .i64 c.tab, .int .u64 (uv c.s.vh), .int .u64 (uv c.s.vl), .int .u64 (uv c.s.ch), .int .u64 (uv c.s.cl)]] ++ lb) W fun e w' => e = .returned (.bool (q c)) ∧ Below w.heap.size w w') (hv : Ru w v L) :
    Calls Tryz.prog 35 #[v, .func (.func g) #[] lb] w fun e w' => e = .returned (.int .i64 r) ∧ Below w.heap.size w w' := by
  rcases hv with ⟨rfl, A, cap, rfl⟩ | ⟨b, off, cap, rfl, hb, hc⟩
  · obtain rfl : r = -1 := hr.miss (fun j d h => by simp at h)
    clear hp hr
    go_enter Tryz.func35, Tryz.ntmps35
    go_wp2
    refine wp_loop_rounds 1 ?_
    rw [rounds_succ]
    go_wp2
    go_ret
    exact ⟨rfl, Below.refl _ _⟩
  · have HR := Lib.hid hr
    have HC := Lib.hid hc
    have HP := Lib.hid hp
    have hlz : (L.length : Int) ≤ 4611686018427387904 := by omega
    clear hr hc hp
    go_enter Tryz.func35, Tryz.ntmps35
    go_wp2
    go_loopg [5, 8] L.length (fun gg _ s8 wr => ∃ kk : Nat, kk ≤ L.length ∧ L.length - kk ≤ gg ∧ s8 = .int .i64 kk ∧ Hid (Below w.heap.size w wr) ∧ Hid (∀ (j : Nat) (d : Rl), j < kk → L[j]? = some d → q d = false))
    case atStart => exact ⟨0, Nat.zero_le _, by omega, rfl, Below.refl _ w, fun j d hj => absurd hj (Nat.not_lt_zero _)⟩
    case round =>
      obtain ⟨kk, hkk, hg, rfl, BW, A⟩ := hrel
      by_cases hlt : kk < L.length
      · have hltz : (kk : Int) < (L.length : Int) := by omega
        obtain ⟨c, hc⟩ : ∃ c, L[kk]? = some c := ⟨_, List.getElem?_eq_getElem hlt⟩
        obtain ⟨c0, c1, c2, c3, c4, c5, c6, c7, c8, c9, c10, c11⟩ := ((HC.out kk c hc).on (w' := wr) BW.out).out
        have hcall := HP.out wr c (List.mem_of_getElem? hc) BW.out
        have B := Lib.hid hc
        clear HP HC hc
        cases hq : q c with
        | true =>
          rw [hq] at hcall
          go_wp2_with (go_at_fn g; refine hcall.mono ?_; rintro e w' ⟨rfl, hb'⟩)
          go_ret
          exact ⟨by rw [HR.out.hit B.out hq A.out]; rfl, hb'⟩
        | false =>
          rw [hq] at hcall
          go_wp2_with (go_at_fn g; refine hcall.mono ?_; rintro e w' ⟨rfl, hb'⟩)
          go_roundg (L.length - (kk + 1))
          case measure => omega
          case rel =>
            refine ⟨kk + 1, by omega, by omega, by go_num, hb', fun j d hj hd => ?_⟩
            by_cases e : j = kk
            · subst e
              have := B.out
              rw [hd] at this; injection this with this; subst this; exact hq
            · exact A.out j d (by omega) hd
      · have hltz : ¬ (kk : Int) < (L.length : Int) := by omega
        have hm : r = -1 := HR.out.miss (fun j d hd => A.out j d (by have := (List.getElem?_eq_some_iff.1 hd).1; omega) hd)
        clear HC HP HR
        subst hm
        go_wp2
        go_ret
        exact ⟨rfl, BW.out⟩
set_option maxRecDepth 100000 in
theorem tsound1_c (r : Rl) (w : World) : Calls Tryz.prog 23 #[.agg #[.int .i64 r.pri, .int .u64 (uv r.m.vh), .int .u64 (uv r.m.vl), .int .u64 (uv r.m.ch), .int .u64 (uv r.m.cl), .int .i64 r.kind, .int .i64 r.port, .int .i64 r.tab, .int .u64 (uv r.s.vh), .int .u64 (uv r.s.vl), .int .u64 (uv r.s.ch), .int .u64 (uv r.s.cl)]] w fun e w' => e = .returned (.bool (!r.m.snd)) ∧ Below w.heap.size w w' := by
  have B0 := below1 w (.cells #[.int .i64 r.pri, .int .u64 (uv r.m.vh), .int .u64 (uv r.m.vl), .int .u64 (uv r.m.ch), .int .u64 (uv r.m.cl), .int .i64 r.kind, .int .i64 r.port, .int .i64 r.tab, .int .u64 (uv r.s.vh), .int .u64 (uv r.s.vl), .int .u64 (uv r.s.ch), .int .u64 (uv r.s.cl)] 51)
  go_enter Tryz.func23, Tryz.ntmps23
  go_wp2_with fail
  (with_reducible refine (csnd_c _ r.m _ rfl).mono ?_)
  rintro e w1 ⟨rfl, hb⟩
  have hL := B0.trans (hb.mono B0.size)
  clear B0 hb
  go_wp2
  go_ret
  exact ⟨rfl, hL⟩
theorem tsound_c (x : Bool) (v : Value) (L : List Rl) (w : World) (hl : L.length ≤ 4611686018427387904) (hx : sndA L = x) (hv : Ru w v L) : Calls Tryz.prog 13 #[v] w fun e w' => e = .returned (.bool x) ∧ Below w.heap.size w w' := by
  have eg : ∀ args w, (callFunc 23 args).run Tryz.prog w = .ok (.enter 23 args) w := enters_of Tryz.func23 (by kernel_rfl) rfl
  obtain ⟨r, hr⟩ := IdxIs.ex (fun r : Rl => !r.m.snd) L
  have hcon := idx_rules 23 #[] (fun r => !r.m.snd) eg v L w r hl hr (fun W c _ hb => (tsound1_c c W).mono fun e w' h => ⟨h.1, hb.trans (h.2.mono hb.size)⟩) hv
  have ha := hr.any
  rw [any_notR, hx] at ha
  have hcon2 : Calls Tryz.prog 25 #[v, .func (.func 23) #[] #[]] w fun e w' => e = .returned (.bool (!x)) ∧ Below w.heap.size w w' := by
    rw [ha]
    clear hr hx hv ha
    go_enter Tryz.func25, Tryz.ntmps25
    go_wp2_with (go_at_call 35; refine hcon.mono ?_; rintro e w' ⟨rfl, hb'⟩)
    go_ret
    exact ⟨rfl, hb'⟩
  clear hcon hr ha hx hv
  go_enter Tryz.func13, Tryz.ntmps13
  go_wp2_with (go_at_call 25; refine hcon2.mono ?_; rintro e w' ⟨rfl, hb'⟩)
  go_ret
  exact ⟨by simp, hb'⟩
set_option maxHeartbeats 2000000 in
theorem index_c (v : Value) (ks : List Nat) (n k : Nat) (w : World) (hl : ks.length ≤ 1000000) (hk : ks[k]? = some n) (hb : ∀ (j m : Nat), j < k → ks[j]? = some m → m ≠ n) (hv : PlK w v ks) :
    Calls Tryz.prog 16 #[v, .int .i64 (n : Int)] w fun e w' => e = .returned (.int .i64 (k : Int)) ∧ w' = w := by
  obtain ⟨A, cap, rfl, hc1, hc2, hf⟩ := hv
  have hkl : k < ks.length := (List.getElem?_eq_some_iff.1 hk).1
  obtain ⟨g, rfl, hg, hc⟩ := hf (by intro e; rw [e] at hkl; simp at hkl)
  have HC := Lib.hid hc
  have HK := Lib.hid hk
  have HB := Lib.hid hb
  have hlz : (ks.length : Int) ≤ 1000000 := by omega
  clear hf hc hk hb
  go_enter Tryz.func16, Tryz.ntmps16
  go_wp2
  go_loopg [5, 8] ks.length (fun gg _ s8 wr => ∃ kk : Nat, kk ≤ k ∧ ks.length - kk ≤ gg ∧ s8 = .int .i64 kk ∧ wr = w)
  case atStart => exact ⟨0, Nat.zero_le _, by omega, rfl, rfl⟩
  case round =>
    obtain ⟨kk, hkk, hg2, rfl, rfl⟩ := hrel
    have hltz : (kk : Int) < (ks.length : Int) := by omega
    obtain ⟨m, hm⟩ : ∃ m, ks[kk]? = some m := ⟨_, List.getElem?_eq_getElem (by omega)⟩
    have hcell := HC.out kk m hm
    rcases Nat.lt_or_ge kk k with h1 | h1
    · have hne := HB.out kk m h1 hm
      have hnz : ¬ (n : Int) = (m : Int) := by omega
      have hnn : ¬ n = m := by omega
      clear hm
      go_wp2
      go_roundg (ks.length - (kk + 1))
      case measure => omega
      case rel => exact ⟨kk + 1, by omega, Nat.le_refl _, by go_num, rfl⟩
    · obtain rfl : kk = k := by omega
      have e := HK.out
      rw [hm] at e
      injection e with e
      subst e
      go_wp2
      go_ret
      exact ⟨rfl, rfl⟩
end Go.Proofs

namespace Go.Proofs
open Go.RowKit Go.Proofs.Hd Go.Sort
attribute [local go_sem] uv_nonneg
theorem ones_g (h l : BitVec 64) (r : Int) (w : World) (hr : ((ones h + ones l : Nat) : Int) = r) : Calls Tryz.prog 78 #[.agg #[.int .u64 (uv h), .int .u64 (uv l)]] w fun e w' => e = .returned (.int .i64 r) ∧ Grew w w' := by
  subst hr
  have h1 := ones_le h
  have h2 := ones_le l
  have e1 : ((ones h + ones l : Nat) : Int) = (ones h : Int) + (ones l : Int) := by omega
  rw [e1]
  have hw : IntKind.i64.wrap ((ones h : Int) + (ones l : Int)) = (ones h : Int) + (ones l : Int) := by rw [IntKind.wrap_i64]; omega
  go_enter Tryz.func78, Tryz.ntmps78
  go_wp2
  go_quiet ((go_at_call 87; exact Calls.quiet_of_same ((ones64_c _ _).mono fun e w' h => ⟨h.1, h.2.symm⟩)))
  go_wp2
  go_ret
  exact ⟨rfl, (Grew.alloc1 _ _).trans (Grew.drewN1 _ _)⟩
set_option maxHeartbeats 1000000 in
theorem or2_g (x y r : Int) (g : Nat) (w : World) (hr : or2 x y = r) (hc : w.cell? ⟨g, 0, none⟩ = some (.int .i64 x) ∧ w.cell? ⟨g, 1, none⟩ = some (.int .i64 y)) :
    Calls Tryz.prog 77 #[.slice (some ⟨g, 0, none⟩) 2 2] w fun e w' => e = .returned (.int .i64 r) ∧ Grew w w' := by
  obtain ⟨c0, c1⟩ := hc
  unfold or2 at hr
  by_cases hx : x = 0
  · rw [if_pos hx] at hr; subst hr hx
    by_cases hy : y = 0
    · subst hy
      go_enter Tryz.func77, Tryz.ntmps77
      go_wp2
      refine wp_loop_rounds 3 ?_
      rw [rounds_succ]
      go_wp2
      rw [rounds_succ]
      go_wp2
      rw [rounds_succ]
      go_wp2
      go_ret
      exact ⟨rfl, Grew.refl _⟩
    · go_enter Tryz.func77, Tryz.ntmps77
      go_wp2
      refine wp_loop_rounds 3 ?_
      rw [rounds_succ]
      go_wp2
      rw [rounds_succ]
      go_wp2
      go_ret
      exact ⟨rfl, Grew.refl _⟩
  · rw [if_neg hx] at hr; subst hr
    go_enter Tryz.func77, Tryz.ntmps77
    go_wp2
    refine wp_loop_rounds 3 ?_
    rw [rounds_succ]
    go_wp2
    go_ret
    exact ⟨rfl, Grew.refl _⟩
set_option maxHeartbeats 2000000 in
set_option maxRecDepth 100000 in
theorem wide1_g (oi oj x y r : Int) (ci cj : Cb) (i j n b off cap pb : Nat) (w : World) (hi : i < n) (hj : j < n) (hn : n ≤ maxLen) (HI : Hid (((ones ci.ch + ones ci.cl : Nat) : Int) = oi)) (HJ : Hid (((ones cj.ch + ones cj.cl : Nat) : Int) = oj)) (hx : icmp oi oj = x) (hy : icmp (i : Int) (j : Int) = y) (hr : or2 x y = r)
    (hp : w.cell? ⟨pb, 0, none⟩ = some (.slice (some ⟨b, off, none⟩) n cap)) (h1 : At4 w b (off + i * 4) ci) (h2 : At4 w b (off + j * 4) cj) :
    Calls Tryz.prog 76 #[.int .i64 i, .int .i64 j, .pointer (some ⟨pb, 0, none⟩)] w fun e w' => e = .returned (.int .i64 r) ∧ Grew w w' := by
  have hiz : (i : Int) < (n : Int) := by omega
  have hjz : (j : Int) < (n : Int) := by omega
  have hnz : (n : Int) ≤ 9223372036854775807 := by unfold maxLen at hn; omega
  have KEEP : ∀ u1 u2 : World, Grew u1 u2 → (Grew w u1 ∧ u1.cell? ⟨pb, 0, none⟩ = some (.slice (some ⟨b, off, none⟩) n cap) ∧ u1.cell? ⟨b, off + i * 4 + 2, none⟩ = some (.int .u64 (uv ci.ch)) ∧ u1.cell? ⟨b, off + i * 4 + 3, none⟩ = some (.int .u64 (uv ci.cl)) ∧ u1.cell? ⟨b, off + j * 4 + 2, none⟩ = some (.int .u64 (uv cj.ch)) ∧ u1.cell? ⟨b, off + j * 4 + 3, none⟩ = some (.int .u64 (uv cj.cl))) → (Grew w u2 ∧ u2.cell? ⟨pb, 0, none⟩ = some (.slice (some ⟨b, off, none⟩) n cap) ∧ u2.cell? ⟨b, off + i * 4 + 2, none⟩ = some (.int .u64 (uv ci.ch)) ∧ u2.cell? ⟨b, off + i * 4 + 3, none⟩ = some (.int .u64 (uv ci.cl)) ∧ u2.cell? ⟨b, off + j * 4 + 2, none⟩ = some (.int .u64 (uv cj.ch)) ∧ u2.cell? ⟨b, off + j * 4 + 3, none⟩ = some (.int .u64 (uv cj.cl))) := fun _ _ hb h => ⟨h.1.trans hb, on_some hb.below h.2.1, on_some hb.below h.2.2.1, on_some hb.below h.2.2.2.1, on_some hb.below h.2.2.2.2.1, on_some hb.below h.2.2.2.2.2⟩
  have S0 : Grew w w ∧ w.cell? ⟨pb, 0, none⟩ = some (.slice (some ⟨b, off, none⟩) n cap) ∧ w.cell? ⟨b, off + i * 4 + 2, none⟩ = some (.int .u64 (uv ci.ch)) ∧ w.cell? ⟨b, off + i * 4 + 3, none⟩ = some (.int .u64 (uv ci.cl)) ∧ w.cell? ⟨b, off + j * 4 + 2, none⟩ = some (.int .u64 (uv cj.ch)) ∧ w.cell? ⟨b, off + j * 4 + 3, none⟩ = some (.int .u64 (uv cj.cl)) := ⟨Grew.refl _, hp, h1.2.2.1, h1.2.2.2, h2.2.2.1, h2.2.2.2⟩
  clear hp h1 h2
  go_enter Tryz.func76, Tryz.ntmps76
  go_wp2_with fail
  refine wp_region_held_drew (S := fun w' => Grew w w' ∧ w'.cell? ⟨pb, 0, none⟩ = some (.slice (some ⟨b, off, none⟩) n cap) ∧ w'.cell? ⟨b, off + i * 4 + 2, none⟩ = some (.int .u64 (uv ci.ch)) ∧ w'.cell? ⟨b, off + i * 4 + 3, none⟩ = some (.int .u64 (uv ci.cl)) ∧ w'.cell? ⟨b, off + j * 4 + 2, none⟩ = some (.int .u64 (uv cj.ch)) ∧ w'.cell? ⟨b, off + j * 4 + 3, none⟩ = some (.int .u64 (uv cj.cl))) (by kernel_rfl) (KEEP _ _ (Grew.drew1 _) S0) (fun hHeld => ?_)
  clear S0
  refine wpAnyH_take (i := 0) (oi := ⟨some 6, _, _, _, _, _⟩) (v := ?vu0) rfl (by kernel_rfl) (by kernel_rfl) (by kernel_rfl) (fun _ _ _ h => h) (Or.inl ⟨by rfl, ?yu0⟩) hHeld ?ru0
  case yu0 => (intro w' hSw; (try dsimp only at hSw); go_simp; try (with_reducible rfl))
  simp only [Act.put, List.setIfInBounds_toArray, List.set_cons_zero, List.set_cons_succ]
  refine wpAnyH_take (i := 1) (oi := ⟨some 7, _, _, _, _, _⟩) (v := ?vu1) rfl (by kernel_rfl) (by kernel_rfl) (by kernel_rfl) (fun _ _ _ h => h) (Or.inl ⟨by rfl, ?yu1⟩) hHeld ?ru1
  case yu1 => (intro w' hSw; (try dsimp only at hSw); go_simp; try (with_reducible rfl))
  simp only [Act.put, List.setIfInBounds_toArray, List.set_cons_zero, List.set_cons_succ]
  refine wpAnyH_take (i := 2) (oi := ⟨some 8, _, _, _, _, _⟩) (v := ?vu2) rfl (by kernel_rfl) (by kernel_rfl) (by kernel_rfl) (fun _ _ _ h => h) (Or.inl ⟨by rfl, ?yu2⟩) hHeld ?ru2
  case yu2 => (intro w' hSw; (try dsimp only at hSw); go_simp; try (with_reducible rfl))
  simp only [Act.put, List.setIfInBounds_toArray, List.set_cons_zero, List.set_cons_succ]
  refine wpAnyH_take (i := 3) (oi := ⟨some 9, _, _, _, _, _⟩) (v := ?vu3) rfl (by kernel_rfl) (by kernel_rfl) (by kernel_rfl) (fun _ _ _ h => h) (Or.inl ⟨by rfl, ?yu3⟩) hHeld ?ru3
  case yu3 => (intro w' hSw; (try dsimp only at hSw); go_simp; try (with_reducible rfl))
  simp only [Act.put, List.setIfInBounds_toArray, List.set_cons_zero, List.set_cons_succ]
  refine wpAnyH_take (i := 4) (oi := ⟨some 10, _, _, _, _, _⟩) (v := ?vu4) rfl (by kernel_rfl) (by kernel_rfl) (by kernel_rfl) (fun _ _ _ h => h) (Or.inl ⟨by rfl, ?yu4⟩) hHeld ?ru4
  case yu4 => (intro w' hSw; (try dsimp only at hSw); go_simp; try (with_reducible rfl))
  simp only [Act.put, List.setIfInBounds_toArray, List.set_cons_zero, List.set_cons_succ]
  refine wpAnyH_take (i := 6) (oi := ⟨some 12, _, _, _, _, _⟩) (v := ?vu6) rfl (by kernel_rfl) (by kernel_rfl) (by kernel_rfl) (fun _ _ _ h => h) (Or.inl ⟨by rfl, ?yu6⟩) hHeld ?ru6
  case yu6 => (intro w' hSw; (try dsimp only at hSw); go_simp; try (with_reducible rfl))
  simp only [Act.put, List.setIfInBounds_toArray, List.set_cons_zero, List.set_cons_succ]
  refine wpAnyH_take (i := 7) (oi := ⟨some 13, _, _, _, _, _⟩) (v := ?vu7) rfl (by kernel_rfl) (by kernel_rfl) (by kernel_rfl) (fun _ _ _ h => h) (Or.inl ⟨by rfl, ?yu7⟩) hHeld ?ru7
  case yu7 => (intro w' hSw; (try dsimp only at hSw); go_simp; try (with_reducible rfl))
  simp only [Act.put, List.setIfInBounds_toArray, List.set_cons_zero, List.set_cons_succ]
  refine wpAnyH_take (i := 8) (oi := ⟨some 14, _, _, _, _, _⟩) (v := ?vu8) rfl (by kernel_rfl) (by kernel_rfl) (by kernel_rfl) (fun _ _ _ h => h) (Or.inl ⟨by rfl, ?yu8⟩) hHeld ?ru8
  case yu8 => (intro w' hSw; (try dsimp only at hSw); go_simp; try (with_reducible rfl))
  simp only [Act.put, List.setIfInBounds_toArray, List.set_cons_zero, List.set_cons_succ]
  refine wpAnyH_take (i := 9) (oi := ⟨some 15, _, _, _, _, _⟩) (v := ?vu9) rfl (by kernel_rfl) (by kernel_rfl) (by kernel_rfl) (fun _ _ _ h => h) (Or.inl ⟨by rfl, ?yu9⟩) hHeld ?ru9
  case yu9 => (intro w' hSw; (try dsimp only at hSw); go_simp; try (with_reducible rfl))
  simp only [Act.put, List.setIfInBounds_toArray, List.set_cons_zero, List.set_cons_succ]
  refine wpAnyH_take (i := 10) (oi := ⟨some 16, _, _, _, _, _⟩) (v := ?vu10) rfl (by kernel_rfl) (by kernel_rfl) (by kernel_rfl) (fun _ _ _ h => h) (Or.inl ⟨by rfl, ?yu10⟩) hHeld ?ru10
  case yu10 => (intro w' hSw; (try dsimp only at hSw); go_simp; try (with_reducible rfl))
  simp only [Act.put, List.setIfInBounds_toArray, List.set_cons_zero, List.set_cons_succ]
  refine wpAnyH_take (i := 13) (oi := ⟨some 19, _, _, _, _, _⟩) (v := ?vu13) rfl (by kernel_rfl) (by kernel_rfl) (by kernel_rfl) (fun _ _ _ h => h) (Or.inl ⟨by rfl, ?yu13⟩) hHeld ?ru13
  case yu13 => (intro w' hSw; (try dsimp only at hSw); go_simp; try (with_reducible rfl))
  simp only [Act.put, List.setIfInBounds_toArray, List.set_cons_zero, List.set_cons_succ]
  refine wpAnyH_take (i := 14) (oi := ⟨some 20, _, _, _, _, _⟩) (v := ?vu14) rfl (by kernel_rfl) (by kernel_rfl) (by kernel_rfl) (fun _ _ _ h => h) (Or.inl ⟨by rfl, ?yu14⟩) hHeld ?ru14
  case yu14 => (intro w' hSw; (try dsimp only at hSw); go_simp; try (with_reducible rfl))
  simp only [Act.put, List.setIfInBounds_toArray, List.set_cons_zero, List.set_cons_succ]
  refine wpAnyH_ready (rs := [5]) (by kernel_rfl) (by simp) ?_
  refine AllReadyH.cons (o := ⟨some 11, _, _, _, _, _⟩) rfl (fun K hK => ?_) AllReadyH.nil
  go_simp
  (with_reducible refine (ones_g ci.ch ci.cl oi _ HI.out).mono ?_)
  rintro e wq5 ⟨rfl, hb⟩
  (try dsimp only)
  refine hK.out _ _ (KEEP _ _ hb hHeld) (fun hNext => ?_)
  clear hK K hHeld hb
  have hHeld := hNext
  clear hNext
  try simp only [Act.put, List.setIfInBounds_toArray, List.set_cons_zero, List.set_cons_succ]
  refine wpAnyH_ready (rs := [11]) (by kernel_rfl) (by simp) ?_
  refine AllReadyH.cons (o := ⟨some 17, _, _, _, _, _⟩) rfl (fun K hK => ?_) AllReadyH.nil
  go_simp
  (with_reducible refine (ones_g cj.ch cj.cl oj _ HJ.out).mono ?_)
  rintro e wq11 ⟨rfl, hb⟩
  (try dsimp only)
  refine hK.out _ _ (KEEP _ _ hb hHeld) (fun hNext => ?_)
  clear hK K hHeld hb
  have hHeld := hNext
  clear hNext
  try simp only [Act.put, List.setIfInBounds_toArray, List.set_cons_zero, List.set_cons_succ]
  refine wpAnyH_ready (rs := [12]) (by kernel_rfl) (by simp) ?_
  refine AllReadyH.cons (o := ⟨some 18, _, _, _, _, _⟩) rfl (fun K hK => ?_) AllReadyH.nil
  go_simp
  (with_reducible refine (cmpI_g _ _ x _ hx).mono ?_)
  rintro e wq12 ⟨rfl, hb⟩
  (try dsimp only)
  refine hK.out _ _ (KEEP _ _ hb hHeld) (fun hNext => ?_)
  clear hK K hHeld hb
  have hHeld := hNext
  clear hNext
  try simp only [Act.put, List.setIfInBounds_toArray, List.set_cons_zero, List.set_cons_succ]
  refine wpAnyH_ready (rs := [15]) (by kernel_rfl) (by simp) ?_
  refine AllReadyH.cons (o := ⟨some 21, _, _, _, _, _⟩) rfl (fun K hK => ?_) AllReadyH.nil
  go_simp
  (with_reducible refine (cmpI_g _ _ y _ hy).mono ?_)
  rintro e wq15 ⟨rfl, hb⟩
  (try dsimp only)
  refine hK.out _ _ (KEEP _ _ hb hHeld) (fun hNext => ?_)
  clear hK K hHeld hb
  have hHeld := hNext
  clear hNext
  try simp only [Act.put, List.setIfInBounds_toArray, List.set_cons_zero, List.set_cons_succ]
  refine wpAnyH_ready (rs := [16]) (by kernel_rfl) (by simp) ?_
  refine AllReadyH.cons (o := ⟨some 22, _, _, _, _, _⟩) rfl (fun K hK => ?_) AllReadyH.nil
  go_simp
  have hb := Grew.alloc1 wq15 (.cells #[.int .i64 x, .int .i64 y] 3)
  have N : Blk (wq15.alloc (.cells #[.int .i64 x, .int .i64 y] 3)) wq15.heap.size 3 #[.int .i64 x, .int .i64 y] := Blk.new wq15 _ _
  have n0 := N.cell 0
  have n1 := N.cell 1
  refine hK.out _ _ (KEEP _ _ hb hHeld) (fun hNext => ?_)
  clear hK K hHeld hb N
  have hHeld := hNext
  clear hNext
  try simp only [Act.put, List.setIfInBounds_toArray, List.set_cons_zero, List.set_cons_succ]
  refine wpAnyH_ready (rs := [17]) (by kernel_rfl) (by simp) ?_
  refine AllReadyH.cons (o := ⟨some 23, _, _, _, _, _⟩) rfl (fun K hK => ?_) AllReadyH.nil
  go_simp
  (with_reducible refine (or2_g x y r _ _ hr ⟨n0, n1⟩).mono ?_)
  rintro e wq17 ⟨rfl, hb⟩
  (try dsimp only)
  refine hK.out _ _ (KEEP _ _ hb hHeld) (fun hNext => ?_)
  clear hK K hHeld hb
  have hHeld := hNext
  clear hNext
  try simp only [Act.put, List.setIfInBounds_toArray, List.set_cons_zero, List.set_cons_succ]
  refine wpAnyH_take (i := 18) (oi := ⟨some 5, _, _, _, _, _⟩) (v := ?vu18) rfl (by kernel_rfl) (by kernel_rfl) (by kernel_rfl) (fun _ _ _ h => h) (Or.inl ⟨by rfl, ?yu18⟩) hHeld ?ru18
  case yu18 => (intro w' hSw; (try dsimp only at hSw); go_simp; try (with_reducible rfl))
  simp only [Act.put, List.setIfInBounds_toArray, List.set_cons_zero, List.set_cons_succ]
  refine wpAnyH_done (by kernel_rfl) ?_ _
  clear KEEP
  have G := hHeld.1
  clear hHeld
  go_wp2
  go_ret
  exact ⟨rfl, G⟩
end Go.Proofs

namespace Go.Proofs.Hd
open Go.RowKit Go.Sort Go.Shelf Go.Lib
/-- How many bits cube number k of a list cares for. -/
def szAt (L : List Cb) (k : Nat) : Int := match L[k]? with
  | some c => ((ones c.ch + ones c.cl : Nat) : Int)
  | none => 0
theorem szAt_some {L : List Cb} {k : Nat} {c : Cb} (h : L[k]? = some c) : szAt L k = ((ones c.ch + ones c.cl : Nat) : Int) := by unfold szAt; rw [h]
def cfW (L : List Cb) (x y : {k : Nat // k < L.length}) : Int := or2 (icmp (szAt L x.1) (szAt L y.1)) (icmp (x.1 : Int) (y.1 : Int))
theorem ltW (L : List Cb) (x y : {k : Nat // k < L.length}) : ltOf (cfW L) x y = decide (szAt L x.1 < szAt L y.1 ∨ (szAt L x.1 = szAt L y.1 ∧ x.1 < y.1)) := by
  unfold ltOf cfW or2 icmp
  by_cases h1 : szAt L x.1 < szAt L y.1
  · simp [h1]
  · by_cases h2 : szAt L y.1 < szAt L x.1
    · have : ¬ szAt L x.1 = szAt L y.1 := by omega
      simp [h1, h2, this]
    · have : szAt L x.1 = szAt L y.1 := by omega
      by_cases h3 : x.1 < y.1
      · simp [this, h3]
      · by_cases h4 : y.1 < x.1 <;> simp [this, h3, h4]
theorem swoW (L : List Cb) : SWO (ltOf (cfW L)) where
  irrefl x := by rw [ltW]; simp
  trans x y z h1 h2 := by rw [ltW, decide_eq_true_eq] at *; omega
  ntrans x y z h1 h2 := by rw [ltW, decide_eq_false_iff_not] at *; omega
/-- Number a stands ahead of number b, or is it. -/
def wle (L : List Cb) (a b : Nat) : Prop := szAt L a < szAt L b ∨ (szAt L a = szAt L b ∧ a ≤ b)
theorem sortWorld_cell {α : Type} [Inhabited α] (enc : α → Value) (w : World) (g off m : Nat) (dk : Array α) (os : Array Obj) (p : Addr) {u : Value} (hp : w.cell? p = some u) (hg : p.block ≠ g) : (sortWorld enc w g off m dk os).cell? p = some u := by
  have hl := World.block_lt_of_cell? w p hp
  unfold sortWorld
  rw [cell?_grow _ _ _ (by rw [size_putRow]; exact hl), cell?_putRow_other _ _ _ _ _ _ (.inl hg), cell?_ahead]
  exact hp
theorem sortWorld_grown {α : Type} [Inhabited α] (enc : α → Value) (w : World) (g off m : Nat) (dk : Array α) (os : Array Obj) : w.grownBy (sortWorld enc w g off m dk os) (some g) := by
  refine ⟨rfl, rfl, rfl, ?_, fun k hk hne => ?_⟩
  · unfold sortWorld; simp [grow]; try (unfold putRow mapBlock; simp [ahead])
  · unfold sortWorld
    rw [heap_grow_old _ _ (by rw [size_putRow]; exact hk)]
    unfold putRow mapBlock
    simp only [Array.getElem?_modify]
    rw [if_neg (fun e => hne (by rw [e]))]
    rfl
end Go.Proofs.Hd
namespace Go.Proofs
open Go.RowKit Go.Proofs.Hd Go.Sort Go.Shelf Go.Lib
theorem wide_sort (L : List Cb) (v : Value) (ks : List Nat) (base b off cap pb : Nat) (w : World) (hn : L.length ≤ maxLen) (hown : w.ownsRow base 3 1 v ks.length (ints ks)) (hks : ∀ k ∈ ks, k < L.length) (hsz : ks.length < 4611686018427387904)
    (hp : w.cell? ⟨pb, 0, none⟩ = some (.slice (some ⟨b, off, none⟩) L.length cap)) (hc : ∀ k c, L[k]? = some c → At4 w b (off + k * 4) c) (h1 : some pb ≠ v.ownBlock) (h2 : some b ≠ v.ownBlock) :
    Calls Tryz.prog 26 #[v, .func (.func 76) #[] #[.pointer (some ⟨pb, 0, none⟩)]] w fun e w' => e = .returned (.tuple #[]) ∧ w.grownBy w' v.ownBlock ∧ ∃ ks', ks'.Perm ks ∧ ks'.Pairwise (wle L) ∧ PlI w' v ks' := by
  rcases hown.2 with ⟨rfl, h0⟩ | ⟨g, cp, cur, rfl, hge, hheap, _⟩
  · have e : ks = [] := List.eq_nil_of_length_eq_zero h0
    subst e
    have hcon := AnyF.slices_SortFunc_none { Tryz.sortF with } none 0 (.func (.func 76) #[] #[.pointer (some ⟨pb, 0, none⟩)]) w
    change Calls Tryz.prog 26 _ _ _ at hcon
    refine hcon.mono ?_
    rintro e w' ⟨rfl, rfl⟩
    exact ⟨rfl, ⟨rfl, rfl, rfl, Nat.le_refl _, fun _ _ _ => rfl⟩, [], List.Perm.refl _, List.Pairwise.nil, .inl ⟨rfl, _, _, rfl⟩⟩
  · by_cases h0 : ks = []
    · subst h0
      have hcon := AnyF.slices_SortFunc_none { Tryz.sortF with } (some ⟨g, 0, none⟩) cp (.func (.func 76) #[] #[.pointer (some ⟨pb, 0, none⟩)]) w
      change Calls Tryz.prog 26 _ _ _ at hcon
      refine hcon.mono ?_
      rintro e w' ⟨rfl, rfl⟩
      exact ⟨rfl, ⟨rfl, rfl, rfl, Nat.le_refl _, fun _ _ _ => rfl⟩, [], List.Perm.refl _, List.Pairwise.nil, .inl ⟨rfl, _, _, rfl⟩⟩
    · have eg : ∀ args w, (callFunc 76 args).run Tryz.prog w = .ok (.enter 76 args) w := enters_of Tryz.func76 (by kernel_rfl) rfl
      obtain ⟨k0, hk0⟩ := List.exists_mem_of_ne_nil ks h0
      haveI : Inhabited {k : Nat // k < L.length} := ⟨⟨k0, hks k0 hk0⟩⟩
      let d : Array {k : Nat // k < L.length} := (ks.pmap (fun k h => ⟨k, h⟩) hks).toArray
      have dsz : d.size = ks.length := by simp [d]
      have dval : d.toList.map (·.1) = ks := by simp [d, List.map_pmap]
      have dget : ∀ j, j < d.size → ks[j]? = some (d[j]!).1 := fun j hj => by
        rw [← dval, List.getElem?_map, getElem!_pos d j hj]
        simp [hj]
      have n1 : pb ≠ g := fun e => h1 (by simp [Value.ownBlock, e])
      have n2 : b ≠ g := fun e => h2 (by simp [Value.ownBlock, e])
      have hH : Holds (fun x : {k : Nat // k < L.length} => Value.int .i64 (x.1 : Int)) w g 0 d := fun j hj => by
        constructor
        · rw [Nat.zero_add, hown.cellAt j (by omega)]
          unfold ints
          rw [List.getElem?_map, dget j hj]; rfl
        · exact hown.frozenAt _
      have hcmp : CmpLays1 Tryz.prog 76 #[.pointer (some ⟨pb, 0, none⟩)] (fun x : {k : Nat // k < L.length} => Value.int .i64 (x.1 : Int)) (cfW L) g 0 d.size w := fun m os dk _ x y => by
        obtain ⟨ci, hi⟩ : ∃ c, L[x.1]? = some c := ⟨_, List.getElem?_eq_getElem x.2⟩
        obtain ⟨cj, hj⟩ : ∃ c, L[y.1]? = some c := ⟨_, List.getElem?_eq_getElem y.2⟩
        have a1 := hc _ _ hi
        have a2 := hc _ _ hj
        exact wide1_g (szAt L x.1) (szAt L y.1) _ _ _ ci cj x.1 y.1 L.length b off cap pb _ x.2 y.2 hn (Lib.hid (szAt_some hi).symm) (Lib.hid (szAt_some hj).symm) rfl rfl rfl (sortWorld_cell _ _ _ _ _ _ _ _ hp n1)
          ⟨sortWorld_cell _ _ _ _ _ _ _ _ a1.1 n2, sortWorld_cell _ _ _ _ _ _ _ _ a1.2.1 n2, sortWorld_cell _ _ _ _ _ _ _ _ a1.2.2.1 n2, sortWorld_cell _ _ _ _ _ _ _ _ a1.2.2.2 n2⟩
          ⟨sortWorld_cell _ _ _ _ _ _ _ _ a2.1 n2, sortWorld_cell _ _ _ _ _ _ _ _ a2.2.1 n2, sortWorld_cell _ _ _ _ _ _ _ _ a2.2.2.1 n2, sortWorld_cell _ _ _ _ _ _ _ _ a2.2.2.2 n2⟩
      have hlt : g < w.heap.size := by
        rcases Nat.lt_or_ge g w.heap.size with h | h
        · exact h
        · rw [Array.getElem?_eq_none h] at hheap; cases hheap
      have hcon := Any.slices_SortFunc Tryz.sortF (fun x : {k : Nat // k < L.length} => Value.int .i64 (x.1 : Int)) (fun _ => rfl) (cfW L) (swoW L) 76 #[.pointer (some ⟨pb, 0, none⟩)] g 0 cp d w eg hcmp hH hlt (by omega)
      change Calls Tryz.prog 26 _ _ _ at hcon
      rw [dsz] at hcon
      refine hcon.mono ?_
      rintro e w' ⟨rfl, d', n, os, hperm, hsort, rfl⟩
      obtain ⟨hs1, _, hs3⟩ := hperm
      have hp3 : d'.toList.Perm d.toList := by
        have e1 : (d'.extract 0 ks.length).toList = d'.toList := by rw [show ks.length = d'.size by omega]; simp
        have e2 : (d.extract 0 ks.length).toList = d.toList := by rw [← dsz]; simp
        rw [e1, e2] at hs3; exact hs3
      refine ⟨rfl, sortWorld_grown _ _ _ _ _ _ _, d'.toList.map (·.1), by rw [← dval]; exact hp3.map _, ?_, .inr ⟨g, cp, ?_, ?_, fun j k hk => ?_⟩⟩
      · rw [List.pairwise_map, List.pairwise_iff_getElem]
        intro i j hi hj hij
        have hi' : i < d'.size := by simpa using hi
        have hj' : j < d'.size := by simpa using hj
        have := hsort i j (Nat.zero_le _) hij (by omega)
        rw [ltW, decide_eq_false_iff_not, getElem!_pos d' i hi', getElem!_pos d' j hj'] at this
        simp only [Array.getElem_toList]
        unfold wle
        omega
      · simp; omega
      · have := (sortWorld_grown (fun x : {k : Nat // k < L.length} => Value.int .i64 (x.1 : Int)) w g 0 n d' os).size
        omega
      · have hjl : j < d'.size := by have := (List.getElem?_eq_some_iff.1 hk).1; simpa using this
        unfold sortWorld
        rw [cell?_grow _ _ _ (by rw [size_putRow]; exact hlt)]
        have := cell?_putRow (fun x : {k : Nat // k < L.length} => Value.int .i64 (x.1 : Int)) (Sort.ahead w n) g 0 d d' hH hs1 j hjl
        rw [Nat.zero_add] at this
        rw [this]
        rw [List.getElem?_map] at hk
        have e : d'.toList[j]? = some d'[j]! := by rw [getElem!_pos d' j hjl]; simp [hjl]
        rw [e] at hk
        simp only [Option.map_some, Option.some.injEq] at hk
        rw [hk]
end Go.Proofs

namespace Go.Proofs.Hd
open Go.RowKit Go.Sort Go.Shelf Go.Lib
def sndAt (L : List Cb) (i : Nat) : Bool := match L[i]? with
  | some c => c.snd
  | none => false
theorem sndAt_some {L : List Cb} {k : Nat} {c : Cb} (h : L[k]? = some c) : sndAt L k = c.snd := by unfold sndAt; rw [h]
/-- The places of the sound cubes among the first k. -/
def sI (L : List Cb) (k : Nat) : List Nat := (List.range k).filter (sndAt L)
theorem sI_succ (L : List Cb) (k : Nat) : sI L (k + 1) = if sndAt L k = true then sI L k ++ [k] else sI L k := by
  unfold sI
  rw [List.range_succ, List.filter_append]
  cases h : sndAt L k <;> simp [h]
theorem sI_len (L : List Cb) (k : Nat) : (sI L k).length ≤ k := by
  unfold sI
  exact Nat.le_trans (List.length_filter_le _ _) (by simp)
theorem sI_lt (L : List Cb) : ∀ k ∈ sI L L.length, k < L.length := fun k hk => by
  unfold sI at hk
  simpa using (List.mem_filter.1 hk).1
/-- What pile.widestFirst holds in memory. -/
structure Wd (w wr : World) (v s : Value) (ks : List Nat) : Prop where
  bel : Below w.heap.size w wr
  box : Blk wr w.heap.size 24 #[v]
  own : wr.ownsRow (w.heap.size + 1) 3 1 s ks.length (ints ks)
theorem Wd.on {w wr w2 : World} {v s : Value} {ks : List Nat} (h : Wd w wr v s ks) (hb : Below wr.heap.size wr w2) : Wd w w2 v s ks :=
  ⟨h.bel.trans (hb.mono h.bel.size), h.box.on hb, own_on h.own hb⟩
theorem Wd.append {w wr w2 : World} {v s s' : Value} {ks : List Nat} {k : Nat} (h : Wd w wr v s ks) (hg : wr.grownBy w2 s.ownBlock)
    (hown : w2.ownsRow (w.heap.size + 1) 3 1 s' (ks.length + 1) (ints ks ++ [.int .i64 (k : Int)])) : Wd w w2 v s' (ks ++ [k]) := by
  have hz := h.bel.size
  refine ⟨h.bel.grown hg hz (fun j hj => by have := (h.own.lt j hj).1; omega), h.box.grown hg (own_base h.own (by omega)), ?_⟩
  rw [ints_snoc]; simpa using hown
end Go.Proofs.Hd
namespace Go.Proofs
open Go.RowKit Go.Proofs.Hd Go.Sort Go.Shelf Go.Lib
attribute [local go_sem] uv_nonneg
theorem infoInt : (Tryz.prog.info? 3).map (fun i => (i.zero, i.size, i.bytes)) = some (some (.int .i64 0), 1, 8) := by kernel_rfl
set_option maxHeartbeats 2000000 in
set_option maxRecDepth 100000 in
theorem widest_c (v : Value) (L : List Cb) (w : World) (hl : L.length ≤ 1000000) (hv : Pl w v L) :
    Calls Tryz.prog 63 #[v] w fun e w' => ∃ s ks, e = .returned s ∧ Below w.heap.size w w' ∧ ks.Perm (sI L L.length) ∧ ks.Pairwise (wle L) ∧ PlI w' s ks := by
  rcases hv with ⟨rfl, A, cap, rfl⟩ | ⟨b, off, cap, rfl, hlen, hb, hc⟩
  · have B0 := below1 w (.cells #[.slice A 0 cap] 24)
    have hcon := AnyF.slices_SortFunc_none { Tryz.sortF with } none 0 (.func (.func 76) #[] #[.pointer (some ⟨w.heap.size, 0, none⟩)]) (w.alloc (.cells #[.slice A 0 cap] 24))
    change Calls Tryz.prog 26 _ _ _ at hcon
    go_enter Tryz.func63, Tryz.ntmps63
    go_wp2
    refine wp_loop_rounds 1 ?_
    rw [rounds_succ]
    go_wp2_with (go_at_call 26; refine hcon.mono ?_; rintro e w' ⟨rfl, rfl⟩)
    go_ret
    exact ⟨_, [], rfl, B0, List.Perm.refl _, List.Pairwise.nil, .inl ⟨rfl, _, _, rfl⟩⟩
  · have hlz : (L.length : Int) ≤ 1000000 := by omega
    have HC := Lib.hid hc
    have W0 : Wd w (w.alloc (.cells #[.slice (some ⟨b, off, none⟩) L.length cap] 24)) (.slice (some ⟨b, off, none⟩) L.length cap) (.slice none 0 0) (sI L 0) := ⟨below1 _ _, Blk.new _ _ _, World.ownsRow_nil _ _ _ _⟩
    have HW := Lib.hid W0
    clear hc W0
    go_enter Tryz.func63, Tryz.ntmps63
    go_wp2
    go_loopg [3, 8] L.length (fun gk s i wr => ∃ k : Nat, k ≤ L.length ∧ gk = L.length - k ∧ i = .int .i64 k ∧ Wd w wr (.slice (some ⟨b, off, none⟩) L.length cap) s (sI L k))
    case atStart => exact ⟨0, Nat.zero_le _, rfl, rfl, HW.out⟩
    case round =>
      clear HW
      obtain ⟨k, hk, rfl, rfl, H⟩ := hrel
      by_cases hlt : k < L.length
      · have hltz : (k : Int) < (L.length : Int) := by omega
        obtain ⟨c, hc⟩ : ∃ c, L[k]? = some c := ⟨_, List.getElem?_eq_getElem hlt⟩
        obtain ⟨c0, c1, c2, c3⟩ := (HC.out k c hc).on (w' := wr) H.bel
        have B := Lib.hid hc
        clear hc
        have hb1 := below1 wr (.cells #[.int .u64 (uv c.vh), .int .u64 (uv c.vl), .int .u64 (uv c.ch), .int .u64 (uv c.cl)] 47)
        have H1 := H.on hb1
        clear H
        have hsl := sI_len L k
        cases hs : c.snd with
        | false =>
          have HN : Hid (sI L (k + 1) = sI L k) := Lib.hid (by rw [sI_succ, sndAt_some B.out, hs, if_neg (by simp)])
          go_wp2_with fail
          (with_reducible refine (csound _ c _ hs).mono ?_)
          rintro e w2 ⟨rfl, hb2⟩
          have H2 := H1.on hb2
          clear H1 hb1 hb2 c0 c1 c2 c3
          go_wp2
          go_roundg (L.length - (k + 1))
          case measure => omega
          case rel => exact ⟨k + 1, by omega, rfl, by go_num, by rw [HN.out]; exact H2⟩
        | true =>
          have HN : Hid (sI L (k + 1) = sI L k ++ [k]) := Lib.hid (by rw [sI_succ, sndAt_some B.out, hs, if_pos rfl])
          go_wp2_with fail
          (with_reducible refine (csound _ c _ hs).mono ?_)
          rintro e w2 ⟨rfl, hb2⟩
          have H2 := H1.on hb2
          clear H1 hb1 hb2 c0 c1 c2 c3
          have N3 : Blk (w2.alloc (.cells #[.int .i64 (k : Int)] 3)) w2.heap.size 3 #[.int .i64 (k : Int)] := Blk.new w2 _ _
          have H3 := H2.on (below1 w2 (.cells #[.int .i64 (k : Int)] 3))
          obtain ⟨i0, hi0, hz0, hz1, hz2⟩ := info_parts infoInt
          go_wp2_with (at_builtin; refine wpList_append_lies _ rfl (.tmp 15) (.tmp 17) 32 rfl (w.heap.size + 1) 3 i0 _ 1 8 Tryz.underlying32 hi0 hz0 hz1 hz2 rfl (by decide) _ (sI L k).length (ints (sI L k)) rfl H3.own ⟨w2.heap.size, 0, none⟩ 1 1 [.int .i64 (k : Int)] rfl rfl (World.news_of_block N3) (by intro u hu; simp only [List.mem_singleton] at hu; subst hu; rfl) (by omega) (by unfold maxLen; omega) (by omega) (H3.box.lt) _ rfl ?_)
          intro g2 cap2 w4 hown hgrow hat hgl
          have H4 := H3.append hgrow hown
          clear H2 H3 N3 hi0 hz0 hz1 hz2 hown hgrow hat hgl
          go_wp2
          go_roundg (L.length - (k + 1))
          case measure => omega
          case rel => exact ⟨k + 1, by omega, rfl, by go_num, by rw [HN.out]; exact H4⟩
      · have hltz : ¬ (k : Int) < (L.length : Int) := by omega
        obtain rfl : k = L.length := by omega
        have hsl := sI_len L L.length
        have hcon := wide_sort L _ (sI L L.length) (w.heap.size + 1) b off cap w.heap.size wr hlen H.own (sI_lt L) (by omega) (H.box.cell 0) (fun k c hk => (HC.out k c hk).on H.bel) (own_base H.own (by omega)) (own_base H.own (by omega))
        have HB : Hid (∀ w', wr.grownBy w' u3.ownBlock → Below w.heap.size w w') := fun w' hg => H.bel.grown hg H.bel.size (fun j hj => by have := (H.own.lt j hj).1; omega)
        clear H HC
        go_wp2_with (go_at_call 26; refine hcon.mono ?_; rintro e w' ⟨rfl, hg, ks', hp1, hp2, hp3⟩)
        go_ret
        exact ⟨_, ks', rfl, HB.out _ hg, hp1, hp2, hp3⟩
end Go.Proofs

namespace Go.Proofs.Hd
open Go.RowKit
theorem szAt_size {L : List Cb} {k : Nat} {c : Cb} (h : L[k]? = some c) : szAt L k = (c.size : Int) := by
  rw [szAt_some h]
  have : c.size = ones c.ch + ones c.cl := cnt_128 c.ch c.cl
  rw [this]
def witAt (L : List Cb) (n k : Nat) : Bool := match L[n]?, L[k]? with
  | some a, some b => a.wit b
  | _, _ => false
theorem witAt_some {L : List Cb} {n k : Nat} {a b : Cb} (h1 : L[n]? = some a) (h2 : L[k]? = some b) : witAt L n k = a.wit b := by unfold witAt; rw [h1, h2]
theorem witAt_true {L : List Cb} {n k : Nat} {a : Cb} (h1 : L[n]? = some a) (h : witAt L n k = true) : ∃ b, L[k]? = some b ∧ a.wit b = true := by
  unfold witAt at h
  rw [h1] at h
  cases h2 : L[k]? with
  | none => rw [h2] at h; cases h
  | some b => rw [h2] at h; exact ⟨b, rfl, h⟩
theorem sI_mem {L : List Cb} {k : Nat} : k ∈ sI L L.length ↔ ∃ c, L[k]? = some c ∧ c.snd = true := by
  unfold sI
  rw [List.mem_filter, List.mem_range]
  constructor
  · rintro ⟨h1, h2⟩
    refine ⟨_, List.getElem?_eq_getElem h1, ?_⟩
    rw [← sndAt_some (List.getElem?_eq_getElem h1)]; exact h2
  · rintro ⟨c, hc, hs⟩
    exact ⟨(List.getElem?_eq_some_iff.1 hc).1, by rw [sndAt_some hc]; exact hs⟩
theorem sI_nodup (L : List Cb) (n : Nat) : (sI L n).Nodup := List.Nodup.sublist List.filter_sublist List.nodup_range
theorem sI_sorted (L : List Cb) (n : Nat) : (sI L n).Pairwise (· < ·) := List.Pairwise.sublist List.filter_sublist List.pairwise_lt_range
/-- What was ahead of place i, if it is to be ahead by the order. -/
theorem ahead_of {L : List Cb} {ks : List Nat} (hs : ks.Pairwise (wle L)) {i n m : Nat} (hn : ks[i]? = some n) (hm : m ∈ ks) (hne : m ≠ n) (hle : wle L m n) : m ∈ ks.take i := by
  obtain ⟨j, hj⟩ := List.mem_iff_getElem?.1 hm
  obtain ⟨hj1, hj2⟩ := List.getElem?_eq_some_iff.1 hj
  obtain ⟨hi1, hi2⟩ := List.getElem?_eq_some_iff.1 hn
  rcases Nat.lt_trichotomy j i with h | h | h
  · refine List.mem_iff_getElem?.2 ⟨j, ?_⟩
    rw [List.getElem?_take_of_lt h]; exact hj
  · subst h; exact absurd (hj2.symm.trans hi2) hne
  · have := (List.pairwise_iff_getElem.1 hs) i j hi1 hj1 h
    rw [hi2, hj2] at this
    unfold wle at this hle
    exact absurd (show m = n by omega) hne
theorem behind_of {L : List Cb} {ks : List Nat} (hnd : ks.Nodup) (hs : ks.Pairwise (wle L)) {i n m : Nat} (hn : ks[i]? = some n) (hm : m ∈ ks.take i) : m ≠ n ∧ wle L m n := by
  obtain ⟨j, hj⟩ := List.mem_iff_getElem?.1 hm
  have hji : j < i := by
    have := (List.getElem?_eq_some_iff.1 hj).1
    simp at this; omega
  rw [List.getElem?_take_of_lt hji] at hj
  obtain ⟨hj1, hj2⟩ := List.getElem?_eq_some_iff.1 hj
  obtain ⟨hi1, hi2⟩ := List.getElem?_eq_some_iff.1 hn
  refine ⟨fun e => ?_, ?_⟩
  · have := (List.pairwise_iff_getElem.1 hnd) j i hj1 hi1 hji
    rw [hj2, hi2] at this; exact this e
  · have := (List.pairwise_iff_getElem.1 hs) j i hj1 hi1 hji
    rw [hj2, hi2] at this; exact this
/-- The places that are kept so far. -/
def keptOf (L : List Cb) (ks : List Nat) (i : Nat) : List Nat := (ks.take i).filter fun m => !spare L m
theorem spare_kept {L : List Cb} {ks : List Nat} (hp : ks.Perm (sI L L.length)) (hs : ks.Pairwise (wle L)) {i n : Nat} (hn : ks[i]? = some n) : ((keptOf L ks i).any fun k => witAt L n k) = spare L n := by
  have hnd : ks.Nodup := hp.symm.nodup (sI_nodup L _)
  obtain ⟨a, ha, has⟩ := sI_mem.1 (hp.mem_iff.1 (List.mem_of_getElem? hn))
  rw [Bool.eq_iff_iff, List.any_eq_true]
  constructor
  · rintro ⟨k, hk, hw⟩
    unfold keptOf at hk
    obtain ⟨hk1, hk2⟩ := List.mem_filter.1 hk
    obtain ⟨b, hb, hwb⟩ := witAt_true ha hw
    obtain ⟨hne, hle⟩ := behind_of hnd hs hn hk1
    refine (spare_iff ha).2 ⟨k, b, hb, hne, hwb, ?_⟩
    by_cases e : a = b
    · right
      subst e
      unfold wle at hle
      rw [szAt_size ha, szAt_size hb] at hle
      omega
    · exact .inl e
  · intro hsp
    obtain ⟨k, b, hb, hkn, hwb, hor⟩ := (spare_iff ha).1 hsp
    have hbs := ((Cb.wit_iff a b).1 hwb).2.1
    obtain ⟨c, hc, hwc⟩ := kept_over (L := L) b.size k b (Nat.le_refl _) hb hbs
    obtain ⟨m, hm, hms⟩ := leanL_mem.1 hc
    have hac := wit_trans hwb hwc
    have hcs := ((Cb.wit_iff b c).1 hwc).2.1
    have hmn : m ≠ n := fun e => by subst e; rw [hsp] at hms; cases hms
    have hle : wle L m n := by
      unfold wle
      rw [szAt_size ha, szAt_size hm]
      have s1 := wit_size hwb
      have s2 := wit_size hwc
      by_cases hlt : c.size < a.size
      · left; omega
      · right
        have e1 := wit_same_size hwb (by omega)
        have e2 := wit_same_size hwc (by omega)
        subst e1 e2
        refine ⟨rfl, ?_⟩
        rcases Nat.lt_or_ge n m with h | h
        · exfalso
          have := (spare_iff hm).2 ⟨n, a, ha, fun e => hmn e.symm, wit_self has, .inr h⟩
          rw [this] at hms; cases hms
        · exact h
    refine ⟨m, List.mem_filter.2 ⟨ahead_of hs hn (hp.mem_iff.2 (sI_mem.2 ⟨c, hm, hcs⟩)) hmn hle, by rw [hms]; rfl⟩, ?_⟩
    rw [witAt_some ha hm]; exact hac
theorem keptOf_succ {L : List Cb} {ks : List Nat} {i n : Nat} (hn : ks[i]? = some n) : keptOf L ks (i + 1) = if spare L n = true then keptOf L ks i else keptOf L ks i ++ [n] := by
  obtain ⟨hi, rfl⟩ := List.getElem?_eq_some_iff.1 hn
  unfold keptOf
  rw [List.take_succ_eq_append_getElem hi, List.filter_append]
  cases h : spare L ks[i] <;> simp [h]
/-- The places of the cubes that remain, in order. -/
def leanI (L : List Cb) : List Nat := (sI L L.length).filter fun m => !spare L m
/-- A list without cubes that are not sound, and without those that lie within others. -/
def leanS (L : List Cb) : List Cb := (leanI L).filterMap fun i => L[i]?
theorem leanI_lt {L : List Cb} {i : Nat} (h : i ∈ leanI L) : i < L.length := sI_lt L i (List.mem_filter.1 h).1
theorem leanS_len (L : List Cb) : (leanS L).length = (leanI L).length := by
  unfold leanS
  have : ∀ I : List Nat, (∀ i ∈ I, i < L.length) → (I.filterMap fun i => L[i]?).length = I.length := by
    intro I
    induction I with
    | nil => intro _; rfl
    | cons i I ih =>
      intro h
      rw [List.filterMap_cons_some (List.getElem?_eq_getElem (h i (by simp)))]
      simp [ih (fun j hj => h j (by simp [hj]))]
  exact this _ (fun i hi => leanI_lt hi)
theorem keptOf_all {L : List Cb} {ks : List Nat} (hp : ks.Perm (sI L L.length)) : (keptOf L ks ks.length).Perm (leanI L) := by
  unfold keptOf leanI
  rw [List.take_length]
  exact hp.filter _
theorem keptOf_le {L : List Cb} {ks : List Nat} (hp : ks.Perm (sI L L.length)) (i : Nat) : (keptOf L ks i).length ≤ (leanS L).length := by
  rw [leanS_len, ← (keptOf_all hp).length_eq]
  unfold keptOf
  rw [List.take_length]
  exact ((List.take_sublist i ks).filter _).length_le
theorem keptOf_lt {L : List Cb} {ks : List Nat} {k : Nat} (hp : ks.Perm (sI L L.length)) (i : Nat) (h : k ∈ keptOf L ks i) : k < L.length := by
  unfold keptOf at h
  exact sI_lt L k (hp.mem_iff.1 (List.mem_of_mem_take (List.mem_filter.1 h).1))
theorem kept_sorted {L : List Cb} {ks : List Nat} (hp : ks.Perm (sI L L.length)) : (((keptOf L ks ks.length).map fun (k : Nat) => (k : Int)).mergeSort fun x y => decide (x ≤ y)) = (leanI L).map fun (k : Nat) => (k : Int) := by
  have tr : ∀ a b c : Int, (decide (a ≤ b)) = true → (decide (b ≤ c)) = true → (decide (a ≤ c)) = true := fun a b c h1 h2 => by simp at *; omega
  have tot : ∀ a b : Int, ((decide (a ≤ b)) || (decide (b ≤ a))) = true := fun a b => by simp; omega
  refine List.Perm.eq_of_pairwise (le := fun a b => decide (a ≤ b) = true) (fun a b _ _ h1 h2 => by simp at h1 h2; omega) (List.pairwise_mergeSort tr tot _) ?_ ((List.mergeSort_perm _ _).trans ((keptOf_all hp).map _))
  rw [List.pairwise_map]
  have : (leanI L).Pairwise (· < ·) := List.Pairwise.sublist List.filter_sublist (sI_sorted L _)
  exact this.imp fun {a b} h => by simp; omega
theorem leanS_mem {L : List Cb} {c : Cb} : c ∈ leanS L ↔ ∃ i, L[i]? = some c ∧ c.snd = true ∧ spare L i = false := by
  unfold leanS leanI
  rw [List.mem_filterMap]
  constructor
  · rintro ⟨i, hi, hc⟩
    obtain ⟨h1, h2⟩ := List.mem_filter.1 hi
    obtain ⟨d, hd, hs⟩ := sI_mem.1 h1
    rw [hc] at hd; injection hd with hd; subst hd
    exact ⟨i, hc, hs, by simpa using h2⟩
  · rintro ⟨i, hi, hs, hsp⟩
    exact ⟨i, List.mem_filter.2 ⟨sI_mem.2 ⟨c, hi, hs⟩, by rw [hsp]; rfl⟩, hi⟩
/-- The first k that remain. -/
theorem leanS_take (L : List Cb) (k i : Nat) (c : Cb) (hi : (leanI L)[k]? = some i) (hc : L[i]? = some c) : ((leanI L).take (k + 1)).filterMap (fun i => L[i]?) = ((leanI L).take k).filterMap (fun i => L[i]?) ++ [c] := by
  obtain ⟨hk, rfl⟩ := List.getElem?_eq_some_iff.1 hi
  rw [List.take_succ_eq_append_getElem hk, List.filterMap_append]
  congr 1
  simp [hc]
theorem take_len (L : List Cb) (k : Nat) (hk : k ≤ (leanI L).length) : (((leanI L).take k).filterMap (fun i => L[i]?)).length = k := by
  induction k with
  | zero => simp
  | succ k ih =>
    have hi := List.getElem?_eq_getElem (l := leanI L) (i := k) (by omega)
    rw [leanS_take L k _ _ hi (List.getElem?_eq_getElem (leanI_lt (List.mem_of_getElem? hi)))]
    simp [ih (by omega)]
end Go.Proofs.Hd
