/-
  Sets of numbers as lists that increase. No program in sight. Conditions as each theorem lists them.
  Plain mathematics: numbers with cubes that come and go; which of them have something in common with a cube, or have a header. No program in sight. Conditions as each theorem lists them.
  Plain mathematics: cubes of a list that are added under their places, from the first or from the last; inserting a number where it belongs. No program in sight. Conditions as each theorem lists them.
  Plain mathematics: a tree of cubes whose nodes stand only at bits at which the cubes below them part: putting a number in, taking one out, searching. No program in sight. Conditions as each theorem lists them.
  What a call changes at most. No program in sight. No conditions.
  A map from numbers to cubes in memory, as a list; what the operations on it do. Conditions as each theorem lists them.
  A row that grows, and where it lies then. No program in sight. No conditions.
  A tree of cubes in memory: nodes by pointers, each leaf's numbers in a row of its own; no two of them share a block. Conditions as each theorem lists them.
  Contracts of math/bits.Len64, of trie's letterAt, partingOf and enters. Conditions as each theorem lists them.
  Plain facts on arrays of 128 bools as values in memory: no program in sight. No conditions.
  Plain facts on blocks that a statement makes in whatever order and fills afterwards. No conditions.
-/
import Derived.Test.YtgoieipchhamgaaJ2
import Derived.Lib.Hide
import Derived.Maps.OwnSet
import Derived.Test.YtgoieipchhamgaaProg
import Derived.Shelf.Small.Bits
import Derived.Shelf.Strconv.Itoa0
import Derived.Deep.MidRow
import Derived.Deep.WholeRow
import Derived.Below
namespace Go.Proofs.Hd
/-- Strictly increasing. -/
def Inc (L : List Int) : Prop := L.Pairwise (· < ·)
theorem Inc.ext : ∀ {A B : List Int}, Inc A → Inc B → (∀ x, x ∈ A ↔ x ∈ B) → A = B
  | [], [], _, _, _ => rfl
  | [], b :: _, _, _, h => absurd ((h b).2 (List.mem_cons_self ..)) (List.not_mem_nil)
  | a :: _, [], _, _, h => absurd ((h a).1 (List.mem_cons_self ..)) (List.not_mem_nil)
  | a :: A, b :: B, hA, hB, h => by
    rw [Inc, List.pairwise_cons] at hA hB
    have e : a = b := by
      rcases List.mem_cons.1 ((h a).1 (List.mem_cons_self ..)) with e | h1
      · exact e
      · rcases List.mem_cons.1 ((h b).2 (List.mem_cons_self ..)) with e | h2
        · exact e.symm
        · have h3 := hB.1 a h1
          have h4 := hA.1 b h2
          omega
    subst e
    have e2 : A = B := Inc.ext hA.2 hB.2 fun x => by
      constructor
      · intro hx
        rcases List.mem_cons.1 ((h x).1 (List.mem_cons_of_mem _ hx)) with e | h1
        · have := hA.1 x hx; omega
        · exact h1
      · intro hx
        rcases List.mem_cons.1 ((h x).2 (List.mem_cons_of_mem _ hx)) with e | h1
        · have := hB.1 x hx; omega
        · exact h1
    rw [e2]
theorem Inc.filter {L : List Int} (h : Inc L) (p : Int → Bool) : Inc (L.filter p) := List.Pairwise.filter p h
theorem Inc.nodup {L : List Int} (h : Inc L) : L.Nodup := h.imp fun h => by omega
/-- One number more. -/
def insI (x : Int) : List Int → List Int
  | [] => [x]
  | y :: L => if x < y then x :: y :: L else if x = y then y :: L else y :: insI x L
theorem mem_insI {x z : Int} : ∀ {L : List Int}, z ∈ insI x L ↔ z = x ∨ z ∈ L
  | [] => by simp [insI]
  | y :: L => by
    rw [insI]
    by_cases h1 : x < y
    · rw [if_pos h1, List.mem_cons]
    · rw [if_neg h1]
      by_cases h2 : x = y
      · rw [if_pos h2, h2]
        constructor
        · exact fun h => .inr h
        · rintro (rfl | h)
          · exact List.mem_cons_self ..
          · exact h
      · rw [if_neg h2, List.mem_cons, mem_insI, List.mem_cons]
        constructor
        · rintro (h | h | h)
          · exact .inr (.inl h)
          · exact .inl h
          · exact .inr (.inr h)
        · rintro (h | h | h)
          · exact .inr (.inl h)
          · exact .inl h
          · exact .inr (.inr h)
theorem inc_insI {x : Int} : ∀ {L : List Int}, Inc L → Inc (insI x L)
  | [], _ => by simp [insI, Inc]
  | y :: L, h => by
    have h' := h
    rw [Inc, List.pairwise_cons] at h'
    rw [insI]
    by_cases h1 : x < y
    · rw [if_pos h1, Inc, List.pairwise_cons]
      refine ⟨fun z hz => ?_, h⟩
      rcases List.mem_cons.1 hz with rfl | hz
      · exact h1
      · have := h'.1 z hz; omega
    · rw [if_neg h1]
      by_cases h2 : x = y
      · rw [if_pos h2]; exact h
      · rw [if_neg h2, Inc, List.pairwise_cons]
        refine ⟨fun z hz => ?_, inc_insI h'.2⟩
        rcases mem_insI.1 hz with rfl | hz
        · omega
        · exact h'.1 z hz
/-- The set of a list. -/
def setI (L : List Int) : List Int := L.foldl (fun A x => insI x A) []
theorem setI_nil : setI [] = [] := rfl
theorem setI_snoc (L : List Int) (x : Int) : setI (L ++ [x]) = insI x (setI L) := by simp [setI]
theorem foldI_mem {z : Int} : ∀ {L A : List Int}, z ∈ L.foldl (fun A x => insI x A) A ↔ z ∈ A ∨ z ∈ L
  | [], A => by simp
  | x :: L, A => by
    rw [List.foldl_cons, foldI_mem, mem_insI, List.mem_cons]
    constructor
    · rintro ((h | h) | h)
      · exact .inr (.inl h)
      · exact .inl h
      · exact .inr (.inr h)
    · rintro (h | h | h)
      · exact .inl (.inr h)
      · exact .inl (.inl h)
      · exact .inr h
theorem foldI_inc : ∀ {L A : List Int}, Inc A → Inc (L.foldl (fun A x => insI x A) A)
  | [], _, h => h
  | x :: L, A, h => by rw [List.foldl_cons]; exact foldI_inc (inc_insI h)
theorem mem_setI {z : Int} {L : List Int} : z ∈ setI L ↔ z ∈ L := by unfold setI; rw [foldI_mem]; simp
theorem inc_setI (L : List Int) : Inc (setI L) := foldI_inc (by simp [Inc])
theorem setI_of {L M : List Int} (h : Inc M) (hm : ∀ x, x ∈ M ↔ x ∈ L) : setI L = M := (inc_setI L).ext h fun x => by rw [mem_setI, hm]
theorem setI_inc {L : List Int} (h : Inc L) : setI L = L := setI_of h fun _ => Iff.rfl
theorem setI_len (L : List Int) : (setI L).length ≤ L.length := by
  have h : ∀ (L A : List Int), (L.foldl (fun A x => insI x A) A).length ≤ A.length + L.length := by
    intro L
    induction L with
    | nil => intro A; simp
    | cons x L ih =>
      intro A
      rw [List.foldl_cons]
      refine Nat.le_trans (ih _) ?_
      have h2 : ∀ A : List Int, (insI x A).length ≤ A.length + 1 := by
        intro A
        induction A with
        | nil => simp [insI]
        | cons y A ih2 =>
          rw [insI]
          split
          · simp
          · split
            · simp
            · simp only [List.length_cons]; omega
      have := h2 A
      simp only [List.length_cons]
      omega
  have h3 := h L []
  simp only [List.length_nil, Nat.zero_add] at h3
  exact h3
/-- A number that is not there comes in behind all that are less. -/
theorem insI_at {x : Int} : ∀ {L : List Int} {k : Nat}, Inc L → x ∉ L → (∀ (i : Nat) (y : Int), L[i]? = some y → (y < x ↔ i < k)) → k ≤ L.length → insI x L = L.take k ++ x :: L.drop k
  | [], k, _, _, _, hk => by
    obtain rfl : k = 0 := by simpa using hk
    rfl
  | y :: L, k, h, hn, hi, hk => by
    have h0 := hi 0 y rfl
    have hne : ¬ x = y := fun e => hn (by rw [e]; exact List.mem_cons_self ..)
    rw [insI]
    cases k with
    | zero =>
      have h1 : ¬ y < x := fun e => absurd (h0.1 e) (Nat.not_lt_zero _)
      rw [if_pos (by omega)]
      rfl
    | succ k =>
      have h1 : y < x := h0.2 (Nat.succ_pos _)
      rw [if_neg (by omega), if_neg hne]
      have ih := insI_at (L := L) (k := k) (List.pairwise_cons.1 h).2 (fun e => hn (List.mem_cons_of_mem _ e)) (fun i z hz => by
        have := hi (i + 1) z (by rw [List.getElem?_cons_succ]; exact hz)
        rw [this]
        omega) (by simpa using hk)
      rw [ih]
      rfl
/-- Which of two sets is less. -/
def lexI : List Int → List Int → Int
  | [], [] => 0
  | [], _ :: _ => -1
  | _ :: _, [] => 1
  | a :: A, b :: B => if a < b then -1 else if b < a then 1 else lexI A B
theorem lexI_neg : ∀ (A B : List Int), lexI B A = - lexI A B
  | [], [] => rfl
  | [], _ :: _ => rfl
  | _ :: _, [] => rfl
  | a :: A, b :: B => by
    rw [lexI, lexI]
    by_cases h1 : a < b
    · rw [if_neg (by omega), if_pos h1, if_pos h1]; rfl
    · by_cases h2 : b < a
      · rw [if_pos h2, if_neg h1, if_pos h2]
      · rw [if_neg h2, if_neg h1, if_neg h1, if_neg h2, lexI_neg A B]
/-- Union, intersection, difference. -/
def joinI (A B : List Int) : List Int := setI (A ++ B)
def meetI (A B : List Int) : List Int := (setI A).filter fun x => decide (x ∈ B)
def diffI (A B : List Int) : List Int := (setI A).filter fun x => !decide (x ∈ B)
theorem mem_joinI {A B : List Int} {x : Int} : x ∈ joinI A B ↔ x ∈ A ∨ x ∈ B := by unfold joinI; rw [mem_setI, List.mem_append]
theorem mem_meetI {A B : List Int} {x : Int} : x ∈ meetI A B ↔ x ∈ A ∧ x ∈ B := by unfold meetI; rw [List.mem_filter, mem_setI]; simp
theorem mem_diffI {A B : List Int} {x : Int} : x ∈ diffI A B ↔ x ∈ A ∧ x ∉ B := by unfold diffI; rw [List.mem_filter, mem_setI]; simp
theorem inc_joinI (A B : List Int) : Inc (joinI A B) := inc_setI _
theorem inc_meetI (A B : List Int) : Inc (meetI A B) := (inc_setI A).filter _
theorem inc_diffI (A B : List Int) : Inc (diffI A B) := (inc_setI A).filter _
theorem join_parts (A B : List Int) : joinI (meetI A B) (diffI A B) = setI A := (inc_joinI _ _).ext (inc_setI A) fun x => by
  rw [mem_joinI, mem_meetI, mem_diffI, mem_setI]
  constructor
  · rintro (h | h)
    · exact h.1
    · exact h.1
  · intro h
    by_cases hb : x ∈ B
    · exact .inl ⟨h, hb⟩
    · exact .inr ⟨h, hb⟩
theorem meet_parts (A B : List Int) : meetI (meetI A B) (diffI A B) = [] := (inc_meetI _ _).ext (by simp [Inc]) fun x => by
  rw [mem_meetI, mem_meetI, mem_diffI]
  constructor
  · rintro ⟨⟨_, h1⟩, _, h2⟩
    exact absurd h1 h2
  · intro h
    simp at h
theorem meet_swap (A B : List Int) : meetI A B = meetI B A := (inc_meetI _ _).ext (inc_meetI _ _) fun x => by rw [mem_meetI, mem_meetI, And.comm]
theorem join_swap (A B : List Int) : joinI A B = joinI B A := (inc_joinI _ _).ext (inc_joinI _ _) fun x => by rw [mem_joinI, mem_joinI, Or.comm]
/-- Among the first k of L, those below a are less than x, and no others. -/
def AtIs (L : List Int) (x : Int) (k a : Nat) : Prop := a ≤ k ∧ ∀ (i : Nat) (y : Int), i < k → L[i]? = some y → (y < x ↔ i < a)
theorem AtIs.zero (L : List Int) (x : Int) : AtIs L x 0 0 := ⟨Nat.le_refl _, fun _ _ h => absurd h (Nat.not_lt_zero _)⟩
theorem inc_get {L : List Int} (h : Inc L) {i j : Nat} {y z : Int} (hi : L[i]? = some y) (hj : L[j]? = some z) (hij : i < j) : y < z := by
  obtain ⟨h1, rfl⟩ := List.getElem?_eq_some_iff.1 hi
  obtain ⟨h2, rfl⟩ := List.getElem?_eq_some_iff.1 hj
  exact List.pairwise_iff_getElem.1 h i j h1 h2 hij
theorem AtIs.yes {L : List Int} {x y : Int} {k : Nat} (hL : Inc L) (hy : L[k]? = some y) (hx : y < x) : AtIs L x (k + 1) (k + 1) := by
  refine ⟨Nat.le_refl _, fun i z hi hz => ⟨fun _ => hi, fun _ => ?_⟩⟩
  rcases Nat.lt_or_ge i k with h1 | h1
  · have := inc_get hL hz hy h1
    omega
  · have e : i = k := by omega
    subst e
    rw [hy] at hz
    injection hz with hz
    omega
theorem AtIs.no {L : List Int} {x y : Int} {k a : Nat} (h : AtIs L x k a) (hy : L[k]? = some y) (hx : ¬ y < x) : AtIs L x (k + 1) a := by
  refine ⟨by have := h.1; omega, fun i z hi hz => ?_⟩
  rcases Nat.lt_or_ge i k with h1 | h1
  · exact h.2 i z h1 hz
  · have e : i = k := by omega
    subst e
    rw [hy] at hz
    injection hz with hz
    have := h.1
    constructor
    · intro h2; omega
    · intro h2; omega
theorem AtIs.done {L : List Int} {x : Int} {a : Nat} (hL : Inc L) (hn : x ∉ L) (h : AtIs L x L.length a) : insI x L = L.take a ++ x :: L.drop a :=
  insI_at hL hn (fun i y hy => h.2 i y (List.getElem?_eq_some_iff.1 hy).1 hy) h.1
theorem insI_in {x : Int} : ∀ {L : List Int}, Inc L → x ∈ L → insI x L = L := fun {L} h hx => (inc_insI h).ext h fun z => by
  rw [mem_insI]
  constructor
  · rintro (rfl | h)
    · exact hx
    · exact h
  · exact .inr
/-- The order, step by step. -/
theorem lexI_drop {A B : List Int} {i : Nat} {a b : Int} (ha : A[i]? = some a) (hb : B[i]? = some b) : lexI (A.drop i) (B.drop i) = if a < b then -1 else if b < a then 1 else lexI (A.drop (i + 1)) (B.drop (i + 1)) := by
  obtain ⟨h1, rfl⟩ := List.getElem?_eq_some_iff.1 ha
  obtain ⟨h2, rfl⟩ := List.getElem?_eq_some_iff.1 hb
  rw [List.drop_eq_getElem_cons h1, List.drop_eq_getElem_cons h2, lexI]
theorem lexI_left {A B : List Int} {i : Nat} (ha : A.length ≤ i) (hb : i < B.length) : lexI (A.drop i) (B.drop i) = -1 := by
  rw [List.drop_eq_nil_of_le ha, List.drop_eq_getElem_cons hb, lexI]
theorem lexI_right {A B : List Int} {i : Nat} (ha : i < A.length) (hb : B.length ≤ i) : lexI (A.drop i) (B.drop i) = 1 := by
  rw [List.drop_eq_nil_of_le hb, List.drop_eq_getElem_cons ha, lexI]
theorem lexI_both {A B : List Int} {i : Nat} (ha : A.length ≤ i) (hb : B.length ≤ i) : lexI (A.drop i) (B.drop i) = 0 := by
  rw [List.drop_eq_nil_of_le hb, List.drop_eq_nil_of_le ha, lexI]
theorem lexI_cases (A B : List Int) : lexI A B = -1 ∨ lexI A B = 0 ∨ lexI A B = 1 := by
  induction A generalizing B with
  | nil => cases B <;> simp [lexI]
  | cons a A ih =>
    cases B with
    | nil => simp [lexI]
    | cons b B =>
      rw [lexI]
      split
      · exact .inl rfl
      · split
        · exact .inr (.inr rfl)
        · exact ih B
instance decInc (L : List Int) : Decidable (Inc L) := inferInstanceAs (Decidable (L.Pairwise (· < ·)))
/-- Is a list strictly increasing so far? -/
def incB (L : List Int) (k : Nat) : Bool := decide (Inc (L.take k))
theorem inc_take_succ {L : List Int} {k : Nat} {y z : Int} (hy : L[k]? = some y) (hz : L[k + 1]? = some z) : Inc (L.take (k + 1 + 1)) ↔ Inc (L.take (k + 1)) ∧ y < z := by
  have e : L.take (k + 1 + 1) = L.take (k + 1) ++ [z] := by rw [List.take_add_one (i := k + 1), hz]; rfl
  have e2 : L.take (k + 1) = L.take k ++ [y] := by rw [List.take_add_one, hy]; rfl
  rw [e, Inc, List.pairwise_append]
  constructor
  · rintro ⟨h1, -, h2⟩
    exact ⟨h1, h2 y (by rw [e2]; simp) z (by simp)⟩
  · rintro ⟨h1, h2⟩
    refine ⟨h1, by simp, fun a ha c hc => ?_⟩
    rw [List.mem_singleton] at hc
    subst hc
    rw [e2, List.mem_append] at ha
    rcases ha with ha | ha
    · have h3 : Inc (L.take k ++ [y]) := e2 ▸ h1
      have h4 := (List.pairwise_append.1 h3).2.2 a ha y (by simp)
      omega
    · rw [List.mem_singleton] at ha
      omega
end Go.Proofs.Hd

namespace Go.Proofs.Hd
open Go.RowKit
/-- The cube of one header. -/
def oneC (h l : BitVec 64) : Cb := ⟨h, l, BitVec.allOnes 64, BitVec.allOnes 64⟩
theorem oneC_K (h l : BitVec 64) {j : Nat} (hj : j < 128) : (oneC h l).K j = true := by
  unfold Cb.K oneC hbit
  dsimp only
  split
  · rw [BitVec.getLsbD_allOnes]; simp; omega
  · rw [BitVec.getLsbD_allOnes]; simp; omega
theorem oneC_snd (h l : BitVec 64) : (oneC h l).snd = true := by
  rw [Cb.snd_iff]
  intro j hj _
  exact oneC_K h l hj
theorem agr_one {a : Cb} (ha : a.snd = true) (h l : BitVec 64) : a.agr (oneC h l) = a.has h l := by
  rw [Bool.eq_iff_iff, Cb.agr_iff, Cb.has_iff]
  rw [Cb.snd_iff] at ha
  have hV : ∀ j, (oneC h l).V j = hbit h l j := fun _ => rfl
  constructor
  · intro H j hj
    have h1 := H j hj
    have h2 := ha j hj
    rw [hV, oneC_K h l hj] at h1
    revert h1 h2
    cases a.K j <;> cases a.V j <;> cases hbit h l j <;> simp
  · intro H j hj hk _
    have h1 := H j hj
    rw [hV]
    rw [hk, Bool.and_true] at h1
    exact h1.symm
theorem agr_swap (a b : Cb) : a.agr b = b.agr a := by
  rw [Bool.eq_iff_iff, Cb.agr_iff, Cb.agr_iff]
  exact ⟨fun H j hj x y => (H j hj y x).symm, fun H j hj x y => (H j hj y x).symm⟩
/-- Two cubes that have a header meet. -/
theorem agr_has {a b : Cb} {h l : BitVec 64} (ha : a.has h l = true) (hb : b.has h l = true) : a.agr b = true := by
  rw [Cb.has_iff] at ha hb
  rw [Cb.agr_iff]
  intro j hj x y
  have h1 := ha j hj
  have h2 := hb j hj
  rw [x, Bool.and_true] at h1
  rw [y, Bool.and_true] at h2
  rw [← h1, h2]
/-- What meets a cube meets a larger one. -/
theorem agr_wit {a c d : Cb} (h : c.wit d = true) (ha : a.agr c = true) : a.agr d = true := by
  obtain ⟨_, _, h3, h4⟩ := (Cb.wit_iff c d).1 h
  rw [Cb.agr_iff] at *
  intro j hj x y
  exact (ha j hj x (h3 j hj y)).trans (h4 j hj (h3 j hj y) y)
/-- What is there: numbers, and a cube for each. -/
def tIds (l : List (Int × Cb)) : List Int := l.map Prod.fst
structure Tok (l : List (Int × Cb)) : Prop where
  nodup : (tIds l).Nodup
  snd : ∀ p ∈ l, p.2.snd = true
  pos : ∀ p ∈ l, 0 ≤ p.1
theorem Tok.nil : Tok [] := ⟨by simp [tIds], fun _ h => absurd h (List.not_mem_nil), fun _ h => absurd h (List.not_mem_nil)⟩
theorem Tok.snoc {l : List (Int × Cb)} {x : Int} {c : Cb} (h : Tok l) (hx : 0 ≤ x) (hc : c.snd = true) (hn : x ∉ tIds l) : Tok (l ++ [(x, c)]) := by
  refine ⟨?_, fun p hp => ?_, fun p hp => ?_⟩
  · unfold tIds at *
    rw [List.map_append, List.nodup_append]
    refine ⟨h.nodup, by simp, fun a ha b hb e => ?_⟩
    simp at hb
    subst hb
    subst e
    exact hn ha
  · rcases List.mem_append.1 hp with h1 | h1
    · exact h.snd p h1
    · rw [List.mem_singleton] at h1; subst h1; exact hc
  · rcases List.mem_append.1 hp with h1 | h1
    · exact h.pos p h1
    · rw [List.mem_singleton] at h1; subst h1; exact hx
theorem Tok.sub {l m : List (Int × Cb)} (h : Tok l) (hs : m.Sublist l) : Tok m :=
  ⟨h.nodup.sublist (hs.map _), fun p hp => h.snd p (hs.subset hp), fun p hp => h.pos p (hs.subset hp)⟩
/-- One number, one cube. -/
theorem Tok.one {l : List (Int × Cb)} (h : Tok l) {x : Int} {c d : Cb} (hc : (x, c) ∈ l) (hd : (x, d) ∈ l) : c = d := by
  have hn := h.nodup
  clear h
  induction l with
  | nil => cases hc
  | cons p l ih =>
    unfold tIds at hn
    rw [List.map_cons, List.nodup_cons] at hn
    obtain ⟨h1, h2⟩ := hn
    have key : ∀ c, (x, c) ∈ l → x ∈ l.map Prod.fst := fun c hc => List.mem_map.2 ⟨_, hc, rfl⟩
    rcases List.mem_cons.1 hc with rfl | hc2 <;> rcases List.mem_cons.1 hd with hd2 | hd2
    · injection hd2 with _ hd3; exact hd3.symm
    · exact absurd (key _ hd2) h1
    · subst hd2; exact absurd (key _ hc2) h1
    · exact ih hc2 hd2 h2
/-- The numbers of those that have something in common with a cube. -/
def ovT (l : List (Int × Cb)) (c : Cb) : List Int := setI (tIds (l.filter fun p => p.2.agr c))
/-- The numbers of those that have a header. -/
def mtT (l : List (Int × Cb)) (x y : BitVec 64) : List Int := setI (tIds (l.filter fun p => p.2.has x y))
theorem inc_ovT (l : List (Int × Cb)) (c : Cb) : Inc (ovT l c) := inc_setI _
theorem inc_mtT (l : List (Int × Cb)) (x y : BitVec 64) : Inc (mtT l x y) := inc_setI _
theorem mem_ovT {l : List (Int × Cb)} {c : Cb} {x : Int} : x ∈ ovT l c ↔ ∃ d, (x, d) ∈ l ∧ d.agr c = true := by
  unfold ovT tIds
  rw [mem_setI, List.mem_map]
  constructor
  · rintro ⟨⟨a, d⟩, h1, rfl⟩
    rw [List.mem_filter] at h1
    exact ⟨d, h1.1, h1.2⟩
  · rintro ⟨d, h1, h2⟩
    exact ⟨(x, d), List.mem_filter.2 ⟨h1, h2⟩, rfl⟩
theorem mem_mtT {l : List (Int × Cb)} {u v : BitVec 64} {x : Int} : x ∈ mtT l u v ↔ ∃ d, (x, d) ∈ l ∧ d.has u v = true := by
  unfold mtT tIds
  rw [mem_setI, List.mem_map]
  constructor
  · rintro ⟨⟨a, d⟩, h1, rfl⟩
    rw [List.mem_filter] at h1
    exact ⟨d, h1.1, h1.2⟩
  · rintro ⟨d, h1, h2⟩
    exact ⟨(x, d), List.mem_filter.2 ⟨h1, h2⟩, rfl⟩
theorem ovT_nil (c : Cb) : ovT [] c = [] := rfl
theorem ovT_no {l : List (Int × Cb)} {x : Int} {d c : Cb} (h : d.agr c = false) : ovT (l ++ [(x, d)]) c = ovT l c := by
  unfold ovT
  rw [List.filter_append]
  simp [h]
theorem ovT_yes {l : List (Int × Cb)} {x : Int} {d c : Cb} (h : d.agr c = true) : ovT (l ++ [(x, d)]) c = insI x (ovT l c) := by
  unfold ovT tIds
  rw [List.filter_append, List.map_append]
  have e : ((([(x, d)] : List (Int × Cb)).filter fun p => p.2.agr c).map Prod.fst) = [x] := by simp [h]
  rw [e, setI_snoc]
theorem ovT_out {l : List (Int × Cb)} {x : Int} {c : Cb} (h : x ∉ tIds l) : x ∉ ovT l c := fun hm => by
  obtain ⟨d, h1, _⟩ := mem_ovT.1 hm
  exact h (List.mem_map.2 ⟨_, h1, rfl⟩)
theorem ovT_len (l : List (Int × Cb)) (c : Cb) : (ovT l c).length ≤ l.length := by
  have h1 := setI_len (tIds (l.filter fun p => p.2.agr c))
  have h2 : (tIds (l.filter fun p => p.2.agr c)).length ≤ l.length := by
    unfold tIds
    rw [List.length_map]
    exact List.length_filter_le _ _
  unfold ovT
  omega
/-- A header is had by just those that meet its cube. -/
theorem mtT_one {l : List (Int × Cb)} (h : Tok l) (x y : BitVec 64) : ovT l (oneC x y) = mtT l x y := (inc_ovT _ _).ext (inc_mtT _ _ _) fun z => by
  rw [mem_ovT, mem_mtT]
  exact ⟨fun ⟨d, h1, h2⟩ => ⟨d, h1, by rw [← agr_one (h.snd _ h1)]; exact h2⟩, fun ⟨d, h1, h2⟩ => ⟨d, h1, by rw [agr_one (h.snd _ h1)]; exact h2⟩⟩
/-- The order does not matter. -/
theorem ovT_same {l m : List (Int × Cb)} (h : ∀ p, p ∈ l ↔ p ∈ m) (c : Cb) : ovT l c = ovT m c := (inc_ovT _ _).ext (inc_ovT _ _) fun z => by
  rw [mem_ovT, mem_ovT]
  exact ⟨fun ⟨d, h1, h2⟩ => ⟨d, (h _).1 h1, h2⟩, fun ⟨d, h1, h2⟩ => ⟨d, (h _).2 h1, h2⟩⟩
theorem mtT_same {l m : List (Int × Cb)} (h : ∀ p, p ∈ l ↔ p ∈ m) (x y : BitVec 64) : mtT l x y = mtT m x y := (inc_mtT _ _ _).ext (inc_mtT _ _ _) fun z => by
  rw [mem_mtT, mem_mtT]
  exact ⟨fun ⟨d, h1, h2⟩ => ⟨d, (h _).1 h1, h2⟩, fun ⟨d, h1, h2⟩ => ⟨d, (h _).2 h1, h2⟩⟩
theorem Tok.len {l m : List (Int × Cb)} (h : Tok l) (hm : Tok m) (hs : ∀ p, p ∈ l ↔ p ∈ m) : l.length = m.length := by
  have hx : ∀ x, x ∈ tIds l ↔ x ∈ tIds m := fun x => by
    unfold tIds
    rw [List.mem_map, List.mem_map]
    exact ⟨fun ⟨p, a, b⟩ => ⟨p, (hs p).1 a, b⟩, fun ⟨p, a, b⟩ => ⟨p, (hs p).2 a, b⟩⟩
  have hp : (tIds l).Perm (tIds m) := List.perm_iff_count.2 fun a => by
    have h1 := List.nodup_iff_count.1 h.nodup a
    have h2 := List.nodup_iff_count.1 hm.nodup a
    have h3 : 0 < (tIds l).count a ↔ 0 < (tIds m).count a := by rw [List.count_pos_iff, List.count_pos_iff]; exact hx a
    omega
  have h4 := hp.length_eq
  unfold tIds at h4
  rwa [List.length_map, List.length_map] at h4
/-- The trie's answers to the calls: what is there then. -/
def addB (l : List (Int × Cb)) (x : Int) (c : Cb) : Bool := decide (0 ≤ x) && (c.snd && !decide (x ∈ tIds l))
def addT (l : List (Int × Cb)) (x : Int) (c : Cb) : List (Int × Cb) := if addB l x c = true then l ++ [(x, c)] else l
def remT (l : List (Int × Cb)) (x : Int) : List (Int × Cb) := l.filter fun p => !decide (p.1 = x)
theorem Tok.add {l : List (Int × Cb)} (h : Tok l) (x : Int) (c : Cb) : Tok (addT l x c) := by
  unfold addT
  by_cases hb : addB l x c = true
  · rw [if_pos hb]
    unfold addB at hb
    rw [Bool.and_eq_true, Bool.and_eq_true] at hb
    obtain ⟨h1, h2, h3⟩ := hb
    exact h.snoc (by simpa using h1) h2 (by simpa using h3)
  · rw [if_neg hb]; exact h
theorem Tok.rem {l : List (Int × Cb)} (h : Tok l) (x : Int) : Tok (remT l x) := h.sub List.filter_sublist
theorem mem_remT {l : List (Int × Cb)} {x : Int} {p : Int × Cb} : p ∈ remT l x ↔ p ∈ l ∧ p.1 ≠ x := by
  unfold remT; rw [List.mem_filter]; simp
theorem remT_out {l : List (Int × Cb)} {x : Int} (h : x ∉ tIds l) : remT l x = l := by
  unfold remT
  rw [List.filter_eq_self]
  intro p hp
  have : p.1 ≠ x := fun e => h (e ▸ List.mem_map.2 ⟨p, hp, rfl⟩)
  simp [this]
/-- The one with that number is cut out of the row. -/
theorem remT_at {l : List (Int × Cb)} (h : Tok l) {k : Nat} {x : Int} {c : Cb} (hk : l[k]? = some (x, c)) : remT l x = l.take k ++ l.drop (k + 1) := by
  obtain ⟨hl, hg⟩ := List.getElem?_eq_some_iff.1 hk
  have e : l = l.take k ++ (x, c) :: l.drop (k + 1) := by rw [← hg, List.getElem_cons_drop, List.take_append_drop]
  have hn := h.nodup
  generalize l.take k = A at e ⊢
  generalize l.drop (k + 1) = B at e ⊢
  subst e
  unfold tIds at hn
  rw [List.map_append, List.map_cons, List.nodup_append] at hn
  obtain ⟨h1, h2, h3⟩ := hn
  rw [List.nodup_cons] at h2
  have hA : x ∉ tIds A := fun hx => h3 x hx x (by simp) rfl
  have hB : x ∉ tIds B := h2.1
  have e1 := remT_out hA
  have e2 := remT_out hB
  unfold remT at *
  rw [List.filter_append, List.filter_cons, e1, e2]
  simp
end Go.Proofs.Hd

namespace Go.Proofs.Hd
open Go.RowKit
theorem addB_iff {l : List (Int × Cb)} {x : Int} {c : Cb} : addB l x c = true ↔ 0 ≤ x ∧ c.snd = true ∧ x ∉ tIds l := by
  unfold addB
  rw [Bool.and_eq_true, Bool.and_eq_true]
  simp
theorem mem_addT {l : List (Int × Cb)} {x : Int} {c : Cb} {p : Int × Cb} : p ∈ addT l x c ↔ p ∈ l ∨ (addB l x c = true ∧ p = (x, c)) := by
  unfold addT
  by_cases h : addB l x c = true
  · rw [if_pos h, List.mem_append, List.mem_singleton]
    exact ⟨fun h1 => h1.imp_right fun h2 => ⟨h, h2⟩, fun h1 => h1.imp_right And.right⟩
  · rw [if_neg h]
    exact ⟨.inl, fun h1 => h1.elim id fun h2 => absurd h2.1 h⟩
/-- The sound cubes of L from place lo to place hi are there under their places, and what is in G. -/
def HsT (L : List Cb) (lo hi : Nat) (G l : List (Int × Cb)) : Prop := ∀ p, p ∈ l ↔ p ∈ G ∨ ∃ (i : Nat) (c : Cb), lo ≤ i ∧ i < hi ∧ L[i]? = some c ∧ c.snd = true ∧ p = ((i : Int), c)
theorem HsT.start (L : List Cb) (k : Nat) (G : List (Int × Cb)) : HsT L k k G G := fun p =>
  ⟨.inl, fun h => h.elim id fun ⟨i, c, h1, h2, _⟩ => absurd h2 (by omega)⟩
theorem HsT.out {L : List Cb} {lo hi k : Nat} {G l : List (Int × Cb)} (h : HsT L lo hi G l) (hk : k < lo ∨ hi ≤ k) (hG : (k : Int) ∉ tIds G) : (k : Int) ∉ tIds l := fun hm => by
  unfold tIds at hm
  obtain ⟨p, h1, h2⟩ := List.mem_map.1 hm
  rcases (h p).1 h1 with h3 | ⟨i, c, h3, h4, _, _, rfl⟩
  · exact hG (List.mem_map.2 ⟨p, h3, h2⟩)
  · have : (i : Int) = (k : Int) := h2
    omega
theorem HsT.up {L : List Cb} {lo hi : Nat} {G l : List (Int × Cb)} {c : Cb} (h : HsT L lo hi G l) (hl : lo ≤ hi) (hc : L[hi]? = some c) (hG : (hi : Int) ∉ tIds G) : HsT L lo (hi + 1) G (addT l (hi : Int) c) := fun p => by
  rw [mem_addT, h p, addB_iff]
  constructor
  · rintro ((h1 | ⟨i, d, h1, h2, h3⟩) | ⟨⟨_, h2, _⟩, rfl⟩)
    · exact .inl h1
    · exact .inr ⟨i, d, h1, by omega, h3⟩
    · exact .inr ⟨hi, c, hl, by omega, hc, h2, rfl⟩
  · rintro (h1 | ⟨i, d, h1, h2, h3, h4, rfl⟩)
    · exact .inl (.inl h1)
    · rcases Nat.lt_or_ge i hi with h5 | h5
      · exact .inl (.inr ⟨i, d, h1, h5, h3, h4, rfl⟩)
      · have e : i = hi := by omega
        subst e
        rw [hc] at h3
        injection h3 with h3
        subst h3
        exact .inr ⟨⟨by omega, h4, h.out (.inr (Nat.le_refl _)) hG⟩, rfl⟩
theorem HsT.down {L : List Cb} {lo hi : Nat} {G l : List (Int × Cb)} {c : Cb} (h : HsT L (lo + 1) hi G l) (hl : lo < hi) (hc : L[lo]? = some c) (hG : (lo : Int) ∉ tIds G) : HsT L lo hi G (addT l (lo : Int) c) := fun p => by
  rw [mem_addT, h p, addB_iff]
  constructor
  · rintro ((h1 | ⟨i, d, h1, h2, h3⟩) | ⟨⟨_, h2, _⟩, rfl⟩)
    · exact .inl h1
    · exact .inr ⟨i, d, by omega, h2, h3⟩
    · exact .inr ⟨lo, c, Nat.le_refl _, hl, hc, h2, rfl⟩
  · rintro (h1 | ⟨i, d, h1, h2, h3, h4, rfl⟩)
    · exact .inl (.inl h1)
    · rcases Nat.lt_or_ge lo i with h5 | h5
      · exact .inl (.inr ⟨i, d, h5, h2, h3, h4, rfl⟩)
      · have e : i = lo := by omega
        subst e
        rw [hc] at h3
        injection h3 with h3
        subst h3
        exact .inr ⟨⟨by omega, h4, h.out (.inl (by omega)) hG⟩, rfl⟩
/-- What came and went is gone: the cubes of L are left. -/
theorem HsT.gone {L : List Cb} {hi x : Nat} {g : Cb} {l : List (Int × Cb)} (h : HsT L 0 hi (addT [] (x : Int) g) l) (hx : hi ≤ x) : HsT L 0 hi [] (remT l (x : Int)) := fun p => by
  rw [mem_remT, h p, mem_addT]
  constructor
  · rintro ⟨(h1 | ⟨_, rfl⟩) | h1, h2⟩
    · exact .inl h1
    · exact absurd rfl h2
    · exact .inr h1
  · rintro (h1 | ⟨i, d, h1, h2, h3, h4, rfl⟩)
    · cases h1
    · refine ⟨.inr ⟨i, d, h1, h2, h3, h4, rfl⟩, fun e => ?_⟩
      have : (i : Int) = (x : Int) := e
      omega
theorem HsT.same {L : List Cb} {lo hi : Nat} {G l m : List (Int × Cb)} (h : HsT L lo hi G l) (h2 : HsT L lo hi G m) : ∀ p, p ∈ l ↔ p ∈ m := fun p => by rw [h p, h2 p]
theorem one_ids {x : Int} {g : Cb} {k : Int} (h : k ≠ x) : k ∉ tIds (addT [] x g) := fun hm => by
  unfold tIds at hm
  obtain ⟨p, h1, h2⟩ := List.mem_map.1 hm
  rcases mem_addT.1 h1 with h3 | ⟨_, rfl⟩
  · cases h3
  · exact h h2.symm
/-- All numbers of A are in B. -/
theorem ovT_wit {l : List (Int × Cb)} {c d : Cb} (h : c.wit d = true) : ∀ x ∈ ovT l c, x ∈ ovT l d := fun x hx => by
  obtain ⟨a, h1, h2⟩ := mem_ovT.1 hx
  exact mem_ovT.2 ⟨a, h1, agr_wit h h2⟩
theorem mtT_ov {l : List (Int × Cb)} {c : Cb} {u v : BitVec 64} (h : c.has u v = true) : ∀ x ∈ mtT l u v, x ∈ ovT l c := fun x hx => by
  obtain ⟨a, h1, h2⟩ := mem_mtT.1 hx
  exact mem_ovT.2 ⟨a, h1, agr_has h2 h⟩
theorem addT_len {l : List (Int × Cb)} {x : Int} {c : Cb} : (addT l x c).length ≤ l.length + 1 := by
  unfold addT
  split
  · simp
  · omega
theorem remT_len (l : List (Int × Cb)) (x : Int) : (remT l x).length ≤ l.length := List.length_filter_le _ _
/-- Where a number is to be put, found by looking at all of them. -/
theorem ovT_put {l : List (Int × Cb)} {x : Int} {d c : Cb} {a : Nat} (hn : x ∉ tIds l) (h : d.agr c = true) (ha : AtIs (ovT l c) x (ovT l c).length a) : ovT (l ++ [(x, d)]) c = (ovT l c).take a ++ x :: (ovT l c).drop a := by
  rw [ovT_yes h]
  exact ha.done (inc_ovT l c) (ovT_out hn)
theorem Tok.before {l : List (Int × Cb)} (h : Tok l) {i : Nat} {x : Int} {c : Cb} (hi : l[i]? = some (x, c)) : x ∉ tIds (l.take i) := fun hm => by
  have hn := h.nodup
  obtain ⟨hl, hg⟩ := List.getElem?_eq_some_iff.1 hi
  have e : l = l.take i ++ (x, c) :: l.drop (i + 1) := by rw [← hg, List.getElem_cons_drop, List.take_append_drop]
  generalize l.take i = A at e hm
  rw [e] at hn
  unfold tIds at hn hm
  rw [List.map_append, List.map_cons, List.nodup_append] at hn
  exact hn.2.2 x hm x (by simp) rfl
/-- The last place with a number, where there is one. -/
def LastT (l : List (Int × Cb)) (x : Int) (n : Nat) (a : Int) : Prop := (a = -1 ∧ x ∉ tIds (l.take n)) ∨ ∃ (k : Nat) (c : Cb), a = (k : Int) ∧ k < n ∧ l[k]? = some (x, c)
theorem LastT.zero (l : List (Int × Cb)) (x : Int) : LastT l x 0 (-1) := .inl ⟨rfl, by simp [tIds]⟩
theorem LastT.yes {l : List (Int × Cb)} {x : Int} {c : Cb} {n : Nat} (h : l[n]? = some (x, c)) : LastT l x (n + 1) (n : Int) := .inr ⟨n, c, rfl, by omega, h⟩
theorem LastT.no {l : List (Int × Cb)} {x y a : Int} {c : Cb} {n : Nat} (h : LastT l x n a) (hn : l[n]? = some (y, c)) (hxy : y ≠ x) : LastT l x (n + 1) a := by
  rcases h with ⟨rfl, h⟩ | ⟨k, d, h1, h2, h3⟩
  · refine .inl ⟨rfl, fun hm => ?_⟩
    rw [List.take_add_one, hn] at hm
    unfold tIds at hm h
    rw [List.map_append, List.mem_append] at hm
    rcases hm with hm | hm
    · exact h hm
    · simp at hm; exact hxy hm.symm
  · exact .inr ⟨k, d, h1, by omega, h3⟩
theorem LastT.done {l : List (Int × Cb)} {x a : Int} (h : LastT l x l.length a) : (0 ≤ a ↔ x ∈ tIds l) := by
  rcases h with ⟨rfl, h⟩ | ⟨k, d, rfl, h2, h3⟩
  · rw [List.take_of_length_le (Nat.le_refl _)] at h
    exact ⟨fun h1 => absurd h1 (by omega), fun h1 => absurd h1 h⟩
  · exact ⟨fun _ => List.mem_map.2 ⟨(x, d), List.mem_of_getElem? h3, rfl⟩, fun _ => by omega⟩
end Go.Proofs.Hd

namespace Go.Proofs.Hd
open Go.RowKit
/-- What a cube has at a bit: 0, 1, or 2 where it does not care. -/
def lt3 (c : Cb) (j : Nat) : Nat := if c.K j = true then (if c.V j = true then 1 else 0) else 2
theorem lt3_lt (c : Cb) (j : Nat) : lt3 c j < 3 := by unfold lt3; split <;> (try split) <;> omega
theorem lt3_iff {a b : Cb} {j : Nat} (hj : j < 128) (ha : a.snd = true) (hb : b.snd = true) : lt3 a j = lt3 b j ↔ a.V j = b.V j ∧ a.K j = b.K j := by
  rw [Cb.snd_iff] at ha hb
  have h1 := ha j hj
  have h2 := hb j hj
  unfold lt3
  revert h1 h2
  cases a.K j <;> cases a.V j <;> cases b.K j <;> cases b.V j <;> simp
/-- One more than the highest number below n at which f holds. -/
def topB (f : Nat → Bool) : Nat → Nat
  | 0 => 0
  | n + 1 => if f n = true then n + 1 else topB f n
theorem topB_le (f : Nat → Bool) : ∀ n, topB f n ≤ n
  | 0 => Nat.le_refl _
  | n + 1 => by
    have := topB_le f n
    unfold topB
    split <;> omega
theorem topB_hi (f : Nat → Bool) : ∀ n j, topB f n ≤ j → j < n → f j = false
  | n + 1, j, h1, h2 => by
    unfold topB at h1
    by_cases h : f n = true
    · rw [if_pos h] at h1; omega
    · rw [if_neg h] at h1
      rcases Nat.lt_or_ge j n with h3 | h3
      · exact topB_hi f n j h1 h3
      · have e : j = n := by omega
        subst e
        simpa using h
theorem topB_at (f : Nat → Bool) : ∀ n p, topB f n = p + 1 → f p = true
  | n + 1, p, h1 => by
    unfold topB at h1
    by_cases h : f n = true
    · rw [if_pos h] at h1
      have e : n = p := by omega
      subst e
      exact h
    · rw [if_neg h] at h1
      exact topB_at f n p h1
theorem topB_eq {f : Nat → Bool} {n m : Nat} (hm : m ≤ n) (h1 : ∀ j, m ≤ j → j < n → f j = false) (h2 : ∀ p, m = p + 1 → f p = true) : topB f n = m := by
  have hle := topB_le f n
  rcases Nat.lt_trichotomy (topB f n) m with h | h | h
  · obtain ⟨p, rfl⟩ : ∃ p, m = p + 1 := ⟨m - 1, by omega⟩
    have h3 := topB_hi f n p (by omega) (by omega)
    rw [h2 p rfl] at h3
    cases h3
  · exact h
  · obtain ⟨p, hp⟩ : ∃ p, topB f n = p + 1 := ⟨topB f n - 1, by omega⟩
    have h3 := topB_at f n p hp
    rw [h1 p (by omega) (by omega)] at h3
    cases h3
/-- Do two cubes differ at a bit? -/
def dif (a b : Cb) (j : Nat) : Bool := (a.V j != b.V j) || (a.K j != b.K j)
/-- One more than the highest bit at which two cubes part; 0: they do not. -/
def prt (a b : Cb) : Nat := topB (dif a b) 128
theorem prt_le (a b : Cb) : prt a b ≤ 128 := topB_le _ _
theorem dif_lt3 {a b : Cb} {j : Nat} (hj : j < 128) (ha : a.snd = true) (hb : b.snd = true) : dif a b j = false ↔ lt3 a j = lt3 b j := by
  rw [lt3_iff hj ha hb]
  unfold dif
  cases a.V j <;> cases b.V j <;> cases a.K j <;> cases b.K j <;> simp
theorem prt_iff {a b : Cb} (ha : a.snd = true) (hb : b.snd = true) {m : Nat} : prt a b ≤ m ↔ ∀ j, m ≤ j → j < 128 → lt3 a j = lt3 b j := by
  constructor
  · intro h j h1 h2
    exact (dif_lt3 h2 ha hb).1 (topB_hi _ _ j (Nat.le_trans h h1) h2)
  · intro h
    rcases Nat.lt_or_ge m (prt a b) with h1 | h1
    · have hle := prt_le a b
      obtain ⟨p, hp⟩ : ∃ p, prt a b = p + 1 := ⟨prt a b - 1, by omega⟩
      have h2 := topB_at _ _ _ hp
      rw [(dif_lt3 (by omega) ha hb).2 (h p (by omega) (by omega))] at h2
      cases h2
    · exact h1
theorem prt_at {a b : Cb} (ha : a.snd = true) (hb : b.snd = true) {p : Nat} (h : prt a b = p + 1) : lt3 a p ≠ lt3 b p := fun e => by
  have hle := prt_le a b
  have h2 := topB_at _ _ _ h
  rw [(dif_lt3 (by omega) ha hb).2 e] at h2
  cases h2
theorem hbit_ext {h l h' l' : BitVec 64} (e : ∀ j, j < 128 → hbit h l j = hbit h' l' j) : h = h' ∧ l = l' := by
  constructor
  · apply BitVec.eq_of_getLsbD_eq
    intro i hi
    have := e (i + 64) (by omega)
    unfold hbit at this
    rw [if_neg (by omega), if_neg (by omega), Nat.add_sub_cancel] at this
    exact this
  · apply BitVec.eq_of_getLsbD_eq
    intro i hi
    have := e i (by omega)
    unfold hbit at this
    rw [if_pos hi, if_pos hi] at this
    exact this
theorem prt_zero {a b : Cb} (h : prt a b = 0) : a = b := by
  have hd : ∀ j, j < 128 → dif a b j = false := fun j hj => topB_hi _ _ j (by unfold prt at h; omega) hj
  have hV : ∀ j, j < 128 → a.V j = b.V j := fun j hj => by
    have := hd j hj
    unfold dif at this
    revert this
    cases a.V j <;> cases b.V j <;> simp
  have hK : ∀ j, j < 128 → a.K j = b.K j := fun j hj => by
    have := hd j hj
    unfold dif at this
    revert this
    cases a.K j <;> cases b.K j <;> simp
  obtain ⟨e1, e2⟩ := hbit_ext hV
  obtain ⟨e3, e4⟩ := hbit_ext hK
  cases a; cases b
  simp only at e1 e2 e3 e4
  subst e1 e2 e3 e4
  rfl
inductive Pt where
  | no : Pt
  | lf (c : Cb) (ids : List Int) : Pt
  | nd (a : Nat) (s : Cb) (b : Nat → Pt) : Pt
/-- One more than the bit at which a node branches. -/
def Pt.lv : Pt → Nat
  | .no => 0
  | .lf _ _ => 0
  | .nd a _ _ => a + 1
def Pt.sam : Pt → Cb
  | .no => ⟨0, 0, 0, 0⟩
  | .lf c _ => c
  | .nd _ s _ => s
def Pt.cnt : Pt → Nat
  | .no => 0
  | .lf _ _ => 1
  | .nd _ _ _ => 1
theorem Pt.cnt_le (t : Pt) : t.cnt ≤ 1 := by cases t <;> simp [Pt.cnt]
theorem Pt.cnt_no {t : Pt} (h : t.cnt ≠ 1) : t = .no := by cases t <;> simp_all [Pt.cnt]
/-- All that is there. -/
def Pt.all : Pt → List (Int × Cb)
  | .no => []
  | .lf c ids => ids.map fun x => (x, c)
  | .nd _ _ b => (b 0).all ++ ((b 1).all ++ (b 2).all)
def allB (b : Nat → Pt) : List (Int × Cb) := (b 0).all ++ ((b 1).all ++ (b 2).all)
theorem all_nd (a : Nat) (s : Cb) (b : Nat → Pt) : (Pt.nd a s b).all = allB b := rfl
theorem mem_allB {b : Nat → Pt} {p : Int × Cb} : p ∈ allB b ↔ ∃ k, k < 3 ∧ p ∈ (b k).all := by
  unfold allB
  rw [List.mem_append, List.mem_append]
  constructor
  · rintro (h | h | h)
    · exact ⟨0, by omega, h⟩
    · exact ⟨1, by omega, h⟩
    · exact ⟨2, by omega, h⟩
  · rintro ⟨k, hk, h⟩
    match k, hk with
    | 0, _ => exact .inl h
    | 1, _ => exact .inr (.inl h)
    | 2, _ => exact .inr (.inr h)
/-- The branches of a node at bit a are in order; all below it are alike above that bit, as s is. -/
structure BrOk (ok : Pt → Prop) (a : Nat) (s : Cb) (b : Nat → Pt) : Prop where
  lt : a < 128
  ssnd : s.snd = true
  alike : ∀ p ∈ allB b, ∀ j, a < j → j < 128 → lt3 p.2 j = lt3 s j
  ok : ∀ k, k < 3 → ok (b k)
  low : ∀ k, k < 3 → (b k).lv ≤ a
  let_ : ∀ k, k < 3 → ∀ p ∈ (b k).all, lt3 p.2 a = k
def cntB (b : Nat → Pt) : Nat := (b 0).cnt + (b 1).cnt + (b 2).cnt
def Pt.Ok : Pt → Prop
  | .no => True
  | .lf c ids => c.snd = true ∧ ids ≠ []
  | .nd a s b => 2 ≤ cntB b ∧ a < 128 ∧ s.snd = true ∧ (∀ p ∈ allB b, ∀ j, a < j → j < 128 → lt3 p.2 j = lt3 s j) ∧ (∀ k, k < 3 → (b k).Ok) ∧ (∀ k, k < 3 → (b k).lv ≤ a) ∧ (∀ k, k < 3 → ∀ p ∈ (b k).all, lt3 p.2 a = k)
theorem Ok_nd {a : Nat} {s : Cb} {b : Nat → Pt} : (Pt.nd a s b).Ok ↔ 2 ≤ cntB b ∧ BrOk Pt.Ok a s b :=
  ⟨fun ⟨h0, h1, h2, h3, h4, h5, h6⟩ => ⟨h0, h1, h2, h3, h4, h5, h6⟩, fun ⟨h0, h1, h2, h3, h4, h5, h6⟩ => ⟨h0, h1, h2, h3, h4, h5, h6⟩⟩
theorem Pt.Ok.ssnd : ∀ {t : Pt}, t.Ok → t.cnt = 1 → t.sam.snd = true
  | .no, _, h => by cases h
  | .lf _ _, h, _ => h.1
  | .nd _ _ _, h, _ => (Ok_nd.1 h).2.ssnd
theorem Pt.Ok.snd : ∀ {t : Pt}, t.Ok → ∀ p ∈ t.all, p.2.snd = true
  | .no, _, _, hp => absurd hp (List.not_mem_nil)
  | .lf c ids, h, p, hp => by
    obtain ⟨x, _, rfl⟩ := List.mem_map.1 hp
    exact h.1
  | .nd a s b, h, p, hp => by
    obtain ⟨k, hk, h1⟩ := mem_allB.1 hp
    exact Pt.Ok.snd ((Ok_nd.1 h).2.ok k hk) p h1
theorem Pt.Ok.alike : ∀ {t : Pt}, t.Ok → ∀ p ∈ t.all, ∀ j, t.lv ≤ j → j < 128 → lt3 p.2 j = lt3 t.sam j
  | .no, _, _, hp, _, _, _ => absurd hp (List.not_mem_nil)
  | .lf c ids, _, p, hp, j, _, _ => by
    obtain ⟨x, _, rfl⟩ := List.mem_map.1 hp
    rfl
  | .nd a s b, h, p, hp, j, h1, h2 => (Ok_nd.1 h).2.alike p hp j h1 h2
theorem cntB_some {b : Nat → Pt} (h : 1 ≤ cntB b) : ∃ k, k < 3 ∧ (b k).cnt = 1 := by
  unfold cntB at h
  have h0 := (b 0).cnt_le
  have h1 := (b 1).cnt_le
  have h2 := (b 2).cnt_le
  by_cases e0 : (b 0).cnt = 1
  · exact ⟨0, by omega, e0⟩
  · by_cases e1 : (b 1).cnt = 1
    · exact ⟨1, by omega, e1⟩
    · exact ⟨2, by omega, by omega⟩
theorem Pt.Ok.some : ∀ {t : Pt}, t.Ok → t.cnt = 1 → ∃ p, p ∈ t.all
  | .no, _, h => by cases h
  | .lf c [], h, _ => absurd rfl h.2
  | .lf c (x :: ids), _, _ => ⟨(x, c), by simp [Pt.all]⟩
  | .nd a s b, h, _ => by
    obtain ⟨h1, h2⟩ := Ok_nd.1 h
    obtain ⟨k, hk, hc⟩ := cntB_some (b := b) (by omega)
    obtain ⟨p, hp⟩ := Pt.Ok.some (h2.ok k hk) hc
    exact ⟨p, mem_allB.2 ⟨k, hk, hp⟩⟩
/-! ### putting in -/
def upd (b : Nat → Pt) (k : Nat) (t : Pt) : Nat → Pt := fun j => if j = k then t else b j
def two (k : Nat) (t : Pt) (m : Nat) (u : Pt) : Nat → Pt := fun j => if j = m then u else if j = k then t else .no
theorem upd_same (b : Nat → Pt) (k : Nat) (t : Pt) : upd b k t k = t := if_pos rfl
theorem upd_other {b : Nat → Pt} {k j : Nat} {t : Pt} (h : j ≠ k) : upd b k t j = b j := if_neg h
def topT (x : Int) (c : Cb) (t : Pt) : Pt := .nd (prt t.sam c - 1) c (two (lt3 t.sam (prt t.sam c - 1)) t (lt3 c (prt t.sam c - 1)) (.lf c [x]))
def Pt.ins (x : Int) (c : Cb) : Pt → Pt
  | .no => .lf c [x]
  | .lf d ids => if 0 < prt d c then topT x c (.lf d ids) else .lf d (ids ++ [x])
  | .nd a s b => if a + 1 < prt s c then topT x c (.nd a s b) else .nd a s (upd b (lt3 c a) ((b (lt3 c a)).ins x c))
theorem perm_upd {b : Nat → Pt} {k : Nat} {t : Pt} {x : Int × Cb} (hk : k < 3) (h : t.all.Perm (x :: (b k).all)) : (allB (upd b k t)).Perm (x :: allB b) := by
  unfold allB
  match k, hk, h with
  | 0, _, h => exact h.append_right _
  | 1, _, h => exact ((h.append_right _).append_left _).trans List.perm_middle
  | 2, _, h => exact ((h.append_left _).append_left _).trans ((List.perm_middle.append_left _).trans List.perm_middle)
theorem perm_upd2 {b : Nat → Pt} {k : Nat} {t : Pt} {x : Int × Cb} (hk : k < 3) (h : (b k).all.Perm (x :: t.all)) : (allB b).Perm (x :: allB (upd b k t)) := by
  unfold allB
  match k, hk, h with
  | 0, _, h => exact h.append_right _
  | 1, _, h => exact ((h.append_right _).append_left _).trans List.perm_middle
  | 2, _, h => exact ((h.append_left _).append_left _).trans ((List.perm_middle.append_left _).trans List.perm_middle)
theorem two_all {k m : Nat} {t u : Pt} (hk : k < 3) (hm : m < 3) (hkm : k ≠ m) {x : Int × Cb} (hu : u.all = [x]) : (allB (two k t m u)).Perm (x :: t.all) := by
  have e : two k t m u = upd (upd (fun _ => .no) k t) m u := rfl
  rw [e]
  refine (perm_upd hm (x := x) ?_).trans (List.Perm.cons _ ?_)
  · rw [hu, upd_other (Ne.symm hkm)]
    exact List.Perm.refl _
  · unfold allB
    match k, hk with
    | 0, _ => simp [upd, Pt.all]
    | 1, _ => simp [upd, Pt.all]
    | 2, _ => simp [upd, Pt.all]
theorem two_cnt {k m : Nat} {t u : Pt} (hk : k < 3) (hm : m < 3) (hkm : k ≠ m) (ht : t.cnt = 1) (hu : u.cnt = 1) : 2 ≤ cntB (two k t m u) := by
  unfold cntB
  have key : ∀ j, (two k t m u j).cnt = if j = m ∨ j = k then 1 else 0 := fun j => by
    unfold two
    by_cases h1 : j = m
    · simp [h1, hu]
    · by_cases h2 : j = k
      · subst h2; simp [hkm, ht]
      · simp [h1, h2, Pt.cnt]
  rw [key, key, key]
  match k, hk, m, hm with
  | 0, _, 0, _ => exact absurd rfl hkm
  | 0, _, 1, _ => simp
  | 0, _, 2, _ => simp
  | 1, _, 0, _ => simp
  | 1, _, 1, _ => exact absurd rfl hkm
  | 1, _, 2, _ => simp
  | 2, _, 0, _ => simp
  | 2, _, 1, _ => simp
  | 2, _, 2, _ => exact absurd rfl hkm
theorem topT_ok {x : Int} {c : Cb} {t : Pt} (h : t.Ok) (ht : t.cnt = 1) (hc : c.snd = true) (hp : t.lv < prt t.sam c) : (topT x c t).Ok ∧ (topT x c t).all.Perm ((x, c) :: t.all) ∧ (topT x c t).lv = prt t.sam c := by
  have hs := h.ssnd ht
  have hle := prt_le t.sam c
  unfold topT
  obtain ⟨q, hq⟩ : ∃ q, prt t.sam c = q + 1 := ⟨prt t.sam c - 1, by omega⟩
  have hne := prt_at hs hc hq
  have hhi := (prt_iff hs hc (m := q + 1)).1 (by omega)
  rw [hq, Nat.add_sub_cancel]
  have hperm : (allB (two (lt3 t.sam q) t (lt3 c q) (.lf c [x]))).Perm ((x, c) :: t.all) := two_all (lt3_lt _ _) (lt3_lt _ _) hne rfl
  have hlv : t.lv ≤ q := by omega
  refine ⟨Ok_nd.2 ⟨two_cnt (lt3_lt _ _) (lt3_lt _ _) hne ht rfl, by omega, hc, fun p hp j h1 h2 => ?_, fun k hk => ?_, fun k hk => ?_, fun k hk p hp => ?_⟩, hperm, rfl⟩
  · rcases List.mem_cons.1 (hperm.mem_iff.1 hp) with rfl | h3
    · rfl
    · rw [h.alike p h3 j (by omega) h2, hhi j h1 h2]
  · unfold two
    split
    · exact ⟨hc, by simp⟩
    · split
      · exact h
      · trivial
  · unfold two
    split
    · exact Nat.zero_le _
    · split
      · exact hlv
      · exact Nat.zero_le _
  · unfold two at hp
    split at hp
    · rename_i e
      simp [Pt.all] at hp
      subst hp
      exact e.symm
    · split at hp
      · rename_i e
        rw [h.alike p hp q hlv (by omega), e]
      · cases hp
theorem Pt.ins_ok (x : Int) {c : Cb} (hc : c.snd = true) : ∀ (t : Pt), t.Ok → (t.ins x c).Ok ∧ (t.ins x c).all.Perm ((x, c) :: t.all) ∧ (t.ins x c).cnt = 1 ∧ ∀ m, t.lv ≤ m → (t.cnt = 1 → prt t.sam c ≤ m) → (t.ins x c).lv ≤ m
  | .no, _ => ⟨⟨hc, by simp⟩, List.Perm.refl _, rfl, fun _ _ _ => Nat.zero_le _⟩
  | .lf d ids, h => by
    unfold Pt.ins
    by_cases hp : 0 < prt d c
    · rw [if_pos hp]
      obtain ⟨h1, h2, h3⟩ := topT_ok (x := x) h rfl hc hp
      exact ⟨h1, h2, rfl, fun m _ hm => by rw [h3]; exact hm rfl⟩
    · rw [if_neg hp]
      have e := prt_zero (a := d) (b := c) (by omega)
      subst e
      refine ⟨⟨hc, by simp⟩, ?_, rfl, fun _ _ _ => Nat.zero_le _⟩
      unfold Pt.all
      rw [List.map_append]
      exact List.perm_append_singleton _ _
  | .nd a s b, h => by
    unfold Pt.ins
    by_cases hp : a + 1 < prt s c
    · rw [if_pos hp]
      obtain ⟨h1, h2, h3⟩ := topT_ok (x := x) h rfl hc hp
      exact ⟨h1, h2, rfl, fun m _ hm => by rw [h3]; exact hm rfl⟩
    · rw [if_neg hp]
      obtain ⟨h0, hb⟩ := Ok_nd.1 h
      have hk := lt3_lt c a
      have hhi := (prt_iff hb.ssnd hc (m := a + 1)).1 (by omega)
      obtain ⟨i1, i2, i3, i4⟩ := Pt.ins_ok x hc (b (lt3 c a)) (hb.ok _ hk)
      have hperm := perm_upd (b := b) hk i2
      generalize hkk : lt3 c a = k at *
      refine ⟨Ok_nd.2 ⟨?_, hb.lt, hb.ssnd, fun p hp j h1 h2 => ?_, fun m hm => ?_, fun m hm => ?_, fun m hm p hp => ?_⟩, hperm, rfl, fun m hm _ => hm⟩
      · have key : ∀ j, (b j).cnt ≤ (upd b k ((b k).ins x c) j).cnt := fun j => by
          unfold upd
          by_cases e : j = k
          · subst e; rw [if_pos rfl, i3]; exact (b j).cnt_le
          · rw [if_neg e]; exact Nat.le_refl _
        have k0 := key 0
        have k1 := key 1
        have k2 := key 2
        unfold cntB at h0 ⊢
        omega
      · rcases List.mem_cons.1 (hperm.mem_iff.1 hp) with rfl | h3
        · exact (hhi j h1 h2).symm
        · exact hb.alike p h3 j h1 h2
      · by_cases e : m = k
        · subst e; rw [upd_same]; exact i1
        · rw [upd_other e]; exact hb.ok m hm
      · by_cases e : m = k
        · subst e
          rw [upd_same]
          refine i4 a (hb.low m hm) fun hcn => ?_
          obtain ⟨q, hq⟩ := (hb.ok m hm).some hcn
          rw [prt_iff ((hb.ok m hm).ssnd hcn) hc]
          intro j h1 h2
          rw [← (hb.ok m hm).alike q hq j (Nat.le_trans (hb.low m hm) h1) h2]
          rcases Nat.lt_or_ge a j with h3 | h3
          · rw [hb.alike q (mem_allB.2 ⟨m, hm, hq⟩) j h3 h2]
            exact hhi j h3 h2
          · have e2 : j = a := by omega
            subst e2
            rw [hb.let_ m hm q hq, hkk]
        · rw [upd_other e]; exact hb.low m hm
      · by_cases e : m = k
        · subst e
          rw [upd_same] at hp
          rcases List.mem_cons.1 (i2.mem_iff.1 hp) with rfl | h3
          · exact hkk
          · exact hb.let_ m hm p h3
        · rw [upd_other e] at hp
          exact hb.let_ m hm p hp
/-! ### taking out -/
def fst3 (b : Nat → Pt) : Pt := if (b 0).cnt = 1 then b 0 else if (b 1).cnt = 1 then b 1 else b 2
def prune (a : Nat) (b : Nat → Pt) : Pt := if cntB b = 1 then fst3 b else .nd a (fst3 b).sam b
theorem fst3_is {b : Nat → Pt} (h : 1 ≤ cntB b) : ∃ k, k < 3 ∧ fst3 b = b k ∧ (b k).cnt = 1 := by
  unfold cntB at h
  unfold fst3
  have h0 := (b 0).cnt_le
  have h1 := (b 1).cnt_le
  have h2 := (b 2).cnt_le
  by_cases e0 : (b 0).cnt = 1
  · exact ⟨0, by omega, by rw [if_pos e0], e0⟩
  · by_cases e1 : (b 1).cnt = 1
    · exact ⟨1, by omega, by rw [if_neg e0, if_pos e1], e1⟩
    · exact ⟨2, by omega, by rw [if_neg e0, if_neg e1], by omega⟩
theorem fst3_all {b : Nat → Pt} (h : cntB b = 1) : (fst3 b).all = allB b := by
  unfold cntB at h
  unfold fst3 allB
  have h0 := (b 0).cnt_le
  have h1 := (b 1).cnt_le
  have h2 := (b 2).cnt_le
  by_cases e0 : (b 0).cnt = 1
  · rw [if_pos e0, Pt.cnt_no (t := b 1) (by omega), Pt.cnt_no (t := b 2) (by omega)]
    simp [Pt.all]
  · by_cases e1 : (b 1).cnt = 1
    · rw [if_neg e0, if_pos e1, Pt.cnt_no (t := b 0) (by omega), Pt.cnt_no (t := b 2) (by omega)]
      simp [Pt.all]
    · rw [if_neg e0, if_neg e1, Pt.cnt_no (t := b 0) (by omega), Pt.cnt_no (t := b 1) (by omega)]
      simp [Pt.all]
theorem prune_ok {a : Nat} {s : Cb} {b : Nat → Pt} (h : BrOk Pt.Ok a s b) (hc : 1 ≤ cntB b) : (prune a b).Ok ∧ (prune a b).all = allB b ∧ (prune a b).lv ≤ a + 1 ∧ (prune a b).cnt = 1 := by
  obtain ⟨k, hk, e, hck⟩ := fst3_is hc
  unfold prune
  by_cases h1 : cntB b = 1
  · rw [if_pos h1]
    refine ⟨?_, fst3_all h1, ?_, ?_⟩
    · rw [e]; exact h.ok k hk
    · rw [e]; exact Nat.le_succ_of_le (h.low k hk)
    · rw [e]; exact hck
  · rw [if_neg h1, e]
    refine ⟨Ok_nd.2 ⟨by omega, h.lt, (h.ok k hk).ssnd hck, fun p hp j h2 h3 => ?_, h.ok, h.low, h.let_⟩, rfl, Nat.le_refl _, rfl⟩
    obtain ⟨q, hq⟩ := (h.ok k hk).some hck
    have hl := h.low k hk
    rw [h.alike p hp j h2 h3, ← h.alike q (mem_allB.2 ⟨k, hk, hq⟩) j h2 h3, (h.ok k hk).alike q hq j (by omega) h3]
def Pt.rem (x : Int) (c : Cb) : Pt → Pt
  | .no => .no
  | .lf d ids => if (ids.filter fun y => !decide (y = x)).length = 0 then .no else .lf d (ids.filter fun y => !decide (y = x))
  | .nd a _ b => prune a (upd b (lt3 c a) ((b (lt3 c a)).rem x c))
theorem filter_out {x : Int} : ∀ {ids : List Int}, ids.Nodup → x ∈ ids → ids.Perm (x :: ids.filter fun y => !decide (y = x))
  | y :: ids, hn, hm => by
    obtain ⟨h1, h2⟩ := List.nodup_cons.1 hn
    by_cases e : y = x
    · subst e
      have e2 : (ids.filter fun z => !decide (z = y)) = ids := by
        rw [List.filter_eq_self]
        intro z hz
        have : z ≠ y := fun e => h1 (e ▸ hz)
        simp [this]
      rw [List.filter_cons, if_neg (by simp), e2]
    · have h3 : x ∈ ids := by
        rcases List.mem_cons.1 hm with h4 | h4
        · exact absurd h4.symm e
        · exact h4
      rw [List.filter_cons, if_pos (by simp [e])]
      exact ((filter_out h2 h3).cons y).trans (List.Perm.swap _ _ _)
theorem Pt.rem_ok {x : Int} {c : Cb} : ∀ (t : Pt), t.Ok → (tIds t.all).Nodup → (x, c) ∈ t.all → (t.rem x c).Ok ∧ t.all.Perm ((x, c) :: (t.rem x c).all) ∧ (t.rem x c).lv ≤ t.lv
  | .no, _, _, h => by cases h
  | .lf d ids, h, hn, hm => by
    have hn2 : ids.Nodup := by
      have e : tIds (Pt.lf d ids).all = ids := by simp [tIds, Pt.all, Function.comp_def]
      rwa [e] at hn
    obtain ⟨y, hy, he⟩ := List.mem_map.1 hm
    injection he with e1 e2
    subst e1 e2
    have hperm : (Pt.lf d ids).all.Perm ((y, d) :: (ids.filter fun z => !decide (z = y)).map fun z => (z, d)) := (filter_out hn2 hy).map fun z => (z, d)
    unfold Pt.rem
    by_cases h1 : (ids.filter fun z => !decide (z = y)).length = 0
    · rw [if_pos h1]
      rw [List.eq_nil_of_length_eq_zero h1] at hperm
      exact ⟨trivial, hperm, Nat.zero_le _⟩
    · rw [if_neg h1]
      exact ⟨⟨h.1, fun e => h1 (by rw [e]; rfl)⟩, hperm, Nat.le_refl _⟩
  | .nd a s b, h, hn, hm => by
    obtain ⟨h0, hb⟩ := Ok_nd.1 h
    have hk := lt3_lt c a
    have hmk : (x, c) ∈ (b (lt3 c a)).all := by
      obtain ⟨k, h1, h2⟩ := mem_allB.1 hm
      have := hb.let_ k h1 _ h2
      dsimp only at this
      rw [this]
      exact h2
    have hnk : (tIds (b (lt3 c a)).all).Nodup := by
      refine hn.sublist (List.Sublist.map _ ?_)
      rw [all_nd]
      unfold allB
      match lt3 c a, hk with
      | 0, _ => exact List.sublist_append_left _ _
      | 1, _ => exact (List.sublist_append_left _ _).trans (List.sublist_append_right _ _)
      | 2, _ => exact (List.sublist_append_right _ _).trans (List.sublist_append_right _ _)
    obtain ⟨i1, i2, i3⟩ := Pt.rem_ok (b (lt3 c a)) (hb.ok _ hk) hnk hmk
    have hperm := perm_upd2 (b := b) hk i2
    unfold Pt.rem
    generalize lt3 c a = k at *
    have hsub : ∀ m p, p ∈ (upd b k ((b k).rem x c) m).all → p ∈ (b m).all := fun m p hp => by
      by_cases e : m = k
      · subst e
        rw [upd_same] at hp
        exact i2.mem_iff.2 (List.mem_cons_of_mem _ hp)
      · rwa [upd_other e] at hp
    have hbr : BrOk Pt.Ok a s (upd b k ((b k).rem x c)) := by
      refine ⟨hb.lt, hb.ssnd, fun p hp j h1 h2 => hb.alike p (hperm.mem_iff.2 (List.mem_cons_of_mem _ hp)) j h1 h2, fun m hm => ?_, fun m hm => ?_, fun m hm p hp => hb.let_ m hm p (hsub m p hp)⟩
      · by_cases e : m = k
        · subst e; rw [upd_same]; exact i1
        · rw [upd_other e]; exact hb.ok m hm
      · by_cases e : m = k
        · subst e; rw [upd_same]; exact Nat.le_trans i3 (hb.low m hm)
        · rw [upd_other e]; exact hb.low m hm
    have hcn : 1 ≤ cntB (upd b k ((b k).rem x c)) := by
      have key : ∀ j, j ≠ k → (upd b k ((b k).rem x c) j).cnt = (b j).cnt := fun j e => by rw [upd_other e]
      have hl := fun j => (b j).cnt_le
      have l0 := hl 0
      have l1 := hl 1
      have l2 := hl 2
      unfold cntB at h0 ⊢
      match k, hk, key with
      | 0, _, key => rw [key 1 (by omega), key 2 (by omega)]; omega
      | 1, _, key => rw [key 0 (by omega), key 2 (by omega)]; omega
      | 2, _, key => rw [key 0 (by omega), key 1 (by omega)]; omega
    obtain ⟨p1, p2, p3, _⟩ := prune_ok hbr hcn
    exact ⟨p1, by rw [p2]; exact hperm, p3⟩
/-! ### searching -/
/-- Which letters a search for what meets a cube takes. -/
def metL (c : Cb) (a l : Nat) : Bool := decide (lt3 c a = l) || (decide (lt3 c a = 2) || decide (l = 2))
def Pt.srch (f : Nat → Nat → Bool) : Pt → List (Cb × List Int)
  | .no => []
  | .lf c ids => [(c, ids)]
  | .nd a _ b => (if f a 0 = true then (b 0).srch f else []) ++ ((if f a 1 = true then (b 1).srch f else []) ++ (if f a 2 = true then (b 2).srch f else []))
/-- The numbers in the leaves that meet a cube. -/
def pick (c : Cb) (L : List (Cb × List Int)) : List Int := (L.filter fun p => p.1.agr c).flatMap fun p => p.2
theorem pick_app (c : Cb) (A B : List (Cb × List Int)) : pick c (A ++ B) = pick c A ++ pick c B := by
  unfold pick; rw [List.filter_append, List.flatMap_append]
theorem pick_br {c : Cb} {t : Pt} {a l : Nat} (ha : a < 128) (h : pick c (t.srch (metL c)) = tIds (t.all.filter fun p => p.2.agr c)) (hl : ∀ p ∈ t.all, lt3 p.2 a = l) :
    pick c (if metL c a l = true then t.srch (metL c) else []) = tIds (t.all.filter fun p => p.2.agr c) := by
  by_cases e : metL c a l = true
  · rw [if_pos e]; exact h
  · rw [if_neg e]
    have e2 : (t.all.filter fun p => p.2.agr c) = [] := by
      rw [List.filter_eq_nil_iff]
      intro p hp hm
      apply e
      rw [Cb.agr_iff] at hm
      have h1 := hm a ha
      have h2 := hl p hp
      unfold metL
      subst h2
      unfold lt3
      revert h1
      cases p.2.K a <;> cases p.2.V a <;> cases c.K a <;> cases c.V a <;> simp
    rw [e2]
    rfl
theorem Pt.Ok.srch (c : Cb) : ∀ {t : Pt}, t.Ok → pick c (t.srch (metL c)) = tIds (t.all.filter fun p => p.2.agr c)
  | .no, _ => rfl
  | .lf d ids, _ => by
    unfold Pt.srch Pt.all pick tIds
    by_cases h : d.agr c = true
    · rw [List.filter_cons, if_pos h]
      have e : ((ids.map fun x => (x, d)).filter fun p => p.2.agr c) = ids.map fun x => (x, d) := by
        rw [List.filter_eq_self]
        intro p hp
        obtain ⟨x, _, rfl⟩ := List.mem_map.1 hp
        exact h
      rw [e]
      simp [Function.comp_def]
    · rw [List.filter_cons, if_neg h]
      have e : ((ids.map fun x => (x, d)).filter fun p => p.2.agr c) = [] := by
        rw [List.filter_eq_nil_iff]
        intro p hp
        obtain ⟨x, _, rfl⟩ := List.mem_map.1 hp
        exact h
      rw [e]
      rfl
  | .nd a s b, h => by
    obtain ⟨_, hb⟩ := Ok_nd.1 h
    unfold Pt.srch
    rw [all_nd]
    unfold allB
    rw [pick_app, pick_app, List.filter_append, List.filter_append]
    unfold tIds
    rw [List.map_append, List.map_append]
    have k := fun j (hj : j < 3) => pick_br hb.lt (Pt.Ok.srch c (hb.ok j hj)) (hb.let_ j hj)
    rw [k 0 (by omega), k 1 (by omega), k 2 (by omega)]
    rfl
theorem Pt.Ok.leaves (f : Nat → Nat → Bool) : ∀ {t : Pt}, t.Ok → (t.srch f).length ≤ t.all.length
  | .no, _ => Nat.le_refl _
  | .lf d [], h => absurd rfl h.2
  | .lf d (x :: ids), _ => by simp [Pt.srch, Pt.all]
  | .nd a s b, h => by
    obtain ⟨_, hb⟩ := Ok_nd.1 h
    have k := fun j (hj : j < 3) => Pt.Ok.leaves f (hb.ok j hj)
    have k0 := k 0 (by omega)
    have k1 := k 1 (by omega)
    have k2 := k 2 (by omega)
    rw [all_nd]
    unfold Pt.srch allB
    simp only [List.length_append]
    have hif : ∀ (q : Bool) (L : List (Cb × List Int)), (if q = true then L else []).length ≤ L.length := fun q L => by cases q <;> simp
    have q0 := hif (f a 0) ((b 0).srch f)
    have q1 := hif (f a 1) ((b 1).srch f)
    have q2 := hif (f a 2) ((b 2).srch f)
    omega
/-- The tree holds just what the list says. -/
structure RepP (l : List (Int × Cb)) (t : Pt) : Prop where
  ok : t.Ok
  perm : t.all.Perm l
theorem RepP.nil : RepP [] .no := ⟨trivial, List.Perm.refl _⟩
theorem RepP.put {l : List (Int × Cb)} {t : Pt} (h : RepP l t) (x : Int) {c : Cb} (hc : c.snd = true) : RepP (l ++ [(x, c)]) (t.ins x c) := by
  obtain ⟨h1, h2, _⟩ := Pt.ins_ok x hc t h.ok
  exact ⟨h1, h2.trans ((h.perm.cons _).trans (List.perm_append_singleton _ _).symm)⟩
theorem RepP.ids {l : List (Int × Cb)} {t : Pt} (h : RepP l t) (hl : Tok l) : (tIds t.all).Nodup := ((h.perm.map Prod.fst).nodup_iff).2 hl.nodup
theorem remT_perm {l : List (Int × Cb)} (hl : Tok l) {x : Int} {c : Cb} (hm : (x, c) ∈ l) : l.Perm ((x, c) :: remT l x) := by
  obtain ⟨k, hk⟩ := List.getElem?_of_mem hm
  rw [remT_at hl hk]
  obtain ⟨hlt, hg⟩ := List.getElem?_eq_some_iff.1 hk
  have e : l = l.take k ++ (x, c) :: l.drop (k + 1) := by rw [← hg, List.getElem_cons_drop, List.take_append_drop]
  exact (List.Perm.of_eq e).trans List.perm_middle
theorem RepP.cut {l : List (Int × Cb)} {t : Pt} (h : RepP l t) (hl : Tok l) {x : Int} {c : Cb} (hm : (x, c) ∈ l) : RepP (remT l x) (t.rem x c) := by
  obtain ⟨h1, h2, _⟩ := Pt.rem_ok t h.ok (h.ids hl) (h.perm.mem_iff.2 hm)
  exact ⟨h1, (h2.symm.trans (h.perm.trans (remT_perm hl hm))).cons_inv⟩
/-- What a search found, sorted. -/
theorem RepP.found {l : List (Int × Cb)} {t : Pt} (h : RepP l t) (hl : Tok l) (c : Cb) {M : List Int} (hM : M.Pairwise (· ≤ ·)) (hp : M.Perm (pick c (t.srch (metL c)))) : M = ovT l c := by
  rw [h.ok.srch c] at hp
  have h1 : (tIds (t.all.filter fun p => p.2.agr c)).Nodup := (h.ids hl).sublist (List.filter_sublist.map _)
  have h2 : M.Nodup := hp.nodup_iff.2 h1
  have h3 : Inc M := by
    have := hM.and h2
    exact this.imp fun {a b} hab => by
      obtain ⟨p, q⟩ := hab
      have : a ≠ b := q
      omega
  refine h3.ext (inc_ovT l c) fun x => ?_
  rw [hp.mem_iff, mem_ovT]
  unfold tIds
  rw [List.mem_map]
  constructor
  · rintro ⟨⟨a, d⟩, h4, rfl⟩
    rw [List.mem_filter] at h4
    exact ⟨d, h.perm.mem_iff.1 h4.1, h4.2⟩
  · rintro ⟨d, h4, h5⟩
    exact ⟨(x, d), List.mem_filter.2 ⟨h.perm.mem_iff.2 h4, h5⟩, rfl⟩
end Go.Proofs.Hd

namespace Go.Proofs.Hd
open Go.RowKit
/-- From w to w' at most the blocks of S have changed, and new ones may be there. -/
structure Ch (S : Nat → Prop) (w w' : World) : Prop where
  os : w'.os = w.os
  tape : w'.tape = w.tape
  output : w'.output = w.output
  size : w.heap.size ≤ w'.heap.size
  block : ∀ k, k < w.heap.size → ¬ S k → w'.heap[k]? = w.heap[k]?
theorem Ch.refl (S : Nat → Prop) (w : World) : Ch S w w := ⟨rfl, rfl, rfl, Nat.le_refl _, fun _ _ _ => rfl⟩
theorem Ch.trans {S : Nat → Prop} {a b c : World} (h : Ch S a b) (k : Ch S b c) : Ch S a c :=
  ⟨k.os.trans h.os, k.tape.trans h.tape, k.output.trans h.output, Nat.le_trans h.size k.size, fun i hi hs => (k.block i (Nat.lt_of_lt_of_le hi h.size) hs).trans (h.block i hi hs)⟩
theorem Ch.mono {S S' : Nat → Prop} {w w' : World} (h : Ch S w w') (hs : ∀ k, k < w.heap.size → S k → S' k) : Ch S' w w' := ⟨h.os, h.tape, h.output, h.size, fun k hk hn => h.block k hk (fun c => hn (hs k hk c))⟩
theorem Ch.of_below {S : Nat → Prop} {w w' : World} (h : Below w.heap.size w w') : Ch S w w' := ⟨h.os, h.tape, h.output, h.size, fun k hk _ => h.block k hk⟩
theorem Ch.below {S : Nat → Prop} {B : Nat} {w w' : World} (h : Ch S w w') (hB : B ≤ w.heap.size) (hs : ∀ k, k < B → ¬ S k) : Below B w w' := ⟨h.os, h.tape, h.output, h.size, fun k hk => h.block k (by omega) (hs k hk)⟩
theorem Ch.set (w : World) (p : Addr) (u : Value) : Ch (· = p.block) w (w.setCell p u) := ⟨rfl, rfl, rfl, by simp [World.setCell], fun k _ hn => Below.heap_setCell _ _ _ _ hn⟩
theorem Ch.blk {S : Nat → Prop} {w w' : World} {g : Nat} {t : TypeId} {cs : Array Value} (h : Ch S w w') (b : Blk w g t cs) (hn : ¬ S g) : Blk w' g t cs := (h.block g b.lt hn).trans b
theorem Ch.tb {S : Nat → Prop} {w w' : World} {g : Nat} {t : TypeId} (h : Ch S w w') (b : TB w g t) (hn : ¬ S g) : TB w' g t := by
  obtain ⟨cs, fr, e⟩ := b; exact ⟨cs, fr, (h.block g (TB.lt ⟨cs, fr, e⟩) hn).trans e⟩
theorem Ch.cell {S : Nat → Prop} {w w' : World} {p : Addr} {v : Value} (h : Ch S w w') (hc : w.cell? p = some v) (hn : ¬ S p.block) : w'.cell? p = some v :=
  (World.cell?_of_block (h.block p.block (World.block_lt_of_cell? w p hc) hn)).trans hc
theorem Ch.own {S : Nat → Prop} {w w' : World} {base e size n : Nat} {v : Value} {xs : List Value} (h : Ch S w w') (r : w.ownsRow base e size v n xs) (hn : ∀ g, v.ownBlock = some g → ¬ S g) : w'.ownsRow base e size v n xs := by
  refine ⟨r.1, ?_⟩
  rcases r.2 with r | ⟨g, cap, cur, rfl, hb, hg, rest⟩
  · exact .inl r
  · exact .inr ⟨g, cap, cur, rfl, hb, (h.block g (Array.getElem?_eq_some_iff.1 hg).1 (hn g rfl)).trans hg, rest⟩
end Go.Proofs.Hd

namespace Go.Proofs.Hd
open Go.RowKit Go.Maps
/-- A cube as a value, and as what it reads. -/
def cubV (c : Cb) : Value := .agg #[.int .u64 (uv c.vh), .int .u64 (uv c.vl), .int .u64 (uv c.ch), .int .u64 (uv c.cl)]
def cubD (c : Cb) : DataW Unit := .agg [.lit (.int .u64 (uv c.vh)), .lit (.int .u64 (uv c.vl)), .lit (.int .u64 (uv c.ch)), .lit (.int .u64 (uv c.cl))]
def cubR : Value → Option (DataW Unit × List MemPlace)
  | .agg cs => match cs.toList with
    | [.int .u64 a, .int .u64 b, .int .u64 c, .int .u64 d] => some (.agg [.lit (.int .u64 a), .lit (.int .u64 b), .lit (.int .u64 c), .lit (.int .u64 d)], [])
    | _ => none
  | _ => none
theorem cubR_mk (c : Cb) : cubR (cubV c) = some (cubD c, []) := rfl
theorem cubR_inv {v : Value} {c : Cb} {ps : List MemPlace} (h : cubR v = some (cubD c, ps)) : v = cubV c := by
  unfold cubR at h
  split at h
  · rename_i cs
    split at h
    · rename_i a b c' d he
      unfold cubD at h
      simp only [Option.some.injEq, Prod.mk.injEq, DataW.agg.injEq, List.cons.injEq, DataW.lit.injEq, Lit.int.injEq, true_and, and_true] at h
      obtain ⟨⟨rfl, rfl, rfl, rfl⟩, _⟩ := h
      unfold cubV
      congr 1
      rw [← Array.toArray_toList (xs := cs), he]
    · cases h
  · cases h
/-- The block of a map. -/
def mpB : Value → Option Nat
  | .map b => b
  | _ => none
/-- v is a map from numbers to cubes that holds just what the list says. -/
def MpAt (w : World) (v : Value) (l : List (Int × Cb)) : Prop :=
  (v = .map none ∧ l = []) ∨ ∃ M D, v = .map (some M) ∧ w.ownsMap Try.prog 3 cubR M l.length D ∧ (∀ x : Int, Maps.has D (.int .i64 x) = decide (x ∈ tIds l)) ∧ (∀ x c, (x, c) ∈ l → ∀ zd, D.atKey (.int .i64 x) zd = cubD c) ∧ Maps.size D = l.length
theorem MpAt.ch {Q : Nat → Prop} {w w' : World} {v : Value} {l : List (Int × Cb)} (h : MpAt w v l) (hc : Ch Q w w') (hn : ∀ M, mpB v = some M → ¬ Q M) : MpAt w' v l := by
  rcases h with h | ⟨M, D, rfl, h1, h2⟩
  · exact .inl h
  · obtain ⟨es, clock, hb, r⟩ := h1
    exact .inr ⟨M, D, rfl, ⟨es, clock, (hc.block M (Array.getElem?_eq_some_iff.1 hb).1 (hn M rfl)).trans hb, r⟩, h2⟩
theorem MpAt.lt {w : World} {v : Value} {l : List (Int × Cb)} (h : MpAt w v l) : ∀ M, mpB v = some M → M < w.heap.size := fun M hM => by
  rcases h with ⟨rfl, _⟩ | ⟨M', D, rfl, h1, _⟩
  · cases hM
  · have e : M' = M := by simpa [mpB] using hM
    subst e
    exact h1.lt
theorem MpAt.form {w : World} {v : Value} {l : List (Int × Cb)} (h : MpAt w v l) : ∃ b, v = .map b := by
  rcases h with ⟨rfl, _⟩ | ⟨M', D, rfl, h1, _⟩
  · exact ⟨none, rfl⟩
  · exact ⟨some M', rfl⟩
theorem MpAt.made (w : World) : MpAt (w.alloc (.map #[] 0)) (.map (some w.heap.size)) [] := by
  refine .inr ⟨w.heap.size, .map [], rfl, World.ownsMap_made w _ _ _, fun x => ?_, fun x c h => absurd h (List.not_mem_nil), rfl⟩
  simp [Maps.has, tIds]
end Go.Proofs.Hd
namespace Go.Proofs
open Go.RowKit Go.Proofs.Hd Go.Maps
theorem keyT : Keyed Try.prog 3 := int_keyed Try.underlying3
theorem keyTk {x : Int} (hx : (Lit.int .i64 x).wf = true) : keyOf Try.prog 3 (.int .i64 x) = some (.int .i64 x) := keyOf_int_mk Try.underlying3 hx
def zeroC : Cb := ⟨0#64, 0#64, 0#64, 0#64⟩
theorem zeroCT (w : World) : (zeroValue 27).run Try.prog w = .ok (cubV zeroC) w := Try.zeroValue27 w
theorem mp_yes {w : World} {v : Value} {l : List (Int × Cb)} {x : Int} {c : Cb} (h : MpAt w v l) (hx : (Lit.int .i64 x).wf = true) (hm : (x, c) ∈ l) : (Instr.lookup 54 v (.int .i64 x) true).run Try.prog w = .ok (.tuple #[cubV c, .bool true]) w := by
  rcases h with ⟨_, rfl⟩ | ⟨M, D, rfl, h1, h2, h3, _⟩
  · cases hm
  · obtain ⟨u, ps, hr, hu⟩ := h1.look_ok keyT Try.underlying54 (zeroCT w) (cubR_mk zeroC) (keyTk hx)
    rw [h3 x c hm] at hu
    have hin : x ∈ tIds l := List.mem_map.2 ⟨(x, c), hm, rfl⟩
    rw [h2, decide_eq_true hin] at hr
    rw [hr, cubR_inv hu]
theorem mp_no {w : World} {v : Value} {l : List (Int × Cb)} {x : Int} (h : MpAt w v l) (hx : (Lit.int .i64 x).wf = true) (hm : x ∉ tIds l) : (Instr.lookup 54 v (.int .i64 x) true).run Try.prog w = .ok (.tuple #[cubV zeroC, .bool false]) w := by
  rcases h with ⟨rfl, _⟩ | ⟨M, D, rfl, h1, h2, h3, _⟩
  · exact Maps.look_nil true keyT Try.underlying54 (zeroCT w) (keyTk hx)
  · obtain ⟨u, ps, hr, hu⟩ := h1.look_ok keyT Try.underlying54 (zeroCT w) (cubR_mk zeroC) (keyTk hx)
    have hf : Maps.has D (.int .i64 x) = false := by rw [h2]; exact decide_eq_false hm
    rw [atKey_of_not_has hf] at hu
    rw [hf] at hr
    rw [hr, cubR_inv hu]
theorem mp_len {w : World} {v : Value} {l : List (Int × Cb)} (h : MpAt w v l) (ty : TypeId) : (Builtin.len_ #[54] ty #[v]).run Try.prog w = .ok (.int .i64 (l.length : Int)) w := by
  rcases h with ⟨rfl, rfl⟩ | ⟨M, D, rfl, h1, h2, h3, h4⟩
  · exact Maps.len_nil Try.underlying54 ty
  · rw [h1.len Try.underlying54 ty, h4]
theorem mp_put {w : World} {M : Nat} {l : List (Int × Cb)} {x : Int} {c : Cb} (h : MpAt w (.map (some M)) l) (hx : (Lit.int .i64 x).wf = true) (hm : x ∉ tIds l) (hn : l.length < maxLen) :
    ∃ w', (Instr.mapUpdate 54 (.map (some M)) (.int .i64 x) (cubV c)).run Try.prog w = .ok () w' ∧ MpAt w' (.map (some M)) (l ++ [(x, c)]) ∧ Ch (· = M) w w' := by
  rcases h with ⟨h, _⟩ | ⟨M', D, e, h1, h2, h3, h4⟩
  · cases h
  · injection e with e
    injection e with e
    subst e
    obtain ⟨w', hr, k1, k2⟩ := h1.update keyT Try.underlying54 hn (keyTk hx) (cubR_mk c)
    have hf : Maps.has D (.int .i64 x) = false := by rw [h2]; exact decide_eq_false hm
    have hk : WideAt.IsKeyLit (.int .i64 x) := trivial
    refine ⟨w', hr, .inr ⟨M, D.put (.int .i64 x) (cubD c), rfl, ?_, fun y => ?_, fun y d hy zd => ?_, ?_⟩, ⟨k2.os, k2.tape, k2.output, k2.size, fun k hk hn => k2.block k hk (fun e => hn (by injection e))⟩⟩
    · rw [List.length_append]; exact k1
    · by_cases e : y = x
      · subst e
        rw [has_put_same h1.isMap hk]
        simp [tIds]
      · have hne : (Lit.int .i64 y) ≠ .int .i64 x := fun h => e (by injection h)
        rw [has_put_other hne, h2]
        unfold tIds
        rw [List.map_append]
        simp [e]
    · rcases List.mem_append.1 hy with hy | hy
      · have hin : y ∈ tIds l := List.mem_map.2 ⟨(y, d), hy, rfl⟩
        have hyx : y ≠ x := fun e => hm (e ▸ hin)
        have hne : (Lit.int .i64 y) ≠ .int .i64 x := fun h => hyx (by injection h)
        rw [atKey_put_other hne, h3 y d hy]
      · rw [List.mem_singleton] at hy
        obtain ⟨e1, e2⟩ := Prod.mk.inj hy
        subst e1 e2
        rw [atKey_put_same h1.isMap hk]
    · rw [size_put (h1.tidy keyT), if_neg (by rw [hf]; simp), h4, List.length_append]
      rfl
theorem mp_del {w : World} {v : Value} {l : List (Int × Cb)} {x : Int} {c : Cb} (h : MpAt w v l) (ht : Tok l) (hx : (Lit.int .i64 x).wf = true) (hm : (x, c) ∈ l) (ty : TypeId) :
    ∃ w', (Builtin.delete_ #[54, 3] ty #[v, .int .i64 x]).run Try.prog w = .ok (.tuple #[]) w' ∧ MpAt w' v (remT l x) ∧ Ch (fun k => mpB v = some k) w w' := by
  rcases h with ⟨_, rfl⟩ | ⟨M, D, rfl, h1, h2, h3, h4⟩
  · cases hm
  · obtain ⟨w', hr, k1, k2⟩ := h1.drop keyT Try.underlying54 (keyTk hx) ty
    have hin : x ∈ tIds l := List.mem_map.2 ⟨(x, c), hm, rfl⟩
    have hf : Maps.has D (.int .i64 x) = true := by rw [h2]; exact decide_eq_true hin
    have g := k2.grown
    have hlen := (remT_perm ht hm).length_eq
    rw [List.length_cons] at hlen
    have hsz := size_del (k := .int .i64 x) (h1.tidy keyT)
    rw [if_pos hf, h4] at hsz
    refine ⟨w', hr, .inr ⟨M, D.del (.int .i64 x), rfl, ?_, fun y => ?_, fun y d hy zd => ?_, by omega⟩, ⟨g.os, g.tape, g.output, g.size, fun k hk hn => g.block k hk (fun e => hn (by rw [e]; rfl))⟩⟩
    · obtain ⟨es, clock, q1, q2, q3, q4⟩ := k1
      refine ⟨es, clock, q1, q2, ?_, q4⟩
      have e1 : Maps.size (D.del (.int .i64 x)) = es.size := by rw [q4]; simp [Maps.size, length_sorted]
      omega
    · by_cases e : y = x
      · subst e
        rw [has_del_same]
        symm
        rw [decide_eq_false_iff_not]
        unfold tIds
        rw [List.mem_map]
        rintro ⟨p, hp, rfl⟩
        exact (mem_remT.1 hp).2 rfl
      · have hne : (Lit.int .i64 y) ≠ .int .i64 x := fun h => e (by injection h)
        rw [has_del_other hne, h2]
        rw [decide_eq_decide]
        unfold tIds
        rw [List.mem_map, List.mem_map]
        exact ⟨fun ⟨p, h1, h2⟩ => ⟨p, mem_remT.2 ⟨h1, by rw [h2]; exact e⟩, h2⟩, fun ⟨p, h1, h2⟩ => ⟨p, (mem_remT.1 h1).1, h2⟩⟩
    · obtain ⟨hy1, hy2⟩ := mem_remT.1 hy
      have hne : (Lit.int .i64 y) ≠ .int .i64 x := fun h => hy2 (by injection h)
      rw [atKey_del_other hne, h3 y d hy1]
end Go.Proofs

namespace Go.Proofs.Hd
open Go.RowKit
/-- A row that lay at o has grown and lies at o' now: nothing else has changed. -/
def Grw (w w' : World) (o o' : Option Nat) : Prop := w.grownBy w' o ∧ (o' = o ∨ ∃ k, o' = some k ∧ w.heap.size ≤ k)
theorem Grw.refl (w : World) (o : Option Nat) : Grw w w o o := ⟨World.grownBy.refl w o, .inl rfl⟩
section
variable {P : Program} (w : World)
theorem run_app2 (base : Nat) (t ty e : TypeId) (i : TypeInfo) (z : Value) (size bytes : Nat) (ht : P.underlying t = some (.slice e)) (hi : P.info? e = some i) (hz : i.zero = some z)
    (hsize : i.size = size) (hby : i.bytes = bytes) (hzs : z.cells.size = size) (hsz : 0 < size) (v : Value) (n : Nat) (xs : List Value) (hown : w.ownsRow base e size v n xs)
    (x : Value) (m : Nat) (news : List Value) (hx : Src w size x m news) (h63 : n + m ≤ maxLen) (hbytes : (n + m) * bytes ≤ 140737488355328) (hbase : base ≤ w.heap.size) :
    ∃ v' w', (Builtin.append_ #[t, t] ty #[v, x]).run P w = .ok v' w' ∧ w'.ownsRow base e size v' (n + m) (xs ++ news) ∧ Grw w w' v.ownBlock v'.ownBlock := by
  obtain ⟨hl, h1, ⟨rfl, c, rfl⟩ | ⟨ad, c, rfl, hc⟩⟩ := hx
  · obtain rfl : news = [] := List.eq_nil_of_length_eq_zero (by simpa using hl)
    refine ⟨v, w, ?_, by simpa using hown, Grw.refl w _⟩
    rcases hown.2 with ⟨rfl, rfl⟩ | ⟨g, cap, cur, rfl, _, _, hnc, _⟩
    · simp [Builtin.append_, run_underlying ht, sizeOf, typeInfo, hi, Builtin.lenOf, Builtin.firstCells]
    · simp [Builtin.append_, run_underlying ht, sizeOf, typeInfo, hi, Builtin.lenOf, Builtin.firstCells, hnc, storeCells]
  · obtain ⟨v', w', hr, h2, h3, _, h5⟩ := run_append_own_at (P := P) w base t ty e i z size bytes ht hi hz hsize hby hzs hsz v n xs hown ad m c news hl hc h1 h63 hbytes hbase
    exact ⟨v', w', hr, h2, h3, h5.imp id fun h => ⟨_, h, Nat.le_refl _⟩⟩
theorem wpList_app2 {ops : Array Oper} {rest : List Oper} {o : Oper} {a : Act} {Q : Exit → Act → World → Prop} (hgd : o.guard = none) (s x : Operand) (t : TypeId)
    (ho : o.op = .call { callee := .builtin .append, args := #[s, x], argTypes := #[t, t] }) (base : Nat) (e : TypeId) (i : TypeInfo) (z : Value) (size bytes : Nat) (ht : P.underlying t = some (.slice e)) (hi : P.info? e = some i) (hz : i.zero = some z)
    (hsize : i.size = size) (hby : i.bytes = bytes) (hzs : z.cells.size = size) (hsz : 0 < size) (v : Value) (n : Nat) (xs : List Value) (hs : a.eval s = v) (hown : w.ownsRow base e size v n xs)
    (y : Value) (m : Nat) (news : List Value) (hy : a.eval x = y) (hx : Src w size y m news) (h63 : n + m ≤ maxLen) (hbytes : (n + m) * bytes ≤ 140737488355328) (hbase : base ≤ w.heap.size)
    (h : ∀ v' w', w'.ownsRow base e size v' (n + m) (xs ++ news) → Grw w w' v.ownBlock v'.ownBlock → wpList P ops Q rest (a.put o.dst v') w') : wpList P ops Q (o :: rest) a w := by
  obtain ⟨v', w', hr, h2, h3⟩ := run_app2 (P := P) w base t o.type e i z size bytes ht hi hz hsize hby hzs hsz v n xs hown y m news hx h63 hbytes hbase
  exact Lib.wpList_append_run w hgd s x t t ho v y hs hy v' w' hr (h v' w' h2 h3)
end
end Go.Proofs.Hd

namespace Go.Proofs.Hd
open Go.RowKit
/-- A pointer to the start of a block. -/
def ptrV (B : Nat) : Value := .pointer (some ⟨B, 0, none⟩)
/-- The cells of a node. -/
def ndCells (a : Int) (v0 v1 v2 : Value) (c : Cb) (u : Value) : Array Value := #[.int .i64 a, v0, v1, v2, .int .u64 (uv c.vh), .int .u64 (uv c.vl), .int .u64 (uv c.ch), .int .u64 (uv c.cl), u]
/-- The cells of a leaf's block, and its row of numbers. -/
def LfAt (w : World) (B : Nat) (c : Cb) (ids : List Int) (u : Value) : Prop :=
  Blk w B 73 (ndCells (-1) (.pointer none) (.pointer none) (.pointer none) c u) ∧ w.ownsRow 0 3 1 u ids.length (ids.map (.int .i64))
/-- The blocks of a node's three branches: apart from the node's own, and from each other. -/
structure Sep (B : Nat) (Ss : Nat → Nat → Prop) : Prop where
  out : ∀ k, k < 3 → ¬ Ss k B
  dis : ∀ j k, j < 3 → k < 3 → j ≠ k → ∀ x, Ss j x → ¬ Ss k x
/-- v points to the tree t; its blocks are those of S. -/
def TrAt (w : World) : Pt → Value → (Nat → Prop) → Prop
  | .no, v, S => v = .pointer none ∧ ∀ x, ¬ S x
  | .lf c ids, v, S => ∃ B u, v = ptrV B ∧ LfAt w B c ids u ∧ ∀ x, S x ↔ x = B ∨ u.ownBlock = some x
  | .nd a s b, v, S => ∃ (B : Nat) (vs : Nat → Value) (Ss : Nat → Nat → Prop), v = ptrV B ∧ Blk w B 73 (ndCells (a : Int) (vs 0) (vs 1) (vs 2) s (.slice none 0 0)) ∧
      (∀ k, k < 3 → TrAt w (b k) (vs k) (Ss k)) ∧ Sep B Ss ∧ ∀ x, S x ↔ x = B ∨ ∃ k, k < 3 ∧ Ss k x
theorem TrAt.lt {w : World} : ∀ {t : Pt} {v : Value} {S : Nat → Prop}, TrAt w t v S → ∀ x, S x → x < w.heap.size
  | .no, _, _, h, x, hx => absurd hx (h.2 x)
  | .lf c ids, _, _, h, x, hx => by
    obtain ⟨B, u, _, h1, h2⟩ := h
    rcases (h2 x).1 hx with rfl | hx
    · exact h1.1.lt
    · exact (h1.2.lt x hx).2
  | .nd a s b, _, _, h, x, hx => by
    obtain ⟨B, vs, Ss, _, h1, h2, _, h3⟩ := h
    rcases (h3 x).1 hx with rfl | ⟨k, hk, hx⟩
    · exact h1.lt
    · exact TrAt.lt (h2 k hk) x hx
theorem LfAt.ch {Q : Nat → Prop} {w w' : World} {B : Nat} {c : Cb} {ids : List Int} {u : Value} (h : LfAt w B c ids u) (hc : Ch Q w w') (hB : ¬ Q B) (hu : ∀ g, u.ownBlock = some g → ¬ Q g) : LfAt w' B c ids u :=
  ⟨hc.blk h.1 hB, hc.own h.2 hu⟩
theorem TrAt.ch {Q : Nat → Prop} {w w' : World} (hc : Ch Q w w') : ∀ {t : Pt} {v : Value} {S : Nat → Prop}, TrAt w t v S → (∀ x, S x → ¬ Q x) → TrAt w' t v S
  | .no, _, _, h, _ => h
  | .lf c ids, _, _, h, hS => by
    obtain ⟨B, u, hv, h1, h2⟩ := h
    exact ⟨B, u, hv, h1.ch hc (hS B ((h2 B).2 (.inl rfl))) (fun g hg => hS g ((h2 g).2 (.inr hg))), h2⟩
  | .nd a s b, _, _, h, hS => by
    obtain ⟨B, vs, Ss, hv, h1, h2, h3, h4⟩ := h
    exact ⟨B, vs, Ss, hv, hc.blk h1 (hS B ((h4 B).2 (.inl rfl))), fun k hk => TrAt.ch hc (h2 k hk) (fun x hx => hS x ((h4 x).2 (.inr ⟨k, hk, hx⟩))), h3, h4⟩
theorem TrAt.on {w w' : World} {t : Pt} {v : Value} {S : Nat → Prop} (h : TrAt w t v S) (hb : Below w.heap.size w w') : TrAt w' t v S := h.ch (Q := fun _ => False) (Ch.of_below hb) (fun _ _ h => h)
/-- A tree that is there has a block at which it starts, with its cells. -/
theorem TrAt.top {w : World} {t : Pt} {v : Value} {S : Nat → Prop} (h : TrAt w t v S) (ht : t.cnt = 1) : ∃ (B : Nat) (v0 v1 v2 u : Value), v = ptrV B ∧ Blk w B 73 (ndCells ((t.lv : Int) - 1) v0 v1 v2 t.sam u) ∧ S B := by
  cases t with
  | no => cases ht
  | lf c ids =>
    obtain ⟨B, u, hv, h1, h2⟩ := h
    exact ⟨B, .pointer none, .pointer none, .pointer none, u, hv, h1.1, (h2 B).2 (.inl rfl)⟩
  | nd a s b =>
    obtain ⟨B, vs, Ss, hv, h1, h2, _, h3⟩ := h
    refine ⟨B, vs 0, vs 1, vs 2, .slice none 0 0, hv, ?_, (h3 B).2 (.inl rfl)⟩
    have e : (((Pt.nd a s b).lv : Nat) : Int) - 1 = (a : Int) := by show ((a + 1 : Nat) : Int) - 1 = (a : Int); omega
    rw [e]
    exact h1
theorem TrAt.nil {w : World} {t : Pt} {v : Value} {S : Nat → Prop} (h : TrAt w t v S) (ht : t.cnt ≠ 1) : v = .pointer none := by
  rw [Pt.cnt_no ht] at h
  exact h.1
/-- What the tree's blocks may be afterwards: those of S, and new ones. -/
def Nw (w : World) (S S' : Nat → Prop) : Prop := ∀ x, S' x → S x ∨ w.heap.size ≤ x
/-- What a call that puts a number in, or takes one out, hands back. -/
def TreeTo (w : World) (t' : Pt) (S : Nat → Prop) (e : Ending) (w' : World) : Prop := ∃ v' S', e = .returned v' ∧ TrAt w' t' v' S' ∧ Nw w S S' ∧ Ch S w w'
def updV (vs : Nat → Value) (k : Nat) (v : Value) : Nat → Value := fun j => if j = k then v else vs j
def updS (Ss : Nat → Nat → Prop) (k : Nat) (S : Nat → Prop) : Nat → Nat → Prop := fun j => if j = k then S else Ss j
theorem nd_set {a : Int} {vs : Nat → Value} {c : Cb} {u v : Value} {k : Nat} (hk : k < 3) : (ndCells a (vs 0) (vs 1) (vs 2) c u).setIfInBounds (1 + k) v = ndCells a (updV vs k v 0) (updV vs k v 1) (updV vs k v 2) c u := by
  unfold ndCells updV
  match k, hk with
  | 0, _ => rfl
  | 1, _ => rfl
  | 2, _ => rfl
theorem nd_get {a : Int} {vs : Nat → Value} {c : Cb} {u : Value} {k : Nat} (hk : k < 3) : (ndCells a (vs 0) (vs 1) (vs 2) c u)[1 + k]? = some (vs k) := by
  unfold ndCells
  match k, hk with
  | 0, _ => rfl
  | 1, _ => rfl
  | 2, _ => rfl
theorem Sep.upd {w : World} {B : Nat} {Ss : Nat → Nat → Prop} {k : Nat} {S' : Nat → Prop} (h : Sep B Ss) (hk : k < 3) (hB : B < w.heap.size) (hl : ∀ j, j < 3 → ∀ x, Ss j x → x < w.heap.size) (hn : Nw w (Ss k) S') : Sep B (updS Ss k S') := by
  constructor
  · intro j hj hx
    unfold updS at hx
    by_cases e : j = k
    · rw [if_pos e] at hx
      rcases hn B hx with h1 | h1
      · exact h.out k hk h1
      · omega
    · rw [if_neg e] at hx
      exact h.out j hj hx
  · intro i j hi hj hij x hx hx2
    unfold updS at hx hx2
    by_cases e : i = k
    · rw [if_pos e] at hx
      by_cases e2 : j = k
      · omega
      · rw [if_neg e2] at hx2
        rcases hn x hx with h1 | h1
        · exact h.dis k j hk hj (by omega) x h1 hx2
        · have := hl j hj x hx2; omega
    · rw [if_neg e] at hx
      by_cases e2 : j = k
      · rw [if_pos e2] at hx2
        rcases hn x hx2 with h1 | h1
        · exact h.dis k i hk hi (by omega) x h1 hx
        · have := hl i hi x hx; omega
      · rw [if_neg e2] at hx2
        exact h.dis i j hi hj hij x hx hx2
/-- A branch is another tree now, and the node's block says so. -/
theorem TrAt.branch {w w1 w2 : World} {a : Nat} {s : Cb} {b : Nat → Pt} {B k : Nat} {vs : Nat → Value} {Ss : Nat → Nat → Prop} {S S' : Nat → Prop} {t' : Pt} {v' : Value} (hk : k < 3) (hB : Blk w B 73 (ndCells (a : Int) (vs 0) (vs 1) (vs 2) s (.slice none 0 0)))
    (ht : ∀ k, k < 3 → TrAt w (b k) (vs k) (Ss k)) (hs : Sep B Ss) (hS : ∀ x, S x ↔ x = B ∨ ∃ k, k < 3 ∧ Ss k x) (h' : TrAt w1 t' v' S') (hn : Nw w (Ss k) S') (hc : Ch (Ss k) w w1) (hw : w2 = w1.setCell ⟨B, 1 + k, none⟩ v') :
    (∀ j, j < 3 → TrAt w2 (upd b k t' j) (updV vs k v' j) (updS Ss k S' j)) ∧ Sep B (updS Ss k S') ∧ Blk w2 B 73 (ndCells (a : Int) (updV vs k v' 0) (updV vs k v' 1) (updV vs k v' 2) s (.slice none 0 0)) ∧ (∀ x, (x = B ∨ ∃ j, j < 3 ∧ updS Ss k S' j x) → S x ∨ w.heap.size ≤ x) ∧ Ch S w w2 := by
  subst hw
  have hs2 := hs.upd hk hB.lt (fun j hj => (ht j hj).lt) hn
  have hset : Ch (· = B) w1 (w1.setCell ⟨B, 1 + k, none⟩ v') := Ch.set w1 ⟨B, 1 + k, none⟩ v'
  refine ⟨fun j hj => ?_, hs2, ?_, fun x hx => ?_, ?_⟩
  · unfold upd updV updS
    by_cases e : j = k
    · rw [if_pos e, if_pos e, if_pos e]
      refine h'.ch hset fun x hx e2 => ?_
      rcases hn x hx with h1 | h1
      · exact hs.out k hk (e2 ▸ h1)
      · have := hB.lt; omega
    · rw [if_neg e, if_neg e, if_neg e]
      exact ((ht j hj).ch hc fun x hx => hs.dis j k hj hk e x hx).ch hset fun x hx e2 => hs.out j hj (e2 ▸ hx)
  · rw [← nd_set hk]
    exact (hc.blk hB (hs.out k hk)).set (1 + k) v'
  · rcases hx with rfl | ⟨j, hj, hx⟩
    · exact .inl ((hS x).2 (.inl rfl))
    · unfold updS at hx
      by_cases e : j = k
      · rw [if_pos e] at hx
        exact (hn x hx).imp_left fun h1 => (hS x).2 (.inr ⟨k, hk, h1⟩)
      · rw [if_neg e] at hx
        exact .inl ((hS x).2 (.inr ⟨j, hj, hx⟩))
  · exact (hc.mono fun x _ hx => (hS x).2 (.inr ⟨k, hk, hx⟩)).trans (hset.mono fun x _ hx => (hS x).2 (.inl hx))
end Go.Proofs.Hd

namespace Go.Proofs.Hd
open Go.RowKit
theorem Cb.bitV (c : Cb) (j : Nat) : hbit c.vh c.vl j = c.V j := rfl
theorem Cb.bitK (c : Cb) (j : Nat) : hbit c.ch c.cl j = c.K j := rfl
/-- The word of the bits at which two cubes differ. -/
def apH (a b : Cb) : BitVec 64 := (a.vh ^^^ b.vh) ||| (a.ch ^^^ b.ch)
def apL (a b : Cb) : BitVec 64 := (a.vl ^^^ b.vl) ||| (a.cl ^^^ b.cl)
theorem ap_bit (a b : Cb) (j : Nat) : hbit (apH a b) (apL a b) j = dif a b j := by
  unfold apH apL dif
  rw [hbit_or, hbit_xor, hbit_xor]
  show ((a.V j ^^ b.V j) || (a.K j ^^ b.K j)) = _
  cases a.V j <;> cases b.V j <;> cases a.K j <;> cases b.K j <;> rfl
theorem prt_hi {a b : Cb} (h : apH a b ≠ 0#64) : prt a b = 64 + Lib.bitLen (apH a b).toNat := by
  obtain ⟨h1, h2, h3, h4⟩ := bitLen_top _ h
  refine topB_eq (by omega) (fun j hj hj2 => ?_) (fun p hp => ?_)
  · rw [← ap_bit]
    unfold hbit
    rw [if_neg (by omega)]
    exact h4 _ (by omega)
  · rw [← ap_bit]
    unfold hbit
    rw [if_neg (by omega)]
    have e : p - 64 = Lib.bitLen (apH a b).toNat - 1 := by omega
    rw [e]; exact h3
theorem prt_lo {a b : Cb} (h : apH a b = 0#64) : prt a b = Lib.bitLen (apL a b).toNat := by
  have hl := Lib.bitLen_le (apL a b).toNat 64 (Nat.le_refl _) (apL a b).isLt
  have hz : ∀ j, 64 ≤ j → dif a b j = false := fun j hj => by
    rw [← ap_bit]
    unfold hbit
    rw [if_neg (by omega), h]
    simp
  by_cases h0 : apL a b = 0#64
  · have e0 : Lib.bitLen (apL a b).toNat = 0 := by rw [h0]; rfl
    rw [e0]
    refine topB_eq (by omega) (fun j hj hj2 => ?_) (fun p hp => by omega)
    rw [← ap_bit, h, h0]
    unfold hbit
    split <;> simp
  · obtain ⟨h1, h2, h3, h4⟩ := bitLen_top _ h0
    refine topB_eq (by omega) (fun j hj hj2 => ?_) (fun p hp => ?_)
    · rcases Nat.lt_or_ge j 64 with h5 | h5
      · rw [← ap_bit]
        unfold hbit
        rw [if_pos h5]
        exact h4 _ hj
      · exact hz j h5
    · rw [← ap_bit]
      unfold hbit
      rw [if_pos (by omega)]
      have e : p = Lib.bitLen (apL a b).toNat - 1 := by omega
      rw [e]; exact h3
end Go.Proofs.Hd
namespace Go.Proofs
open Go.Shelf Go.RowKit Go.Proofs.Hd
attribute [local go_sem] uv_nonneg
def lnRen : Go.Shelf.Ren := ⟨fun | 129 => 43 | n => n, fun | 53 => 23 | 3 => 3 | 4 => 4 | 46 => 75 | 5 => 5 | 9 => 9 | n => n, fun | n => n⟩
theorem lnLays : Go.Proofs.Lays.n129 Try.prog lnRen where
  mixed := by kernel_rfl
  f129 := Try.func43.trans (congrArg some (by kernel_rfl))
  t3 := Try.underlying3
  a3 := Try.isAgg3
  z3 := Try.sizeOf3
  v3 := Try.zeroValue3
  t4 := Try.underlying4
  a4 := Try.isAgg4
  z4 := Try.sizeOf4
  v4 := Try.zeroValue4
  t5 := Try.underlying5
  a5 := Try.isAgg5
  z5 := Try.sizeOf5
  v5 := Try.zeroValue5
  t9 := Try.underlying9
  a9 := Try.isAgg9
  z9 := Try.sizeOf9
  v9 := Try.zeroValue9
  t46 := Try.underlying75
  a46 := Try.isAgg75
  z46 := Try.sizeOf75
  v46 := Try.zeroValue75
  t53 := Try.underlying23
  a53 := Try.isAgg23
  z53 := Try.sizeOf23
  v53 := Try.zeroValue23
theorem len64_c (a : BitVec 64) (n : Nat) (h : Lib.bitLen a.toNat = n) (w : World) : Calls Try.prog 43 #[.int .u64 (uv a)] w fun e w' => e = .returned (.int .i64 (n : Int)) ∧ w = w' := by
  subst h
  have h := Any.bits_Len64 lnLays (uv a) w (uv_nonneg a) (by have := uv_lt a; omega)
  have e1 : (uv a).toNat = a.toNat := by unfold uv; omega
  rw [e1] at h
  exact h.mono fun e w' h => ⟨h.1, h.2.symm⟩
/-- A cube's letter at a bit. -/
theorem lett_c (c : Cb) (j : Nat) (hj : j < 128) (r : Int) (hr : ((lt3 c j : Nat) : Int) = r) (w : World) : Calls Try.prog 32 #[.agg #[.int .u64 (uv c.vh), .int .u64 (uv c.vl), .int .u64 (uv c.ch), .int .u64 (uv c.cl)], .int .i64 j] w fun e w' => e = .returned (.int .i64 r) ∧ Below w.heap.size w w' := by
  subst hr
  obtain ⟨k, hk⟩ : ∃ k, c.K j = k := ⟨_, rfl⟩
  obtain ⟨v, hv⟩ : ∃ v, c.V j = v := ⟨_, rfl⟩
  have c1 := bit_in c.ch c.cl j
  have c2 := bit_in c.vh c.vl j
  unfold lt3
  rw [hk, hv]
  rw [show hbit c.ch c.cl j = c.K j from rfl, hk] at c1
  rw [show hbit c.vh c.vl j = c.V j from rfl, hv] at c2
  have S0 := below1 w (.cells #[.int .u64 (uv c.vh), .int .u64 (uv c.vl), .int .u64 (uv c.ch), .int .u64 (uv c.cl)] 27)
  have S1 := Lib.hid (Blk.new w 27 #[.int .u64 (uv c.vh), .int .u64 (uv c.vl), .int .u64 (uv c.ch), .int .u64 (uv c.cl)])
  generalize hw1 : w.alloc (.cells #[.int .u64 (uv c.vh), .int .u64 (uv c.vl), .int .u64 (uv c.ch), .int .u64 (uv c.cl)] 27) = w1 at S0 S1
  have D2 := (S1.out.cell 2).trans rfl
  have D3 := (S1.out.cell 3).trans rfl
  simp only [List.getElem?_toArray, List.getElem?_cons_succ, List.getElem?_cons_zero] at D2 D3
  have HJ := Lib.hid hj
  have HS := Lib.hid S0
  clear hk hv S0 hj
  have C1 := Lib.hid c1
  have C2 := Lib.hid c2
  clear c1 c2
  cases k with
  | false =>
    go_enter Try.func32, Try.ntmps32
    go_upto_region 1 with (fail)
    clear hw1
    go_wp2_with fail
    refine (C1.out w1 HJ.out).mono ?_
    rintro e w2 ⟨rfl, hb⟩
    have HB := Lib.hid hb
    clear hb D2 D3
    go_wp2
    go_ret
    exact ⟨rfl, HS.out.trans (HB.out.mono HS.out.size)⟩
  | true =>
    cases v with
    | false =>
      go_enter Try.func32, Try.ntmps32
      go_upto_region 1 with (fail)
      clear hw1
      go_wp2_with fail
      refine (C1.out w1 HJ.out).mono ?_
      rintro e w2 ⟨rfl, hb⟩
      have D0 := ((S1.out.on hb).cell 0).trans rfl
      have D1 := ((S1.out.on hb).cell 1).trans rfl
      simp only [List.getElem?_toArray, List.getElem?_cons_succ, List.getElem?_cons_zero] at D0 D1
      have HB := Lib.hid hb
      clear hb D2 D3
      go_wp2_with fail
      refine (C2.out w2 HJ.out).mono ?_
      rintro e w3 ⟨rfl, hb2⟩
      have HB2 := Lib.hid hb2
      clear hb2 D0 D1
      go_wp2
      go_ret
      exact ⟨rfl, (HS.out.trans (HB.out.mono HS.out.size)).trans (HB2.out.mono (by have := HS.out.size; have := HB.out.size; omega))⟩
    | true =>
      go_enter Try.func32, Try.ntmps32
      go_upto_region 1 with (fail)
      clear hw1
      go_wp2_with fail
      refine (C1.out w1 HJ.out).mono ?_
      rintro e w2 ⟨rfl, hb⟩
      have D0 := ((S1.out.on hb).cell 0).trans rfl
      have D1 := ((S1.out.on hb).cell 1).trans rfl
      simp only [List.getElem?_toArray, List.getElem?_cons_succ, List.getElem?_cons_zero] at D0 D1
      have HB := Lib.hid hb
      clear hb D2 D3
      go_wp2_with fail
      refine (C2.out w2 HJ.out).mono ?_
      rintro e w3 ⟨rfl, hb2⟩
      have HB2 := Lib.hid hb2
      clear hb2 D0 D1
      go_wp2
      go_ret
      exact ⟨rfl, (HS.out.trans (HB.out.mono HS.out.size)).trans (HB2.out.mono (by have := HS.out.size; have := HB.out.size; omega))⟩
end Go.Proofs

namespace Go.Proofs.Hd
open Go.RowKit
/-- An array of 128 bools. -/
def bl (f : Nat → Bool) : List Value := (List.range 128).map fun i => Value.bool (f i)
theorem bl_len (f : Nat → Bool) : (bl f).length = 128 := by simp [bl]
theorem bl_size (f : Nat → Bool) : (bl f).toArray.size = 128 := by simp [bl]
theorem bl_get (f : Nat → Bool) (k : Nat) (h : k < 128) : (bl f)[k]? = some (.bool (f k)) := by simp [bl, h]
theorem bl_geta (f : Nat → Bool) (k : Nat) (h : k < 128) : (bl f).toArray[k]? = some (.bool (f k)) := by simp [bl, h]
theorem bl_one (f : Nat → Bool) : ∀ v ∈ bl f, v.oneCell' = true := by
  intro v hv; simp only [bl, List.mem_map] at hv; obtain ⟨i, _, rfl⟩ := hv; rfl
theorem bl_all (f : Nat → Bool) : (bl f).toArray.all (·.oneCell') = true := all_oneCell_toArray (bl_one f)
theorem bl_congr {f g : Nat → Bool} (h : ∀ j, j < 128 → f j = g j) : bl f = bl g := by
  unfold bl; apply List.map_congr_left; intro i hi; rw [h i (by simpa using hi)]
theorem bl_set (f : Nat → Bool) (k : Nat) (b : Bool) : (bl f).set k (.bool b) = bl (fun j => if j = k then b else f j) := by
  apply List.ext_getElem?
  intro i
  rw [List.getElem?_set]
  by_cases hi : i < 128
  · by_cases e : k = i
    · subst e; simp [bl, hi]
    · simp [bl, hi, e, show ¬ i = k from fun h => e h.symm]
  · have : (bl (fun j => if j = k then b else f j))[i]? = none := by simp [bl]; omega
    rw [this]
    by_cases e : k = i
    · subst e; simp [bl, hi]
    · simp [e, bl]; omega
/-- The first k of f, the others false. -/
def upTo (f : Nat → Bool) (k : Nat) : Nat → Bool := fun j => decide (j < k) && f j
theorem upTo_zero (f : Nat → Bool) : bl (upTo f 0) = bl (fun _ => false) := bl_congr fun j _ => by simp [upTo]
theorem upTo_all (f : Nat → Bool) : bl (upTo f 128) = bl f := bl_congr fun j hj => by simp [upTo, hj]
theorem upTo_succ (f : Nat → Bool) (k : Nat) : (bl (upTo f k)).toArray.setIfInBounds k (.bool (f k)) = (bl (upTo f (k + 1))).toArray := by
  rw [List.setIfInBounds_toArray, bl_set]
  congr 1
  apply bl_congr
  intro j _
  unfold upTo
  by_cases e : j = k
  · subst e; simp
  · have : (j < k + 1) ↔ (j < k) := by omega
    simp [e, this]
theorem upTo_set (f : Nat → Bool) (k : Nat) (b : Bool) (h : b = f k) : (bl (upTo f k)).set k (.bool b) = bl (upTo f (k + 1)) := by
  subst h
  rw [bl_set]
  apply bl_congr
  intro j _
  unfold upTo
  by_cases e : j = k
  · subst e; simp
  · have : (j < k + 1) ↔ (j < k) := by omega
    simp [e, this]
theorem uv_odd (x : BitVec 64) : ((uv x).tmod 2 == 1) = x.getLsbD 0 := by
  rw [Int.tmod_eq_emod_of_nonneg (uv_nonneg x)]
  unfold uv
  rw [BitVec.getLsbD, Nat.testBit_zero, Bool.eq_iff_iff]
  simp only [beq_iff_eq, decide_eq_true_eq]
  omega
theorem bit_lo (h l : BitVec 64) (k : Nat) (hk : k < 64) : ((uv (l >>> k)).tmod 2 == 1) = hbit h l k := by
  rw [uv_odd, BitVec.getLsbD_ushiftRight, hbit, if_pos hk, Nat.add_zero]
theorem bit_hi (h l : BitVec 64) (k : Nat) (hk : ¬ k < 64) : ((uv (h >>> (k - 64))).tmod 2 == 1) = hbit h l k := by
  rw [uv_odd, BitVec.getLsbD_ushiftRight, hbit, if_neg hk, Nat.add_zero]
theorem Below.setRow {B : Nat} {a w : World} (h : Below B a w) {g : Nat} (hg : B ≤ g) (cs : Array Value) : Below B a (w.setRow g cs) :=
  h.trans ⟨rfl, rfl, rfl, by simp, fun k hk => setRow_other _ _ _ _ (by omega)⟩
/-- A whole array of bools lies at the head of block b. -/
theorem range_of_alloc (w : World) (f : Nat → Bool) (t : TypeId) : (w.alloc (.cells (bl f).toArray t)).rangeAt w.heap.size 0 (bl f) := by
  intro j v hv
  rw [Nat.zero_add, World.cell?_alloc_new]
  simpa using hv
theorem Below.setCells {B b : Nat} {a : World} : ∀ (vs : List Value) (o : Nat) (w : World), Below B a w → B ≤ b → Below B a (w.setCells b o vs)
  | [], _, _, h, _ => h
  | v :: r, o, _, h, hb => Below.setCells r (o + 1) _ (h.setCell (p := ⟨b, o, none⟩) hb v) hb
theorem range_below {B b o : Nat} {cs : List Value} {w w' : World} (hb : Below B w w') (h : w.rangeAt b o cs) (hl : b < B) : w'.rangeAt b o cs :=
  fun j v hv => (hb.cell (p := ⟨b, o + j, none⟩) hl).trans (h j v hv)
theorem there_below {B b o n : Nat} {w w' : World} (hb : Below B w w') (h : w.there b o n) (hl : b < B) : w'.there b o n := by
  intro j hj
  have e1 := hb.cell (p := ⟨b, o + j, none⟩) hl
  have e2 := hb.frozen (p := ⟨b, o + j, none⟩) hl
  rw [e1, e2]; exact h j hj
theorem there_of_alloc (w : World) (f : Nat → Bool) (t : TypeId) : (w.alloc (.cells (bl f).toArray t)).there w.heap.size 0 128 := by
  intro j hj
  rw [Nat.zero_add, World.cell?_alloc_new]
  exact ⟨by simp [bl, hj], by simp⟩
attribute [irreducible] bl
end Go.Proofs.Hd

namespace Go.Proofs.Hd
open Go.RowKit
/-- Block b, at or behind block B, holds the cells cs. -/
def Nb (B : Nat) (w : World) (b : Nat) (T : TypeId) (cs : Array Value) : Prop := Blk w b T cs ∧ B ≤ b
theorem Nb.on {B b : Nat} {W w' : World} {T : TypeId} {cs : Array Value} (h : Nb B W b T cs) (hb : Below W.heap.size W w') : Nb B w' b T cs := ⟨h.1.on hb, h.2⟩
theorem Nb.top {B : Nat} {T : TypeId} {cs : Array Value} (X : World) (h : B ≤ X.heap.size) : Nb B (X.alloc (.cells cs T)) X.heap.size T cs := ⟨Blk.new X T cs, h⟩
theorem Nb.ne {B b : Nat} {W : World} {T : TypeId} {cs : Array Value} (h : Nb B W b T cs) : b ≠ W.heap.size := Nat.ne_of_lt h.1.lt
theorem Nb.there {B b : Nat} {W : World} {T : TypeId} {cs : Array Value} (h : Nb B W b T cs) : W.there b 0 cs.size := fun j hj => by
  rw [Nat.zero_add, h.1.cell j, h.1.free j]
  simp [hj]
theorem Blk.farC {g b : Nat} {t : TypeId} {cs : Array Value} (hne : b ≠ g) : ∀ (vs : List Value) (o : Nat) (w : World), Blk w g t cs → Blk (w.setCells b o vs) g t cs
  | [], _, _, h => h
  | v :: vs, o, _, h => Blk.farC hne vs (o + 1) _ (h.far (p := ⟨b, o, none⟩) (fun e => hne e.symm) v)
theorem Nb.far {B b c : Nat} {W : World} {T : TypeId} {cs : Array Value} (h : Nb B W b T cs) (hne : c ≠ b) (vs : List Value) : Nb B (W.setCells c 0 vs) b T cs := ⟨Blk.farC hne vs 0 W h.1, h.2⟩
/-- Cells from place o on are set, one by one. -/
def setL (cs : Array Value) : Nat → List Value → Array Value
  | _, [] => cs
  | o, v :: vs => setL (cs.setIfInBounds o v) (o + 1) vs
theorem Blk.putC {b : Nat} {t : TypeId} : ∀ (vs : List Value) (o : Nat) (w : World) (cs : Array Value), Blk w b t cs → Blk (w.setCells b o vs) b t (setL cs o vs)
  | [], _, _, _, h => h
  | v :: vs, o, _, _, h => Blk.putC vs (o + 1) _ _ (h.set o v)
theorem setL_size : ∀ (vs : List Value) (o : Nat) (cs : Array Value), (setL cs o vs).size = cs.size
  | [], _, _ => rfl
  | v :: vs, o, cs => by rw [setL, setL_size vs]; simp
theorem setL_get : ∀ (vs : List Value) (o : Nat) (cs : Array Value) (j : Nat), (setL cs o vs)[j]? = if o ≤ j ∧ j < o + vs.length ∧ j < cs.size then vs[j - o]? else cs[j]?
  | [], o, cs, j => by rw [setL, if_neg (by simp; omega)]
  | v :: vs, o, cs, j => by
    rw [setL, setL_get vs]
    simp only [Array.size_setIfInBounds, List.length_cons]
    by_cases h1 : j = o
    · subst h1
      rw [if_neg (by omega)]
      by_cases h2 : j < cs.size
      · rw [if_pos (by omega)]
        simp [h2]
      · rw [if_neg (by omega)]
        simp [h2]
    · by_cases h2 : o + 1 ≤ j ∧ j < o + 1 + vs.length ∧ j < cs.size
      · rw [if_pos h2, if_pos (by omega), show j - o = (j - (o + 1)) + 1 by omega, List.getElem?_cons_succ]
      · rw [if_neg h2, if_neg (by omega), Array.getElem?_setIfInBounds, if_neg (fun e => h1 e.symm)]
theorem setL_all (vs : List Value) (cs : Array Value) (h : vs.length = cs.size) : setL cs 0 vs = vs.toArray := by
  apply Array.ext_getElem?
  intro j
  rw [setL_get]
  by_cases hj : j < cs.size
  · rw [if_pos (by omega)]; simp
  · rw [if_neg (by omega), Array.getElem?_eq_none (by omega), Array.getElem?_eq_none (by simp; omega)]
theorem Nb.put {B b : Nat} {W : World} {T : TypeId} {cs : Array Value} (h : Nb B W b T cs) (vs : List Value) (hl : vs.length = cs.size) : Nb B (W.setCells b 0 vs) b T vs.toArray := by
  refine ⟨?_, h.2⟩
  rw [← setL_all vs cs hl]
  exact Blk.putC vs 0 W cs h.1
end Go.Proofs.Hd
