/-
  Plain mathematics: the cubes of a difference: each lies within the first cube, and each header of the first cube is in just one of them or in the intersection. No conditions.
-/
import Derived.Test.YtlhbkiobgppciaaCuH
import Derived.Test.YtlhbkiobgppciaaLen
namespace Go.Proofs.Hd
open Go.RowKit
def Cb.V (c : Cb) (j : Nat) : Bool := hbit c.vh c.vl j
def Cb.K (c : Cb) (j : Nat) : Bool := hbit c.ch c.cl j
def Cb.snd (c : Cb) : Bool := sndB c.vh c.vl c.ch c.cl
def Cb.has (c : Cb) (h l : BitVec 64) : Bool := hasB c.vh c.vl c.ch c.cl h l
def Cb.agr (a b : Cb) : Bool := agrB a.vh a.vl a.ch a.cl b.vh b.vl b.ch b.cl
def Cb.wit (a b : Cb) : Bool := witB a.vh a.vl a.ch a.cl b.vh b.vl b.ch b.cl
theorem Cb.snd_iff (c : Cb) : c.snd = true ↔ ∀ j, j < 128 → c.V j = true → c.K j = true := snd_bits _ _ _ _
theorem Cb.has_iff (c : Cb) (h l : BitVec 64) : c.has h l = true ↔ ∀ j, j < 128 → (hbit h l j && c.K j) = c.V j := has_bits _ _ _ _ _ _
theorem Cb.agr_iff (a b : Cb) : a.agr b = true ↔ ∀ j, j < 128 → a.K j = true → b.K j = true → a.V j = b.V j := agr_bits _ _ _ _ _ _ _ _
theorem wit_and' (avh avl ach acl bvh bvl bch bcl : BitVec 64) : witB avh avl ach acl bvh bvl bch bcl = true ↔ sndB avh avl ach acl = true ∧ sndB bvh bvl bch bcl = true ∧ inB ach acl bch bcl = true ∧ agrB avh avl ach acl bvh bvl bch bcl = true := by
  rw [show witB avh avl ach acl bvh bvl bch bcl = (sndB avh avl ach acl && (sndB bvh bvl bch bcl && (inB ach acl bch bcl && agrB avh avl ach acl bvh bvl bch bcl))) by unfold witB; rfl]
  simp only [Bool.and_eq_true]
theorem Cb.wit_iff (a b : Cb) : a.wit b = true ↔ a.snd = true ∧ b.snd = true ∧ (∀ j, j < 128 → b.K j = true → a.K j = true) ∧ (∀ j, j < 128 → a.K j = true → b.K j = true → a.V j = b.V j) := by
  unfold Cb.wit
  rw [wit_and', in_bits, agr_bits]
  exact Iff.rfl
theorem wOther_V (a b : Cb) (k j : Nat) (hk : k < 128) (hj : j < 128) : (wOther a b k).V j = (a.V j || ((b.V j && decide (j = k)) ^^ decide (j = k))) := by
  unfold Cb.V wOther; simp only [hbit_or, hbit_xor, hbit_and, hbit_one k j hk hj]
theorem wOther_K (a b : Cb) (k j : Nat) (hk : k < 128) (hj : j < 128) : (wOther a b k).K j = (a.K j || decide (j = k)) := by
  unfold Cb.K wOther; simp only [hbit_or, hbit_one k j hk hj]
theorem wSame_V (a b : Cb) (k j : Nat) (hk : k < 128) (hj : j < 128) : (wSame a b k).V j = (a.V j || (b.V j && decide (j = k))) := by
  unfold Cb.V wSame; simp only [hbit_or, hbit_and, hbit_one k j hk hj]
theorem wSame_K (a b : Cb) (k j : Nat) (hk : k < 128) (hj : j < 128) : (wSame a b k).K j = (a.K j || decide (j = k)) := by
  unfold Cb.K wSame; simp only [hbit_or, hbit_one k j hk hj]
theorem wSame_snd {a b : Cb} {k : Nat} (hk : k < 128) (ha : a.snd = true) : (wSame a b k).snd = true := by
  rw [Cb.snd_iff] at *
  intro j hj h
  rw [wSame_V _ _ _ _ hk hj] at h
  rw [wSame_K _ _ _ _ hk hj]
  have := ha j hj
  cases x1 : a.V j <;> cases x2 : a.K j <;> by_cases x3 : j = k <;> simp_all
theorem wOther_snd {a b : Cb} {k : Nat} (hk : k < 128) (ha : a.snd = true) : (wOther a b k).snd = true := by
  rw [Cb.snd_iff] at *
  intro j hj h
  rw [wOther_V _ _ _ _ hk hj] at h
  rw [wOther_K _ _ _ _ hk hj]
  have := ha j hj
  cases x1 : a.V j <;> cases x2 : a.K j <;> by_cases x3 : j = k <;> simp_all
theorem open_V {a : Cb} {k : Nat} (hk : k < 128) (ha : a.snd = true) (hn : a.K k = false) : a.V k = false := by
  rw [Cb.snd_iff] at ha
  cases h : a.V k with
  | false => rfl
  | true => rw [ha k hk h] at hn; cases hn
theorem wSame_has {a b : Cb} {k : Nat} (h l : BitVec 64) (hk : k < 128) (ha : a.snd = true) (hn : a.K k = false) :
    (wSame a b k).has h l = (a.has h l && (hbit h l k == b.V k)) := by
  have hv := open_V hk ha hn
  rw [Bool.eq_iff_iff, Bool.and_eq_true, Cb.has_iff, Cb.has_iff, beq_iff_eq]
  constructor
  · intro H
    refine ⟨fun j hj => ?_, ?_⟩
    · have := H j hj
      rw [wSame_V _ _ _ _ hk hj, wSame_K _ _ _ _ hk hj] at this
      by_cases e : j = k
      · subst e; rw [hv, hn]; simp
      · simpa [e] using this
    · have := H k hk
      rw [wSame_V _ _ _ _ hk hk, wSame_K _ _ _ _ hk hk, hv, hn] at this
      simpa using this
  · rintro ⟨H, e⟩ j hj
    rw [wSame_V _ _ _ _ hk hj, wSame_K _ _ _ _ hk hj]
    by_cases c : j = k
    · subst c; rw [hv, hn, e]; simp
    · have := H j hj; simpa [c] using this
theorem wOther_has {a b : Cb} {k : Nat} (h l : BitVec 64) (hk : k < 128) (ha : a.snd = true) (hn : a.K k = false) :
    (wOther a b k).has h l = (a.has h l && !(hbit h l k == b.V k)) := by
  have hv := open_V hk ha hn
  rw [Bool.eq_iff_iff, Bool.and_eq_true, Cb.has_iff, Cb.has_iff]
  constructor
  · intro H
    refine ⟨fun j hj => ?_, ?_⟩
    · have := H j hj
      rw [wOther_V _ _ _ _ hk hj, wOther_K _ _ _ _ hk hj] at this
      by_cases e : j = k
      · subst e; rw [hv, hn]; simp
      · simpa [e] using this
    · have := H k hk
      rw [wOther_V _ _ _ _ hk hk, wOther_K _ _ _ _ hk hk, hv, hn] at this
      cases x : hbit h l k <;> cases y : b.V k <;> simp_all
  · rintro ⟨H, e⟩ j hj
    rw [wOther_V _ _ _ _ hk hj, wOther_K _ _ _ _ hk hj]
    by_cases c : j = k
    · subst c; rw [hv, hn]; cases x : hbit h l j <;> cases y : b.V j <;> simp_all
    · have := H j hj; simpa [c] using this
/-- Numbers below 128, each once, for which a does not care. -/
def Free (a : Cb) : List Nat → Prop
  | [] => True
  | k :: ks => k < 128 ∧ a.K k = false ∧ k ∉ ks ∧ Free a ks
theorem Free.same {a b : Cb} {k : Nat} {ks : List Nat} (hk : k < 128) (h : Free a ks) (hn : k ∉ ks) : Free (wSame a b k) ks := by
  induction ks with
  | nil => trivial
  | cons m ks ih =>
    obtain ⟨h1, h2, h3, h4⟩ := h
    have e : m ≠ k := fun e => hn (by simp [e])
    exact ⟨h1, by rw [wSame_K _ _ _ _ hk h1, h2]; simp [e], h3, ih h4 (fun h => hn (by simp [h]))⟩
theorem bitsDown_mem {f : Nat → Bool} {n k : Nat} : k ∈ bitsDown f n ↔ k < n ∧ f k = true := by
  induction n with
  | zero => simp [bitsDown]
  | succ n ih =>
    rw [bitsDown]
    by_cases c : f n = true
    · rw [if_pos c, List.mem_cons, ih]
      constructor
      · rintro (rfl | ⟨h1, h2⟩)
        · exact ⟨by omega, c⟩
        · exact ⟨by omega, h2⟩
      · rintro ⟨h1, h2⟩
        by_cases e : k = n
        · exact .inl e
        · exact .inr ⟨by omega, h2⟩
    · rw [if_neg c, ih]
      constructor
      · rintro ⟨h1, h2⟩; exact ⟨by omega, h2⟩
      · rintro ⟨h1, h2⟩
        have e : k ≠ n := fun e => c (by rw [← e]; exact h2)
        exact ⟨by omega, h2⟩
theorem free_down (a : Cb) (f : Nat → Bool) (n : Nat) (hn : n ≤ 128) (hf : ∀ j, j < n → f j = true → a.K j = false) : Free a (bitsDown f n) := by
  induction n with
  | zero => trivial
  | succ n ih =>
    rw [bitsDown]
    by_cases c : f n = true
    · rw [if_pos c]
      exact ⟨by omega, hf n (by omega) c, fun h => by have := (bitsDown_mem.1 h).1; omega, ih (by omega) (fun j hj => hf j (by omega))⟩
    · rw [if_neg c]; exact ih (by omega) (fun j hj => hf j (by omega))
theorem open_iff (a b : Cb) (k : Nat) : k ∈ openBits a b ↔ k < 128 ∧ b.K k = true ∧ a.K k = false := by
  unfold openBits
  rw [bitsDown_mem]
  constructor
  · rintro ⟨h1, h2⟩
    rw [hbit_andNot _ _ _ _ _ h1] at h2
    refine ⟨h1, ?_⟩
    unfold Cb.K
    cases x : hbit b.ch b.cl k <;> cases y : hbit a.ch a.cl k <;> simp_all
  · rintro ⟨h1, h2, h3⟩
    refine ⟨h1, ?_⟩
    rw [hbit_andNot _ _ _ _ _ h1]
    unfold Cb.K at h2 h3
    rw [h2, h3]; rfl
theorem open_free (a b : Cb) : Free a (openBits a b) := by
  unfold openBits
  refine free_down a _ 128 (Nat.le_refl _) fun j hj h => ?_
  exact ((open_iff a b j).1 (bitsDown_mem.2 ⟨hj, h⟩)).2.2
def cntC (h l : BitVec 64) (L : List Cb) : Nat := (L.filter (fun c => c.has h l)).length
theorem cntC_nil (h l : BitVec 64) : cntC h l [] = 0 := rfl
theorem cntC_cons (h l : BitVec 64) (c : Cb) (L : List Cb) : cntC h l (c :: L) = (c.has h l).toNat + cntC h l L := by
  unfold cntC
  rw [List.filter_cons]
  cases x : c.has h l <;> simp [Nat.add_comm]
theorem cntC_snoc (h l : BitVec 64) (c : Cb) (L : List Cb) : cntC h l (L ++ [c]) = cntC h l L + (c.has h l).toNat := by
  unfold cntC
  rw [List.filter_append]
  cases x : c.has h l <;> simp [x]
theorem lessP_count (h l : BitVec 64) (b : Cb) (ks : List Nat) (a : Cb) (ha : a.snd = true) (hf : Free a ks) :
    cntC h l (lessP b a ks) + (a.has h l && ks.all (fun k => hbit h l k == b.V k)).toNat = (a.has h l).toNat := by
  induction ks generalizing a with
  | nil => simp [lessP, cntC_nil]
  | cons k ks ih =>
    obtain ⟨h1, h2, h3, h4⟩ := hf
    rw [lessP, cntC_cons, wOther_has h l h1 ha h2]
    have := ih (wSame a b k) (wSame_snd h1 ha) (h4.same h1 h3)
    rw [wSame_has h l h1 ha h2] at this
    rw [List.all_cons]
    cases x : a.has h l <;> cases y : (hbit h l k == b.V k) <;> simp_all
theorem wit_trans {a b c : Cb} (h1 : a.wit b = true) (h2 : b.wit c = true) : a.wit c = true := by
  rw [Cb.wit_iff] at *
  obtain ⟨p1, p2, p3, p4⟩ := h1
  obtain ⟨q1, q2, q3, q4⟩ := h2
  exact ⟨p1, q2, fun j hj h => p3 j hj (q3 j hj h), fun j hj x y => (p4 j hj x (q3 j hj y)).trans (q4 j hj (q3 j hj y) y)⟩
theorem wSame_wit {a b : Cb} {k : Nat} (hk : k < 128) (ha : a.snd = true) (hn : a.K k = false) : (wSame a b k).wit a = true := by
  rw [Cb.wit_iff]
  refine ⟨wSame_snd hk ha, ha, fun j hj h => by rw [wSame_K _ _ _ _ hk hj, h]; rfl, fun j hj _ h => ?_⟩
  have e : j ≠ k := fun e => by rw [e, hn] at h; cases h
  rw [wSame_V _ _ _ _ hk hj]; simp [e]
theorem wOther_wit {a b : Cb} {k : Nat} (hk : k < 128) (ha : a.snd = true) (hn : a.K k = false) : (wOther a b k).wit a = true := by
  rw [Cb.wit_iff]
  refine ⟨wOther_snd hk ha, ha, fun j hj h => by rw [wOther_K _ _ _ _ hk hj, h]; rfl, fun j hj _ h => ?_⟩
  have e : j ≠ k := fun e => by rw [e, hn] at h; cases h
  rw [wOther_V _ _ _ _ hk hj]; simp [e]
theorem wit_self {a : Cb} (ha : a.snd = true) : a.wit a = true := by
  rw [Cb.wit_iff]; exact ⟨ha, ha, fun _ _ h => h, fun _ _ _ _ => rfl⟩
theorem lessP_wit (b : Cb) (ks : List Nat) (a : Cb) (ha : a.snd = true) (hf : Free a ks) : ∀ c ∈ lessP b a ks, c.wit a = true := by
  induction ks generalizing a with
  | nil => intro c hc; cases hc
  | cons k ks ih =>
    obtain ⟨h1, h2, h3, h4⟩ := hf
    intro c hc
    rw [lessP, List.mem_cons] at hc
    rcases hc with rfl | hc
    · exact wOther_wit h1 ha h2
    · exact wit_trans (ih _ (wSame_snd h1 ha) (h4.same h1 h3) c hc) (wSame_wit h1 ha h2)
/-- The difference of two sound cubes. -/
def lessC (a b : Cb) : List Cb := if a.agr b = true then lessP b a (openBits a b) else [a]
theorem lessC_wit {a b : Cb} (ha : a.snd = true) : ∀ c ∈ lessC a b, c.wit a = true := by
  unfold lessC
  by_cases h : a.agr b = true
  · rw [if_pos h]; exact lessP_wit b _ a ha (open_free a b)
  · rw [if_neg h]; intro c hc; rw [List.mem_singleton] at hc; subst hc; exact wit_self ha
theorem lessC_len {a b : Cb} (ha : a.snd = true) (hb : b.snd = true) : (lessC a b).length = 0 ↔ a.wit b = true := by
  unfold lessC
  rw [Cb.wit_iff]
  by_cases h : a.agr b = true
  · rw [if_pos h, lessP_len, List.length_eq_zero_iff]
    constructor
    · intro e
      refine ⟨ha, hb, fun j hj hk => ?_, (Cb.agr_iff a b).1 h⟩
      cases x : a.K j with
      | true => rfl
      | false => have := (open_iff a b j).2 ⟨hj, hk, x⟩; rw [e] at this; cases this
    · rintro ⟨_, _, h3, _⟩
      cases e : openBits a b with
      | nil => rfl
      | cons k ks =>
        obtain ⟨h1, h2, h4⟩ := (open_iff a b k).1 (by rw [e]; simp)
        rw [h3 k h1 h2] at h4; cases h4
  · rw [if_neg h]
    constructor
    · intro e; simp at e
    · rintro ⟨_, _, _, h4⟩; exact absurd ((Cb.agr_iff a b).2 h4) h
theorem lessC_le (a b : Cb) : (lessC a b).length ≤ 128 := by
  unfold lessC
  by_cases h : a.agr b = true
  · rw [if_pos h, lessP_len]; exact bitsDown_len _ 128
  · rw [if_neg h]; simp
def Cb.met (a b : Cb) : Bool := metB a.vh a.vl a.ch a.cl b.vh b.vl b.ch b.cl
theorem met_eq (a b : Cb) (ha : a.snd = true) (hb : b.snd = true) : a.met b = a.agr b := by
  unfold Cb.met metB
  show (a.snd && (b.snd && a.agr b)) = _
  rw [ha, hb]; rfl
def Cb.join (a b : Cb) : Cb := ⟨a.vh ||| b.vh, a.vl ||| b.vl, a.ch ||| b.ch, a.cl ||| b.cl⟩
theorem join_has {a b : Cb} (h l : BitVec 64) (ha : a.snd = true) (hb : b.snd = true) (hg : a.agr b = true) :
    (a.join b).has h l = (a.has h l && (openBits a b).all (fun k => hbit h l k == b.V k)) := by
  rw [Cb.agr_iff] at hg
  rw [Cb.snd_iff] at ha hb
  rw [Bool.eq_iff_iff, Bool.and_eq_true, List.all_eq_true, Cb.has_iff, Cb.has_iff]
  have jv : ∀ j, (a.join b).V j = (a.V j || b.V j) := fun j => by unfold Cb.V Cb.join; rw [hbit_or]
  have jk : ∀ j, (a.join b).K j = (a.K j || b.K j) := fun j => by unfold Cb.K Cb.join; rw [hbit_or]
  constructor
  · intro H
    refine ⟨fun j hj => ?_, fun k hk => ?_⟩
    · have h1 := H j hj
      rw [jv, jk] at h1
      have h2 := hg j hj
      have h3 := ha j hj
      have h4 := hb j hj
      revert h1 h2 h3 h4
      generalize a.K j = k1
      generalize b.K j = k2
      generalize a.V j = v1
      generalize b.V j = v2
      generalize hbit h l j = t
      cases k1 <;> cases k2 <;> cases v1 <;> cases v2 <;> cases t <;> simp
    · obtain ⟨k1, k2, k3⟩ := (open_iff a b k).1 hk
      have h1 := H k k1
      rw [jv, jk, k2, k3] at h1
      have h3 := ha k k1
      rw [k3] at h3
      cases x3 : a.V k <;> simp_all
  · rintro ⟨H, G⟩ j hj
    rw [jv, jk]
    have h1 := H j hj
    have h2 := hg j hj
    have h3 := ha j hj
    have h4 := hb j hj
    by_cases hk : j ∈ openBits a b
    · have g := G j hk
      obtain ⟨k1, k2, k3⟩ := (open_iff a b j).1 hk
      cases x3 : a.V j <;> cases x4 : b.V j <;> cases x5 : hbit h l j <;> simp_all
    · have nk : ¬ (b.K j = true ∧ a.K j = false) := fun e => hk ((open_iff a b j).2 ⟨hj, e⟩)
      revert h1 h2 h3 h4 nk
      generalize a.K j = k1
      generalize b.K j = k2
      generalize a.V j = v1
      generalize b.V j = v2
      generalize hbit h l j = t
      cases k1 <;> cases k2 <;> cases v1 <;> cases v2 <;> cases t <;> simp
theorem parts_count {a b : Cb} (h l : BitVec 64) (ha : a.snd = true) (hb : b.snd = true) :
    (a.met b && (a.join b).has h l).toNat + cntC h l (lessC a b) = (a.has h l).toNat := by
  rw [met_eq a b ha hb]
  unfold lessC
  by_cases hg : a.agr b = true
  · rw [if_pos hg, hg, Bool.true_and, join_has h l ha hb hg, Nat.add_comm]
    exact lessP_count h l b _ a ha (open_free a b)
  · rw [if_neg hg, show a.agr b = false by simpa using hg, cntC_cons, cntC_nil]; simp
end Go.Proofs.Hd
