/-
  customhouselaw06.TableShares returns true for every input, and each argument reads behind the call as before. No conditions.
  Which headers reach a rule, and which match none: by the rule that is found. Mathematics, no program. Conditions as each theorem lists them.
  The walk of customhouselaw06.TableShares: it returns true. Conditions as each theorem lists them.
-/
import Derived.Test.YtmlammdipbkkfaaJ10
import Derived.Test.YtmlammdipbkkfaaRows
import Derived.Below
import Derived.SizedLaws
namespace Go.Proofs.Hd
open Go.RowKit
theorem anyHas_one (c : Cb) (x y : BitVec 64) : anyHas [c] x y = c.has x y := by simp [anyHas]
theorem pastL_has {L : List Rl} (x y : BitVec 64) (hs : sndA L = true) : ∀ {ks : List Nat} {A R : List Cb}, (∀ k ∈ ks, k < L.length) → (∀ c ∈ A, c.snd = true) → pastL L ks A = some R → anyHas R x y = (anyHas A x y && !ks.any (hasI L x y))
  | [], A, R, _, _, h => by rw [pastL] at h; injection h with h; subst h; simp
  | k :: ks, A, R, hk, hA, h => by
    rw [pastL] at h
    cases hl : lessL A [L[k]!.m] with
    | none => rw [hl] at h; cases h
    | some B =>
      rw [hl] at h
      have hkl := hk k (List.mem_cons_self ..)
      have hm : L[k]!.m.snd = true := by rw [getElem!_pos L k hkl]; exact sndA_at hs (List.getElem?_eq_getElem hkl)
      have h1 := lessL_has (B := [L[k]!.m]) x y (by intro c hc; rw [List.mem_singleton] at hc; rw [hc]; exact hm) hA hl
      rw [pastL_has x y hs (fun j hj => hk j (List.mem_cons_of_mem _ hj)) (sndL_all (less_one hl)) h, h1, anyHas_one, List.any_cons]
      show _ = (anyHas A x y && !(hasI L x y k || _))
      unfold hasI
      cases anyHas A x y <;> cases L[k]!.m.has x y <;> simp
theorem find_first {P : Nat → Bool} {n : Nat} : ∀ {ks : List Nat}, n ∈ ks → (ks.find? P = some n ↔ (P n && !(ks.takeWhile (fun k => k != n)).any P) = true)
  | [], h => by simp at h
  | a :: ks, h => by
    rw [List.find?_cons, List.takeWhile_cons]
    by_cases e : a = n
    · subst e
      rw [if_neg (by simp)]
      cases hp : P a with
      | true => simp
      | false =>
        simp only [List.any_nil, Bool.not_false, Bool.and_true]
        constructor
        · intro hf
          have := List.find?_some hf
          rw [hp] at this
          cases this
        · intro hf
          cases hf
    · have hm : n ∈ ks := by
        rcases List.mem_cons.1 h with h | h
        · exact absurd h.symm e
        · exact h
      rw [if_pos (by simpa using e), List.any_cons]
      cases hp : P a with
      | true =>
        simp [e]
      | false =>
        rw [Bool.false_or]
        exact find_first hm
theorem seen_has {L : List Rl} {n : Nat} {R : List Cb} (x y : BitVec 64) (hs : sndA L = true) (hn : n < L.length) (h : seenL L n = some R) : anyHas R x y = decide (fndI L x y = some n) := by
  have hm : L[n]!.m.snd = true := by rw [getElem!_pos L n hn]; exact sndA_at hs (List.getElem?_eq_getElem hn)
  unfold seenL at h
  rw [pastL_has x y hs ahead_lt (by intro c hc; rw [List.mem_singleton] at hc; rw [hc]; exact hm) h, anyHas_one]
  have := find_first (P := hasI L x y) (mem_ordI.2 hn)
  rw [Bool.eq_iff_iff, decide_eq_true_eq]
  exact this.symm
theorem allC_has (x y : BitVec 64) : allC.has x y = true := by
  unfold Cb.has allC
  simp [hasB]
theorem miss_has {L : List Rl} {Q : List Cb} (x y : BitVec 64) (hs : sndA L = true) (h : missL L = some Q) : anyHas Q x y = !(fndI L x y).isSome := by
  unfold missL at h
  rw [pastL_has x y hs (fun k hk => ordI_lt hk) (by intro c hc; rw [List.mem_singleton] at hc; rw [hc]; exact allC_snd) h, anyHas_one, allC_has, Bool.true_and]
  unfold fndI
  congr 1
  rw [Bool.eq_iff_iff, List.any_eq_true, List.find?_isSome]
end Go.Proofs.Hd

namespace Go.Proofs
open Go.RowKit Go.Proofs.Hd Go.Sort Go.Shelf Go.Lib
attribute [local go_sem] uv_nonneg
set_option maxHeartbeats 8000000 in
set_option maxRecDepth 100000 in
theorem thl_early (A : Option Addr) (n cap : Nat) (M : List Rl) (hh hl : BitVec 64) (w : World) (hm : M.length ≤ 8) (hf : ∀ W, Below w.heap.size w W → Calls Try.prog 14 #[.slice A n cap] W fun e w' => e = .returned (.slice A M.length cap) ∧ w' = W) (hv : Ru w (.slice A M.length cap) M) (ee : Int) (hne : ¬ ee = 0) (hq : ∀ W, Ru W (.slice A M.length cap) M → Calls Try.prog 18 #[.slice A M.length cap] W (Err2 W ee)) : Calls Try.prog 6 #[.slice A n cap, .agg #[.int .u64 (uv hh), .int .u64 (uv hl)]] w fun e w' => e = .returned (.bool true) ∧ Below w.heap.size w w' := by
  have hmz : (M.length : Int) ≤ 8 := by omega
  have B0 := below1 w (.cells #[.int .u64 (uv hh), .int .u64 (uv hl)] 25)
  have hf0 := hf _ B0
  have hq0 := hq _ (hv.on B0)
  clear hf hq hv
  go_enter Try.func6, Try.ntmps6
  go_wp2_with fail
  (with_reducible refine hf0.mono ?_)
  rintro e w1 ⟨rfl, rfl⟩
  clear hf0
  go_wp2_with fail
  (with_reducible refine hq0.mono ?_)
  rintro e w2 ⟨rfl, hb⟩
  have B2 := B0.trans (hb.mono B0.size)
  clear hq0 hb B0
  go_wp2_with fail
  (with_reducible refine (awake6_c _).mono ?_)
  rintro e w3 ⟨rfl, hb⟩
  have B3 := B2.trans (hb.mono B2.size)
  clear hb B2
  go_wp2_with fail
  (with_reducible refine (awake6_c _).mono ?_)
  rintro e w4 ⟨rfl, hb⟩
  have B4 := B3.trans (hb.mono B3.size)
  clear hb B3
  go_wp2
  go_ret
  exact ⟨rfl, B4⟩
set_option maxHeartbeats 8000000 in
set_option maxRecDepth 100000 in
theorem thl_some (A : Option Addr) (n cap : Nat) (M : List Rl) (hh hl : BitVec 64) (w : World) (hm : M.length ≤ 8) (hf : ∀ W, Below w.heap.size w W → Calls Try.prog 14 #[.slice A n cap] W fun e w' => e = .returned (.slice A M.length cap) ∧ w' = W) (hv : Ru w (.slice A M.length cap) M) (hs : sndA M = true) (Q : List Cb) (hQ : missL M = some Q) (b : Nat) (hz : fndI M hh hl = some b) : Calls Try.prog 6 #[.slice A n cap, .agg #[.int .u64 (uv hh), .int .u64 (uv hl)]] w fun e w' => e = .returned (.bool true) ∧ Below w.heap.size w w' := by
  have hmz : (M.length : Int) ≤ 8 := by omega
  have B0 := below1 w (.cells #[.int .u64 (uv hh), .int .u64 (uv hl)] 25)
  have X0 : Blk (w.alloc (.cells #[.int .u64 (uv hh), .int .u64 (uv hl)] 25)) w.heap.size 25 #[.int .u64 (uv hh), .int .u64 (uv hl)] := Blk.new w _ _
  have HV := Lib.hid (hv.on B0)
  have hf0 := hf _ B0
  have hq0 := missed_some _ M _ (by omega) hs (hv.on B0) Q hQ
  have HS := Lib.hid hs
  have hQs : sndL Q = true := by have := hQ; unfold missL at this; exact pastL_snd (snd_one allC_snd) this
  have hQl : Q.length ≤ 4611686018427387904 := by have := sndL_len hQs; omega
  have HQH : Hid (anyHas Q hh hl = false) := by show _ = _; rw [miss_has hh hl hs hQ, hz]; rfl
  have FF : Hid (∀ W, Ru W (.slice A M.length cap) M → Calls Try.prog 9 #[.slice A M.length cap, .agg #[.int .u64 (uv hh), .int .u64 (uv hl)]] W fun e w' => e = .returned (.tuple #[.int .i64 (b : Int), .bool true]) ∧ Below W.heap.size W w') := fun W h => by
    have q := find_c (.slice A M.length cap) M hh hl W (by omega) h
    rw [hz] at q
    exact q
  have HZ := Lib.hid hz
  have hbl : b < M.length := by have := hz; unfold fndI at this; exact ordI_lt (List.mem_of_find?_eq_some this)
  have HX := Lib.hid X0
  clear hf hv hs hQ hQs X0 hz
  go_enter Try.func6, Try.ntmps6
  go_wp2_with fail
  (with_reducible refine hf0.mono ?_)
  rintro e w1 ⟨rfl, rfl⟩
  clear hf0
  go_wp2_with fail
  (with_reducible refine hq0.mono ?_)
  rintro e w2 ⟨v2, rfl, O2, hb⟩
  have HB2 := Lib.hid (B0.trans (hb.mono B0.size))
  have HV2 := Lib.hid (HV.out.on hb)
  have HX2 := Lib.hid (HX.out.on hb)
  have HP2 := Lib.hid (own_Pl O2)
  clear hq0 hb B0 HV HX O2
  go_wp2_with fail
  (with_reducible refine (awake6_c _).mono ?_)
  rintro e w3 ⟨rfl, hb⟩
  have HB3 := Lib.hid (HB2.out.trans (hb.mono HB2.out.size))
  have HV3 := Lib.hid (HV2.out.on hb)
  have HX3 := Lib.hid (HX2.out.on hb)
  have HP3 := Lib.hid (HP2.out.on hb)
  have x0 := HX3.out.cell 0
  have x1 := HX3.out.cell 1
  clear hb HB2 HV2 HX2 HP2
  go_wp2_with fail
  (with_reducible refine (FF.out _ HV3.out).mono ?_)
  rintro e w4 ⟨rfl, hb⟩
  have HB4 := Lib.hid (HB3.out.trans (hb.mono HB3.out.size))
  have HV4 := Lib.hid (HV3.out.on hb)
  have HX4 := Lib.hid (HX3.out.on hb)
  have HP4 := Lib.hid (HP3.out.on hb)
  clear hb HB3 HV3 HX3 HP3 x0 x1 FF
  go_wp2
  go_loopg [9, 10, 11] M.length (fun gk s9 _ _ wr => ∃ (k : Nat), k ≤ M.length ∧ gk = M.length - k ∧ s9 = .int .i64 k ∧ Hid (Below w4.heap.size w4 wr))
  case atStart => exact ⟨0, Nat.zero_le _, rfl, rfl, Below.refl _ _⟩
  case round =>
    obtain ⟨k, hk, rfl, rfl, HB⟩ := hrel
    by_cases hlt : k < M.length
    · have hltz : (k : Int) < (M.length : Int) := by omega
      obtain ⟨r, hr⟩ : ∃ r, M[k]? = some r := ⟨_, List.getElem?_eq_getElem hlt⟩
      have HRu := Lib.hid (HV4.out.on HB.out)
      cases hse : seenL M k with
      | none =>
        have hcon := seen_none _ M k r wr (by omega) hr HS.out HRu.out hse
        clear hse hr HRu
        go_wp2_with fail
        (with_reducible refine hcon.mono ?_)
        rintro e w5 ⟨rfl, hb⟩
        have B5 := HB.out.trans (hb.mono HB.out.size)
        have B6 := HB4.out.trans (B5.mono HB4.out.size)
        clear hcon hb HB B5
        go_wp2
        go_ret
        exact ⟨rfl, B6⟩
      | some R =>
        have hcon := seen_some _ M k r wr (by omega) hr HS.out HRu.out R hse
        have hRH := seen_has hh hl HS.out hlt hse
        rw [HZ.out] at hRH
        have hRs : sndL R = true := by have := hse; unfold seenL at this; exact pastL_snd (snd_one (by rw [at_pos hr]; exact sndA_at HS.out hr)) this
        have hRl : R.length ≤ 4611686018427387904 := by have := sndL_len hRs; omega
        clear hse hr HRu hRs
        by_cases hkb : k = b
        · subst hkb
          have HRH : Hid (anyHas R hh hl = true) := by show _ = _; rw [hRH]; simp
          clear hRH
          go_wp2_with fail
          (with_reducible refine hcon.mono ?_)
          rintro e w5 ⟨v5, rfl, O5, hb⟩
          have HB5 := Lib.hid (HB.out.trans (hb.mono HB.out.size))
          have HX5 := HX4.out.on HB5.out
          have x0 := HX5.cell 0
          have x1 := HX5.cell 1
          have hcon5 := rhas3_c true v5 R hh hl w5 hRl HRH.out (own_Pl O5)
          obtain ⟨A5, c5, rfl, _⟩ := own_form O5
          clear hcon hb HB HX5 O5
          go_wp2_with fail
          (with_reducible refine hcon5.mono ?_)
          rintro e w6 ⟨rfl, hb⟩
          have HB6 := Lib.hid (HB5.out.trans (hb.mono HB5.out.size))
          clear hcon5 hb HB5 x0 x1
          go_wp2
          go_roundg (M.length - (k + 1))
          case measure => omega
          case rel => exact ⟨k + 1, by omega, rfl, by go_num, HB6⟩
        · have HRH : Hid (anyHas R hh hl = false) := by show _ = _; rw [hRH, decide_eq_false]; intro e; injection e with e; exact hkb e.symm
          have hkz : ¬ (k : Int) = (b : Int) := by omega
          clear hRH
          go_wp2_with fail
          (with_reducible refine hcon.mono ?_)
          rintro e w5 ⟨v5, rfl, O5, hb⟩
          have HB5 := Lib.hid (HB.out.trans (hb.mono HB.out.size))
          have HX5 := HX4.out.on HB5.out
          have x0 := HX5.cell 0
          have x1 := HX5.cell 1
          have hcon5 := rhas3_c false v5 R hh hl w5 hRl HRH.out (own_Pl O5)
          obtain ⟨A5, c5, rfl, _⟩ := own_form O5
          clear hcon hb HB HX5 O5
          go_wp2_with fail
          (with_reducible refine hcon5.mono ?_)
          rintro e w6 ⟨rfl, hb⟩
          have HB6 := Lib.hid (HB5.out.trans (hb.mono HB5.out.size))
          clear hcon5 hb HB5 x0 x1
          go_wp2
          go_roundg (M.length - (k + 1))
          case measure => omega
          case rel => exact ⟨k + 1, by omega, rfl, by go_num, HB6⟩
    · have hltz : ¬ (k : Int) < (M.length : Int) := by omega
      have HX5 := HX4.out.on HB.out
      have x0 := HX5.cell 0
      have x1 := HX5.cell 1
      have hcon5 := rhas3_c _ v2 Q hh hl wr hQl HQH.out (HP4.out.on HB.out)
      obtain ⟨A5, c5, rfl, _⟩ := HP4.out.form
      clear HX5
      go_wp2_with fail
      (with_reducible refine hcon5.mono ?_)
      rintro e w6 ⟨rfl, hb⟩
      have B6 := HB.out.trans (hb.mono HB.out.size)
      have B7 := HB4.out.trans (B6.mono HB4.out.size)
      clear hcon5 hb HB B6 x0 x1
      go_wp2
      go_ret
      exact ⟨rfl, B7⟩
set_option maxHeartbeats 8000000 in
set_option maxRecDepth 100000 in
theorem thl_none (A : Option Addr) (n cap : Nat) (M : List Rl) (hh hl : BitVec 64) (w : World) (hm : M.length ≤ 8) (hf : ∀ W, Below w.heap.size w W → Calls Try.prog 14 #[.slice A n cap] W fun e w' => e = .returned (.slice A M.length cap) ∧ w' = W) (hv : Ru w (.slice A M.length cap) M) (hs : sndA M = true) (Q : List Cb) (hQ : missL M = some Q) (hz : fndI M hh hl = none) : Calls Try.prog 6 #[.slice A n cap, .agg #[.int .u64 (uv hh), .int .u64 (uv hl)]] w fun e w' => e = .returned (.bool true) ∧ Below w.heap.size w w' := by
  have hmz : (M.length : Int) ≤ 8 := by omega
  have B0 := below1 w (.cells #[.int .u64 (uv hh), .int .u64 (uv hl)] 25)
  have X0 : Blk (w.alloc (.cells #[.int .u64 (uv hh), .int .u64 (uv hl)] 25)) w.heap.size 25 #[.int .u64 (uv hh), .int .u64 (uv hl)] := Blk.new w _ _
  have HV := Lib.hid (hv.on B0)
  have hf0 := hf _ B0
  have hq0 := missed_some _ M _ (by omega) hs (hv.on B0) Q hQ
  have HS := Lib.hid hs
  have hQs : sndL Q = true := by have := hQ; unfold missL at this; exact pastL_snd (snd_one allC_snd) this
  have hQl : Q.length ≤ 4611686018427387904 := by have := sndL_len hQs; omega
  have HQH : Hid (anyHas Q hh hl = true) := by show _ = _; rw [miss_has hh hl hs hQ, hz]; rfl
  have FF : Hid (∀ W, Ru W (.slice A M.length cap) M → Calls Try.prog 9 #[.slice A M.length cap, .agg #[.int .u64 (uv hh), .int .u64 (uv hl)]] W fun e w' => e = .returned (.tuple #[.int .i64 0, .bool false]) ∧ Below W.heap.size W w') := fun W h => by
    have q := find_c (.slice A M.length cap) M hh hl W (by omega) h
    rw [hz] at q
    exact q
  have HZ := Lib.hid hz
  have HX := Lib.hid X0
  clear hf hv hs hQ hQs X0 hz
  go_enter Try.func6, Try.ntmps6
  go_wp2_with fail
  (with_reducible refine hf0.mono ?_)
  rintro e w1 ⟨rfl, rfl⟩
  clear hf0
  go_wp2_with fail
  (with_reducible refine hq0.mono ?_)
  rintro e w2 ⟨v2, rfl, O2, hb⟩
  have HB2 := Lib.hid (B0.trans (hb.mono B0.size))
  have HV2 := Lib.hid (HV.out.on hb)
  have HX2 := Lib.hid (HX.out.on hb)
  have HP2 := Lib.hid (own_Pl O2)
  clear hq0 hb B0 HV HX O2
  go_wp2_with fail
  (with_reducible refine (awake6_c _).mono ?_)
  rintro e w3 ⟨rfl, hb⟩
  have HB3 := Lib.hid (HB2.out.trans (hb.mono HB2.out.size))
  have HV3 := Lib.hid (HV2.out.on hb)
  have HX3 := Lib.hid (HX2.out.on hb)
  have HP3 := Lib.hid (HP2.out.on hb)
  have x0 := HX3.out.cell 0
  have x1 := HX3.out.cell 1
  clear hb HB2 HV2 HX2 HP2
  go_wp2_with fail
  (with_reducible refine (FF.out _ HV3.out).mono ?_)
  rintro e w4 ⟨rfl, hb⟩
  have HB4 := Lib.hid (HB3.out.trans (hb.mono HB3.out.size))
  have HV4 := Lib.hid (HV3.out.on hb)
  have HX4 := Lib.hid (HX3.out.on hb)
  have HP4 := Lib.hid (HP3.out.on hb)
  clear hb HB3 HV3 HX3 HP3 x0 x1 FF
  go_wp2
  go_loopg [9, 10, 11] M.length (fun gk s9 _ _ wr => ∃ (k : Nat), k ≤ M.length ∧ gk = M.length - k ∧ s9 = .int .i64 k ∧ Hid (Below w4.heap.size w4 wr))
  case atStart => exact ⟨0, Nat.zero_le _, rfl, rfl, Below.refl _ _⟩
  case round =>
    obtain ⟨k, hk, rfl, rfl, HB⟩ := hrel
    by_cases hlt : k < M.length
    · have hltz : (k : Int) < (M.length : Int) := by omega
      obtain ⟨r, hr⟩ : ∃ r, M[k]? = some r := ⟨_, List.getElem?_eq_getElem hlt⟩
      have HRu := Lib.hid (HV4.out.on HB.out)
      cases hse : seenL M k with
      | none =>
        have hcon := seen_none _ M k r wr (by omega) hr HS.out HRu.out hse
        clear hse hr HRu
        go_wp2_with fail
        (with_reducible refine hcon.mono ?_)
        rintro e w5 ⟨rfl, hb⟩
        have B5 := HB.out.trans (hb.mono HB.out.size)
        have B6 := HB4.out.trans (B5.mono HB4.out.size)
        clear hcon hb HB B5
        go_wp2
        go_ret
        exact ⟨rfl, B6⟩
      | some R =>
        have hcon := seen_some _ M k r wr (by omega) hr HS.out HRu.out R hse
        have hRH := seen_has hh hl HS.out hlt hse
        rw [HZ.out] at hRH
        have hRs : sndL R = true := by have := hse; unfold seenL at this; exact pastL_snd (snd_one (by rw [at_pos hr]; exact sndA_at HS.out hr)) this
        have hRl : R.length ≤ 4611686018427387904 := by have := sndL_len hRs; omega
        clear hse hr HRu hRs
        have HRH : Hid (anyHas R hh hl = false) := by show _ = _; rw [hRH]; simp
        clear hRH
        go_wp2_with fail
        (with_reducible refine hcon.mono ?_)
        rintro e w5 ⟨v5, rfl, O5, hb⟩
        have HB5 := Lib.hid (HB.out.trans (hb.mono HB.out.size))
        have HX5 := HX4.out.on HB5.out
        have x0 := HX5.cell 0
        have x1 := HX5.cell 1
        have hcon5 := rhas3_c false v5 R hh hl w5 hRl HRH.out (own_Pl O5)
        obtain ⟨A5, c5, rfl, _⟩ := own_form O5
        clear hcon hb HB HX5 O5
        go_wp2_with fail
        (with_reducible refine hcon5.mono ?_)
        rintro e w6 ⟨rfl, hb⟩
        have HB6 := Lib.hid (HB5.out.trans (hb.mono HB5.out.size))
        clear hcon5 hb HB5 x0 x1
        go_wp2
        go_roundg (M.length - (k + 1))
        case measure => omega
        case rel => exact ⟨k + 1, by omega, rfl, by go_num, HB6⟩
    · have hltz : ¬ (k : Int) < (M.length : Int) := by omega
      have HX5 := HX4.out.on HB.out
      have x0 := HX5.cell 0
      have x1 := HX5.cell 1
      have hcon5 := rhas3_c _ v2 Q hh hl wr hQl HQH.out (HP4.out.on HB.out)
      obtain ⟨A5, c5, rfl, _⟩ := HP4.out.form
      clear HX5
      go_wp2_with fail
      (with_reducible refine hcon5.mono ?_)
      rintro e w6 ⟨rfl, hb⟩
      have B6 := HB.out.trans (hb.mono HB.out.size)
      have B7 := HB4.out.trans (B6.mono HB4.out.size)
      clear hcon5 hb HB B6 x0 x1
      go_wp2
      go_ret
      exact ⟨rfl, B7⟩
theorem thl_c (A : Option Addr) (cap : Nat) (L : List Rl) (hh hl : BitVec 64) (w : World) (hn : L.length ≤ 4611686018427387904) (hc : L.length ≤ cap) (hv : Ru w (.slice A L.length cap) L) : Calls Try.prog 6 #[.slice A L.length cap, .agg #[.int .u64 (uv hh), .int .u64 (uv hl)]] w fun e w' => e = .returned (.bool true) ∧ Below w.heap.size w w' := by
  have hf : ∀ W, Below w.heap.size w W → Calls Try.prog 14 #[.slice A L.length cap] W fun e w' => e = .returned (.slice A (L.take 8).length cap) ∧ w' = W := fun W hb => few_c A cap L W hn hc (hv.on hb)
  have hm : (L.take 8).length ≤ 8 := by rw [List.length_take]; omega
  cases hs : sndA (L.take 8) with
  | false => exact thl_early A _ cap (L.take 8) hh hl w hm hf (hv.take 8) 2 (by decide) (fun W h => missed_bad _ (L.take 8) W (by omega) hs h)
  | true =>
    cases hQ : missL (L.take 8) with
    | none => exact thl_early A _ cap (L.take 8) hh hl w hm hf (hv.take 8) 10 (by decide) (fun W h => missed_none _ (L.take 8) W (by omega) hs h hQ)
    | some Q =>
      cases hz : fndI (L.take 8) hh hl with
      | none => exact thl_none A _ cap (L.take 8) hh hl w hm hf (hv.take 8) hs Q hQ hz
      | some b => exact thl_some A _ cap (L.take 8) hh hl w hm hf (hv.take 8) hs Q hQ b hz
end Go.Proofs

namespace Go.Proofs.Ytmlammdipbkkfaa
open Go.ChangeShapes Go.WideShapes Go.ChangeAt Go.RowKit Go.Joins Go.Proofs.Hd

theorem laidOut_thl : laidOutB Try.prog = true := by kernel_rfl
set_option maxRecDepth 100000 in
theorem thl_lifted (os : Os) (started : os.Started) (H : Type) (enc : TypeId × Value → H) :
    ReturnsInHanded {} Try.checked os 6 .any (Rows.tableSharesSpec.pre6 enc Try.prog Try.f6 Rows.tableSharesRow.domain false) (Rows.tableSharesSpec.post enc Try.prog Try.f6 false true false false) := by
  refine returnsInHanded_of_change_sized (C := Try.checked) own started (by kernel_rfl) Try.func6
    (ChangeSpec.witness6 (enc := enc) (C := Try.checked) false ⟨#[], #[.slice none 0 0, .agg #[.int .u64 0, .int .u64 0]], []⟩ 8 (by kernel_rfl) (by kernel_rfl) (by kernel_rfl) (by kernel_rfl)) ?_
  intro W base args ds gs before hval0 hW hcnd hsz _
  have hval : ∀ (j : Nat) t v, Try.f6.params[j]? = some t → args[j]? = some v → Value.okWide Try.prog W .any base t v := hval0
  have hW' := hW
  obtain ⟨p, q, hA0, hV, rfl, hfz, hnd⟩ := hW
  have hA : DataW.TrodAll enc Try.prog W 0 (fun _ => true) true Try.f6.params.toList args.toList ds p := hA0
  rw [Try.params6] at hA hval
  obtain ⟨v0, vs0, d0, ds0, p0, q0, hargs, rfl, rfl, h0, r0⟩ := trodAll_cons hA
  obtain ⟨v1, vs1, d1, ds1, p1, q1, rfl, rfl, rfl, h1, r1⟩ := trodAll_cons r0
  obtain ⟨rfl, rfl, rfl⟩ := trodAll_nil r1
  obtain rfl : args = #[v0, v1] := by cases args; simp_all
  obtain ⟨rfl, rfl⟩ := trodVars_none hV
  have k0 := h0
  have lt0 : ∀ x ∈ p0, x.block < W.heap.size := by obtain ⟨m, hm⟩ := k0; exact DataW.trod_lt m _ _ _ hm
  have kc0 := open_rcap (hval 0 22 v0 rfl rfl) h0
  obtain ⟨lA, lc, lL, rfl, pl, dl⟩ := open_rules (hval 0 22 v0 rfl rfl) h0
  have zl : lL.length ≤ 1466015503658 := by
    rcases dl with e | ⟨el, sp, e1, e2⟩
    · omega
    · subst e1
      have hh := sized_slice hsz (j := 0) (t := 22) (by rw [Try.params6]; rfl) rfl Try.underlying22
      have hb : Try.checked.prog.bytesOf 55 = 96 := by kernel_rfl
      have hr : reachBytes ≤ 140737488351232 := by decide
      rw [hb] at hh
      omega
  have cl := kc0 _ _ _ rfl
  obtain ⟨hh, hl, rfl, rfl, rfl, s1⟩ := open_head (hval 1 25 v1 rfl rfl) h1
  clear hA0 hval0
  refine (thl_c lA lc lL hh hl W (by omega) cl pl).mono fun e W' ⟨he, hg⟩ => ?_
  subst he
  exact ⟨_, rfl, _, _, _, [], _, [], hW', trodAll_mk1 (shut_bool Try.underlying4 _), (trodAll_cons_mk (Below.trod laidOut_thl (by kernel_rfl) (of_decide_eq_true (by kernel_rfl)) k0 hg lt0) (trodAll_cons_mk (s1 _ _) trodAll_mk0)), rfl, hg.frame _, (fun h => by cases h)⟩

theorem thl_holds : Rows.TableSharesSaid :=
  OpenClaim.holds_of_wide 6 Try.f6 rfl rfl rfl rfl rfl rfl rfl ⟨rfl, rfl, rfl, rfl, rfl⟩ rfl rfl rfl rfl rfl (by kernel_rfl) Try.func6 (by kernel_rfl)
    (of_decide_eq_true (by kernel_rfl)) (by unfold Func.isWrapper; first | (rw [if_pos (by decide +kernel)]; kernel_rfl) | (rw [if_neg (by decide +kernel)]; exact ⟨rfl, rfl⟩))
    (fun os started H enc _ => thl_lifted os started H enc)
#print axioms thl_holds
end Go.Proofs.Ytmlammdipbkkfaa
