/-
  Contracts of pile.Join, pile.Less and pile.Within. Conditions as each theorem lists them.
  Contracts of (table.rules).past, table.Seen and table.Missed, for at most twelve rules. Conditions as each theorem lists them.
  Contracts of table.Missed and table.Idle, for at most twelve rules. Conditions as each theorem lists them.
  Contract of pile.Meet: the intersections of each cube of one list with each of another, without those that lie within others. Conditions as each theorem lists them.
  Contracts of the laws' awake and small of layer 3. Conditions as each theorem lists them.
  Plain mathematics on lists of cubes: which headers are in a join, a meet and what is left. No program in sight. Conditions as each theorem lists them.
  Plain facts on what the reference's Less holds in memory: the text that is being made, and the texts that are done. No conditions.
  Contract: Less of the reference of layer 2: the texts of the difference of two sound cubes. Conditions: both texts are those of sound cubes.
  Contracts of the reference's Texts, Same and Has of layer 3. Conditions as each theorem lists them.
  Plain facts: texts of sound cubes are apart; a list of sound cubes without the spare ones, place by place. No program in sight. Conditions as each theorem lists them.
-/
import Derived.Test.YtmlammdipbkkfaaJ7
import Derived.OrdersHeld
namespace Go.Proofs.Hd
open Go.RowKit
/-- A list of cubes and no error were returned, in memory of the call's own. -/
def Got2 (w : World) (L : List Cb) (e : Ending) (w' : World) : Prop := ∃ v, e = .returned (.tuple #[v, .int .i64 0]) ∧ w'.ownsRow w.heap.size 51 4 v L.length (flat L) ∧ Below w.heap.size w w'
/-- No list and an error were returned. -/
def Err2 (w : World) (k : Int) (e : Ending) (w' : World) : Prop := e = .returned (.tuple #[.slice none 0 0, .int .i64 k]) ∧ Below w.heap.size w w'
/-- Either. -/
def Opt2 (w : World) (o : Option (List Cb)) (e : Ending) (w' : World) : Prop := (∀ R, o = some R → Got2 w R e w') ∧ (o = none → Err2 w 10 e w')
def capL (L : List Cb) : Option (List Cb) := if L.length ≤ 200 then some L else none
theorem Opt2.yes {w w' : World} {L : List Cb} {e : Ending} (hl : L.length ≤ 200) (h : Got2 w L e w') : Opt2 w (capL L) e w' := ⟨fun R hR => by unfold capL at hR; rw [if_pos hl] at hR; injection hR with hR; subst hR; exact h, fun hn => by unfold capL at hn; rw [if_pos hl] at hn; cases hn⟩
theorem Opt2.no {w w' : World} {L : List Cb} {e : Ending} (hl : 200 < L.length) (h : Err2 w 10 e w') : Opt2 w (capL L) e w' := ⟨(fun R hR => by unfold capL at hR; rw [if_neg (by omega)] at hR; cases hR), fun _ => h⟩
theorem sndL_len {L : List Cb} (h : sndL L = true) : L.length ≤ 200 := by
  unfold sndL at h
  simp only [Bool.and_eq_true, decide_eq_true_eq] at h
  exact h.1
theorem sndL_all {L : List Cb} (h : sndL L = true) : ∀ c ∈ L, c.snd = true := by
  unfold sndL at h
  simp only [Bool.and_eq_true, List.all_eq_true] at h
  exact h.2
theorem leanS_snd (L : List Cb) : ∀ c ∈ leanS L, c.snd = true := fun c hc => by
  obtain ⟨i, _, hs, _⟩ := leanS_mem.1 hc
  exact hs
/-- What is left of A when the cubes of B are taken off, one after another; none: too many. -/
def lessL (A : List Cb) : List Cb → Option (List Cb)
  | [] => some A
  | g :: B => if (leanS (offL A g)).length ≤ 200 then lessL (leanS (offL A g)) B else none
theorem lessL_drop {A B : List Cb} {g : Cb} {k : Nat} (h : B[k]? = some g) : lessL A (B.drop k) = if (leanS (offL A g)).length ≤ 200 then lessL (leanS (offL A g)) (B.drop (k + 1)) else none := by
  obtain ⟨hk, rfl⟩ := List.getElem?_eq_some_iff.1 h
  rw [List.drop_eq_getElem_cons hk, lessL]
/-- What the loop of pile.Less knows. -/
def LeftIs (A B : List Cb) (k : Nat) (cur : List Cb) : Prop := cur.length ≤ 200 ∧ (∀ c ∈ cur, c.snd = true) ∧ lessL A B = lessL cur (B.drop k)
end Go.Proofs.Hd
namespace Go.Proofs
open Go.RowKit Go.Proofs.Hd Go.Lib
attribute [local go_sem] uv_nonneg
section
variable (a b : Value) (A B : List Cb) (w : World) (ha : Pl w a A) (hb : Pl w b B)
include ha hb
theorem pless_bad (h : (sndL A && sndL B) = false) : Calls Try.prog 45 #[a, b] w (Err2 w 2) := by
  cases h1 : sndL A with
  | false =>
    have hcon := psound_c false a A w h1 ha
    clear h h1
    go_enter Try.func45, Try.ntmps45
    go_wp2_with (go_at_call 55; refine hcon.mono ?_; rintro e w' ⟨rfl, hb'⟩)
    go_ret2
    exact ⟨rfl, hb'⟩
  | true =>
    have h2 : sndL B = false := by rw [h1] at h; exact h
    have hcon := psound_c true a A w h1 ha
    have hcon2 := fun w1 (hb1 : Below w.heap.size w w1) => psound_c false b B w1 h2 (hb.on hb1)
    clear h h1 h2
    go_enter Try.func45, Try.ntmps45
    go_wp2_with fail
    refine hcon.mono ?_
    rintro e w1 ⟨rfl, hb1⟩
    have hcon3 := hcon2 w1 hb1
    clear hcon hcon2
    go_wp2_with fail
    refine hcon3.mono ?_
    rintro e w2 ⟨rfl, hb2⟩
    have B2 := hb1.trans (hb2.mono hb1.size)
    clear hcon3 hb1 hb2
    go_wp2
    go_ret2
    exact ⟨rfl, B2⟩
theorem pless_any (h1 : sndL A = true) (h2 : sndL B = true) : Calls Try.prog 45 #[a, b] w (Opt2 w (lessL A B)) := by
  have hcon := psound_c true a A w h1 ha
  have hcon2 := fun w1 (hb1 : Below w.heap.size w w1) => psound_c true b B w1 h2 (hb.on hb1)
  have hA := sndL_len h1
  have hB := sndL_len h2
  have HSA := Lib.hid (sndL_all h1)
  have HSB := Lib.hid (sndL_all h2)
  obtain ⟨A1, c1, rfl, _, _⟩ := ha.form
  obtain ⟨A2, c2, rfl, _, hF⟩ := hb.form
  have HA := Lib.hid ha
  have HB := Lib.hid hF
  have hBz : (B.length : Int) ≤ 200 := by omega
  clear ha hb h1 h2 hF
  go_enter Try.func45, Try.ntmps45
  go_wp2_with fail
  refine hcon.mono ?_
  rintro e w1 ⟨rfl, hb1⟩
  have hcon3 := hcon2 w1 hb1
  clear hcon hcon2
  go_wp2_with fail
  refine hcon3.mono ?_
  rintro e w2 ⟨rfl, hb2⟩
  have B2 := hb1.trans (hb2.mono hb1.size)
  have hcl := clone_c _ A w2 (by omega) (HA.out.on B2)
  clear hcon3 hb1 hb2
  go_wp2_with fail
  refine hcl.mono ?_
  rintro e w3 ⟨v3, rfl, O3, hb3⟩
  have B3 := B2.trans (hb3.mono B2.size)
  have HO : Hid (w3.ownsRow w.heap.size 51 4 v3 A.length (flat A)) := O3.mono B2.size
  have HB3 := Lib.hid B3
  clear hcl hb3 B2 O3 B3
  go_wp2
  go_loopg [6, 22] B.length (fun gk s6 s22 wr => ∃ k : Nat, k ≤ B.length ∧ gk = B.length - k ∧ s22 = .int .i64 k ∧ ∃ cur, Hid (LeftIs A B k cur) ∧ Below w.heap.size w wr ∧ wr.ownsRow w.heap.size 51 4 s6 cur.length (flat cur))
  case atStart => exact ⟨0, Nat.zero_le _, rfl, rfl, A, ⟨hA, HSA.out, rfl⟩, HB3.out, HO.out⟩
  case round =>
    clear HO HB3
    obtain ⟨k, hk, rfl, rfl, cur, HL, W, O⟩ := hrel
    by_cases hlt : k < B.length
    · have hltz : (k : Int) < (B.length : Int) := by omega
      obtain ⟨c, hc⟩ : ∃ c, B[k]? = some c := ⟨_, List.getElem?_eq_getElem hlt⟩
      obtain ⟨bb, off, rfl, hbb, hpc⟩ := HB.out (ne_nil_of hc)
      have hcs := HSB.out c (List.mem_of_getElem? hc)
      obtain ⟨c0, c1, c2, c3⟩ := (hpc k c hc).on W
      have HT := Lib.hid (lessL_drop (A := cur) hc)
      have hb1 := below1 wr (.cells #[.int .u64 (uv c.vh), .int .u64 (uv c.vl), .int .u64 (uv c.ch), .int .u64 (uv c.cl)] 51)
      have W1 := W.trans (hb1.mono W.size)
      have O1 := own_on O hb1
      have hwo := without_c _ cur c _ (by have := HL.out.1; omega) HL.out.2.1 hcs (own_Pl O1)
      clear hc hpc W O hb1
      go_wp2_with fail
      refine hwo.mono ?_
      rintro e w2 ⟨v2, rfl, O2, hb2⟩
      have W2 := W1.trans (hb2.mono W1.size)
      have hup := leanUp_c 200 v2 (offL cur c) w2 (by have := offL_len cur c; have := HL.out.1; omega) (by omega) (own_Pl O2)
      clear hwo W1 O1 hb2 O2 c0 c1 c2 c3
      go_wp2_with fail
      refine hup.mono ?_
      rintro e w3 ⟨hb3, h⟩
      have W3 := W2.trans (hb3.mono W2.size)
      have hz := W2.size
      clear hup W2 hb3
      rcases h with ⟨hle, s, rfl, O3⟩ | ⟨hgt, rfl⟩
      · have HN : Hid (LeftIs A B (k + 1) (leanS (offL cur c))) := ⟨hle, leanS_snd _, by rw [HL.out.2.2, HT.out, if_pos hle]⟩
        have O4 := O3.mono hz
        clear hle O3 HT HL
        go_wp2
        go_roundg (B.length - (k + 1))
        case measure => omega
        case rel => exact ⟨k + 1, by omega, rfl, by go_num, _, HN, W3, O4⟩
      · have HN : Hid (lessL A B = none) := by show _ = _; rw [HL.out.2.2, HT.out, if_neg (by omega)]
        clear hgt HT HL
        go_wp2
        go_ret2
        exact ⟨(fun R hR => by rw [HN.out] at hR; cases hR), fun _ => ⟨rfl, W3⟩⟩
    · have hltz : ¬ (k : Int) < (B.length : Int) := by omega
      obtain rfl : k = B.length := by omega
      have HN : Hid (lessL A B = some cur) := by show _ = _; rw [HL.out.2.2, List.drop_length, lessL]
      clear HL
      go_wp2
      go_ret2
      exact ⟨fun R hR => by rw [HN.out] at hR; injection hR with hR; subst hR; exact ⟨_, rfl, O, W⟩, fun hn => by rw [HN.out] at hn; cases hn⟩
end
end Go.Proofs

namespace Go.Proofs.Hd
open Go.RowKit
/-- What is left of a pile behind some rules; none: too many cubes. -/
def pastL (L : List Rl) : List Nat → List Cb → Option (List Cb)
  | [], A => some A
  | k :: ks, A => (lessL A [L[k]!.m]).bind (pastL L ks)
theorem less_one {A R : List Cb} {g : Cb} (h : lessL A [g] = some R) : sndL R = true := by
  rw [lessL] at h
  split at h
  · rename_i h1
    rw [lessL] at h
    injection h with h
    subst h
    unfold sndL
    rw [Bool.and_eq_true, decide_eq_true_eq, List.all_eq_true]
    exact ⟨h1, leanS_snd _⟩
  · cases h
theorem snd_one {c : Cb} (h : c.snd = true) : sndL [c] = true := by simp [sndL, h]
theorem pastL_drop {L : List Rl} {A : List Cb} {ks : List Nat} {j k : Nat} (h : ks[j]? = some k) : pastL L (ks.drop j) A = (lessL A [L[k]!.m]).bind (pastL L (ks.drop (j + 1))) := by
  obtain ⟨hj, rfl⟩ := List.getElem?_eq_some_iff.1 h
  rw [List.drop_eq_getElem_cons hj, pastL]
theorem pastL_snd {L : List Rl} : ∀ {ks : List Nat} {A R : List Cb}, sndL A = true → pastL L ks A = some R → sndL R = true
  | [], A, R, hA, h => by rw [pastL] at h; injection h with h; subst h; exact hA
  | k :: ks, A, R, _, h => by
    rw [pastL] at h
    cases hl : lessL A [L[k]!.m] with
    | none => rw [hl] at h; cases h
    | some B => rw [hl] at h; exact pastL_snd (less_one hl) h
theorem own_low {w : World} {base low : Nat} {t : TypeId} {size n : Nat} {v : Value} {xs : List Value} (h : w.ownsRow base t size v n xs) (hl : low ≤ base) : w.ownsRow low t size v n xs := by
  refine ⟨h.1, ?_⟩
  rcases h.2 with h | ⟨g, cap, cur, e, hb, r⟩
  · exact .inl h
  · exact .inr ⟨g, cap, cur, e, Nat.le_trans hl hb, r⟩
theorem own_one (w : World) (c : Cb) : (w.alloc (.cells #[.int .u64 (uv c.vh), .int .u64 (uv c.vl), .int .u64 (uv c.ch), .int .u64 (uv c.cl)] 51)).ownsRow w.heap.size 51 4 (.slice (some ⟨w.heap.size, 0, none⟩) 1 1) [c].length (flat [c]) :=
  ⟨rfl, .inr ⟨w.heap.size, 1, #[.int .u64 (uv c.vh), .int .u64 (uv c.vl), .int .u64 (uv c.ch), .int .u64 (uv c.cl)], rfl, Nat.le_refl _, heap_alloc_new _ _, Nat.le_refl _, by unfold maxLen; omega, rfl, rfl⟩⟩
theorem sndA_at {L : List Rl} {k : Nat} {r : Rl} (h : sndA L = true) (hk : L[k]? = some r) : r.m.snd = true := by
  unfold sndA at h
  rw [List.all_eq_true] at h
  exact h r (List.mem_of_getElem? hk)
theorem Got2.low {w w1 w2 : World} {L : List Cb} {e : Ending} (hb : Below w.heap.size w w1) (h : Got2 w1 L e w2) : Got2 w L e w2 := by
  obtain ⟨v, e1, o, b⟩ := h
  exact ⟨v, e1, own_low o hb.size, hb.trans (b.mono hb.size)⟩
theorem PlK.take {w : World} {A : Option Addr} {n cap k : Nat} {ks : List Nat} (h : PlK w (.slice A n cap) ks) (hk : k ≤ ks.length) : PlK w (.slice A k cap) (ks.take k) := by
  obtain ⟨A', cap', e, h1, h2, h⟩ := h
  injection e with e1 e2 e3
  subst e1 e3
  have hl : (ks.take k).length = k := by rw [List.length_take]; omega
  refine ⟨A, cap, by rw [hl], by omega, h2, fun hne => ?_⟩
  obtain ⟨g, e, hg, hc⟩ := h (by intro e; rw [e] at hne; simp at hne)
  refine ⟨g, e, hg, fun j m hm => hc j m ?_⟩
  rw [List.getElem?_take] at hm
  split at hm
  · exact hm
  · cases hm
/-- The places that are tried ahead of n. -/
def aheadI (L : List Rl) (n : Nat) : List Nat := (ordI L).takeWhile (fun k => k != n)
/-- The headers that reach rule n. -/
def seenL (L : List Rl) (n : Nat) : Option (List Cb) := pastL L (aheadI L n) [L[n]!.m]
theorem take_while {ks : List Nat} {n : Nat} (h : n ∈ ks) : ∃ k, ks[k]? = some n ∧ (∀ (j m : Nat), j < k → ks[j]? = some m → m ≠ n) ∧ ks.take k = ks.takeWhile (fun k => k != n) := by
  induction ks with
  | nil => simp at h
  | cons a ks ih =>
    by_cases e : a = n
    · subst e
      exact ⟨0, rfl, fun j m hj => absurd hj (Nat.not_lt_zero _), by simp⟩
    · obtain ⟨k, h1, h2, h3⟩ := ih (by rcases List.mem_cons.1 h with h | h; exact absurd h.symm e; exact h)
      refine ⟨k + 1, h1, fun j m hj hm => ?_, ?_⟩
      · cases j with
        | zero => simp at hm; subst hm; exact e
        | succ j => exact h2 j m (by omega) hm
      · rw [List.take_succ_cons, h3, List.takeWhile_cons, if_pos (by simpa using e)]
theorem seen_at {L : List Rl} {n : Nat} (h : n < L.length) : ∃ k, (ordI L)[k]? = some n ∧ (∀ (j m : Nat), j < k → (ordI L)[j]? = some m → m ≠ n) ∧ (ordI L).take k = aheadI L n := take_while (mem_ordI.2 h)
end Go.Proofs.Hd
namespace Go.Proofs
open Go.RowKit Go.Proofs.Hd Go.Sort Go.Shelf Go.Lib
attribute [local go_sem] uv_nonneg
set_option maxHeartbeats 4000000 in
set_option maxRecDepth 100000 in
theorem past_c (v pv : Value) (L : List Rl) (ks : List Nat) (c : Cb) (w : World) (hn : L.length ≤ 4611686018427387904) (hk : ∀ k ∈ ks, k < L.length) (hkl : ks.length ≤ 1000000) (hs : sndA L = true) (hc : c.snd = true) (hv : Ru w v L) (hp : PlK w pv ks) :
    Calls Try.prog 31 #[v, pv, .agg #[.int .u64 (uv c.vh), .int .u64 (uv c.vl), .int .u64 (uv c.ch), .int .u64 (uv c.cl)]] w (Opt2 w (pastL L ks [c])) := by
  obtain ⟨A, cap, rfl, hA⟩ := hv.form
  obtain ⟨P, cp, rfl, hp1, hp2, hP⟩ := hp
  have hlz : (L.length : Int) ≤ 4611686018427387904 := by omega
  have hkz : (ks.length : Int) ≤ 1000000 := by omega
  have HA := Lib.hid hA
  have HP := Lib.hid hP
  have HM := Lib.hid hk
  have HS := Lib.hid hs
  have B0 := Lib.hid (below2 w (.cells #[.int .u64 (uv c.vh), .int .u64 (uv c.vl), .int .u64 (uv c.ch), .int .u64 (uv c.cl)] 51) (.cells #[.int .u64 (uv c.vh), .int .u64 (uv c.vl), .int .u64 (uv c.ch), .int .u64 (uv c.cl)] 51))
  have O0 : Hid (((w.alloc (.cells #[.int .u64 (uv c.vh), .int .u64 (uv c.vl), .int .u64 (uv c.ch), .int .u64 (uv c.cl)] 51)).alloc (.cells #[.int .u64 (uv c.vh), .int .u64 (uv c.vl), .int .u64 (uv c.ch), .int .u64 (uv c.cl)] 51)).ownsRow w.heap.size 51 4 (.slice (some ⟨w.heap.size + 1, 0, none⟩) 1 1) [c].length (flat [c])) := by
    have h := own_one (w.alloc (.cells #[.int .u64 (uv c.vh), .int .u64 (uv c.vl), .int .u64 (uv c.ch), .int .u64 (uv c.cl)] 51)) c
    exact own_low (by simpa using h) (Nat.le_succ _)
  have hsc := Lib.hid (snd_one hc)
  clear hv hA hP hk hs hc
  go_enter Try.func31, Try.ntmps31
  go_wp2
  go_loopg [8, 10, 11, 16] ks.length (fun gk s8 _ _ s16 wr => ∃ (j : Nat) (cur : List Cb), j ≤ ks.length ∧ gk = ks.length - j ∧ s16 = .int .i64 j ∧ Hid (sndL cur = true) ∧ Hid (pastL L ks [c] = pastL L (ks.drop j) cur) ∧ Hid (Below w.heap.size w wr) ∧ Hid (wr.ownsRow w.heap.size 51 4 s8 cur.length (flat cur)))
  case atStart => exact ⟨0, [c], Nat.zero_le _, rfl, rfl, hsc, rfl, B0, O0⟩
  case round =>
    clear hsc B0 O0
    obtain ⟨j, cur, hj, rfl, rfl, HC, HE, HB, HO⟩ := hrel
    by_cases hlt : j < ks.length
    · have hltz : (j : Int) < (ks.length : Int) := by omega
      obtain ⟨k, hk⟩ : ∃ k, ks[j]? = some k := ⟨_, List.getElem?_eq_getElem hlt⟩
      have hkn : k < L.length := HM.out k (List.mem_of_getElem? hk)
      have hknz : (k : Int) < (L.length : Int) := by omega
      obtain ⟨r, hr⟩ : ∃ r, L[k]? = some r := ⟨_, List.getElem?_eq_getElem hkn⟩
      obtain ⟨b, o, rfl, hb, hpc⟩ := HA.out (by intro h; rw [h] at hkn; simp at hkn)
      obtain ⟨g, rfl, hg, hpg⟩ := HP.out (by intro h; rw [h] at hlt; simp at hlt)
      obtain ⟨c0, c1, c2, c3, c4, c5, c6, c7, c8, c9, c10, c11⟩ := ((hpc k r hr).on HB.out).out
      have hcell := on_some HB.out (hpg j k hk)
      have hb1 := below1 wr (.cells #[.int .u64 (uv r.m.vh), .int .u64 (uv r.m.vl), .int .u64 (uv r.m.ch), .int .u64 (uv r.m.cl)] 51)
      have HB1 := Lib.hid (HB.out.trans (hb1.mono HB.out.size))
      have hcon := pless_any _ (.slice (some ⟨wr.heap.size, 0, none⟩) 1 1) cur [r.m] (wr.alloc (.cells #[.int .u64 (uv r.m.vh), .int .u64 (uv r.m.vl), .int .u64 (uv r.m.ch), .int .u64 (uv r.m.cl)] 51)) (own_Pl (own_on HO.out hb1)) (own_Pl (own_one wr r.m)) HC.out (snd_one (sndA_at HS.out hr))
      have HN : Hid (pastL L ks [c] = (lessL cur [r.m]).bind (pastL L (ks.drop (j + 1)))) := by show _ = _; rw [HE.out, pastL_drop hk, at_pos hr]
      clear hk hr hpc hpg HE HO HB hb1
      cases hls : lessL cur [r.m] with
      | some R =>
        have hcon1 := hcon.mono fun e w' h => h.1 R hls
        have HC2 := Lib.hid (less_one hls)
        have HE2 : Hid (pastL L ks [c] = pastL L (ks.drop (j + 1)) R) := by show _ = _; rw [HN.out, hls]; rfl
        clear hcon hls HN HC
        go_wp2_with fail
        (with_reducible refine hcon1.mono ?_)
        rintro e w2 ⟨v2, rfl, O2, hb2⟩
        have HO2 := Lib.hid (own_low O2 HB1.out.size)
        have HB2 := Lib.hid (HB1.out.trans (hb2.mono HB1.out.size))
        clear HB1 hb2 O2 hcon1 c0 c1 c2 c3 c4 c5 c6 c7 c8 c9 c10 c11 hcell
        go_wp2
        go_roundg (ks.length - (j + 1))
        case measure => omega
        case rel => exact ⟨j + 1, R, by omega, rfl, by go_num, HC2, HE2, HB2, HO2⟩
      | none =>
        have hcon1 := hcon.mono fun e w' h => h.2 hls
        have HE2 : Hid (pastL L ks [c] = none) := by show _ = _; rw [HN.out, hls]; rfl
        clear hcon hls HN HC
        go_wp2_with fail
        (with_reducible refine hcon1.mono ?_)
        rintro e w2 ⟨rfl, hb2⟩
        have HB2 := HB1.out.trans (hb2.mono HB1.out.size)
        clear HB1 hb2 hcon1 c0 c1 c2 c3 c4 c5 c6 c7 c8 c9 c10 c11 hcell
        go_wp2
        go_ret2
        exact ⟨fun R hR => (by rw [HE2.out] at hR; cases hR), fun _ => ⟨rfl, HB2⟩⟩
    · have hltz : ¬ (j : Int) < (ks.length : Int) := by omega
      have HN : Hid (pastL L ks [c] = some cur) := by
        show _ = _
        rw [HE.out, List.drop_eq_nil_of_le (by omega), pastL]
      clear HE HC HA HP
      go_wp2
      go_ret2
      exact ⟨fun R hR => by rw [HN.out] at hR; injection hR with hR; subst hR; exact ⟨_, rfl, HO.out, HB.out⟩, fun hn => by rw [HN.out] at hn; cases hn⟩
theorem ahead_lt {L : List Rl} {n : Nat} : ∀ k ∈ aheadI L n, k < L.length := fun _ hk => mem_ordI.1 ((List.takeWhile_prefix _).sublist.mem hk)
theorem ahead_len (L : List Rl) (n : Nat) : (aheadI L n).length ≤ L.length := by
  have := (List.takeWhile_prefix (l := ordI L) (fun k => k != n)).length_le
  rw [ordI_len] at this
  exact this
theorem seen_range (v : Value) (L : List Rl) (n : Int) (w : World) (hl : L.length ≤ 4611686018427387904) (hn : n < 0 ∨ (L.length : Int) ≤ n) (hv : Ru w v L) : Calls Try.prog 19 #[v, .int .i64 n] w (Err2 w 4) := by
  obtain ⟨A, cap, rfl, _⟩ := hv.form
  have hlz : (L.length : Int) ≤ 4611686018427387904 := by omega
  clear hv
  by_cases h1 : n < 0
  · have hd : decide (n < 0) = true := decide_eq_true h1
    go_enter Try.func19, Try.ntmps19
    go_wp2
    go_ret2
    exact ⟨rfl, Below.refl _ _⟩
  · have h2 : (L.length : Int) ≤ n := by omega
    have hd : decide (n < 0) = false := decide_eq_false h1
    have hd2 : decide (n ≥ (L.length : Int)) = true := decide_eq_true h2
    clear hn
    go_enter Try.func19, Try.ntmps19
    go_wp2
    go_ret2
    exact ⟨rfl, Below.refl _ _⟩
theorem seen_bad (v : Value) (L : List Rl) (n : Nat) (w : World) (hl : L.length ≤ 4611686018427387904) (hn : n < L.length) (hs : sndA L = false) (hv : Ru w v L) : Calls Try.prog 19 #[v, .int .i64 n] w (Err2 w 2) := by
  have hcon := tsound_c false v L w hl hs hv
  obtain ⟨A, cap, rfl, _⟩ := hv.form
  have hlz : (L.length : Int) ≤ 4611686018427387904 := by omega
  have hnz0 : ¬ (n : Int) < 0 := by omega
  have hnz1 : ¬ (L.length : Int) ≤ (n : Int) := by omega
  have hnd1 : decide ((n : Int) < 0) = false := decide_eq_false (by omega)
  have hnd2 : decide ((n : Int) ≥ (L.length : Int)) = false := decide_eq_false (by omega)
  clear hv hs
  go_enter Try.func19, Try.ntmps19
  go_wp2_with fail
  (with_reducible refine hcon.mono ?_)
  rintro e w1 ⟨rfl, B1⟩
  clear hcon
  go_wp2
  go_ret2
  exact ⟨rfl, B1⟩
set_option maxHeartbeats 4000000 in
set_option maxRecDepth 100000 in
theorem seen_some (v : Value) (L : List Rl) (n : Nat) (r : Rl) (w : World) (hl : L.length ≤ 12) (hr : L[n]? = some r) (hs : sndA L = true) (hv : Ru w v L) (R : List Cb) (hR : seenL L n = some R) : Calls Try.prog 19 #[v, .int .i64 n] w (Got2 w R) := by
  obtain ⟨A, cap, rfl, hA⟩ := hv.form
  have hlz : (L.length : Int) ≤ 12 := by omega
  have hnl : n < L.length := (List.getElem?_eq_some_iff.1 hr).1
  have hnz : (n : Int) < (L.length : Int) := by omega
  have hnz0 : ¬ (n : Int) < 0 := by omega
  have hnz1 : ¬ (L.length : Int) ≤ (n : Int) := by omega
  have hnd1 : decide ((n : Int) < 0) = false := decide_eq_false (by omega)
  have hnd2 : decide ((n : Int) ≥ (L.length : Int)) = false := decide_eq_false (by omega)
  have hol : (ordI L).length ≤ 1000000 := by rw [ordI_len]; omega
  obtain ⟨k, hk, hnb, hks⟩ := seen_at hnl
  have hkl : k < L.length := by have := (List.getElem?_eq_some_iff.1 hk).1; rw [ordI_len] at this; exact this
  obtain ⟨b, o, rfl, hb0, hc⟩ : ∃ b o, A = some ⟨b, o, none⟩ ∧ b < w.heap.size ∧ ∀ k r, L[k]? = some r → AtR w b (o + k * 12) r := hA (by intro e; rw [e] at hnl; simp at hnl)
  have hcon1 := tsound_c true (.slice (some ⟨b, o, none⟩) L.length cap) L w (by omega) hs hv
  have HV := Lib.hid hv
  have HC := Lib.hid (hc n r hr)
  have HK := Lib.hid hk
  have HNB := Lib.hid hnb
  have HKS := Lib.hid hks
  clear hv hc hk hnb hks hA
  go_enter Try.func19, Try.ntmps19
  go_wp2_with fail
  (with_reducible refine hcon1.mono ?_)
  rintro e w1 ⟨rfl, B1⟩
  have hcon2 := tried_c (.slice (some ⟨b, o, none⟩) L.length cap) L w1 hl (HV.out.on B1)
  clear hcon1
  go_wp2_with fail
  (with_reducible refine hcon2.mono ?_)
  rintro e w2 ⟨s2, rfl, P2, hb2⟩
  have B2 := Lib.hid (B1.trans (hb2.mono B1.size))
  have HPK := Lib.hid P2
  obtain ⟨A2, cp2, rfl, hcp, hcm, _⟩ := P2
  rw [ordI_len] at hcp HPK
  have hkc : (k : Int) ≤ (cp2 : Int) := by omega
  have hkc2 : (k : Int) ≤ (L.length : Int) := by omega
  obtain ⟨g2, hg2⟩ : ∃ g2, A2 = some ⟨g2, 0, none⟩ := by
    obtain ⟨A', c', e', _, _, hf⟩ := HPK.out
    obtain ⟨g, e2, _⟩ := hf (by intro e; have := ordI_len L; rw [e] at this; simp at this; omega)
    injection e' with e1 _ _
    exact ⟨g, by rw [e1, e2]⟩
  subst hg2
  rw [ordI_len]
  have HV2 := Lib.hid (HV.out.on B2.out)
  have HPT := Lib.hid (HPK.out.take (k := k) (by rw [ordI_len]; omega))
  have KP : ∀ W, Below w2.heap.size w2 W → (Below w2.heap.size w2 W ∧ W.cell? ⟨b, o + n * 12 + 1, none⟩ = some (.int .u64 (uv r.m.vh)) ∧ W.cell? ⟨b, o + n * 12 + 2, none⟩ = some (.int .u64 (uv r.m.vl)) ∧ W.cell? ⟨b, o + n * 12 + 3, none⟩ = some (.int .u64 (uv r.m.ch)) ∧ W.cell? ⟨b, o + n * 12 + 4, none⟩ = some (.int .u64 (uv r.m.cl))) := fun W hb => by
    obtain ⟨_, x1, x2, x3, x4, _⟩ := ((HC.out.on B2.out).on hb).out
    exact ⟨hb, x1, x2, x3, x4⟩
  have HKP := Lib.hid KP
  have HPS : Hid (∀ W, Below w2.heap.size w2 W → Calls Try.prog 31 #[.slice (some ⟨b, o, none⟩) L.length cap, .slice (some ⟨g2, 0, none⟩) k cp2, .agg #[.int .u64 (uv r.m.vh), .int .u64 (uv r.m.vl), .int .u64 (uv r.m.ch), .int .u64 (uv r.m.cl)]] W (Got2 W R)) := fun W hb => (past_c _ _ L ((ordI L).take k) r.m W (by omega) (fun k hk => ordI_lt (List.mem_of_mem_take hk)) (by rw [List.length_take]; omega) hs (sndA_at hs hr) (HV2.out.on hb) (HPT.out.on hb)).mono fun e w' h => h.1 R (by rw [HKS.out]; have := hR; unfold seenL at this; rw [at_pos hr] at this; exact this)
  clear KP B1 hb2 hcon2 HV HC
  go_upto_region 6 with (fail)
  refine wp_region_held_drew (S := fun w' => Below w2.heap.size w2 w' ∧ w'.cell? ⟨b, o + n * 12 + 1, none⟩ = some (.int .u64 (uv r.m.vh)) ∧ w'.cell? ⟨b, o + n * 12 + 2, none⟩ = some (.int .u64 (uv r.m.vl)) ∧ w'.cell? ⟨b, o + n * 12 + 3, none⟩ = some (.int .u64 (uv r.m.ch)) ∧ w'.cell? ⟨b, o + n * 12 + 4, none⟩ = some (.int .u64 (uv r.m.cl))) (by kernel_rfl) (HKP.out _ (Below.refl _ w2).drew) (fun hHeld => ?_)
  refine wpAnyH_take (i := 0) (oi := ⟨some 20, _, _, _, _, _⟩) (v := ?vs0) rfl (by kernel_rfl) (by kernel_rfl) (by kernel_rfl) (fun _ _ _ h => h) (Or.inl ⟨by rfl, ?ys0⟩) hHeld ?rs0
  case ys0 => (intro w' hSw; (try dsimp only at hSw); go_simp; try (with_reducible rfl))
  simp only [Act.put, List.setIfInBounds_toArray, List.set_cons_zero, List.set_cons_succ]
  refine wpAnyH_take (i := 1) (oi := ⟨some 21, _, _, _, _, _⟩) (v := ?vs1) rfl (by kernel_rfl) (by kernel_rfl) (by kernel_rfl) (fun _ _ _ h => h) (Or.inl ⟨by rfl, ?ys1⟩) hHeld ?rs1
  case ys1 => (intro w' hSw; (try dsimp only at hSw); go_simp; try (with_reducible rfl))
  simp only [Act.put, List.setIfInBounds_toArray, List.set_cons_zero, List.set_cons_succ]
  refine wpAnyH_take (i := 2) (oi := ⟨some 22, _, _, _, _, _⟩) (v := ?vs2) rfl (by kernel_rfl) (by kernel_rfl) (by kernel_rfl) (fun _ _ _ h => h) (Or.inl ⟨by rfl, ?ys2⟩) hHeld ?rs2
  case ys2 => (intro w' hSw; (try dsimp only at hSw); go_simp; try (with_reducible rfl))
  simp only [Act.put, List.setIfInBounds_toArray, List.set_cons_zero, List.set_cons_succ]
  refine wpAnyH_take (i := 3) (oi := ⟨some 23, _, _, _, _, _⟩) (v := ?vs3) rfl (by kernel_rfl) (by kernel_rfl) (by kernel_rfl) (fun _ _ _ h => h) (Or.inl ⟨by rfl, ?ys3⟩) hHeld ?rs3
  case ys3 => (intro w' hSw; (try dsimp only at hSw); go_simp; try (with_reducible rfl))
  simp only [Act.put, List.setIfInBounds_toArray, List.set_cons_zero, List.set_cons_succ]
  refine wpAnyH_take (i := 6) (oi := ⟨some 26, _, _, _, _, _⟩) (v := ?vs6) rfl (by kernel_rfl) (by kernel_rfl) (by kernel_rfl) (fun _ _ _ h => h) (Or.inl ⟨by rfl, ?ys6⟩) hHeld ?rs6
  case ys6 => (intro w' hSw; (try dsimp only at hSw); go_simp; try (with_reducible rfl))
  simp only [Act.put, List.setIfInBounds_toArray, List.set_cons_zero, List.set_cons_succ]
  refine wpAnyH_take (i := 7) (oi := ⟨some 27, _, _, _, _, _⟩) (v := ?vs7) rfl (by kernel_rfl) (by kernel_rfl) (by kernel_rfl) (fun _ _ _ h => h) (Or.inl ⟨by rfl, ?ys7⟩) hHeld ?rs7
  case ys7 => (intro w' hSw; (try dsimp only at hSw); go_simp; try (with_reducible rfl))
  simp only [Act.put, List.setIfInBounds_toArray, List.set_cons_zero, List.set_cons_succ]
  refine wpAnyH_take (i := 8) (oi := ⟨some 28, _, _, _, _, _⟩) (v := ?vs8) rfl (by kernel_rfl) (by kernel_rfl) (by kernel_rfl) (fun _ _ _ h => h) (Or.inl ⟨by rfl, ?ys8⟩) hHeld ?rs8
  case ys8 => (intro w' hSw; (try dsimp only at hSw); go_simp; try (with_reducible rfl))
  simp only [Act.put, List.setIfInBounds_toArray, List.set_cons_zero, List.set_cons_succ]
  refine wpAnyH_take (i := 9) (oi := ⟨some 29, _, _, _, _, _⟩) (v := ?vs9) rfl (by kernel_rfl) (by kernel_rfl) (by kernel_rfl) (fun _ _ _ h => h) (Or.inl ⟨by rfl, ?ys9⟩) hHeld ?rs9
  case ys9 => (intro w' hSw; (try dsimp only at hSw); go_simp; try (with_reducible rfl))
  simp only [Act.put, List.setIfInBounds_toArray, List.set_cons_zero, List.set_cons_succ]
  refine wpAnyH_take (i := 10) (oi := ⟨some 30, _, _, _, _, _⟩) (v := ?vs10) rfl (by kernel_rfl) (by kernel_rfl) (by kernel_rfl) (fun _ _ _ h => h) (Or.inl ⟨by rfl, ?ys10⟩) hHeld ?rs10
  case ys10 => (intro w' hSw; (try dsimp only at hSw); go_simp; try (with_reducible rfl))
  simp only [Act.put, List.setIfInBounds_toArray, List.set_cons_zero, List.set_cons_succ]
  refine wpAnyH_ready (rs := [4]) (by kernel_rfl) (by simp) ?_
  refine AllReadyH.cons (o := ⟨some 24, _, _, _, _, _⟩) rfl (fun K hK => ?_) AllReadyH.nil
  go_simp
  (with_reducible refine (index_c _ (ordI L) n k _ hol HK.out HNB.out (HPK.out.on hHeld.1)).mono ?_)
  rintro e w5 ⟨rfl, rfl⟩
  (try dsimp only)
  refine hK.out _ _ (hHeld) (fun hNext => ?_)
  clear hK K hHeld
  have hHeld := hNext
  clear hNext
  try simp only [Act.put, List.setIfInBounds_toArray, List.set_cons_zero, List.set_cons_succ]
  refine wpAnyH_take (i := 5) (oi := ⟨some 25, _, _, _, _, _⟩) (v := ?vs5) rfl (by kernel_rfl) (by kernel_rfl) (by kernel_rfl) (fun _ _ _ h => h) (Or.inl ⟨by rfl, ?ys5⟩) hHeld ?rs5
  case ys5 => (intro w' hSw; (try dsimp only at hSw); go_simp; try (with_reducible rfl))
  simp only [Act.put, List.setIfInBounds_toArray, List.set_cons_zero, List.set_cons_succ]
  refine wpAnyH_ready (rs := [11]) (by kernel_rfl) (by simp) ?_
  refine AllReadyH.cons (o := ⟨some 31, _, _, _, _, _⟩) rfl (fun K hK => ?_) AllReadyH.nil
  go_simp
  (with_reducible refine (HPS.out _ hHeld.1).mono ?_)
  rintro e w6 ⟨v6, rfl, O6, hb⟩
  have HO6 := Lib.hid O6; have HSZ := Lib.hid hHeld.1.size
  clear O6
  (try dsimp only)
  refine hK.out _ _ (HKP.out _ (hHeld.1.trans (hb.mono hHeld.1.size))) (fun hNext => ?_)
  clear hK K hHeld
  have hHeld := hNext
  clear hNext
  try simp only [Act.put, List.setIfInBounds_toArray, List.set_cons_zero, List.set_cons_succ]
  refine wpAnyH_take (i := 12) (oi := ⟨some 32, _, _, _, _, _⟩) (v := ?vs12) rfl (by kernel_rfl) (by kernel_rfl) (by kernel_rfl) (fun _ _ _ h => h) (Or.inl ⟨by rfl, ?ys12⟩) hHeld ?rs12
  case ys12 => (intro w' hSw; (try dsimp only at hSw); go_simp; try (with_reducible rfl))
  simp only [Act.put, List.setIfInBounds_toArray, List.set_cons_zero, List.set_cons_succ]
  refine wpAnyH_take (i := 13) (oi := ⟨some 33, _, _, _, _, _⟩) (v := ?vs13) rfl (by kernel_rfl) (by kernel_rfl) (by kernel_rfl) (fun _ _ _ h => h) (Or.inl ⟨by rfl, ?ys13⟩) hHeld ?rs13
  case ys13 => (intro w' hSw; (try dsimp only at hSw); go_simp; try (with_reducible rfl))
  simp only [Act.put, List.setIfInBounds_toArray, List.set_cons_zero, List.set_cons_succ]
  refine wpAnyH_take (i := 14) (oi := ⟨some 4, _, _, _, _, _⟩) (v := ?vs14) rfl (by kernel_rfl) (by kernel_rfl) (by kernel_rfl) (fun _ _ _ h => h) (Or.inl ⟨by rfl, ?ys14⟩) hHeld ?rs14
  case ys14 => (intro w' hSw; (try dsimp only at hSw); go_simp; try (with_reducible rfl))
  simp only [Act.put, List.setIfInBounds_toArray, List.set_cons_zero, List.set_cons_succ]
  refine wpAnyH_take (i := 15) (oi := ⟨some 5, _, _, _, _, _⟩) (v := ?vs15) rfl (by kernel_rfl) (by kernel_rfl) (by kernel_rfl) (fun _ _ _ h => h) (Or.inl ⟨by rfl, ?ys15⟩) hHeld ?rs15
  case ys15 => (intro w' hSw; (try dsimp only at hSw); go_simp; try (with_reducible rfl))
  simp only [Act.put, List.setIfInBounds_toArray, List.set_cons_zero, List.set_cons_succ]
  refine wpAnyH_done (by kernel_rfl) ?_ _
  have hM := B2.out.trans (hHeld.1.mono B2.out.size)
  have hO := own_low HO6.out (Nat.le_trans B2.out.size HSZ.out)
  clear hHeld HKP HPS HPT HPK HO6 HSZ
  go_wp2
  go_ret2
  exact ⟨_, rfl, hO, hM⟩
set_option maxHeartbeats 4000000 in
set_option maxRecDepth 100000 in
theorem seen_none (v : Value) (L : List Rl) (n : Nat) (r : Rl) (w : World) (hl : L.length ≤ 12) (hr : L[n]? = some r) (hs : sndA L = true) (hv : Ru w v L) (hR : seenL L n = none) : Calls Try.prog 19 #[v, .int .i64 n] w (Err2 w 10) := by
  obtain ⟨A, cap, rfl, hA⟩ := hv.form
  have hlz : (L.length : Int) ≤ 12 := by omega
  have hnl : n < L.length := (List.getElem?_eq_some_iff.1 hr).1
  have hnz : (n : Int) < (L.length : Int) := by omega
  have hnz0 : ¬ (n : Int) < 0 := by omega
  have hnz1 : ¬ (L.length : Int) ≤ (n : Int) := by omega
  have hnd1 : decide ((n : Int) < 0) = false := decide_eq_false (by omega)
  have hnd2 : decide ((n : Int) ≥ (L.length : Int)) = false := decide_eq_false (by omega)
  have hol : (ordI L).length ≤ 1000000 := by rw [ordI_len]; omega
  obtain ⟨k, hk, hnb, hks⟩ := seen_at hnl
  have hkl : k < L.length := by have := (List.getElem?_eq_some_iff.1 hk).1; rw [ordI_len] at this; exact this
  obtain ⟨b, o, rfl, hb0, hc⟩ : ∃ b o, A = some ⟨b, o, none⟩ ∧ b < w.heap.size ∧ ∀ k r, L[k]? = some r → AtR w b (o + k * 12) r := hA (by intro e; rw [e] at hnl; simp at hnl)
  have hcon1 := tsound_c true (.slice (some ⟨b, o, none⟩) L.length cap) L w (by omega) hs hv
  have HV := Lib.hid hv
  have HC := Lib.hid (hc n r hr)
  have HK := Lib.hid hk
  have HNB := Lib.hid hnb
  have HKS := Lib.hid hks
  clear hv hc hk hnb hks hA
  go_enter Try.func19, Try.ntmps19
  go_wp2_with fail
  (with_reducible refine hcon1.mono ?_)
  rintro e w1 ⟨rfl, B1⟩
  have hcon2 := tried_c (.slice (some ⟨b, o, none⟩) L.length cap) L w1 hl (HV.out.on B1)
  clear hcon1
  go_wp2_with fail
  (with_reducible refine hcon2.mono ?_)
  rintro e w2 ⟨s2, rfl, P2, hb2⟩
  have B2 := Lib.hid (B1.trans (hb2.mono B1.size))
  have HPK := Lib.hid P2
  obtain ⟨A2, cp2, rfl, hcp, hcm, _⟩ := P2
  rw [ordI_len] at hcp HPK
  have hkc : (k : Int) ≤ (cp2 : Int) := by omega
  have hkc2 : (k : Int) ≤ (L.length : Int) := by omega
  obtain ⟨g2, hg2⟩ : ∃ g2, A2 = some ⟨g2, 0, none⟩ := by
    obtain ⟨A', c', e', _, _, hf⟩ := HPK.out
    obtain ⟨g, e2, _⟩ := hf (by intro e; have := ordI_len L; rw [e] at this; simp at this; omega)
    injection e' with e1 _ _
    exact ⟨g, by rw [e1, e2]⟩
  subst hg2
  rw [ordI_len]
  have HV2 := Lib.hid (HV.out.on B2.out)
  have HPT := Lib.hid (HPK.out.take (k := k) (by rw [ordI_len]; omega))
  have KP : ∀ W, Below w2.heap.size w2 W → (Below w2.heap.size w2 W ∧ W.cell? ⟨b, o + n * 12 + 1, none⟩ = some (.int .u64 (uv r.m.vh)) ∧ W.cell? ⟨b, o + n * 12 + 2, none⟩ = some (.int .u64 (uv r.m.vl)) ∧ W.cell? ⟨b, o + n * 12 + 3, none⟩ = some (.int .u64 (uv r.m.ch)) ∧ W.cell? ⟨b, o + n * 12 + 4, none⟩ = some (.int .u64 (uv r.m.cl))) := fun W hb => by
    obtain ⟨_, x1, x2, x3, x4, _⟩ := ((HC.out.on B2.out).on hb).out
    exact ⟨hb, x1, x2, x3, x4⟩
  have HKP := Lib.hid KP
  have HPS : Hid (∀ W, Below w2.heap.size w2 W → Calls Try.prog 31 #[.slice (some ⟨b, o, none⟩) L.length cap, .slice (some ⟨g2, 0, none⟩) k cp2, .agg #[.int .u64 (uv r.m.vh), .int .u64 (uv r.m.vl), .int .u64 (uv r.m.ch), .int .u64 (uv r.m.cl)]] W (Err2 W 10)) := fun W hb => (past_c _ _ L ((ordI L).take k) r.m W (by omega) (fun k hk => ordI_lt (List.mem_of_mem_take hk)) (by rw [List.length_take]; omega) hs (sndA_at hs hr) (HV2.out.on hb) (HPT.out.on hb)).mono fun e w' h => h.2 (by rw [HKS.out]; have := hR; unfold seenL at this; rw [at_pos hr] at this; exact this)
  clear KP B1 hb2 hcon2 HV HC
  go_upto_region 6 with (fail)
  refine wp_region_held_drew (S := fun w' => Below w2.heap.size w2 w' ∧ w'.cell? ⟨b, o + n * 12 + 1, none⟩ = some (.int .u64 (uv r.m.vh)) ∧ w'.cell? ⟨b, o + n * 12 + 2, none⟩ = some (.int .u64 (uv r.m.vl)) ∧ w'.cell? ⟨b, o + n * 12 + 3, none⟩ = some (.int .u64 (uv r.m.ch)) ∧ w'.cell? ⟨b, o + n * 12 + 4, none⟩ = some (.int .u64 (uv r.m.cl))) (by kernel_rfl) (HKP.out _ (Below.refl _ w2).drew) (fun hHeld => ?_)
  refine wpAnyH_take (i := 0) (oi := ⟨some 20, _, _, _, _, _⟩) (v := ?vn0) rfl (by kernel_rfl) (by kernel_rfl) (by kernel_rfl) (fun _ _ _ h => h) (Or.inl ⟨by rfl, ?yn0⟩) hHeld ?rn0
  case yn0 => (intro w' hSw; (try dsimp only at hSw); go_simp; try (with_reducible rfl))
  simp only [Act.put, List.setIfInBounds_toArray, List.set_cons_zero, List.set_cons_succ]
  refine wpAnyH_take (i := 1) (oi := ⟨some 21, _, _, _, _, _⟩) (v := ?vn1) rfl (by kernel_rfl) (by kernel_rfl) (by kernel_rfl) (fun _ _ _ h => h) (Or.inl ⟨by rfl, ?yn1⟩) hHeld ?rn1
  case yn1 => (intro w' hSw; (try dsimp only at hSw); go_simp; try (with_reducible rfl))
  simp only [Act.put, List.setIfInBounds_toArray, List.set_cons_zero, List.set_cons_succ]
  refine wpAnyH_take (i := 2) (oi := ⟨some 22, _, _, _, _, _⟩) (v := ?vn2) rfl (by kernel_rfl) (by kernel_rfl) (by kernel_rfl) (fun _ _ _ h => h) (Or.inl ⟨by rfl, ?yn2⟩) hHeld ?rn2
  case yn2 => (intro w' hSw; (try dsimp only at hSw); go_simp; try (with_reducible rfl))
  simp only [Act.put, List.setIfInBounds_toArray, List.set_cons_zero, List.set_cons_succ]
  refine wpAnyH_take (i := 3) (oi := ⟨some 23, _, _, _, _, _⟩) (v := ?vn3) rfl (by kernel_rfl) (by kernel_rfl) (by kernel_rfl) (fun _ _ _ h => h) (Or.inl ⟨by rfl, ?yn3⟩) hHeld ?rn3
  case yn3 => (intro w' hSw; (try dsimp only at hSw); go_simp; try (with_reducible rfl))
  simp only [Act.put, List.setIfInBounds_toArray, List.set_cons_zero, List.set_cons_succ]
  refine wpAnyH_take (i := 6) (oi := ⟨some 26, _, _, _, _, _⟩) (v := ?vn6) rfl (by kernel_rfl) (by kernel_rfl) (by kernel_rfl) (fun _ _ _ h => h) (Or.inl ⟨by rfl, ?yn6⟩) hHeld ?rn6
  case yn6 => (intro w' hSw; (try dsimp only at hSw); go_simp; try (with_reducible rfl))
  simp only [Act.put, List.setIfInBounds_toArray, List.set_cons_zero, List.set_cons_succ]
  refine wpAnyH_take (i := 7) (oi := ⟨some 27, _, _, _, _, _⟩) (v := ?vn7) rfl (by kernel_rfl) (by kernel_rfl) (by kernel_rfl) (fun _ _ _ h => h) (Or.inl ⟨by rfl, ?yn7⟩) hHeld ?rn7
  case yn7 => (intro w' hSw; (try dsimp only at hSw); go_simp; try (with_reducible rfl))
  simp only [Act.put, List.setIfInBounds_toArray, List.set_cons_zero, List.set_cons_succ]
  refine wpAnyH_take (i := 8) (oi := ⟨some 28, _, _, _, _, _⟩) (v := ?vn8) rfl (by kernel_rfl) (by kernel_rfl) (by kernel_rfl) (fun _ _ _ h => h) (Or.inl ⟨by rfl, ?yn8⟩) hHeld ?rn8
  case yn8 => (intro w' hSw; (try dsimp only at hSw); go_simp; try (with_reducible rfl))
  simp only [Act.put, List.setIfInBounds_toArray, List.set_cons_zero, List.set_cons_succ]
  refine wpAnyH_take (i := 9) (oi := ⟨some 29, _, _, _, _, _⟩) (v := ?vn9) rfl (by kernel_rfl) (by kernel_rfl) (by kernel_rfl) (fun _ _ _ h => h) (Or.inl ⟨by rfl, ?yn9⟩) hHeld ?rn9
  case yn9 => (intro w' hSw; (try dsimp only at hSw); go_simp; try (with_reducible rfl))
  simp only [Act.put, List.setIfInBounds_toArray, List.set_cons_zero, List.set_cons_succ]
  refine wpAnyH_take (i := 10) (oi := ⟨some 30, _, _, _, _, _⟩) (v := ?vn10) rfl (by kernel_rfl) (by kernel_rfl) (by kernel_rfl) (fun _ _ _ h => h) (Or.inl ⟨by rfl, ?yn10⟩) hHeld ?rn10
  case yn10 => (intro w' hSw; (try dsimp only at hSw); go_simp; try (with_reducible rfl))
  simp only [Act.put, List.setIfInBounds_toArray, List.set_cons_zero, List.set_cons_succ]
  refine wpAnyH_ready (rs := [4]) (by kernel_rfl) (by simp) ?_
  refine AllReadyH.cons (o := ⟨some 24, _, _, _, _, _⟩) rfl (fun K hK => ?_) AllReadyH.nil
  go_simp
  (with_reducible refine (index_c _ (ordI L) n k _ hol HK.out HNB.out (HPK.out.on hHeld.1)).mono ?_)
  rintro e w5 ⟨rfl, rfl⟩
  (try dsimp only)
  refine hK.out _ _ (hHeld) (fun hNext => ?_)
  clear hK K hHeld
  have hHeld := hNext
  clear hNext
  try simp only [Act.put, List.setIfInBounds_toArray, List.set_cons_zero, List.set_cons_succ]
  refine wpAnyH_take (i := 5) (oi := ⟨some 25, _, _, _, _, _⟩) (v := ?vn5) rfl (by kernel_rfl) (by kernel_rfl) (by kernel_rfl) (fun _ _ _ h => h) (Or.inl ⟨by rfl, ?yn5⟩) hHeld ?rn5
  case yn5 => (intro w' hSw; (try dsimp only at hSw); go_simp; try (with_reducible rfl))
  simp only [Act.put, List.setIfInBounds_toArray, List.set_cons_zero, List.set_cons_succ]
  refine wpAnyH_ready (rs := [11]) (by kernel_rfl) (by simp) ?_
  refine AllReadyH.cons (o := ⟨some 31, _, _, _, _, _⟩) rfl (fun K hK => ?_) AllReadyH.nil
  go_simp
  (with_reducible refine (HPS.out _ hHeld.1).mono ?_)
  rintro e w6 ⟨rfl, hb⟩
  (try dsimp only)
  refine hK.out _ _ (HKP.out _ (hHeld.1.trans (hb.mono hHeld.1.size))) (fun hNext => ?_)
  clear hK K hHeld
  have hHeld := hNext
  clear hNext
  try simp only [Act.put, List.setIfInBounds_toArray, List.set_cons_zero, List.set_cons_succ]
  refine wpAnyH_take (i := 12) (oi := ⟨some 32, _, _, _, _, _⟩) (v := ?vn12) rfl (by kernel_rfl) (by kernel_rfl) (by kernel_rfl) (fun _ _ _ h => h) (Or.inl ⟨by rfl, ?yn12⟩) hHeld ?rn12
  case yn12 => (intro w' hSw; (try dsimp only at hSw); go_simp; try (with_reducible rfl))
  simp only [Act.put, List.setIfInBounds_toArray, List.set_cons_zero, List.set_cons_succ]
  refine wpAnyH_take (i := 13) (oi := ⟨some 33, _, _, _, _, _⟩) (v := ?vn13) rfl (by kernel_rfl) (by kernel_rfl) (by kernel_rfl) (fun _ _ _ h => h) (Or.inl ⟨by rfl, ?yn13⟩) hHeld ?rn13
  case yn13 => (intro w' hSw; (try dsimp only at hSw); go_simp; try (with_reducible rfl))
  simp only [Act.put, List.setIfInBounds_toArray, List.set_cons_zero, List.set_cons_succ]
  refine wpAnyH_take (i := 14) (oi := ⟨some 4, _, _, _, _, _⟩) (v := ?vn14) rfl (by kernel_rfl) (by kernel_rfl) (by kernel_rfl) (fun _ _ _ h => h) (Or.inl ⟨by rfl, ?yn14⟩) hHeld ?rn14
  case yn14 => (intro w' hSw; (try dsimp only at hSw); go_simp; try (with_reducible rfl))
  simp only [Act.put, List.setIfInBounds_toArray, List.set_cons_zero, List.set_cons_succ]
  refine wpAnyH_take (i := 15) (oi := ⟨some 5, _, _, _, _, _⟩) (v := ?vn15) rfl (by kernel_rfl) (by kernel_rfl) (by kernel_rfl) (fun _ _ _ h => h) (Or.inl ⟨by rfl, ?yn15⟩) hHeld ?rn15
  case yn15 => (intro w' hSw; (try dsimp only at hSw); go_simp; try (with_reducible rfl))
  simp only [Act.put, List.setIfInBounds_toArray, List.set_cons_zero, List.set_cons_succ]
  refine wpAnyH_done (by kernel_rfl) ?_ _
  have hM := B2.out.trans (hHeld.1.mono B2.out.size)
  clear hHeld HKP HPS HPT HPK
  go_wp2
  go_ret2
  exact ⟨rfl, hM⟩
end Go.Proofs

namespace Go.Proofs.Hd
open Go.RowKit
/-- The cube of all headers. -/
def allC : Cb := ⟨0#64, 0#64, 0#64, 0#64⟩
theorem allC_snd : allC.snd = true := by decide
/-- The headers that match no rule. -/
def missL (L : List Rl) : Option (List Cb) := pastL L (ordI L) [allC]
/-- The rules among the first k that no header reaches. -/
def idlU (L : List Rl) : Nat → Option (List Nat)
  | 0 => some []
  | k + 1 => (idlU L k).bind fun xs => (seenL L k).bind fun R => some (if R.isEmpty = true then xs ++ [k] else xs)
theorem idlU_none {L : List Rl} {k : Nat} (h : idlU L k = none) (j : Nat) : idlU L (k + j) = none := by
  induction j with
  | zero => exact h
  | succ j ih => rw [← Nat.add_assoc, idlU, ih]; rfl
theorem idlU_len {L : List Rl} : ∀ {k : Nat} {xs : List Nat}, idlU L k = some xs → xs.length ≤ k ∧ ∀ x ∈ xs, x < k
  | 0, xs, h => by rw [idlU] at h; injection h with h; subst h; simp
  | k + 1, xs, h => by
    rw [idlU] at h
    cases h1 : idlU L k with
    | none => rw [h1] at h; cases h
    | some ys =>
      rw [h1] at h
      have ih := idlU_len h1
      cases h2 : seenL L k with
      | none => rw [h2] at h; cases h
      | some R =>
        rw [h2] at h
        simp only [Option.bind_some, Option.some.injEq] at h
        subst h
        by_cases hR : R.isEmpty = true
        · rw [if_pos hR]
          refine ⟨by simp; omega, fun x hx => ?_⟩
          rcases List.mem_append.1 hx with hx | hx
          · have := ih.2 x hx; omega
          · simp at hx; omega
        · rw [if_neg hR]
          exact ⟨by omega, fun x hx => by have := ih.2 x hx; omega⟩
/-- Places were returned, and OK. -/
def GotI (w : World) (xs : List Nat) (e : Ending) (w' : World) : Prop := ∃ v, e = .returned (.tuple #[v, .int .i64 0]) ∧ w'.ownsRow w.heap.size 3 1 v xs.length (ints xs) ∧ Below w.heap.size w w'
end Go.Proofs.Hd
namespace Go.Proofs
open Go.RowKit Go.Proofs.Hd Go.Sort Go.Shelf Go.Lib
attribute [local go_sem] uv_nonneg
theorem missed_bad (v : Value) (L : List Rl) (w : World) (hl : L.length ≤ 4611686018427387904) (hs : sndA L = false) (hv : Ru w v L) : Calls Try.prog 18 #[v] w (Err2 w 2) := by
  have hcon := tsound_c false v L w hl hs hv
  obtain ⟨A, cap, rfl, _⟩ := hv.form
  clear hv hs
  go_enter Try.func18, Try.ntmps18
  go_wp2_with fail
  (with_reducible refine hcon.mono ?_)
  rintro e w1 ⟨rfl, B1⟩
  clear hcon
  go_wp2
  go_ret2
  exact ⟨rfl, B1⟩
set_option maxHeartbeats 2000000 in
theorem missed_some (v : Value) (L : List Rl) (w : World) (hl : L.length ≤ 12) (hs : sndA L = true) (hv : Ru w v L) (R : List Cb) (hR : missL L = some R) : Calls Try.prog 18 #[v] w (Got2 w R) := by
  have hcon := tsound_c true v L w (by omega) hs hv
  have HV := Lib.hid hv
  obtain ⟨A, cap, rfl, _⟩ := hv.form
  clear hv
  go_enter Try.func18, Try.ntmps18
  go_wp2_with fail
  (with_reducible refine hcon.mono ?_)
  rintro e w1 ⟨rfl, B1⟩
  clear hcon
  have hcon2 := tried_c (.slice A L.length cap) L w1 hl (HV.out.on B1)
  go_wp2_with fail
  (with_reducible refine hcon2.mono ?_)
  rintro e w2 ⟨s2, rfl, P2, hb2⟩
  have B2 := B1.trans (hb2.mono B1.size)
  clear B1 hb2 hcon2
  go_wp2_with fail
  (with_reducible refine (all_c _).mono ?_)
  rintro e w3 ⟨rfl, hb3⟩
  have B3 := B2.trans (hb3.mono B2.size)
  have hcon3 : Calls Try.prog 31 #[.slice A L.length cap, s2, .agg #[.int .u64 0, .int .u64 0, .int .u64 0, .int .u64 0]] w3 (Got2 w3 R) :=
    (past_c (.slice A L.length cap) s2 L (ordI L) allC w3 (by omega) (fun k hk => ordI_lt hk) (by rw [ordI_len]; omega) hs allC_snd (HV.out.on B3) (P2.on hb3)).mono fun e w' h => h.1 R hR
  clear P2 B2 hb3 HV
  go_wp2_with fail
  (with_reducible refine hcon3.mono ?_)
  rintro e w4 ⟨v4, rfl, O4, hb4⟩
  have O5 := own_low O4 B3.size
  have B4 := B3.trans (hb4.mono B3.size)
  clear O4 hb4 hcon3 B3
  go_wp2
  go_ret2
  exact ⟨_, rfl, O5, B4⟩
set_option maxHeartbeats 2000000 in
theorem missed_none (v : Value) (L : List Rl) (w : World) (hl : L.length ≤ 12) (hs : sndA L = true) (hv : Ru w v L) (hR : missL L = none) : Calls Try.prog 18 #[v] w (Err2 w 10) := by
  have hcon := tsound_c true v L w (by omega) hs hv
  have HV := Lib.hid hv
  obtain ⟨A, cap, rfl, _⟩ := hv.form
  clear hv
  go_enter Try.func18, Try.ntmps18
  go_wp2_with fail
  (with_reducible refine hcon.mono ?_)
  rintro e w1 ⟨rfl, B1⟩
  clear hcon
  have hcon2 := tried_c (.slice A L.length cap) L w1 hl (HV.out.on B1)
  go_wp2_with fail
  (with_reducible refine hcon2.mono ?_)
  rintro e w2 ⟨s2, rfl, P2, hb2⟩
  have B2 := B1.trans (hb2.mono B1.size)
  clear B1 hb2 hcon2
  go_wp2_with fail
  (with_reducible refine (all_c _).mono ?_)
  rintro e w3 ⟨rfl, hb3⟩
  have B3 := B2.trans (hb3.mono B2.size)
  have hcon3 : Calls Try.prog 31 #[.slice A L.length cap, s2, .agg #[.int .u64 0, .int .u64 0, .int .u64 0, .int .u64 0]] w3 (Err2 w3 10) :=
    (past_c (.slice A L.length cap) s2 L (ordI L) allC w3 (by omega) (fun k hk => ordI_lt hk) (by rw [ordI_len]; omega) hs allC_snd (HV.out.on B3) (P2.on hb3)).mono fun e w' h => h.2 hR
  clear P2 B2 hb3 HV
  go_wp2_with fail
  (with_reducible refine hcon3.mono ?_)
  rintro e w4 ⟨rfl, hb4⟩
  have B4 := B3.trans (hb4.mono B3.size)
  clear hb4 hcon3 B3
  go_wp2
  go_ret2
  exact ⟨rfl, B4⟩
theorem idle_bad (v : Value) (L : List Rl) (w : World) (hl : L.length ≤ 12) (h0 : L ≠ []) (hs : sndA L = false) (hv : Ru w v L) : Calls Try.prog 15 #[v] w (Err2 w 2) := by
  have hpos : 0 < L.length := List.length_pos_iff.2 h0
  have hcon : Calls Try.prog 19 #[v, .int .i64 0] w (Err2 w 2) := seen_bad v L 0 w (by omega) hpos hs hv
  obtain ⟨A, cap, rfl, _⟩ := hv.form
  have hlz : (L.length : Int) ≤ 12 := by omega
  have hpz : (0 : Int) < (L.length : Int) := by omega
  clear hv hs h0
  go_enter Try.func15, Try.ntmps15
  go_wp2
  refine wp_loop_rounds 1 ?_
  rw [rounds_succ]
  go_wp2_with fail
  (with_reducible refine hcon.mono ?_)
  rintro e w1 ⟨rfl, B1⟩
  clear hcon
  go_wp2
  go_ret2
  exact ⟨rfl, B1⟩
set_option maxHeartbeats 4000000 in
set_option maxRecDepth 100000 in
theorem idle_any (v : Value) (L : List Rl) (w : World) (hl : L.length ≤ 12) (hs : sndA L = true) (hv : Ru w v L) : Calls Try.prog 15 #[v] w fun e w' => (∀ xs, idlU L L.length = some xs → GotI w xs e w') ∧ (idlU L L.length = none → Err2 w 10 e w') := by
  have HV := Lib.hid hv
  obtain ⟨A, cap, rfl, _⟩ := hv.form
  have hlz : (L.length : Int) ≤ 12 := by omega
  have HS := Lib.hid hs
  clear hv hs
  obtain ⟨i1, hi1, hz0, hz1, hz2⟩ := info_parts infoIb
  go_enter Try.func15, Try.ntmps15
  go_wp2
  go_loopg [4, 5, 6, 7, 10] L.length (fun gk s4 _ _ _ s10 wr => ∃ (k : Nat) (xs : List Nat), k ≤ L.length ∧ gk = L.length - k ∧ s10 = .int .i64 k ∧ Hid (idlU L k = some xs) ∧ Hid (Below w.heap.size w wr) ∧ Hid (wr.ownsRow w.heap.size 3 1 s4 xs.length (ints xs)))
  case atStart => exact ⟨0, [], Nat.zero_le _, rfl, rfl, rfl, Below.refl _ _, World.ownsRow_nil _ _ _ _⟩
  case round =>
    obtain ⟨k, xs, hk, rfl, rfl, HI, HB, HO⟩ := hrel
    by_cases hlt : k < L.length
    · have hltz : (k : Int) < (L.length : Int) := by omega
      obtain ⟨r, hr⟩ : ∃ r, L[k]? = some r := ⟨_, List.getElem?_eq_getElem hlt⟩
      have HN : Hid (idlU L (k + 1) = (seenL L k).bind fun R => some (if R.isEmpty = true then xs ++ [k] else xs)) := by show _ = _; rw [idlU, HI.out]; rfl
      have hxl := (idlU_len HI.out).1
      cases hse : seenL L k with
      | none =>
        have hcon := seen_none (.slice A L.length cap) L k r wr hl hr HS.out (HV.out.on HB.out) hse
        have HE : Hid (idlU L L.length = none) := by
          show _ = _
          have h1 : idlU L (k + 1) = none := by rw [HN.out, hse]; rfl
          have h2 := idlU_none h1 (L.length - (k + 1))
          rwa [show k + 1 + (L.length - (k + 1)) = L.length by omega] at h2
        clear HN hse hr HI HO HV
        go_wp2_with fail
        (with_reducible refine hcon.mono ?_)
        rintro e w1 ⟨rfl, B1⟩
        have B := HB.out.trans (B1.mono HB.out.size)
        clear hcon B1 HB
        go_wp2
        go_ret2
        exact ⟨fun xs hx => (by rw [HE.out] at hx; cases hx), fun _ => ⟨rfl, B⟩⟩
      | some R =>
        have hcon := seen_some (.slice A L.length cap) L k r wr hl hr HS.out (HV.out.on HB.out) R hse
        have HN2 : Hid (idlU L (k + 1) = some (if R.isEmpty = true then xs ++ [k] else xs)) := by show _ = _; rw [HN.out, hse]; rfl
        clear HN hse hr HI
        go_wp2_with fail
        (with_reducible refine hcon.mono ?_)
        rintro e w1 ⟨v1, rfl, O1, B1⟩
        obtain ⟨A1, cp1, rfl, _⟩ := own_form O1
        have HB1 := Lib.hid (HB.out.trans (B1.mono HB.out.size))
        have HO1 := Lib.hid (own_on HO.out B1)
        clear hcon B1 HB HO O1
        cases R with
        | nil =>
          have HN3 : Hid (idlU L (k + 1) = some (xs ++ [k])) := by show _ = _; rw [HN2.out]; rfl
          clear HN2
          have hb1 := below1 w1 (.cells #[.int .i64 (k : Int)] 3)
          have N1 : Blk (w1.alloc (.cells #[.int .i64 (k : Int)] 3)) w1.heap.size 3 #[.int .i64 (k : Int)] := Blk.new w1 _ _
          have B2 := HB1.out.trans (hb1.mono HB1.out.size)
          have O2 := own_on HO1.out hb1
          have hz := HB1.out.size
          clear HB1 HO1 hb1
          simp only [List.length_nil]
          go_wp2_with (at_builtin; refine wpList_append_lies _ rfl (.tmp 25) (.tmp 27) 36 rfl w.heap.size 3 i1 _ 1 8 Try.underlying36 hi1 hz0 hz1 hz2 rfl (by decide) _ xs.length (ints xs) rfl O2 ⟨w1.heap.size, 0, none⟩ 1 1 [.int .i64 (k : Int)] rfl rfl (World.news_of_block N1) (by intro u hu; simp only [List.mem_singleton] at hu; subst hu; rfl) (by omega) (by unfold maxLen; omega) (by omega) (by simp; omega) _ rfl ?_)
          intro g2 cp2 w4 O4 hg4 _ hlt4
          have B4 := Lib.hid (B2.grown hg4 B2.size (fun j hj => by have := (O2.lt j hj).1; omega))
          have O5 : Hid (w4.ownsRow w.heap.size 3 1 (.slice (some ⟨g2, 0, none⟩) (xs.length + 1) cp2) (xs ++ [k]).length (ints (xs ++ [k]))) := by show World.ownsRow _ _ _ _ _ _ _; rw [ints_snoc, List.length_append]; exact O4
          clear B2 O2 N1 hg4 O4
          go_wp2
          go_roundg (L.length - (k + 1))
          case measure => omega
          case rel => exact ⟨k + 1, xs ++ [k], by omega, rfl, by go_num, HN3, B4, O5⟩
        | cons a R =>
          have HN3 : Hid (idlU L (k + 1) = some xs) := by show _ = _; rw [HN2.out]; rfl
          clear HN2
          have hne : ¬ (((a :: R).length : Nat) : Int) = 0 := by simp; omega
          have hnd : decide ((((a :: R).length : Nat) : Int) = 0) = false := decide_eq_false hne
          obtain ⟨m, hm⟩ : ∃ m, (a :: R).length = m := ⟨_, rfl⟩
          rw [hm] at hne hnd ⊢
          have hm0 : ¬ m = 0 := by omega
          clear hm
          go_wp2
          go_roundg (L.length - (k + 1))
          case measure => omega
          case rel => exact ⟨k + 1, xs, by omega, rfl, by go_num, HN3, HB1, HO1⟩
    · have hltz : ¬ (k : Int) < (L.length : Int) := by omega
      obtain rfl : k = L.length := by omega
      clear HV HS
      go_wp2
      go_ret2
      exact ⟨fun ys hy => (by rw [HI.out] at hy; injection hy with hy; subst hy; exact ⟨_, rfl, HO.out, HB.out⟩), fun hn => (by rw [HI.out] at hn; cases hn)⟩
end Go.Proofs

namespace Go.Proofs.Hd
open Go.RowKit
def met1 (x y : Cb) : Option Cb := if x.met y = true then some (x.join y) else none
def metR (x : Cb) (B : List Cb) : List Cb := B.filterMap (met1 x)
/-- The intersections of each cube of A with each of B. -/
def metL (A B : List Cb) : List Cb := A.flatMap fun x => metR x B
theorem metR_take {x : Cb} {B : List Cb} {k : Nat} {y : Cb} (h : B[k]? = some y) : metR x (B.take (k + 1)) = metR x (B.take k) ++ (if x.met y = true then [x.join y] else []) := by
  obtain ⟨hk, rfl⟩ := List.getElem?_eq_some_iff.1 h
  unfold metR
  rw [List.take_succ_eq_append_getElem hk, List.filterMap_append]
  congr 1
  by_cases h : x.met B[k] = true
  · rw [if_pos h, List.filterMap_cons_some (b := x.join B[k]) (by unfold met1; rw [if_pos h])]; rfl
  · rw [if_neg h, List.filterMap_cons_none (by unfold met1; rw [if_neg h])]; rfl
theorem metL_take {A B : List Cb} {k : Nat} {x : Cb} (h : A[k]? = some x) : metL (A.take (k + 1)) B = metL (A.take k) B ++ metR x B := by
  obtain ⟨hk, rfl⟩ := List.getElem?_eq_some_iff.1 h
  unfold metL
  rw [List.take_succ_eq_append_getElem hk, List.flatMap_append]
  simp
theorem metR_len (x : Cb) (B : List Cb) (k : Nat) : (metR x (B.take k)).length ≤ k := by
  unfold metR
  exact Nat.le_trans (List.length_filterMap_le _ _) (by simp; omega)
theorem metL_len (A B : List Cb) (k : Nat) : (metL (A.take k) B).length ≤ k * B.length := by
  unfold metL
  have h : ∀ L : List Cb, (L.flatMap fun x => metR x B).length ≤ L.length * B.length := by
    intro L
    induction L with
    | nil => simp
    | cons c L ih =>
      rw [List.flatMap_cons, List.length_append]
      have : (metR c B).length ≤ B.length := List.length_filterMap_le _ _
      simp only [List.length_cons, Nat.succ_mul]
      omega
  refine Nat.le_trans (h _) (Nat.mul_le_mul_right _ (by simp; omega))
end Go.Proofs.Hd
namespace Go.Proofs
open Go.RowKit Go.Proofs.Hd Go.Lib
attribute [local go_sem] uv_nonneg
section
variable (a b : Value) (A B : List Cb) (w : World) (ha : Pl w a A) (hb : Pl w b B)
include ha hb
end
end Go.Proofs

namespace Go.Proofs.Hd
open Go.RowKit
def wa : Cb := ⟨0#64, 1#64, 0#64, 1#64⟩
def wb : Cb := ⟨0#64, 3#64, 0#64, 3#64⟩
def wx : Cb := ⟨0#64, 1#64, 0#64, 3#64⟩
theorem wa_snd : sndL [wa] = true := by kernel_rfl
theorem wb_snd : sndL [wb] = true := by kernel_rfl
theorem w_less : lessL [wa] [wb] = some [wx] := by kernel_rfl
theorem w_join : capL (leanS ([wa] ++ [wb])) = some [wa] := by kernel_rfl
theorem w_in : lessL [wb] [wa] = some [] := by kernel_rfl
theorem wx_snd : wx.snd = true := by kernel_rfl
theorem w_has : anyHas [wa] 0#64 5#64 = true := by kernel_rfl
theorem Pl.take {w : World} {A : Option Addr} {cap : Nat} {L : List Cb} (h : Pl w (.slice A L.length cap) L) (n : Nat) : Pl w (.slice A (L.take n).length cap) (L.take n) := by
  rcases h with ⟨rfl, B, cap', e⟩ | ⟨b, off, cap', e, hlen, hb, hc⟩
  · exact .inl ⟨by simp, A, cap, by simp⟩
  · injection e with e1 e2 e3
    subst e1 e3
    refine .inr ⟨b, off, cap, rfl, Nat.le_trans (by simp; omega) hlen, hb, fun k c hk => hc k c ?_⟩
    have hkn := (List.getElem?_eq_some_iff.1 hk).1
    rw [List.getElem?_take_of_lt (by simp at hkn; omega)] at hk
    exact hk
theorem pl_one {w : World} {g cap : Nat} {c : Cb} (h : Blk w g 51 c.arr) : Pl w (.slice (some ⟨g, 0, none⟩) 1 cap) [c] := by
  refine .inr ⟨g, 0, cap, rfl, by simp [maxLen], h.lt, fun k d hk => ?_⟩
  have hk0 : k < 1 := by simpa using (List.getElem?_eq_some_iff.1 hk).1
  obtain rfl : k = 0 := by omega
  simp at hk
  subst hk
  exact ⟨h.cell 0, h.cell 1, h.cell 2, h.cell 3⟩
end Go.Proofs.Hd
namespace Go.Proofs
open Go.RowKit Go.Proofs.Hd Go.Lib
attribute [local go_sem] uv_nonneg
end Go.Proofs

namespace Go.Proofs.Hd
open Go.RowKit
theorem leanS_has {L : List Cb} (hs : ∀ c ∈ L, c.snd = true) (x y : BitVec 64) : anyHas (leanS L) x y = anyHas L x y := by
  rw [Bool.eq_iff_iff]
  unfold anyHas
  rw [List.any_eq_true, List.any_eq_true]
  constructor
  · rintro ⟨c, hc, h⟩
    obtain ⟨i, hi, _⟩ := leanS_mem.1 hc
    exact ⟨c, List.mem_of_getElem? hi, h⟩
  · rintro ⟨c, hc, h⟩
    obtain ⟨i, hi⟩ := List.mem_iff_getElem?.1 hc
    obtain ⟨b, hb, hw⟩ := kept_over c.size i c (Nat.le_refl _) hi (hs c hc)
    obtain ⟨k, hk, hsp⟩ := leanL_mem.1 hb
    exact ⟨b, leanS_mem.2 ⟨k, hk, ((Cb.wit_iff _ _).1 hw).2.1, hsp⟩, wit_has x y hw h⟩
theorem join_V (a b : Cb) (j : Nat) : (a.join b).V j = (a.V j || b.V j) := hbit_or _ _ _ _ _
theorem join_K (a b : Cb) (j : Nat) : (a.join b).K j = (a.K j || b.K j) := hbit_or _ _ _ _ _
theorem both_has {a b : Cb} (h l : BitVec 64) (ha : a.snd = true) (hb : b.snd = true) : (a.met b && (a.join b).has h l) = (a.has h l && b.has h l) := by
  rw [met_eq a b ha hb, Bool.eq_iff_iff, Bool.and_eq_true, Bool.and_eq_true]
  rw [Cb.snd_iff] at ha hb
  rw [Cb.agr_iff, Cb.has_iff, Cb.has_iff, Cb.has_iff]
  constructor
  · rintro ⟨hg, hj⟩
    refine ⟨fun j h1 => ?_, fun j h1 => ?_⟩
    · have := hj j h1
      rw [join_V, join_K] at this
      have g := hg j h1
      have sa := ha j h1
      have sb := hb j h1
      revert this g sa sb
      cases hbit h l j <;> cases a.K j <;> cases b.K j <;> cases a.V j <;> cases b.V j <;> simp
    · have := hj j h1
      rw [join_V, join_K] at this
      have g := hg j h1
      have sa := ha j h1
      have sb := hb j h1
      revert this g sa sb
      cases hbit h l j <;> cases a.K j <;> cases b.K j <;> cases a.V j <;> cases b.V j <;> simp
  · rintro ⟨h1, h2⟩
    refine ⟨fun j hj => ?_, fun j hj => ?_⟩
    · have g1 := h1 j hj
      have g2 := h2 j hj
      revert g1 g2
      cases hbit h l j <;> cases a.K j <;> cases b.K j <;> cases a.V j <;> cases b.V j <;> simp
    · rw [join_V, join_K]
      have g1 := h1 j hj
      have g2 := h2 j hj
      revert g1 g2
      cases hbit h l j <;> cases a.K j <;> cases b.K j <;> cases a.V j <;> cases b.V j <;> simp
theorem metL_has {A B : List Cb} (hA : ∀ c ∈ A, c.snd = true) (hB : ∀ c ∈ B, c.snd = true) (x y : BitVec 64) : anyHas (metL A B) x y = (anyHas A x y && anyHas B x y) := by
  rw [Bool.eq_iff_iff, Bool.and_eq_true]
  unfold anyHas metL metR met1
  rw [List.any_eq_true, List.any_eq_true, List.any_eq_true]
  constructor
  · rintro ⟨c, hc, h⟩
    obtain ⟨a, ha, hc⟩ := List.mem_flatMap.1 hc
    obtain ⟨b, hb, hc⟩ := List.mem_filterMap.1 hc
    by_cases hm : a.met b = true
    · rw [if_pos hm] at hc
      injection hc with hc
      subst hc
      have := both_has x y (hA a ha) (hB b hb)
      rw [hm, h] at this
      have t : (a.has x y && b.has x y) = true := this.symm
      rw [Bool.and_eq_true] at t
      exact ⟨⟨a, ha, t.1⟩, ⟨b, hb, t.2⟩⟩
    · rw [if_neg hm] at hc; cases hc
  · rintro ⟨⟨a, ha, h1⟩, ⟨b, hb, h2⟩⟩
    have := both_has x y (hA a ha) (hB b hb)
    rw [h1, h2, Bool.and_self, Bool.and_eq_true] at this
    exact ⟨a.join b, List.mem_flatMap.2 ⟨a, ha, List.mem_filterMap.2 ⟨b, hb, by rw [if_pos this.1]⟩⟩, this.2⟩
theorem lessC_has {a b : Cb} (x y : BitVec 64) (ha : a.snd = true) (hb : b.snd = true) : anyHas (lessC a b) x y = (a.has x y && !b.has x y) := by
  have h := parts_count x y ha hb
  rw [both_has x y ha hb] at h
  have e : anyHas (lessC a b) x y = decide (0 < cntC x y (lessC a b)) := by
    unfold anyHas cntC
    rw [Bool.eq_iff_iff, List.any_eq_true, decide_eq_true_eq, List.length_pos_iff_exists_mem]
    simp [List.mem_filter]
  rw [e]
  generalize cntC x y (lessC a b) = n at h
  revert h
  cases a.has x y <;> cases b.has x y <;> simp <;> omega
theorem offL_has {A : List Cb} {g : Cb} (hA : ∀ c ∈ A, c.snd = true) (hg : g.snd = true) (x y : BitVec 64) : anyHas (offL A g) x y = (anyHas A x y && !g.has x y) := by
  unfold offL
  induction A with
  | nil => rfl
  | cons a A ih =>
    have h1 : anyHas (lessC a g ++ A.flatMap fun c => lessC c g) x y = (anyHas (lessC a g) x y || anyHas (A.flatMap fun c => lessC c g) x y) := by unfold anyHas; rw [List.any_append]
    have h2 : anyHas (a :: A) x y = (a.has x y || anyHas A x y) := by unfold anyHas; rw [List.any_cons]
    rw [List.flatMap_cons, h1, h2, ih (fun c hc => hA c (List.mem_cons_of_mem _ hc)), lessC_has x y (hA a (List.mem_cons_self ..)) hg]
    cases a.has x y <;> cases g.has x y <;> simp
theorem lessL_has {B : List Cb} (x y : BitVec 64) (hB : ∀ c ∈ B, c.snd = true) : ∀ {A R : List Cb}, (∀ c ∈ A, c.snd = true) → lessL A B = some R → anyHas R x y = (anyHas A x y && !anyHas B x y) := by
  induction B with
  | nil => intro A R _ h; rw [lessL] at h; injection h with h; subst h; simp [anyHas]
  | cons g B ih =>
    intro A R hA h
    rw [lessL] at h
    by_cases hl : (leanS (offL A g)).length ≤ 200
    · rw [if_pos hl] at h
      rw [ih (fun c hc => hB c (List.mem_cons_of_mem _ hc)) (leanS_snd _) h, leanS_has (offL_snd hA), offL_has hA (hB g (List.mem_cons_self ..))]
      have h2 : anyHas (g :: B) x y = (g.has x y || anyHas B x y) := by unfold anyHas; rw [List.any_cons]
      rw [h2]
      cases anyHas A x y <;> cases g.has x y <;> simp
    · rw [if_neg hl] at h; cases h
theorem capL_some {L R : List Cb} (h : capL L = some R) : R = L := by
  unfold capL at h
  by_cases hl : L.length ≤ 200
  · rw [if_pos hl] at h; injection h with h; exact h.symm
  · rw [if_neg hl] at h; cases h
theorem joined_has {A B R : List Cb} (hA : ∀ c ∈ A, c.snd = true) (hB : ∀ c ∈ B, c.snd = true) (h : capL (leanS (A ++ B)) = some R) (x y : BitVec 64) : anyHas R x y = (anyHas A x y || anyHas B x y) := by
  rw [capL_some h, leanS_has (fun c hc => (List.mem_append.1 hc).elim (hA c) (hB c))]
  unfold anyHas
  rw [List.any_append]
theorem metL_snd {A B : List Cb} (hA : ∀ c ∈ A, c.snd = true) (hB : ∀ c ∈ B, c.snd = true) : ∀ c ∈ metL A B, c.snd = true := by
  intro c hc
  unfold metL metR met1 at hc
  obtain ⟨a, ha, hc⟩ := List.mem_flatMap.1 hc
  obtain ⟨b, hb, hc⟩ := List.mem_filterMap.1 hc
  by_cases hm : a.met b = true
  · rw [if_pos hm] at hc; injection hc with hc; subst hc; exact join_snd (hA a ha) (hB b hb)
  · rw [if_neg hm] at hc; cases hc
theorem meeting_has {A B R : List Cb} (hA : ∀ c ∈ A, c.snd = true) (hB : ∀ c ∈ B, c.snd = true) (h : capL (leanS (metL A B)) = some R) (x y : BitVec 64) : anyHas R x y = (anyHas A x y && anyHas B x y) := by
  rw [capL_some h, leanS_has (metL_snd hA hB), metL_has hA hB]
end Go.Proofs.Hd

namespace Go.Proofs.Hd
open Go.RowKit
def strs (D : List Cb) : List Value := D.map fun c => Value.string (txt c)
theorem strs_len (D : List Cb) : (strs D).length = D.length := by simp [strs]
theorem strs_snoc (D : List Cb) (c : Cb) : strs (D ++ [c]) = strs D ++ [.string (txt c)] := by simp [strs]
structure Rls (w wr : World) (rb : Nat) (cc : Cb) (v : Value) (D : List Cb) : Prop where
  bel : Below w.heap.size w wr
  row : ByRow wr rb (fun i => sgn cc (127 - i))
  tb : TB wr rb 5
  own : wr.ownsRow w.heap.size 9 1 v D.length (strs D)
  rbb : w.heap.size ≤ rb
theorem Rls.on {w wr w2 : World} {rb : Nat} {cc : Cb} {v : Value} {D : List Cb} (h : Rls w wr rb cc v D) (hb : Below wr.heap.size wr w2) : Rls w w2 rb cc v D :=
  ⟨h.bel.trans (hb.mono h.bel.size), h.row.on hb, h.tb.on hb, own_on h.own hb, h.rbb⟩
theorem Rls.put {w wr : World} {rb : Nat} {cc c2 : Cb} {v : Value} {D : List Cb} (h : Rls w wr rb cc v D) (k m : Nat) (hm : m + k = 127) (x : Int) (hx : x = ((sgn c2 m).toNat : Int)) (hs : ∀ j, j < 128 → j ≠ m → sgn c2 j = sgn cc j) :
    Rls w (wr.setCell ⟨rb, k, none⟩ (.int .u8 x)) rb c2 v D := by
  have hr := h.rbb
  refine ⟨h.bel.setCell (by dsimp only; omega) _, h.row.set k (by omega) _ _ ?_ ?_, h.tb.set, ownsRow_setCell_other h.own (fun e => own_apartT h.own h.tb (by decide) e.symm) _, h.rbb⟩
  · rw [hx, show 127 - k = m by omega]
  · intro i hi hne
    exact hs (127 - i) (by omega) (by omega)
theorem Rls.append {w wr w2 : World} {rb : Nat} {cc c : Cb} {v v' : Value} {D : List Cb} (h : Rls w wr rb cc v D) (hg : wr.grownBy w2 v.ownBlock)
    (hown : w2.ownsRow w.heap.size 9 1 v' (D.length + 1) (strs D ++ [.string (txt c)])) : Rls w w2 rb cc v' (D ++ [c]) := by
  have hz := h.bel.size
  have hne := own_apartT h.own h.tb (by decide)
  refine ⟨h.bel.grown hg hz (fun k hk => (h.own.lt k hk).1), fun i hi => ?_, h.tb.grown hg hne, ?_, h.rbb⟩
  · have hl := World.block_lt_of_cell? wr ⟨rb, i, none⟩ (h.row i hi).1
    exact ⟨(hg.cell_far _ hl hne).trans (h.row i hi).1, (hg.frozen_far _ hl hne).trans (h.row i hi).2⟩
  · rw [strs_snoc]; simpa using hown
theorem other_sign {cc b : Cb} {m : Nat} (hm : m < 128) (hs : cc.snd = true) (hk : cc.K m = false) :
    (∀ j, j < 128 → j ≠ m → sgn (wOther cc b m) j = sgn cc j) ∧ (b.V m = true → ((sgn (wOther cc b m) m).toNat : Int) = 48) ∧ (b.V m = false → ((sgn (wOther cc b m) m).toNat : Int) = 49) := by
  have hv := open_V hm hs hk
  refine ⟨fun j hj hne => ?_, fun h => ?_, fun h => ?_⟩
  · unfold sgn; rw [wOther_K _ _ _ _ hm hj, wOther_V _ _ _ _ hm hj]; simp [hne]
  · unfold sgn; rw [wOther_K _ _ _ _ hm hm, wOther_V _ _ _ _ hm hm, hv, h]; simp
  · unfold sgn; rw [wOther_K _ _ _ _ hm hm, wOther_V _ _ _ _ hm hm, hv, h]; simp
theorem same_sign {cc b : Cb} {m : Nat} (hm : m < 128) (hs : cc.snd = true) (hk : cc.K m = false) :
    (∀ j, j < 128 → j ≠ m → sgn (wSame cc b m) j = sgn (wOther cc b m) j) ∧ (b.V m = true → ((sgn (wSame cc b m) m).toNat : Int) = 49) ∧ (b.V m = false → ((sgn (wSame cc b m) m).toNat : Int) = 48) := by
  have hv := open_V hm hs hk
  refine ⟨fun j hj hne => ?_, fun h => ?_, fun h => ?_⟩
  · unfold sgn; rw [wOther_K _ _ _ _ hm hj, wOther_V _ _ _ _ hm hj, wSame_K _ _ _ _ hm hj, wSame_V _ _ _ _ hm hj]; simp [hne]
  · unfold sgn; rw [wSame_K _ _ _ _ hm hm, wSame_V _ _ _ _ hm hm, hv, h]; simp
  · unfold sgn; rw [wSame_K _ _ _ _ hm hm, wSame_V _ _ _ _ hm hm, hv, h]; simp
/-- How far the reference has come: the bits from bit 128 - k on are done. -/
structure Prog (a b : Cb) (k : Nat) (cc : Cb) (D : List Cb) : Prop where
  snd : cc.snd = true
  care : ∀ j, j < 128 → j + k < 128 → cc.K j = a.K j
  list : D ++ lessP b cc (bitsDown (hbit (b.ch &&& ~~~a.ch) (b.cl &&& ~~~a.cl)) (128 - k)) = lessP b a (openBits a b)
  len : D.length ≤ k
theorem Prog.start {a b : Cb} (ha : a.snd = true) : Prog a b 0 a [] := ⟨ha, fun _ _ _ => rfl, rfl, by simp⟩
theorem open_bit (a b : Cb) (m : Nat) (hm : m < 128) : hbit (b.ch &&& ~~~a.ch) (b.cl &&& ~~~a.cl) m = (b.K m && !a.K m) := hbit_andNot _ _ _ _ _ hm
theorem Prog.skip {a b cc : Cb} {k m : Nat} {D : List Cb} (h : Prog a b k cc D) (hm : m + k = 127) (hn : (b.K m && !a.K m) = false) : Prog a b (k + 1) cc D := by
  refine ⟨h.snd, fun j hj hk => h.care j hj (by omega), ?_, by have := h.len; omega⟩
  rw [← h.list, show 128 - k = m + 1 by omega, show 128 - (k + 1) = m by omega, bitsDown, if_neg (by rw [open_bit a b m (by omega), hn]; simp)]
theorem Prog.free {a b cc : Cb} {k m : Nat} {D : List Cb} (h : Prog a b k cc D) (hm : m + k = 127) (ha : a.K m = false) : cc.K m = false := by
  rw [h.care m (by omega) (by omega), ha]
theorem Prog.step {a b cc : Cb} {k m : Nat} {D : List Cb} (h : Prog a b k cc D) (hm : m + k = 127) (hb : b.K m = true) (ha : a.K m = false) : Prog a b (k + 1) (wSame cc b m) (D ++ [wOther cc b m]) := by
  refine ⟨wSame_snd (by omega) h.snd, fun j hj hk => ?_, ?_, by have := h.len; simp; omega⟩
  · rw [wSame_K _ _ _ _ (by omega) hj, h.care j hj (by omega)]; simp; intro e; omega
  · rw [← h.list, show 128 - k = m + 1 by omega, show 128 - (k + 1) = m by omega, bitsDown, if_pos (by rw [open_bit a b m (by omega), hb, ha]; rfl), lessP]
    simp
theorem Prog.done {a b cc : Cb} {D : List Cb} (h : Prog a b 128 cc D) : D = lessP b a (openBits a b) := by
  have := h.list
  simpa [bitsDown, lessP] using this
/-- Texts of cubes were returned, in memory of the call's own; nothing that was there has changed. -/
def GotS (w : World) (D : List Cb) (e : Ending) (w' : World) : Prop := ∃ v, e = .returned v ∧ w'.ownsRow w.heap.size 9 1 v D.length (strs D) ∧ Below w.heap.size w w'
end Go.Proofs.Hd

namespace Go.Proofs
open Go.RowKit Go.Proofs.Hd
attribute [local go_sem] uv_nonneg
theorem infoStr : (Try.prog.info? 9).map (fun i => (i.zero, i.size, i.bytes)) = some (some (.string ⟨#[]⟩), 1, 16) := by kernel_rfl

set_option maxHeartbeats 4000000 in
set_option maxRecDepth 100000 in
theorem rless_f (s t : ByteArray) (a b : Cb) (w : World) (ha : a.snd = true) (hb : b.snd = true) (HS : Hid (txt a = s)) (HT : Hid (txt b = t)) (hg : a.agr b = false) :
    Calls Try.prog 52 #[.string s, .string t] w (GotS w [a]) := by
  go_enter Try.func52, Try.ntmps52
  go_wp2_with fail
  (with_reducible refine (rmeet_f s t a b _ ha hb HS.out HT.out hg).mono ?_)
  rintro e w1 ⟨rfl, B1⟩
  go_wp2
  go_ret
  refine ⟨_, rfl, ?_, B1.alloc B1.size _⟩
  have h := World.ownsRow_lit (base := w.heap.size) (e := 9) (size := 1) w1 #[.string s] 1 B1.size (by decide) rfl
  have e : strs [a] = [.string s] := by unfold strs; rw [← HS.out]; rfl
  rw [e]
  exact h

set_option maxHeartbeats 8000000 in
set_option maxRecDepth 100000 in
theorem rless_t (s t r : ByteArray) (a b : Cb) (w : World) (ha : a.snd = true) (hb : b.snd = true) (HS : Hid (txt a = s)) (HT : Hid (txt b = t)) (HR : Hid (txt (a.join b) = r)) (hg : a.agr b = true) (Q : List Cb) (HQ : Hid (lessP b a (openBits a b) = Q)) :
    Calls Try.prog 52 #[.string s, .string t] w (GotS w Q) := by
  have l1 : s.size ≤ 128 := by rw [text_len HS.out]; omega
  have l2 : 128 ≤ s.size := by rw [text_len HS.out]; omega
  have l3 : t.size ≤ 128 := by rw [text_len HT.out]; omega
  have l4 : 128 ≤ t.size := by rw [text_len HT.out]; omega
  go_enter Try.func52, Try.ntmps52
  go_wp2_with fail
  (with_reducible refine (rmeet_t s t r a b _ ha hb HS.out HT.out hg HR.out).mono ?_)
  rintro e w1 ⟨rfl, B1⟩
  go_upto_region 5 with (fail)
  have O2 : (w1.alloc (.cells #[] 9)).ownsRow w.heap.size 9 1 (.slice (some ⟨w1.heap.size, 0, none⟩) 0 0) 0 [] := World.ownsRow_lit (base := w.heap.size) (e := 9) (size := 1) w1 #[] 0 B1.size (by decide) rfl
  have B2 := B1.alloc B1.size (.cells #[] 9)
  generalize (w1.alloc (.cells #[] 9)) = w2 at O2 B2 ⊢
  have R0 := ByRow.start w2 s (grownCap w2 s.size 0 5) 5 (text_len HS.out) (fun i => sgn a (127 - i)) (fun i h => by have e := HS.out; subst e; rw [txt_get])
  have hcv := toBytes w2 s
  have bb : Below w2.heap.size w2 (w2.drew.alloc (.cells (bytesRow s (grownCap w2 s.size 0 5)) 5 ((bytesRow s (grownCap w2 s.size 0 5)).size, (bytesRow s (grownCap w2 s.size 0 5)).size + 1))) := ((Below.refl _ w2).drew).alloc (Nat.le_refl _) _
  have HI : Hid (Rls w (w2.drew.alloc (.cells (bytesRow s (grownCap w2 s.size 0 5)) 5 ((bytesRow s (grownCap w2 s.size 0 5)).size, (bytesRow s (grownCap w2 s.size 0 5)).size + 1))) w2.heap.size a (.slice (some ⟨w1.heap.size, 0, none⟩) 0 0) []) := Lib.hid ⟨B2.trans (bb.mono B2.size), R0, ⟨_, _, heap_alloc_new w2.drew _⟩, own_on O2 bb, B2.size⟩
  have HP := Lib.hid (Prog.start (b := b) ha)
  clear R0 bb O2 B2 B1
  go_wp2_with fail
  generalize grownCap w2 s.size 0 5 = cap at *
  clear hcv
  go_loopg [7, 9] 128 (fun g v i wr => ∃ (k : Nat) (cc : Cb) (D : List Cb), k ≤ 128 ∧ g = 128 - k ∧ i = .int .i64 k ∧ Prog a b k cc D ∧ Rls w wr w2.heap.size cc v D)
  case atStart => exact ⟨0, a, [], by omega, rfl, rfl, HP.out, HI.out⟩
  case round =>
    clear HI HP
    obtain ⟨k, cc, D, hk, rfl, rfl, HP, R⟩ := hrel
    by_cases hlt : k < 128
    · have hlt' : (k : Int) < 128 := by omega
      have hks : k < s.size := by omega
      have hks' : (k : Int) < (s.size : Int) := by omega
      have hkt : k < t.size := by omega
      have hkt' : (k : Int) < (t.size : Int) := by omega
      obtain ⟨m, hm⟩ : ∃ m, m + k = 127 := ⟨127 - k, by omega⟩
      have hm1 : m < 128 := by omega
      have HM := Lib.hid hm
      clear hm
      have f1 := (R.row k hlt).1
      have f2 := (R.row k hlt).2
      cases hKa : a.K m
      · have sgs := sign_x HS.out k m HM.out hks hKa
        cases hKb : b.K m
        · have sgt := sign_x HT.out k m HM.out hkt hKb
          have HN : Hid ((b.K m && !a.K m) = false) := Lib.hid (by rw [hKb]; rfl)
          clear hKa hKb f1 f2
          go_wp2
          go_roundg (128 - (k + 1))
          case measure => omega
          case rel => exact ⟨k + 1, cc, D, by omega, rfl, by go_num, HP.skip HM.out HN.out, R⟩
        · cases hV : b.V m
          · have sgt := sign_0 HT.out k m HM.out hkt hKb hV
            have hcm := HP.free HM.out hKa
            have OS := Lib.hid (other_sign (b := b) hm1 HP.snd hcm)
            have SS := Lib.hid (same_sign (b := b) hm1 HP.snd hcm)
            have HN := Lib.hid (HP.step HM.out hKb hKa)
            have HV := Lib.hid hV
            have hln := HP.len
            clear hKa hKb hV hcm HP
            go_upto_region 14 with (fail)
            have R5 := R.put (c2 := wOther cc b m) k m HM.out 49 (OS.out.2.2 HV.out).symm OS.out.1
            generalize (wr.setCell ⟨w2.heap.size, k, none⟩ (.int .u8 49)) = w5 at R5 ⊢
            clear R f1 f2
            have hcv := fromBytes w5 (wOther cc b m) w2.heap.size s.size cap (by omega) R5.row
            obtain ⟨q, hq⟩ : ∃ q, txt (wOther cc b m) = q := ⟨_, rfl⟩
            rw [hq] at hcv
            have HQQ := Lib.hid hq
            clear hq
            have N5 : Blk (w5.alloc (.cells #[.string q] 9)) w5.heap.size 9 #[.string q] := Blk.new w5 _ _
            have R6 := R5.on (below1 w5 (.cells #[.string q] 9))
            obtain ⟨i0, hi0, hz0, hz1, hz2⟩ := info_parts infoStr
            go_wp2_with (at_builtin; refine wpList_append_lies _ rfl (.tmp 48) (.tmp 51) 39 rfl w.heap.size 9 i0 _ 1 16 Try.underlying39 hi0 hz0 hz1 hz2 rfl (by decide) _ D.length (strs D) rfl R6.own ⟨w5.heap.size, 0, none⟩ 1 1 [.string q] rfl rfl (World.news_of_block N5) (by intro u hu; simp only [List.mem_singleton] at hu; subst hu; rfl) (by omega) (by unfold maxLen; omega) (by omega) (R6.bel.size) _ rfl ?_)
            intro g2 cap2 w7 hown hgrow hat hgl
            have R7 := R6.append hgrow (c := wOther cc b m) (by rw [HQQ.out]; exact hown)
            clear R6 R5 N5 hcv hi0 hz0 hz1 hz2 hown hgrow hat hgl
            have f1 := (R7.row k hlt).1
            have f2 := (R7.row k hlt).2
            go_wp2
            go_roundg (128 - (k + 1))
            case measure => omega
            case rel => exact ⟨k + 1, wSame cc b m, D ++ [wOther cc b m], by omega, rfl, by go_num, HN.out, R7.put k m HM.out 48 (SS.out.2.2 HV.out).symm SS.out.1⟩
          · have sgt := sign_1 HT.out k m HM.out hkt hKb hV
            have hcm := HP.free HM.out hKa
            have OS := Lib.hid (other_sign (b := b) hm1 HP.snd hcm)
            have SS := Lib.hid (same_sign (b := b) hm1 HP.snd hcm)
            have HN := Lib.hid (HP.step HM.out hKb hKa)
            have HV := Lib.hid hV
            have hln := HP.len
            clear hKa hKb hV hcm HP
            go_upto_region 14 with (fail)
            have R5 := R.put (c2 := wOther cc b m) k m HM.out 48 (OS.out.2.1 HV.out).symm OS.out.1
            generalize (wr.setCell ⟨w2.heap.size, k, none⟩ (.int .u8 48)) = w5 at R5 ⊢
            clear R f1 f2
            have hcv := fromBytes w5 (wOther cc b m) w2.heap.size s.size cap (by omega) R5.row
            obtain ⟨q, hq⟩ : ∃ q, txt (wOther cc b m) = q := ⟨_, rfl⟩
            rw [hq] at hcv
            have HQQ := Lib.hid hq
            clear hq
            have N5 : Blk (w5.alloc (.cells #[.string q] 9)) w5.heap.size 9 #[.string q] := Blk.new w5 _ _
            have R6 := R5.on (below1 w5 (.cells #[.string q] 9))
            obtain ⟨i0, hi0, hz0, hz1, hz2⟩ := info_parts infoStr
            go_wp2_with (at_builtin; refine wpList_append_lies _ rfl (.tmp 48) (.tmp 51) 39 rfl w.heap.size 9 i0 _ 1 16 Try.underlying39 hi0 hz0 hz1 hz2 rfl (by decide) _ D.length (strs D) rfl R6.own ⟨w5.heap.size, 0, none⟩ 1 1 [.string q] rfl rfl (World.news_of_block N5) (by intro u hu; simp only [List.mem_singleton] at hu; subst hu; rfl) (by omega) (by unfold maxLen; omega) (by omega) (R6.bel.size) _ rfl ?_)
            intro g2 cap2 w7 hown hgrow hat hgl
            have R7 := R6.append hgrow (c := wOther cc b m) (by rw [HQQ.out]; exact hown)
            clear R6 R5 N5 hcv hi0 hz0 hz1 hz2 hown hgrow hat hgl
            have f1 := (R7.row k hlt).1
            have f2 := (R7.row k hlt).2
            go_wp2
            go_roundg (128 - (k + 1))
            case measure => omega
            case rel => exact ⟨k + 1, wSame cc b m, D ++ [wOther cc b m], by omega, rfl, by go_num, HN.out, R7.put k m HM.out 49 (SS.out.2.1 HV.out).symm SS.out.1⟩
      · have HN : Hid ((b.K m && !a.K m) = false) := Lib.hid (by rw [hKa]; simp)
        cases hVa : a.V m
        · have sgs := sign_0 HS.out k m HM.out hks hKa hVa
          clear hKa hVa f1 f2
          go_wp2
          go_roundg (128 - (k + 1))
          case measure => omega
          case rel => exact ⟨k + 1, cc, D, by omega, rfl, by go_num, HP.skip HM.out HN.out, R⟩
        · have sgs := sign_1 HS.out k m HM.out hks hKa hVa
          clear hKa hVa f1 f2
          go_wp2
          go_roundg (128 - (k + 1))
          case measure => omega
          case rel => exact ⟨k + 1, cc, D, by omega, rfl, by go_num, HP.skip HM.out HN.out, R⟩
    · obtain rfl : k = 128 := by omega
      have e := HP.done.trans HQ.out
      subst e
      go_wp2
      go_ret
      exact ⟨_, rfl, R.own, R.bel⟩

theorem rless_s (s t : ByteArray) (a b : Cb) (w : World) (ha : a.snd = true) (hb : b.snd = true) (hs : txt a = s) (ht : txt b = t) (Q : List Cb) (hq : lessC a b = Q) :
    Calls Try.prog 52 #[.string s, .string t] w (GotS w Q) := by
  subst hq
  unfold lessC
  cases h : a.agr b with
  | true => rw [if_pos rfl]; exact rless_t s t _ a b w ha hb (Lib.hid hs) (Lib.hid ht) (Lib.hid rfl) h _ (Lib.hid rfl)
  | false => rw [if_neg (by simp)]; exact rless_f s t a b w ha hb (Lib.hid hs) (Lib.hid ht) h
end Go.Proofs

namespace Go.Proofs.Hd
open Go.RowKit
/-- v is a slice of the texts of the cubes L. -/
def PlT (w : World) (v : Value) (L : List Cb) : Prop := (L = [] ∧ ∃ A cap, v = .slice A 0 cap) ∨ ∃ g cap, v = .slice (some ⟨g, 0, none⟩) L.length cap ∧ g < w.heap.size ∧ ∀ (k : Nat) (c : Cb), L[k]? = some c → w.cell? ⟨g, k, none⟩ = some (.string (txt c))
theorem PlT.on {w w' : World} {v : Value} {L : List Cb} (h : PlT w v L) (hb : Below w.heap.size w w') : PlT w' v L := by
  rcases h with h | ⟨g, cap, e, hg, h⟩
  · exact .inl h
  · exact .inr ⟨g, cap, e, Nat.lt_of_lt_of_le hg hb.size, fun k c hk => on_some hb (h k c hk)⟩
theorem PlT.form {w : World} {v : Value} {L : List Cb} (h : PlT w v L) : ∃ A cap, v = .slice A L.length cap ∧ (L ≠ [] → ∃ g, A = some ⟨g, 0, none⟩ ∧ g < w.heap.size ∧ ∀ (k : Nat) (c : Cb), L[k]? = some c → w.cell? ⟨g, k, none⟩ = some (.string (txt c))) := by
  rcases h with ⟨rfl, A, cap, rfl⟩ | ⟨g, cap, rfl, hg, hc⟩
  · exact ⟨A, cap, rfl, fun h => absurd rfl h⟩
  · exact ⟨_, cap, rfl, fun _ => ⟨g, rfl, hg, hc⟩⟩
theorem own_PlT {w : World} {base : Nat} {v : Value} {L : List Cb} (h : w.ownsRow base 9 1 v L.length (strs L)) : PlT w v L := by
  rcases h.2 with ⟨rfl, h0⟩ | ⟨g, cap, cur, hv, hge, hheap, _⟩
  · exact .inl ⟨List.eq_nil_of_length_eq_zero h0, _, _, rfl⟩
  · subst hv
    refine .inr ⟨g, cap, rfl, (h.lt g rfl).2, fun k c hk => ?_⟩
    have hj := (List.getElem?_eq_some_iff.1 hk).1
    rw [h.cellAt k (by omega)]
    unfold strs
    rw [List.getElem?_map, hk]; rfl
/-- All of them sound: the texts, and whether there are not too many; else nothing and false. -/
def TextsPost (w : World) (L : List Cb) (e : Ending) (w' : World) : Prop :=
  (L.all Cb.snd = true → ∃ v, e = .returned (.tuple #[v, .bool (decide (L.length ≤ 200))]) ∧ w'.ownsRow w.heap.size 9 1 v L.length (strs L) ∧ Below w.heap.size w w') ∧
  (L.all Cb.snd = false → e = .returned (.tuple #[.slice none 0 0, .bool false]) ∧ Below w.heap.size w w')
theorem all_take {L : List Cb} {k : Nat} {c : Cb} (h : L[k]? = some c) (ha : (L.take k).all Cb.snd = true) (hc : c.snd = true) : (L.take (k + 1)).all Cb.snd = true := by
  obtain ⟨hk, rfl⟩ := List.getElem?_eq_some_iff.1 h
  rw [List.take_succ_eq_append_getElem hk, List.all_append, ha]
  simp [hc]
theorem all_no {L : List Cb} {k : Nat} {c : Cb} (h : L[k]? = some c) (hc : c.snd = false) : L.all Cb.snd = false := by
  rw [List.all_eq_false]
  exact ⟨c, List.mem_of_getElem? h, by rw [hc]; simp⟩
theorem strs_take {L : List Cb} {k : Nat} {c : Cb} {s : ByteArray} (h : L[k]? = some c) (hs : txt c = s) : strs (L.take (k + 1)) = strs (L.take k) ++ [.string s] := by
  obtain ⟨hk, rfl⟩ := List.getElem?_eq_some_iff.1 h
  rw [List.take_succ_eq_append_getElem hk, strs_snoc, hs]
end Go.Proofs.Hd
namespace Go.Proofs
open Go.RowKit Go.Proofs.Hd Go.Lib
attribute [local go_sem] uv_nonneg
set_option maxHeartbeats 1000000 in
set_option maxRecDepth 100000 in
theorem rhas3_c (x : Bool) (v : Value) (L : List Cb) (hh hl : BitVec 64) (w : World) (hl2 : L.length ≤ 4611686018427387904) (hx : anyHas L hh hl = x) (hv : Pl w v L) : Calls Try.prog 20 #[v, .agg #[.int .u64 (uv hh), .int .u64 (uv hl)]] w fun e w' => e = .returned (.bool x) ∧ Below w.heap.size w w' := by
  obtain ⟨A, cap, rfl, _, hA⟩ := hv.form
  have hlz : (L.length : Int) ≤ 4611686018427387904 := by omega
  have HA := Lib.hid hA
  have HX := Lib.hid hx
  have b0 := below1 w (.cells #[.int .u64 (uv hh), .int .u64 (uv hl)] 25)
  have N0 : Blk (w.alloc (.cells #[.int .u64 (uv hh), .int .u64 (uv hl)] 25)) w.heap.size 25 #[.int .u64 (uv hh), .int .u64 (uv hl)] := Blk.new w _ _
  have HB := Lib.hid b0
  have HN := Lib.hid N0
  clear hv hA hx b0 N0
  go_enter Try.func20, Try.ntmps20
  go_wp2
  go_loopg [5] L.length (fun gk s5 wr => ∃ k : Nat, k ≤ L.length ∧ gk = L.length - k ∧ s5 = .int .i64 k ∧ Below w.heap.size w wr ∧ Blk wr w.heap.size 25 #[.int .u64 (uv hh), .int .u64 (uv hl)] ∧ Hid (anyHas (L.take k) hh hl = false))
  case atStart => exact ⟨0, Nat.zero_le _, rfl, rfl, HB.out, HN.out, rfl⟩
  case round =>
    clear HB HN
    obtain ⟨k, hk, rfl, rfl, W, N, HK⟩ := hrel
    by_cases hlt : k < L.length
    · have hltz : (k : Int) < (L.length : Int) := by omega
      obtain ⟨c, hc⟩ : ∃ c, L[k]? = some c := ⟨_, List.getElem?_eq_getElem hlt⟩
      obtain ⟨b, off, rfl, hb, hpc⟩ := HA.out (ne_nil_of hc)
      obtain ⟨c0, c1, c2, c3⟩ := (hpc k c hc).on W
      have HC : Hid (anyHas (L.take (k + 1)) hh hl = c.has hh hl) := by
        show _ = _
        obtain ⟨hkl, rfl⟩ := List.getElem?_eq_some_iff.1 hc
        have := HK.out
        unfold anyHas at this ⊢
        rw [List.take_succ_eq_append_getElem hkl, List.any_append, this]
        simp
      have HY : Hid (c.has hh hl = true → x = true) := fun h => by
        rw [← HX.out]
        unfold anyHas
        rw [List.any_eq_true]
        exact ⟨c, List.mem_of_getElem? hc, h⟩
      clear hc hpc
      cases hs : c.snd with
      | false =>
        have hf := has_none hh hl hs
        have HD : Hid (anyHas (L.take (k + 1)) hh hl = false) := by show _ = _; rw [HC.out, hf]
        go_wp2_with fail
        (with_reducible refine (text_no c _ hs).mono ?_)
        rintro e w2 ⟨rfl, hb2⟩
        have W2 := W.trans (hb2.mono W.size)
        have N2 := N.on hb2
        clear W N hb2 c0 c1 c2 c3 HC HY hf
        go_wp2
        go_roundg (L.length - (k + 1))
        case measure => omega
        case rel => exact ⟨k + 1, by omega, rfl, by go_num, W2, N2, HD⟩
      | true =>
        obtain ⟨s, HT⟩ : ∃ s, Hid (txt c = s) := ⟨_, rfl⟩
        go_wp2_with fail
        (with_reducible refine (text_s s c _ hs HT.out).mono ?_)
        rintro e w2 ⟨rfl, hb2⟩
        have W2 := W.trans (hb2.mono W.size)
        have N2 := N.on hb2
        have n2 := Blk.pair N2
        clear W N hb2 c0 c1 c2 c3
        cases hq : c.has hh hl with
        | true =>
          obtain rfl := HY.out hq
          go_wp2_with fail
          (with_reducible refine (rhas_is true s c hh hl _ hs HT.out hq).mono ?_)
          rintro e w3 ⟨rfl, hb3⟩
          have W3 := W2.trans (hb3.mono W2.size)
          clear W2 N2 n2 hb3 HC HY
          go_wp2
          go_ret
          exact ⟨rfl, W3⟩
        | false =>
          have HD : Hid (anyHas (L.take (k + 1)) hh hl = false) := by show _ = _; rw [HC.out, hq]
          go_wp2_with fail
          (with_reducible refine (rhas_is false s c hh hl _ hs HT.out hq).mono ?_)
          rintro e w3 ⟨rfl, hb3⟩
          have W3 := W2.trans (hb3.mono W2.size)
          have N3 := N2.on hb3
          clear W2 N2 n2 hb3 HC HY
          go_wp2
          go_roundg (L.length - (k + 1))
          case measure => omega
          case rel => exact ⟨k + 1, by omega, rfl, by go_num, W3, N3, HD⟩
    · have hltz : ¬ (k : Int) < (L.length : Int) := by omega
      obtain rfl : k = L.length := by omega
      rw [List.take_length] at HK
      have e : x = false := by rw [← HX.out]; exact HK.out
      subst e
      go_wp2
      go_ret
      exact ⟨rfl, W⟩
end Go.Proofs

namespace Go.Proofs.Hd
open Go.RowKit
theorem sgn_inj {a b : Cb} {j : Nat} (hj : j < 128) (ha : a.snd = true) (hb : b.snd = true) (h : sgn a j = sgn b j) : a.K j = b.K j ∧ a.V j = b.V j := by
  have ha' := (Cb.snd_iff a).1 ha j hj
  have hb' := (Cb.snd_iff b).1 hb j hj
  unfold sgn at h
  revert h ha' hb'
  cases a.K j <;> cases b.K j <;> cases a.V j <;> cases b.V j <;> simp
theorem txt_inj {a b : Cb} (ha : a.snd = true) (hb : b.snd = true) (h : txt a = txt b) : a = b := by
  have hs : ∀ j, j < 128 → sgn a j = sgn b j := fun j hj => by
    have h1 : (txtL a)[127 - j]? = (txtL b)[127 - j]? := by
      have : (txtL a).toArray = (txtL b).toArray := congrArg ByteArray.data h
      rw [Array.mk.inj this]
    unfold txtL at h1
    simp only [List.getElem?_map, List.getElem?_range (show 127 - j < 128 by omega), Option.map_some, Option.some.injEq, show 127 - (127 - j) = j by omega] at h1
    exact h1
  exact cb_ext (fun j hj => (sgn_inj hj ha hb (hs j hj)).2) (fun j hj => (sgn_inj hj ha hb (hs j hj)).1)
theorem same_txt {a b : Cb} (ha : a.snd = true) (hb : b.snd = true) : a.same b = true ↔ txt a = txt b := by
  rw [Cb.same_iff]
  exact ⟨fun h => by rw [h], txt_inj ha hb⟩
/-- Is number i spare beside one of the first k? -/
def spareU (L : List Cb) (i k : Nat) : Bool := (List.range k).any fun k => match L[i]?, L[k]? with
  | some a, some b => spareBy a i b k
  | _, _ => false
theorem spareU_zero (L : List Cb) (i : Nat) : spareU L i 0 = false := rfl
theorem spareU_succ {L : List Cb} {i k : Nat} {a b : Cb} (ha : L[i]? = some a) (hb : L[k]? = some b) : spareU L i (k + 1) = (spareU L i k || spareBy a i b k) := by
  unfold spareU
  rw [List.range_succ, List.any_append]
  simp [ha, hb]
theorem spareU_all (L : List Cb) (i : Nat) : spareU L i L.length = spare L i := rfl
theorem spareU_true {L : List Cb} {i k : Nat} (hk : k ≤ L.length) (h : spareU L i k = true) : spare L i = true := by
  unfold spareU at h
  unfold spare
  rw [List.any_eq_true] at h ⊢
  obtain ⟨j, hj, h⟩ := h
  exact ⟨j, List.mem_range.2 (Nat.lt_of_lt_of_le (List.mem_range.1 hj) hk), h⟩
/-- The first i places, without the spare ones. -/
def leanU (L : List Cb) (i : Nat) : List Cb := (List.range i).filterMap fun i => if spare L i = true then none else L[i]?
theorem leanU_succ {L : List Cb} {i : Nat} {a : Cb} (ha : L[i]? = some a) : leanU L (i + 1) = if spare L i = true then leanU L i else leanU L i ++ [a] := by
  unfold leanU
  rw [List.range_succ, List.filterMap_append]
  by_cases h : spare L i = true <;> simp [h, ha]
theorem leanU_len (L : List Cb) (i : Nat) : (leanU L i).length ≤ i := by
  unfold leanU
  exact Nat.le_trans (List.length_filterMap_le _ _) (by simp)
theorem leanU_all {L : List Cb} (hs : ∀ c ∈ L, c.snd = true) : leanU L L.length = leanS L := by
  unfold leanU leanS leanI
  have e : sI L L.length = List.range L.length := by
    unfold sI
    rw [List.filter_eq_self]
    intro k hk
    have := List.mem_range.1 hk
    rw [sndAt_some (List.getElem?_eq_getElem this)]
    exact hs _ (List.getElem_mem this)
  rw [e, List.filterMap_filter]
  congr 1
  funext i
  cases spare L i <;> simp
end Go.Proofs.Hd
