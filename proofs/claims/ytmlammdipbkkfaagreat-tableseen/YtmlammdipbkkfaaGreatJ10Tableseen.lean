/-
  customhouselaw06.TableSeen returns true for every input, and each argument reads behind the call as before. No conditions.
  Contracts of the reference's Without and Seen of layer 6. Conditions as each theorem lists them.
  Contracts of customhouselaw06.few, same and awake. Conditions as each theorem lists them.
  Contract of the reference's Any of layer 6: the text of all headers. No conditions.
  The walk of customhouselaw06.TableSeen: it returns true. Conditions as each theorem lists them.
-/
import Derived.Test.YtmlammdipbkkfaaGreatJ9Tableseen
import Derived.Test.YtmlammdipbkkfaaGreatRows
import Derived.Below
import Derived.SizedLaws
namespace Go.Proofs.Hd
open Go.RowKit
/-- Texts were returned, and OK; or nothing, and ErrCubes. -/
def OptS2 (w : World) (o : Option (List Cb)) (e : Ending) (w' : World) : Prop := (∀ R, o = some R → ∃ v, e = .returned (.tuple #[v, .int .i64 0]) ∧ PlT w' v R ∧ Below w.heap.size w w') ∧ (o = none → e = .returned (.tuple #[.slice none 0 0, .int .i64 10]) ∧ Below w.heap.size w w')
theorem own_PlK {w : World} {base : Nat} {t : TypeId} {v : Value} {ks : List Nat} (h : w.ownsRow base t 1 v ks.length (ints ks)) : PlK w v ks := by
  rcases h.2 with ⟨rfl, hn⟩ | ⟨g, cap, cur, rfl, hb, hg, h1, h2, _⟩
  · exact ⟨none, 0, by rw [hn], by omega, Nat.zero_le _, fun hne => absurd (List.eq_nil_of_length_eq_zero hn) hne⟩
  · refine ⟨_, cap, rfl, h1, h2, fun _ => ⟨g, rfl, (Array.getElem?_eq_some_iff.1 hg).1, fun j k hk => ?_⟩⟩
    have hj : j < ks.length := (List.getElem?_eq_some_iff.1 hk).1
    rw [h.cellAt j (by omega)]
    unfold ints
    rw [List.getElem?_map, hk]
    rfl
theorem plT_one (w : World) (c : Cb) (s : ByteArray) (h : txt c = s) : PlT (w.alloc (.cells #[.string s] 9)) (.slice (some ⟨w.heap.size, 0, none⟩) 1 1) [c] := by
  refine .inr ⟨w.heap.size, 1, rfl, by simp, fun k d hk => ?_⟩
  have B : Blk (w.alloc (.cells #[.string s] 9)) w.heap.size 9 #[.string s] := Blk.new w _ _
  cases k with
  | zero => simp at hk; subst hk; rw [h]; exact B.cell 0
  | succ k => simp at hk
theorem sndA_take {L : List Rl} {k : Nat} {r : Rl} (hr : L[k]? = some r) (h : sndA (L.take k) = true) (hs : r.m.snd = true) : sndA (L.take (k + 1)) = true := by
  unfold sndA at *
  rw [List.take_add_one, hr, List.all_append, h]
  simp [hs]
theorem sndA_no {L : List Rl} {k : Nat} {r : Rl} (hr : L[k]? = some r) (hs : r.m.snd = false) : sndA L = false := by
  cases h : sndA L with
  | false => rfl
  | true => rw [sndA_at h hr] at hs; cases hs
end Go.Proofs.Hd
namespace Go.Proofs
open Go.RowKit Go.Proofs.Hd Go.Sort Go.Shelf Go.Lib
attribute [local go_sem] uv_nonneg
set_option maxHeartbeats 4000000 in
set_option maxRecDepth 100000 in
theorem rwith_bad (v : Value) (L : List Rl) (P : Option Addr) (pn pc : Nat) (s0 : ByteArray) (w : World) (hn : L.length ≤ 1000000) (hs : sndA L = false) (hv : Ru w v L) :
    Calls Tryz.prog 7 #[v, .slice P pn pc, .string s0] w fun e w' => e = .returned (.tuple #[.slice none 0 0, .int .i64 2]) ∧ Below w.heap.size w w' := by
  obtain ⟨A, cap, rfl, hA⟩ := hv.form
  have hlz : (L.length : Int) ≤ 1000000 := by omega
  have HA := Lib.hid hA
  have HS := Lib.hid hs
  have HB := Lib.hid (below1 w (.cells #[.string s0] 9))
  clear hv hA hs
  go_enter Tryz.func7, Tryz.ntmps7
  go_wp2
  go_loopg [9, 10, 11] L.length (fun gk s9 _ _ wr => ∃ k : Nat, k ≤ L.length ∧ gk = L.length - k ∧ s9 = .int .i64 k ∧ Hid (sndA (L.take k) = true) ∧ Hid (Below w.heap.size w wr))
  case atStart => exact ⟨0, Nat.zero_le _, rfl, rfl, rfl, HB⟩
  case round =>
    clear HB
    obtain ⟨k, hk, rfl, rfl, HK, HB⟩ := hrel
    by_cases hlt : k < L.length
    · have hltz : (k : Int) < (L.length : Int) := by omega
      obtain ⟨r, hr⟩ : ∃ r, L[k]? = some r := ⟨_, List.getElem?_eq_getElem hlt⟩
      obtain ⟨b, off, rfl, hb0, hpc⟩ := HA.out (by intro h; rw [h] at hlt; simp at hlt)
      obtain ⟨_, c1, c2, c3, c4, _⟩ := ((hpc k r hr).on HB.out).out
      have HR := Lib.hid hr
      clear hr hpc
      cases hq : r.m.snd with
      | false =>
        go_wp2_with fail
        (with_reducible refine (text_any false r.m _ hq).mono ?_)
        rintro e w2 ⟨s, rfl, hb2⟩
        have B2 := HB.out.trans (hb2.mono HB.out.size)
        clear HB hb2 c1 c2 c3 c4
        go_wp2
        go_ret2
        exact ⟨rfl, B2⟩
      | true =>
        have HK2 := Lib.hid (sndA_take HR.out HK.out hq)
        go_wp2_with fail
        (with_reducible refine (text_any true r.m _ hq).mono ?_)
        rintro e w2 ⟨s, rfl, hb2⟩
        have B2 := Lib.hid (HB.out.trans (hb2.mono HB.out.size))
        clear HB hb2 c1 c2 c3 c4
        go_wp2
        go_roundg (L.length - (k + 1))
        case measure => omega
        case rel => exact ⟨k + 1, by omega, rfl, by go_num, HK2, B2⟩
    · exfalso
      have e := HK.out
      rw [List.take_of_length_le (by omega), HS.out] at e
      cases e
set_option maxHeartbeats 4000000 in
set_option maxRecDepth 100000 in
theorem rwith_any (v pv : Value) (L : List Rl) (ks : List Nat) (c : Cb) (s0 : ByteArray) (w : World) (hn : L.length ≤ 1000000) (hkl : ks.length ≤ 1000000) (hk : ∀ k ∈ ks, k < L.length) (hs : sndA L = true) (hc : c.snd = true) (hs0 : txt c = s0) (hv : Ru w v L) (hp : PlK w pv ks) :
    Calls Tryz.prog 7 #[v, pv, .string s0] w (OptS2 w (pastL L ks [c])) := by
  obtain ⟨A, cap, rfl, hA⟩ := hv.form
  obtain ⟨P, cp, rfl, hp1, hp2, hP⟩ := hp
  have hlz : (L.length : Int) ≤ 1000000 := by omega
  have hkz : (ks.length : Int) ≤ 1000000 := by omega
  have HA := Lib.hid hA
  have HP := Lib.hid hP
  have HM := Lib.hid hk
  have HS := Lib.hid hs
  have HB := Lib.hid (below1 w (.cells #[.string s0] 9))
  have HT := Lib.hid (plT_one w c s0 hs0)
  have hsc := Lib.hid (snd_one hc)
  clear hv hA hs hP hk hc hs0
  go_enter Tryz.func7, Tryz.ntmps7
  go_wp2
  go_loopg [9, 10, 11] L.length (fun gk s9 _ _ wr => ∃ k : Nat, k ≤ L.length ∧ gk = L.length - k ∧ s9 = .int .i64 k ∧ Hid (Below w.heap.size w wr) ∧ Hid (PlT wr (.slice (some ⟨w.heap.size, 0, none⟩) 1 1) [c]))
  case atStart => exact ⟨0, Nat.zero_le _, rfl, rfl, HB, HT⟩
  case round =>
    clear HB HT
    obtain ⟨k, hk, rfl, rfl, HB, HT⟩ := hrel
    by_cases hlt : k < L.length
    · have hltz : (k : Int) < (L.length : Int) := by omega
      obtain ⟨r, hr⟩ : ∃ r, L[k]? = some r := ⟨_, List.getElem?_eq_getElem hlt⟩
      obtain ⟨b, off, rfl, hb0, hpc⟩ := HA.out (by intro h; rw [h] at hlt; simp at hlt)
      obtain ⟨_, c1, c2, c3, c4, _⟩ := ((hpc k r hr).on HB.out).out
      have hq := sndA_at HS.out hr
      clear hr hpc
      go_wp2_with fail
      (with_reducible refine (text_any true r.m _ hq).mono ?_)
      rintro e w2 ⟨s, rfl, hb2⟩
      have B2 := Lib.hid (HB.out.trans (hb2.mono HB.out.size))
      have T2 := Lib.hid (HT.out.on hb2)
      clear HB HT hb2 c1 c2 c3 c4
      go_wp2
      go_roundg (L.length - (k + 1))
      case measure => omega
      case rel => exact ⟨k + 1, by omega, rfl, by go_num, B2, T2⟩
    · have hltz : ¬ (k : Int) < (L.length : Int) := by omega
      go_wp2
      go_loopg [8, 12, 13, 14, 15, 16] ks.length (fun gj s8 s12 _ _ _ _ wj => ∃ (j : Nat) (cur : List Cb), j ≤ ks.length ∧ gj = ks.length - j ∧ s12 = .int .i64 j ∧ Hid (sndL cur = true) ∧ Hid (pastL L ks [c] = pastL L (ks.drop j) cur) ∧ Hid (Below w.heap.size w wj) ∧ Hid (PlT wj s8 cur))
      case atStart => exact ⟨0, [c], Nat.zero_le _, rfl, rfl, hsc, rfl, HB, HT⟩
      case round =>
        clear hsc HB HT
        obtain ⟨j, cur, hj, rfl, rfl, HC, HE, HB, HT⟩ := hrel
        by_cases hjt : j < ks.length
        · have hjz : (j : Int) < (ks.length : Int) := by omega
          obtain ⟨q, hq⟩ : ∃ q, ks[j]? = some q := ⟨_, List.getElem?_eq_getElem hjt⟩
          have hqn : q < L.length := HM.out q (List.mem_of_getElem? hq)
          have hqz : (q : Int) < (L.length : Int) := by omega
          obtain ⟨r, hr⟩ : ∃ r, L[q]? = some r := ⟨_, List.getElem?_eq_getElem hqn⟩
          obtain ⟨b, o, rfl, hb0, hpc⟩ := HA.out (by intro h; rw [h] at hqn; simp at hqn)
          obtain ⟨g, rfl, hg, hpg⟩ := HP.out (by intro h; rw [h] at hjt; simp at hjt)
          obtain ⟨_, c1, c2, c3, c4, _⟩ := ((hpc q r hr).on HB.out).out
          have hcell := on_some HB.out (hpg j q hq)
          have hsr := sndA_at HS.out hr
          have HN : Hid (pastL L ks [c] = (lessL cur [r.m]).bind (pastL L (ks.drop (j + 1)))) := by show _ = _; rw [HE.out, pastL_drop hq, at_pos hr]
          obtain ⟨s, hst⟩ : ∃ s, txt r.m = s := ⟨_, rfl⟩
          have HST := Lib.hid hst
          clear hq hr hpc hpg HE hst
          go_wp2_with fail
          (with_reducible refine (text_s s r.m _ hsr HST.out).mono ?_)
          rintro e w2 ⟨rfl, hb2⟩
          have B2 := HB.out.trans (hb2.mono HB.out.size)
          have hb3 := below1 w2 (.cells #[.string s] 9)
          have HB3 := Lib.hid (B2.trans (hb3.mono B2.size))
          have hcon := rless3_c _ (.slice (some ⟨w2.heap.size, 0, none⟩) 1 1) cur [r.m] (w2.alloc (.cells #[.string s] 9)) (sndL_len HC.out) (by simp) (sndL_all HC.out) (by intro d hd; simp at hd; subst hd; exact hsr) ((HT.out.on hb2).on hb3) (plT_one w2 r.m s HST.out)
          clear HB HT hb2 B2 hb3 c1 c2 c3 c4 hcell HST
          cases hls : lessL cur [r.m] with
          | some R =>
            have hcon1 := hcon.mono fun e w' h => h.1 R hls
            have HC2 := Lib.hid (less_one hls)
            have HE2 : Hid (pastL L ks [c] = pastL L (ks.drop (j + 1)) R) := by show _ = _; rw [HN.out, hls]; rfl
            clear hcon hls HN HC
            go_wp2_with fail
            (with_reducible refine hcon1.mono ?_)
            rintro e w4 ⟨v4, rfl, T4, hb4⟩
            have HT4 := Lib.hid T4
            have HB4 := Lib.hid (HB3.out.trans (hb4.mono HB3.out.size))
            clear HB3 hb4 T4 hcon1
            go_wp2
            go_roundg (ks.length - (j + 1))
            case measure => omega
            case rel => exact ⟨j + 1, R, by omega, rfl, by go_num, HC2, HE2, HB4, HT4⟩
          | none =>
            have hcon1 := hcon.mono fun e w' h => h.2 hls
            have HE2 : Hid (pastL L ks [c] = none) := by show _ = _; rw [HN.out, hls]; rfl
            clear hcon hls HN HC
            go_wp2_with fail
            (with_reducible refine hcon1.mono ?_)
            rintro e w4 ⟨rfl, hb4⟩
            have HB4 := HB3.out.trans (hb4.mono HB3.out.size)
            clear HB3 hb4 hcon1
            go_wp2
            go_ret2
            exact ⟨fun R hR => (by rw [HE2.out] at hR; cases hR), fun _ => ⟨rfl, HB4⟩⟩
        · have hjz : ¬ (j : Int) < (ks.length : Int) := by omega
          have HN : Hid (pastL L ks [c] = some cur) := by
            show _ = _
            rw [HE.out, List.drop_eq_nil_of_le (by omega), pastL]
          clear HE HC HA HP
          go_wp2
          go_ret2
          exact ⟨fun R hR => (by rw [HN.out] at hR; injection hR with hR; subst hR; exact ⟨_, rfl, HT.out, HB.out⟩), fun hn => (by rw [HN.out] at hn; cases hn)⟩
set_option maxHeartbeats 4000000 in
set_option maxRecDepth 100000 in
theorem rseen_some (v : Value) (L : List Rl) (n : Nat) (r : Rl) (w : World) (hl : L.length ≤ 1000) (hr : L[n]? = some r) (hs : sndA L = true) (R : List Cb) (hR : seenL L n = some R) (hv : Ru w v L) : Calls Tryz.prog 12 #[v, .int .i64 n] w fun e w' => ∃ v', e = .returned (.tuple #[v', .int .i64 0]) ∧ PlT w' v' R ∧ Below w.heap.size w w' := by
  have hcon1 := order_r v L w (by omega) hv
  have hnl : n < L.length := (List.getElem?_eq_some_iff.1 hr).1
  obtain ⟨A, cap, rfl, hA⟩ := hv.form
  obtain ⟨b, o, rfl, hb0, hc⟩ := hA (by intro e; rw [e] at hnl; simp at hnl)
  obtain ⟨kk, hk, hnb, hks⟩ := seen_at hnl
  have hkl : kk < L.length := by have := (List.getElem?_eq_some_iff.1 hk).1; rw [ordI_len] at this; exact this
  have hlz : (L.length : Int) ≤ 1000 := by omega
  have hnz : (n : Int) < (L.length : Int) := by omega
  have hq := sndA_at hs hr
  have HR := Lib.hid hR
  have HV := Lib.hid hv
  have HS := Lib.hid hs
  have Hr := Lib.hid hr
  have HC := Lib.hid (hc n r hr)
  have HK := Lib.hid hk
  have HNB := Lib.hid hnb
  have HKS := Lib.hid hks
  obtain ⟨s, hst⟩ : ∃ s, txt r.m = s := ⟨_, rfl⟩
  have HST := Lib.hid hst
  clear hv hc hk hnb hks hA hs hr hst hR
  go_enter Tryz.func12, Tryz.ntmps12
  go_wp2_with fail
  (with_reducible refine hcon1.mono ?_)
  rintro e w1 ⟨v1, rfl, O1, B1⟩
  have HPK := Lib.hid (own_PlK O1)
  have HB1 := Lib.hid B1
  obtain ⟨A1, cp, rfl, hcp, hcm, hf⟩ := own_PlK O1
  obtain ⟨g, rfl, hg, hcells⟩ := hf (by intro e; have := ordI_len L; rw [e] at this; simp at this; omega)
  rw [ordI_len] at hcp HPK
  rw [ordI_len]
  have HG := Lib.hid hcells
  have hkc : (kk : Int) ≤ (cp : Int) := by omega
  clear hf hcells O1 B1 hcon1
  go_wp2
  go_loopg [7] kk (fun gk s7 wr => ∃ j : Nat, j ≤ kk ∧ gk = kk - j ∧ s7 = .int .i64 j ∧ wr = w1)
  case atStart => exact ⟨0, Nat.zero_le _, rfl, rfl, rfl⟩
  case round =>
    obtain ⟨j, hj, rfl, rfl, rfl⟩ := hrel
    have hjz : (j : Int) < (L.length : Int) := by omega
    obtain ⟨m, hm⟩ : ∃ m, (ordI L)[j]? = some m := ⟨_, List.getElem?_eq_getElem (by rw [ordI_len]; omega)⟩
    have hcell := HG.out j m hm
    rcases Nat.lt_or_ge j kk with h1 | h1
    · have hne := HNB.out j m h1 hm
      have hnz2 : ¬ (m : Int) = (n : Int) := by omega
      clear hm
      go_wp2
      go_roundg (kk - (j + 1))
      case measure => omega
      case rel => exact ⟨j + 1, by omega, rfl, by go_num, rfl⟩
    · obtain rfl : j = kk := by omega
      have e := HK.out
      rw [hm] at e
      injection e with e
      subst e
      clear hm
      obtain ⟨_, c1, c2, c3, c4, _⟩ := (HC.out.on HB1.out).out
      have HPT := Lib.hid (HPK.out.take (k := j) (by rw [ordI_len]; omega))
      go_wp2_with fail
      (with_reducible refine (text_s s r.m _ hq HST.out).mono ?_)
      rintro e w3 ⟨rfl, hb3⟩
      have B3 := Lib.hid (HB1.out.trans (hb3.mono HB1.out.size))
      have hcon3 := (rwith_any _ _ L ((ordI L).take j) r.m s w3 (by omega) (by rw [List.length_take, ordI_len]; omega) (fun k hk => ordI_lt (List.mem_of_mem_take hk)) HS.out hq HST.out (HV.out.on B3.out) (HPT.out.on hb3)).mono fun e w' h => h.1 R (by rw [HKS.out]; have := HR.out; unfold seenL at this; rw [at_pos Hr.out] at this; exact this)
      clear HPT hb3 HB1 c1 c2 c3 c4 hcell
      go_wp2_with fail
      (with_reducible refine hcon3.mono ?_)
      rintro e w4 ⟨v4, rfl, T4, hb4⟩
      have B4 := B3.out.trans (hb4.mono B3.out.size)
      clear hcon3 B3 hb4
      go_wp2
      go_ret2
      exact ⟨_, rfl, T4, B4⟩
set_option maxHeartbeats 4000000 in
set_option maxRecDepth 100000 in
theorem rseen_none (v : Value) (L : List Rl) (n : Nat) (r : Rl) (w : World) (hl : L.length ≤ 1000) (hr : L[n]? = some r) (hs : sndA L = true) (hR : seenL L n = none) (hv : Ru w v L) : Calls Tryz.prog 12 #[v, .int .i64 n] w fun e w' => e = .returned (.tuple #[.slice none 0 0, .int .i64 10]) ∧ Below w.heap.size w w' := by
  have hcon1 := order_r v L w (by omega) hv
  have hnl : n < L.length := (List.getElem?_eq_some_iff.1 hr).1
  obtain ⟨A, cap, rfl, hA⟩ := hv.form
  obtain ⟨b, o, rfl, hb0, hc⟩ := hA (by intro e; rw [e] at hnl; simp at hnl)
  obtain ⟨kk, hk, hnb, hks⟩ := seen_at hnl
  have hkl : kk < L.length := by have := (List.getElem?_eq_some_iff.1 hk).1; rw [ordI_len] at this; exact this
  have hlz : (L.length : Int) ≤ 1000 := by omega
  have hnz : (n : Int) < (L.length : Int) := by omega
  have hq := sndA_at hs hr
  have HR := Lib.hid hR
  have HV := Lib.hid hv
  have HS := Lib.hid hs
  have Hr := Lib.hid hr
  have HC := Lib.hid (hc n r hr)
  have HK := Lib.hid hk
  have HNB := Lib.hid hnb
  have HKS := Lib.hid hks
  obtain ⟨s, hst⟩ : ∃ s, txt r.m = s := ⟨_, rfl⟩
  have HST := Lib.hid hst
  clear hv hc hk hnb hks hA hs hr hst hR
  go_enter Tryz.func12, Tryz.ntmps12
  go_wp2_with fail
  (with_reducible refine hcon1.mono ?_)
  rintro e w1 ⟨v1, rfl, O1, B1⟩
  have HPK := Lib.hid (own_PlK O1)
  have HB1 := Lib.hid B1
  obtain ⟨A1, cp, rfl, hcp, hcm, hf⟩ := own_PlK O1
  obtain ⟨g, rfl, hg, hcells⟩ := hf (by intro e; have := ordI_len L; rw [e] at this; simp at this; omega)
  rw [ordI_len] at hcp HPK
  rw [ordI_len]
  have HG := Lib.hid hcells
  have hkc : (kk : Int) ≤ (cp : Int) := by omega
  clear hf hcells O1 B1 hcon1
  go_wp2
  go_loopg [7] kk (fun gk s7 wr => ∃ j : Nat, j ≤ kk ∧ gk = kk - j ∧ s7 = .int .i64 j ∧ wr = w1)
  case atStart => exact ⟨0, Nat.zero_le _, rfl, rfl, rfl⟩
  case round =>
    obtain ⟨j, hj, rfl, rfl, rfl⟩ := hrel
    have hjz : (j : Int) < (L.length : Int) := by omega
    obtain ⟨m, hm⟩ : ∃ m, (ordI L)[j]? = some m := ⟨_, List.getElem?_eq_getElem (by rw [ordI_len]; omega)⟩
    have hcell := HG.out j m hm
    rcases Nat.lt_or_ge j kk with h1 | h1
    · have hne := HNB.out j m h1 hm
      have hnz2 : ¬ (m : Int) = (n : Int) := by omega
      clear hm
      go_wp2
      go_roundg (kk - (j + 1))
      case measure => omega
      case rel => exact ⟨j + 1, by omega, rfl, by go_num, rfl⟩
    · obtain rfl : j = kk := by omega
      have e := HK.out
      rw [hm] at e
      injection e with e
      subst e
      clear hm
      obtain ⟨_, c1, c2, c3, c4, _⟩ := (HC.out.on HB1.out).out
      have HPT := Lib.hid (HPK.out.take (k := j) (by rw [ordI_len]; omega))
      go_wp2_with fail
      (with_reducible refine (text_s s r.m _ hq HST.out).mono ?_)
      rintro e w3 ⟨rfl, hb3⟩
      have B3 := Lib.hid (HB1.out.trans (hb3.mono HB1.out.size))
      have hcon3 := (rwith_any _ _ L ((ordI L).take j) r.m s w3 (by omega) (by rw [List.length_take, ordI_len]; omega) (fun k hk => ordI_lt (List.mem_of_mem_take hk)) HS.out hq HST.out (HV.out.on B3.out) (HPT.out.on hb3)).mono fun e w' h => h.2 (by rw [HKS.out]; have := HR.out; unfold seenL at this; rw [at_pos Hr.out] at this; exact this)
      clear HPT hb3 HB1 c1 c2 c3 c4 hcell
      go_wp2_with fail
      (with_reducible refine hcon3.mono ?_)
      rintro e w4 ⟨rfl, hb4⟩
      have B4 := B3.out.trans (hb4.mono B3.out.size)
      clear hcon3 B3 hb4
      go_wp2
      go_ret2
      exact ⟨rfl, B4⟩
set_option maxHeartbeats 4000000 in
set_option maxRecDepth 100000 in
theorem rseen_bad (v : Value) (L : List Rl) (n : Nat) (r : Rl) (w : World) (hl : L.length ≤ 1000) (hr : L[n]? = some r) (hs : sndA L = false) (hq : r.m.snd = true) (hv : Ru w v L) : Calls Tryz.prog 12 #[v, .int .i64 n] w fun e w' => e = .returned (.tuple #[.slice none 0 0, .int .i64 2]) ∧ Below w.heap.size w w' := by
  have hcon1 := order_r v L w (by omega) hv
  have hnl : n < L.length := (List.getElem?_eq_some_iff.1 hr).1
  obtain ⟨A, cap, rfl, hA⟩ := hv.form
  obtain ⟨b, o, rfl, hb0, hc⟩ := hA (by intro e; rw [e] at hnl; simp at hnl)
  obtain ⟨kk, hk, hnb, hks⟩ := seen_at hnl
  have hkl : kk < L.length := by have := (List.getElem?_eq_some_iff.1 hk).1; rw [ordI_len] at this; exact this
  have hlz : (L.length : Int) ≤ 1000 := by omega
  have hnz : (n : Int) < (L.length : Int) := by omega
  have HV := Lib.hid hv
  have HS := Lib.hid hs
  have Hr := Lib.hid hr
  have HC := Lib.hid (hc n r hr)
  have HK := Lib.hid hk
  have HNB := Lib.hid hnb
  have HKS := Lib.hid hks
  obtain ⟨s, hst⟩ : ∃ s, txt r.m = s := ⟨_, rfl⟩
  have HST := Lib.hid hst
  clear hv hc hk hnb hks hA hs hr hst
  go_enter Tryz.func12, Tryz.ntmps12
  go_wp2_with fail
  (with_reducible refine hcon1.mono ?_)
  rintro e w1 ⟨v1, rfl, O1, B1⟩
  have HPK := Lib.hid (own_PlK O1)
  have HB1 := Lib.hid B1
  obtain ⟨A1, cp, rfl, hcp, hcm, hf⟩ := own_PlK O1
  obtain ⟨g, rfl, hg, hcells⟩ := hf (by intro e; have := ordI_len L; rw [e] at this; simp at this; omega)
  rw [ordI_len] at hcp HPK
  rw [ordI_len]
  have HG := Lib.hid hcells
  have hkc : (kk : Int) ≤ (cp : Int) := by omega
  clear hf hcells O1 B1 hcon1
  go_wp2
  go_loopg [7] kk (fun gk s7 wr => ∃ j : Nat, j ≤ kk ∧ gk = kk - j ∧ s7 = .int .i64 j ∧ wr = w1)
  case atStart => exact ⟨0, Nat.zero_le _, rfl, rfl, rfl⟩
  case round =>
    obtain ⟨j, hj, rfl, rfl, rfl⟩ := hrel
    have hjz : (j : Int) < (L.length : Int) := by omega
    obtain ⟨m, hm⟩ : ∃ m, (ordI L)[j]? = some m := ⟨_, List.getElem?_eq_getElem (by rw [ordI_len]; omega)⟩
    have hcell := HG.out j m hm
    rcases Nat.lt_or_ge j kk with h1 | h1
    · have hne := HNB.out j m h1 hm
      have hnz2 : ¬ (m : Int) = (n : Int) := by omega
      clear hm
      go_wp2
      go_roundg (kk - (j + 1))
      case measure => omega
      case rel => exact ⟨j + 1, by omega, rfl, by go_num, rfl⟩
    · obtain rfl : j = kk := by omega
      have e := HK.out
      rw [hm] at e
      injection e with e
      subst e
      clear hm
      obtain ⟨_, c1, c2, c3, c4, _⟩ := (HC.out.on HB1.out).out
      have HPT := Lib.hid (HPK.out.take (k := j) (by rw [ordI_len]; omega))
      go_wp2_with fail
      (with_reducible refine (text_s s r.m _ hq HST.out).mono ?_)
      rintro e w3 ⟨rfl, hb3⟩
      have B3 := Lib.hid (HB1.out.trans (hb3.mono HB1.out.size))
      have hcon3 := rwith_bad _ L (some ⟨g, 0, none⟩) j cp s w3 (by omega) HS.out (HV.out.on B3.out)
      clear HPT hb3 HB1 c1 c2 c3 c4 hcell
      go_wp2_with fail
      (with_reducible refine hcon3.mono ?_)
      rintro e w4 ⟨rfl, hb4⟩
      have B4 := B3.out.trans (hb4.mono B3.out.size)
      clear hcon3 B3 hb4
      go_wp2
      go_ret2
      exact ⟨rfl, B4⟩
set_option maxHeartbeats 4000000 in
set_option maxRecDepth 100000 in
theorem rseen_bad0 (v : Value) (L : List Rl) (n : Nat) (r : Rl) (w : World) (hl : L.length ≤ 1000) (hr : L[n]? = some r) (hs : sndA L = false) (hq : r.m.snd = false) (hv : Ru w v L) : Calls Tryz.prog 12 #[v, .int .i64 n] w fun e w' => e = .returned (.tuple #[.slice none 0 0, .int .i64 2]) ∧ Below w.heap.size w w' := by
  have hcon1 := order_r v L w (by omega) hv
  have hnl : n < L.length := (List.getElem?_eq_some_iff.1 hr).1
  obtain ⟨A, cap, rfl, hA⟩ := hv.form
  obtain ⟨b, o, rfl, hb0, hc⟩ := hA (by intro e; rw [e] at hnl; simp at hnl)
  obtain ⟨kk, hk, hnb, hks⟩ := seen_at hnl
  have hkl : kk < L.length := by have := (List.getElem?_eq_some_iff.1 hk).1; rw [ordI_len] at this; exact this
  have hlz : (L.length : Int) ≤ 1000 := by omega
  have hnz : (n : Int) < (L.length : Int) := by omega
  have HV := Lib.hid hv
  have HS := Lib.hid hs
  have Hr := Lib.hid hr
  have HC := Lib.hid (hc n r hr)
  have HK := Lib.hid hk
  have HNB := Lib.hid hnb
  have HKS := Lib.hid hks
  obtain ⟨s, hst⟩ : ∃ s, txt r.m = s := ⟨_, rfl⟩
  have HST := Lib.hid hst
  clear hv hc hk hnb hks hA hs hr hst
  go_enter Tryz.func12, Tryz.ntmps12
  go_wp2_with fail
  (with_reducible refine hcon1.mono ?_)
  rintro e w1 ⟨v1, rfl, O1, B1⟩
  have HPK := Lib.hid (own_PlK O1)
  have HB1 := Lib.hid B1
  obtain ⟨A1, cp, rfl, hcp, hcm, hf⟩ := own_PlK O1
  obtain ⟨g, rfl, hg, hcells⟩ := hf (by intro e; have := ordI_len L; rw [e] at this; simp at this; omega)
  rw [ordI_len] at hcp HPK
  rw [ordI_len]
  have HG := Lib.hid hcells
  have hkc : (kk : Int) ≤ (cp : Int) := by omega
  clear hf hcells O1 B1 hcon1
  go_wp2
  go_loopg [7] kk (fun gk s7 wr => ∃ j : Nat, j ≤ kk ∧ gk = kk - j ∧ s7 = .int .i64 j ∧ wr = w1)
  case atStart => exact ⟨0, Nat.zero_le _, rfl, rfl, rfl⟩
  case round =>
    obtain ⟨j, hj, rfl, rfl, rfl⟩ := hrel
    have hjz : (j : Int) < (L.length : Int) := by omega
    obtain ⟨m, hm⟩ : ∃ m, (ordI L)[j]? = some m := ⟨_, List.getElem?_eq_getElem (by rw [ordI_len]; omega)⟩
    have hcell := HG.out j m hm
    rcases Nat.lt_or_ge j kk with h1 | h1
    · have hne := HNB.out j m h1 hm
      have hnz2 : ¬ (m : Int) = (n : Int) := by omega
      clear hm
      go_wp2
      go_roundg (kk - (j + 1))
      case measure => omega
      case rel => exact ⟨j + 1, by omega, rfl, by go_num, rfl⟩
    · obtain rfl : j = kk := by omega
      have e := HK.out
      rw [hm] at e
      injection e with e
      subst e
      clear hm
      obtain ⟨_, c1, c2, c3, c4, _⟩ := (HC.out.on HB1.out).out
      have HPT := Lib.hid (HPK.out.take (k := j) (by rw [ordI_len]; omega))
      go_wp2_with fail
      (with_reducible refine (text_any false r.m _ hq).mono ?_)
      rintro e w3 ⟨s3, rfl, hb3⟩
      have B4 := HB1.out.trans (hb3.mono HB1.out.size)
      clear HPT hb3 HB1 c1 c2 c3 c4 hcell
      go_wp2
      go_ret2
      exact ⟨rfl, B4⟩
theorem rseen_form (v : Value) (L : List Rl) (n : Nat) (r : Rl) (w : World) (hl : L.length ≤ 1000) (hr : L[n]? = some r) (hs : sndA L = false) (hv : Ru w v L) : Calls Tryz.prog 12 #[v, .int .i64 n] w fun e w' => e = .returned (.tuple #[.slice none 0 0, .int .i64 2]) ∧ Below w.heap.size w w' := by
  cases hq : r.m.snd with
  | true => exact rseen_bad v L n r w hl hr hs hq hv
  | false => exact rseen_bad0 v L n r w hl hr hs hq hv
end Go.Proofs

namespace Go.Proofs.Hd
open Go.RowKit
def awC : Cb := ⟨0#64, 1#64, 0#64, 1#64⟩
/-- The rules of awake. -/
def awL : List Rl := [⟨1, ⟨0#64, 0#64, 0#64, 0#64⟩, 1, 0, 0, ⟨0#64, 0#64, 0#64, 0#64⟩⟩, ⟨2, ⟨0#64, 1#64, 0#64, 1#64⟩, 1, 0, 0, ⟨0#64, 0#64, 0#64, 0#64⟩⟩, ⟨0, ⟨0#64, 1#64, 0#64, 1#64⟩, 1, 0, 0, ⟨0#64, 0#64, 0#64, 0#64⟩⟩]
theorem aw_ord : ordI awL = [1, 0, 2] := (ordI_unique (by decide) (by decide)).symm
theorem aw_snd : sndA awL = true := by decide
theorem aw_find3 : fndI awL 0#64 3#64 = some 1 := by unfold fndI; rw [aw_ord]; decide
theorem aw_find2 : fndI awL 0#64 2#64 = some 0 := by unfold fndI; rw [aw_ord]; decide
theorem aw_tab : sT [awL] [] = 0 := by decide
def awX : Cb := ⟨0#64, 0#64, 0#64, 1#64⟩
theorem aw_seen0 : seenL awL 0 = some [awX] := by
  unfold seenL aheadI
  rw [aw_ord]
  kernel_rfl
theorem aw_seen1 : seenL awL 1 = some [awC] := by
  unfold seenL aheadI
  rw [aw_ord]
  kernel_rfl
theorem aw_seen2 : seenL awL 2 = some [] := by
  unfold seenL aheadI
  rw [aw_ord]
  kernel_rfl
theorem aw_idle : idlU awL awL.length = some [2] := by
  show idlU awL 3 = _
  rw [idlU, idlU, idlU, idlU]
  simp only [Option.bind_some]
  rw [aw_seen0, aw_seen1, aw_seen2]
  rfl
theorem Ru.take {w : World} {A : Option Addr} {n cap : Nat} {L : List Rl} (h : Ru w (.slice A n cap) L) (k : Nat) : Ru w (.slice A (L.take k).length cap) (L.take k) := by
  rcases h with ⟨rfl, A', cap', e⟩ | ⟨b, off, cap', e, hb, hc⟩
  · exact .inl ⟨by simp, A, cap, by simp⟩
  · injection e with e1 e2 e3
    subst e1 e3
    refine .inr ⟨b, off, cap, rfl, hb, fun j r hj => hc j r ?_⟩
    rw [List.getElem?_take] at hj
    split at hj
    · exact hj
    · cases hj
theorem ruT_one {w : World} {v : Value} {L : List Rl} (h : Ru w v L) (hl : L.length ≤ maxLen) : RuT (w.alloc (.cells #[v] 22)) (.slice (some ⟨w.heap.size, 0, none⟩) 1 1) [L] := by
  refine ⟨_, 1, rfl, by unfold maxLen; simp, fun M hM => by simp at hM; subst hM; exact hl, fun _ => ⟨w.heap.size, 0, rfl, by simp, fun k M hk => ?_⟩⟩
  have B : Blk (w.alloc (.cells #[v] 22)) w.heap.size 22 #[v] := Blk.new w _ _
  cases k with
  | zero => simp at hk; subst hk; exact ⟨v, B.cell 0, h.on (below1 _ _)⟩
  | succ k => simp at hk
end Go.Proofs.Hd
namespace Go.Proofs
open Go.RowKit Go.Proofs.Hd Go.Sort Go.Shelf Go.Lib
attribute [local go_sem] uv_nonneg
theorem few_c (A : Option Addr) (cap : Nat) (L : List Rl) (w : World) (hl : L.length ≤ 4611686018427387904) (hc : L.length ≤ cap) (hv : Ru w (.slice A L.length cap) L) : Calls Tryz.prog 4 #[.slice A L.length cap] w fun e w' => e = .returned (.slice A (L.take 8).length cap) ∧ w' = w := by
  have hlz : (L.length : Int) ≤ 4611686018427387904 := by omega
  by_cases h8 : 8 < L.length
  · have h8z : (8 : Int) < (L.length : Int) := by omega
    have hcz : (8 : Int) ≤ (cap : Int) := by omega
    obtain ⟨A', cap', e, hA⟩ := hv.form
    injection e with e1 _ _
    subst e1
    obtain ⟨b, o, rfl, _, _⟩ := hA (by intro e; rw [e] at h8; simp at h8)
    have hk : (L.take 8).length = 8 := by rw [List.length_take]; omega
    rw [hk]
    clear hv hA hk
    go_enter Tryz.func4, Tryz.ntmps4
    go_wp2
    go_ret
    exact ⟨rfl, rfl⟩
  · have h8z : ¬ (8 : Int) < (L.length : Int) := by omega
    have hk : L.take 8 = L := List.take_of_length_le (by omega)
    rw [hk]
    clear hv hk
    go_enter Tryz.func4, Tryz.ntmps4
    go_wp2
    go_ret
    exact ⟨rfl, rfl⟩
theorem aw_row (w : World) : Ru ((w.alloc (.cells #[.int .u64 0, .int .u64 1, .int .u64 0, .int .u64 1] 47)).alloc (.cells #[.int .i64 1, .int .u64 0, .int .u64 0, .int .u64 0, .int .u64 0, .int .i64 1, .int .i64 0, .int .i64 0, .int .u64 0, .int .u64 0, .int .u64 0, .int .u64 0, .int .i64 2, .int .u64 0, .int .u64 1, .int .u64 0, .int .u64 1, .int .i64 1, .int .i64 0, .int .i64 0, .int .u64 0, .int .u64 0, .int .u64 0, .int .u64 0, .int .i64 0, .int .u64 0, .int .u64 1, .int .u64 0, .int .u64 1, .int .i64 1, .int .i64 0, .int .i64 0, .int .u64 0, .int .u64 0, .int .u64 0, .int .u64 0] 51)) (.slice (some ⟨w.heap.size + 1, 0, none⟩) 3 3) awL :=
  own_Ru (base := w.heap.size) (t := 51) ⟨rfl, .inr ⟨w.heap.size + 1, 3, #[.int .i64 1, .int .u64 0, .int .u64 0, .int .u64 0, .int .u64 0, .int .i64 1, .int .i64 0, .int .i64 0, .int .u64 0, .int .u64 0, .int .u64 0, .int .u64 0, .int .i64 2, .int .u64 0, .int .u64 1, .int .u64 0, .int .u64 1, .int .i64 1, .int .i64 0, .int .i64 0, .int .u64 0, .int .u64 0, .int .u64 0, .int .u64 0, .int .i64 0, .int .u64 0, .int .u64 1, .int .u64 0, .int .u64 1, .int .i64 1, .int .i64 0, .int .i64 0, .int .u64 0, .int .u64 0, .int .u64 0, .int .u64 0], rfl, by omega, by have := heap_alloc_new (w.alloc (.cells #[.int .u64 0, .int .u64 1, .int .u64 0, .int .u64 1] 47)) (.cells #[.int .i64 1, .int .u64 0, .int .u64 0, .int .u64 0, .int .u64 0, .int .i64 1, .int .i64 0, .int .i64 0, .int .u64 0, .int .u64 0, .int .u64 0, .int .u64 0, .int .i64 2, .int .u64 0, .int .u64 1, .int .u64 0, .int .u64 1, .int .i64 1, .int .i64 0, .int .i64 0, .int .u64 0, .int .u64 0, .int .u64 0, .int .u64 0, .int .i64 0, .int .u64 0, .int .u64 1, .int .u64 0, .int .u64 1, .int .i64 1, .int .i64 0, .int .i64 0, .int .u64 0, .int .u64 0, .int .u64 0, .int .u64 0] 51); simpa using this, by decide, by unfold maxLen; omega, rfl, rfl⟩⟩
theorem aw_f3 (v : Value) (W : World) (hv : Ru W v awL) : Calls Tryz.prog 20 #[v, .agg #[.int .u64 0, .int .u64 3]] W fun e w' => e = .returned (.tuple #[.int .i64 1, .bool true]) ∧ Below W.heap.size W w' := by
  have h := find_c v awL 0#64 3#64 W (by decide) hv
  rw [aw_find3] at h
  exact h
theorem aw_f2 (v : Value) (W : World) (hv : Ru W v awL) : Calls Tryz.prog 20 #[v, .agg #[.int .u64 0, .int .u64 2]] W fun e w' => e = .returned (.tuple #[.int .i64 0, .bool true]) ∧ Below W.heap.size W w' := by
  have h := find_c v awL 0#64 2#64 W (by decide) hv
  rw [aw_find2] at h
  exact h
theorem aw_sn (v : Value) (W : World) (hv : Ru W v awL) : Calls Tryz.prog 5 #[v, .int .i64 0] W fun e w' => ∃ A c, e = .returned (.tuple #[.slice A 1 c, .int .i64 0]) ∧ Below W.heap.size W w' :=
  (seen_some v awL 0 _ W (by decide) rfl aw_snd hv _ aw_seen0).mono fun e w' ⟨x, e1, o, b⟩ => by
    obtain ⟨A, c, rfl, _⟩ := own_form o
    exact ⟨A, c, e1, b⟩
theorem aw_id (v : Value) (W : World) (hv : Ru W v awL) : Calls Tryz.prog 21 #[v] W fun e w' => ∃ g c, e = .returned (.tuple #[.slice (some ⟨g, 0, none⟩) 1 c, .int .i64 0]) ∧ w'.cell? ⟨g, 0, none⟩ = some (.int .i64 2) ∧ Below W.heap.size W w' :=
  (idle_any v awL W (by decide) aw_snd hv).mono fun e w' h => by
    obtain ⟨x, e1, o, b⟩ := h.1 _ aw_idle
    obtain ⟨A, c, rfl, _, _, hf⟩ := own_PlK o
    obtain ⟨g, rfl, _, hc⟩ := hf (by simp)
    exact ⟨g, c, e1, hc 0 2 rfl, b⟩
theorem aw_st (v pv : Value) (W : World) (hv : RuT W v [awL]) (hp : Po W pv []) : Calls Tryz.prog 22 #[v, pv] W fun e w' => e = .returned (.int .i64 0) ∧ Below W.heap.size W w' := by
  have h := tabs_c v pv [awL] [] W hv hp
  rw [aw_tab] at h
  exact h
set_option maxHeartbeats 8000000 in
set_option maxRecDepth 100000 in
theorem awake6_c (w : World) : Calls Tryz.prog 11 #[] w fun e w' => e = .returned (.bool true) ∧ Below w.heap.size w w' := by
  have B0 := below2 w (.cells #[.int .u64 0, .int .u64 1, .int .u64 0, .int .u64 1] 47) (.cells #[.int .i64 1, .int .u64 0, .int .u64 0, .int .u64 0, .int .u64 0, .int .i64 1, .int .i64 0, .int .i64 0, .int .u64 0, .int .u64 0, .int .u64 0, .int .u64 0, .int .i64 2, .int .u64 0, .int .u64 1, .int .u64 0, .int .u64 1, .int .i64 1, .int .i64 0, .int .i64 0, .int .u64 0, .int .u64 0, .int .u64 0, .int .u64 0, .int .i64 0, .int .u64 0, .int .u64 1, .int .u64 0, .int .u64 1, .int .i64 1, .int .i64 0, .int .i64 0, .int .u64 0, .int .u64 0, .int .u64 0, .int .u64 0] 51)
  have R0 := aw_row w
  have X0 : Blk (w.alloc (.cells #[.int .u64 0, .int .u64 1, .int .u64 0, .int .u64 1] 47)) w.heap.size 47 #[.int .u64 0, .int .u64 1, .int .u64 0, .int .u64 1] := Blk.new w _ _
  have x0 := X0.cell 0
  have x1 := X0.cell 1
  have x2 := X0.cell 2
  have x3 := X0.cell 3
  clear X0
  go_enter Tryz.func11, Tryz.ntmps11
  go_upto_region 3 with (fail)
  generalize (w.alloc (.cells #[.int .u64 0, .int .u64 1, .int .u64 0, .int .u64 1] 47)).alloc (.cells #[.int .i64 1, .int .u64 0, .int .u64 0, .int .u64 0, .int .u64 0, .int .i64 1, .int .i64 0, .int .i64 0, .int .u64 0, .int .u64 0, .int .u64 0, .int .u64 0, .int .i64 2, .int .u64 0, .int .u64 1, .int .u64 0, .int .u64 1, .int .i64 1, .int .i64 0, .int .i64 0, .int .u64 0, .int .u64 0, .int .u64 0, .int .u64 0, .int .i64 0, .int .u64 0, .int .u64 1, .int .u64 0, .int .u64 1, .int .i64 1, .int .i64 0, .int .i64 0, .int .u64 0, .int .u64 0, .int .u64 0, .int .u64 0] 51) = w2 at B0 R0 ⊢
  clear x0 x1 x2 x3
  go_wp2_with fail
  (with_reducible refine (aw_f3 _ _ R0).mono ?_)
  rintro e w3 ⟨rfl, hb⟩
  have B1 := B0.trans (hb.mono B0.size)
  have R1 := R0.on hb
  clear B0 R0 hb
  go_wp2_with fail
  (with_reducible refine (aw_f2 _ _ R1).mono ?_)
  rintro e w4 ⟨rfl, hb⟩
  have B2 := B1.trans (hb.mono B1.size)
  have R2 := R1.on hb
  clear B1 R1 hb
  go_wp2_with fail
  (with_reducible refine (aw_sn _ _ R2).mono ?_)
  rintro e w5 ⟨A5, c5, rfl, hb⟩
  have B3 := B2.trans (hb.mono B2.size)
  have R3 := R2.on hb
  clear B2 R2 hb
  go_wp2_with fail
  (with_reducible refine (aw_id _ _ R3).mono ?_)
  rintro e w6 ⟨g6, c6, rfl, hc6, hb⟩
  have B4 := B3.trans (hb.mono B3.size)
  have R4 := R3.on hb
  clear B3 R3 hb
  have hb7 := below1 w6 (.cells #[.slice (some ⟨w.heap.size + 1, 0, none⟩) 3 3] 22)
  have T7 := ruT_one R4 (by decide)
  have B7 := B4.trans (hb7.mono B4.size)
  have hst := aw_st _ (.slice none 0 0) _ T7 (Or.inl ⟨rfl, none, 0, rfl⟩)
  clear R4 B4 hb7
  go_wp2_with fail
  (with_reducible refine hst.mono ?_)
  rintro e w8 ⟨rfl, hb⟩
  have B8 := B7.trans (hb.mono B7.size)
  clear B7 T7 hb hst
  go_wp2
  go_ret
  exact ⟨rfl, B8⟩
end Go.Proofs

namespace Go.Proofs.Hd
open Go.RowKit
/-- The text's first k signs; the others 0. -/
def xTxt (k : Nat) : Nat → UInt8 := fun i => if i < k then 120 else 0
theorem xTxt_zero : by8 (xTxt 0) = by8 (fun _ => 0) := by8_congr fun j _ => by simp [xTxt]
theorem xTxt_put (k : Nat) : (by8 (xTxt k)).set k (.int .u8 120) = by8 (xTxt (k + 1)) := by
  have h := by8_set (xTxt k) k 120
  refine Eq.trans ?_ (h.trans (by8_congr fun j _ => ?_))
  · rfl
  · unfold xTxt
    by_cases e : j = k
    · subst e; simp
    · rw [if_neg e]
      by_cases h2 : j < k
      · rw [if_pos h2, if_pos (by omega)]
      · rw [if_neg h2, if_neg (by omega)]
theorem xTxt_all : by8 (xTxt 128) = by8 (upTxt allC 128) := by8_congr fun j hj => by
  unfold xTxt upTxt
  rw [if_pos hj, if_pos (by omega)]
  unfold sgn allC Cb.K
  simp [hbit]
end Go.Proofs.Hd
namespace Go.Proofs
open Go.RowKit Go.Proofs.Hd Go.Sort Go.Shelf Go.Lib
set_option maxRecDepth 100000 in
set_option maxHeartbeats 2000000 in
theorem any_s (s : ByteArray) (w : World) (hs : txt allC = s) : Calls Tryz.prog 9 #[] w fun e w' => e = .returned (.string s) ∧ Below w.heap.size w w' := by
  have hmk : ∀ u : World, (Instr.makeSlice 58 (.int .i64 128) (.int .i64 128)).run Tryz.prog u = .ok (.slice (some ⟨u.heap.size, 0, none⟩) 128 128) (u.alloc (.cells (by8 (fun _ => 0)).toArray 5)) := make128
  have B0 := Lib.hid (fun o => below1 w o)
  have HS := Lib.hid hs
  clear hs
  go_enter Tryz.func9, Tryz.ntmps9
  go_wp2
  go_loopg [2] 128 (fun g i wr => ∃ k : Nat, k ≤ 128 ∧ g = 128 - k ∧ i = .int .i64 k ∧ wr = w.alloc (.cells (by8 (xTxt k)).toArray 5))
  case atStart => exact ⟨0, by omega, rfl, rfl, by rw [xTxt_zero]⟩
  case round =>
    obtain ⟨k, hk, rfl, rfl, rfl⟩ := hrel
    by_cases hlt : k < 128
    · have hlt' : (k : Int) < 128 := by omega
      have hg := by8_get (xTxt k) k hlt
      go_wp2
      go_roundg (128 - (k + 1))
      case measure => omega
      case rel => exact ⟨k + 1, by omega, rfl, by go_num, by rw [xTxt_put]⟩
    · obtain rfl : k = 128 := by omega
      rw [xTxt_all]
      have hcv : (convert 58 9 (.slice (some ⟨w.heap.size, 0, none⟩) 128 128)).run Tryz.prog (w.alloc (.cells (by8 (upTxt allC 128)).toArray 5)) = .ok (.string (txt allC)) (w.alloc (.cells (by8 (upTxt allC 128)).toArray 5)) := back128 allC w
      rw [HS.out] at hcv
      go_wp2
      go_ret
      exact ⟨rfl, B0.out _⟩
end Go.Proofs

namespace Go.Proofs
open Go.RowKit Go.Proofs.Hd Go.Sort Go.Shelf Go.Lib
attribute [local go_sem] uv_nonneg
set_option maxHeartbeats 8000000 in
set_option maxRecDepth 100000 in
theorem tzr_bad (A : Option Addr) (m cap : Nat) (M : List Rl) (w : World) (hm : M.length ≤ 8) (hf : Calls Tryz.prog 4 #[.slice A m cap] w fun e w' => e = .returned (.slice A M.length cap) ∧ w' = w) (hv : Ru w (.slice A M.length cap) M) (n : Int) (hn : n < 0 ∨ (M.length : Int) ≤ n) (hs : sndA M = false) : Calls Tryz.prog 3 #[.slice A m cap, .int .i64 n] w fun e w' => e = .returned (.bool true) ∧ Below w.heap.size w w' := by
  have hmz : (M.length : Int) ≤ 8 := by omega
  have HV := Lib.hid hv
  have HS := Lib.hid hs
  have hcon1 := seen_range _ M n w (by omega) hn hv
  obtain ⟨s, hst⟩ : ∃ s, txt allC = s := ⟨_, rfl⟩
  have HST := Lib.hid hst
  clear hv hs hst
  by_cases h1 : n < 0
  · have hd : decide (n < 0) = true := decide_eq_true h1
    go_enter Tryz.func3, Tryz.ntmps3
    go_wp2_with fail
    (with_reducible refine hf.mono ?_)
    rintro e w1 ⟨rfl, rfl⟩
    clear hf
    go_wp2_with fail
    (with_reducible refine hcon1.mono ?_)
    rintro e w2 ⟨rfl, B2⟩
    have HB2 := Lib.hid B2
    clear hcon1 B2
    have hcon2 := missed_bad _ M w2 (by omega) HS.out (HV.out.on HB2.out)
    go_wp2_with fail
    (with_reducible refine hcon2.mono ?_)
    rintro e w3 ⟨rfl, hb⟩
    have HB3 := Lib.hid (HB2.out.trans (hb.mono HB2.out.size))
    clear hcon2 hb HB2
    have hcon3 := order_r _ M w3 (by omega) (HV.out.on HB3.out)
    go_wp2_with fail
    (with_reducible refine hcon3.mono ?_)
    rintro e w4 ⟨v4, rfl, O4, hb⟩
    have HK4 := Lib.hid (own_PlK O4)
    obtain ⟨A4, c4, rfl, _⟩ := own_form O4
    have HB4 := Lib.hid (HB3.out.trans (hb.mono HB3.out.size))
    clear hcon3 hb HB3 O4
    go_wp2_with fail
    (with_reducible refine (any_s s _ HST.out).mono ?_)
    rintro e w5 ⟨rfl, hb⟩
    have HB5 := Lib.hid (HB4.out.trans (hb.mono HB4.out.size))
    have HK5 := Lib.hid (HK4.out.on hb)
    clear hb HB4 HK4
    have hcon4 := rwith_bad _ M A4 (ordI M).length c4 s w5 (by omega) HS.out (HV.out.on HB5.out)
    go_wp2_with fail
    (with_reducible refine hcon4.mono ?_)
    rintro e w6 ⟨rfl, hb⟩
    have HB6 := Lib.hid (HB5.out.trans (hb.mono HB5.out.size))
    clear hcon4 hb HB5 HK5
    go_wp2_with fail
    (with_reducible refine (awake6_c _).mono ?_)
    rintro e w9 ⟨rfl, hb⟩
    have HB9 := Lib.hid (HB6.out.trans (hb.mono HB6.out.size))
    clear hb HB6
    go_wp2
    go_ret
    exact ⟨rfl, HB9.out⟩
  · have h2 : (M.length : Int) ≤ n := by omega
    have hd : decide (n < 0) = false := decide_eq_false h1
    have hd2 : decide (n ≥ (M.length : Int)) = true := decide_eq_true h2
    clear hn
    go_enter Tryz.func3, Tryz.ntmps3
    go_wp2_with fail
    (with_reducible refine hf.mono ?_)
    rintro e w1 ⟨rfl, rfl⟩
    clear hf
    go_wp2_with fail
    (with_reducible refine hcon1.mono ?_)
    rintro e w2 ⟨rfl, B2⟩
    have HB2 := Lib.hid B2
    clear hcon1 B2
    have hcon2 := missed_bad _ M w2 (by omega) HS.out (HV.out.on HB2.out)
    go_wp2_with fail
    (with_reducible refine hcon2.mono ?_)
    rintro e w3 ⟨rfl, hb⟩
    have HB3 := Lib.hid (HB2.out.trans (hb.mono HB2.out.size))
    clear hcon2 hb HB2
    have hcon3 := order_r _ M w3 (by omega) (HV.out.on HB3.out)
    go_wp2_with fail
    (with_reducible refine hcon3.mono ?_)
    rintro e w4 ⟨v4, rfl, O4, hb⟩
    have HK4 := Lib.hid (own_PlK O4)
    obtain ⟨A4, c4, rfl, _⟩ := own_form O4
    have HB4 := Lib.hid (HB3.out.trans (hb.mono HB3.out.size))
    clear hcon3 hb HB3 O4
    go_wp2_with fail
    (with_reducible refine (any_s s _ HST.out).mono ?_)
    rintro e w5 ⟨rfl, hb⟩
    have HB5 := Lib.hid (HB4.out.trans (hb.mono HB4.out.size))
    have HK5 := Lib.hid (HK4.out.on hb)
    clear hb HB4 HK4
    have hcon4 := rwith_bad _ M A4 (ordI M).length c4 s w5 (by omega) HS.out (HV.out.on HB5.out)
    go_wp2_with fail
    (with_reducible refine hcon4.mono ?_)
    rintro e w6 ⟨rfl, hb⟩
    have HB6 := Lib.hid (HB5.out.trans (hb.mono HB5.out.size))
    clear hcon4 hb HB5 HK5
    go_wp2_with fail
    (with_reducible refine (awake6_c _).mono ?_)
    rintro e w9 ⟨rfl, hb⟩
    have HB9 := Lib.hid (HB6.out.trans (hb.mono HB6.out.size))
    clear hb HB6
    go_wp2
    go_ret
    exact ⟨rfl, HB9.out⟩
set_option maxHeartbeats 8000000 in
set_option maxRecDepth 100000 in
theorem tzr_none (A : Option Addr) (m cap : Nat) (M : List Rl) (w : World) (hm : M.length ≤ 8) (hf : Calls Tryz.prog 4 #[.slice A m cap] w fun e w' => e = .returned (.slice A M.length cap) ∧ w' = w) (hv : Ru w (.slice A M.length cap) M) (n : Int) (hn : n < 0 ∨ (M.length : Int) ≤ n) (hs : sndA M = true) (hQ : missL M = none) : Calls Tryz.prog 3 #[.slice A m cap, .int .i64 n] w fun e w' => e = .returned (.bool true) ∧ Below w.heap.size w w' := by
  have hmz : (M.length : Int) ≤ 8 := by omega
  have HV := Lib.hid hv
  have HS := Lib.hid hs
  have HQ := Lib.hid hQ
  have hcon1 := seen_range _ M n w (by omega) hn hv
  obtain ⟨s, hst⟩ : ∃ s, txt allC = s := ⟨_, rfl⟩
  have HST := Lib.hid hst
  clear hv hs hst hQ
  by_cases h1 : n < 0
  · have hd : decide (n < 0) = true := decide_eq_true h1
    go_enter Tryz.func3, Tryz.ntmps3
    go_wp2_with fail
    (with_reducible refine hf.mono ?_)
    rintro e w1 ⟨rfl, rfl⟩
    clear hf
    go_wp2_with fail
    (with_reducible refine hcon1.mono ?_)
    rintro e w2 ⟨rfl, B2⟩
    have HB2 := Lib.hid B2
    clear hcon1 B2
    have hcon2 := missed_none _ M w2 (by omega) HS.out (HV.out.on HB2.out) HQ.out
    go_wp2_with fail
    (with_reducible refine hcon2.mono ?_)
    rintro e w3 ⟨rfl, hb⟩
    have HB3 := Lib.hid (HB2.out.trans (hb.mono HB2.out.size))
    clear hcon2 hb HB2
    have hcon3 := order_r _ M w3 (by omega) (HV.out.on HB3.out)
    go_wp2_with fail
    (with_reducible refine hcon3.mono ?_)
    rintro e w4 ⟨v4, rfl, O4, hb⟩
    have HK4 := Lib.hid (own_PlK O4)
    obtain ⟨A4, c4, rfl, _⟩ := own_form O4
    have HB4 := Lib.hid (HB3.out.trans (hb.mono HB3.out.size))
    clear hcon3 hb HB3 O4
    go_wp2_with fail
    (with_reducible refine (any_s s _ HST.out).mono ?_)
    rintro e w5 ⟨rfl, hb⟩
    have HB5 := Lib.hid (HB4.out.trans (hb.mono HB4.out.size))
    have HK5 := Lib.hid (HK4.out.on hb)
    clear hb HB4 HK4
    have hcon4 := (rwith_any _ _ M (ordI M) allC s w5 (by omega) (by rw [ordI_len]; omega) (fun k hk => ordI_lt hk) HS.out allC_snd HST.out (HV.out.on HB5.out) HK5.out).mono fun e w' h => h.2 HQ.out
    go_wp2_with fail
    (with_reducible refine hcon4.mono ?_)
    rintro e w6 ⟨rfl, hb⟩
    have HB6 := Lib.hid (HB5.out.trans (hb.mono HB5.out.size))
    clear hcon4 hb HB5 HK5
    go_wp2_with fail
    (with_reducible refine (awake6_c _).mono ?_)
    rintro e w9 ⟨rfl, hb⟩
    have HB9 := Lib.hid (HB6.out.trans (hb.mono HB6.out.size))
    clear hb HB6
    go_wp2
    go_ret
    exact ⟨rfl, HB9.out⟩
  · have h2 : (M.length : Int) ≤ n := by omega
    have hd : decide (n < 0) = false := decide_eq_false h1
    have hd2 : decide (n ≥ (M.length : Int)) = true := decide_eq_true h2
    clear hn
    go_enter Tryz.func3, Tryz.ntmps3
    go_wp2_with fail
    (with_reducible refine hf.mono ?_)
    rintro e w1 ⟨rfl, rfl⟩
    clear hf
    go_wp2_with fail
    (with_reducible refine hcon1.mono ?_)
    rintro e w2 ⟨rfl, B2⟩
    have HB2 := Lib.hid B2
    clear hcon1 B2
    have hcon2 := missed_none _ M w2 (by omega) HS.out (HV.out.on HB2.out) HQ.out
    go_wp2_with fail
    (with_reducible refine hcon2.mono ?_)
    rintro e w3 ⟨rfl, hb⟩
    have HB3 := Lib.hid (HB2.out.trans (hb.mono HB2.out.size))
    clear hcon2 hb HB2
    have hcon3 := order_r _ M w3 (by omega) (HV.out.on HB3.out)
    go_wp2_with fail
    (with_reducible refine hcon3.mono ?_)
    rintro e w4 ⟨v4, rfl, O4, hb⟩
    have HK4 := Lib.hid (own_PlK O4)
    obtain ⟨A4, c4, rfl, _⟩ := own_form O4
    have HB4 := Lib.hid (HB3.out.trans (hb.mono HB3.out.size))
    clear hcon3 hb HB3 O4
    go_wp2_with fail
    (with_reducible refine (any_s s _ HST.out).mono ?_)
    rintro e w5 ⟨rfl, hb⟩
    have HB5 := Lib.hid (HB4.out.trans (hb.mono HB4.out.size))
    have HK5 := Lib.hid (HK4.out.on hb)
    clear hb HB4 HK4
    have hcon4 := (rwith_any _ _ M (ordI M) allC s w5 (by omega) (by rw [ordI_len]; omega) (fun k hk => ordI_lt hk) HS.out allC_snd HST.out (HV.out.on HB5.out) HK5.out).mono fun e w' h => h.2 HQ.out
    go_wp2_with fail
    (with_reducible refine hcon4.mono ?_)
    rintro e w6 ⟨rfl, hb⟩
    have HB6 := Lib.hid (HB5.out.trans (hb.mono HB5.out.size))
    clear hcon4 hb HB5 HK5
    go_wp2_with fail
    (with_reducible refine (awake6_c _).mono ?_)
    rintro e w9 ⟨rfl, hb⟩
    have HB9 := Lib.hid (HB6.out.trans (hb.mono HB6.out.size))
    clear hb HB6
    go_wp2
    go_ret
    exact ⟨rfl, HB9.out⟩
set_option maxHeartbeats 8000000 in
set_option maxRecDepth 100000 in
theorem tzr_some (A : Option Addr) (m cap : Nat) (M : List Rl) (w : World) (hm : M.length ≤ 8) (hf : Calls Tryz.prog 4 #[.slice A m cap] w fun e w' => e = .returned (.slice A M.length cap) ∧ w' = w) (hv : Ru w (.slice A M.length cap) M) (n : Int) (hn : n < 0 ∨ (M.length : Int) ≤ n) (hs : sndA M = true) (Q : List Cb) (hQ : missL M = some Q) : Calls Tryz.prog 3 #[.slice A m cap, .int .i64 n] w fun e w' => e = .returned (.bool true) ∧ Below w.heap.size w w' := by
  have hmz : (M.length : Int) ≤ 8 := by omega
  have HV := Lib.hid hv
  have HS := Lib.hid hs
  have HQ := Lib.hid hQ
  have hcon1 := seen_range _ M n w (by omega) hn hv
  have hQs : sndL Q = true := by have := hQ; unfold missL at this; exact pastL_snd (snd_one allC_snd) this
  have HQS := Lib.hid (sndL_all hQs)
  have hQl : Q.length ≤ 1000000 := by have := sndL_len hQs; omega
  obtain ⟨s, hst⟩ : ∃ s, txt allC = s := ⟨_, rfl⟩
  have HST := Lib.hid hst
  clear hv hs hst hQ hQs
  by_cases h1 : n < 0
  · have hd : decide (n < 0) = true := decide_eq_true h1
    go_enter Tryz.func3, Tryz.ntmps3
    go_wp2_with fail
    (with_reducible refine hf.mono ?_)
    rintro e w1 ⟨rfl, rfl⟩
    clear hf
    go_wp2_with fail
    (with_reducible refine hcon1.mono ?_)
    rintro e w2 ⟨rfl, B2⟩
    have HB2 := Lib.hid B2
    clear hcon1 B2
    have hcon2 := missed_some _ M w2 (by omega) HS.out (HV.out.on HB2.out) Q HQ.out
    go_wp2_with fail
    (with_reducible refine hcon2.mono ?_)
    rintro e w3 ⟨vq, rfl, OQ, hb⟩
    have HPQ := Lib.hid (own_Pl OQ)
    obtain ⟨Aq, cq, rfl, _⟩ := own_form OQ
    clear OQ
    have HB3 := Lib.hid (HB2.out.trans (hb.mono HB2.out.size))
    clear hcon2 hb HB2
    have hcon3 := order_r _ M w3 (by omega) (HV.out.on HB3.out)
    go_wp2_with fail
    (with_reducible refine hcon3.mono ?_)
    rintro e w4 ⟨v4, rfl, O4, hb⟩
    have HK4 := Lib.hid (own_PlK O4)
    obtain ⟨A4, c4, rfl, _⟩ := own_form O4
    have HB4 := Lib.hid (HB3.out.trans (hb.mono HB3.out.size))
    have HPQ4 := Lib.hid (HPQ.out.on hb)
    clear hcon3 hb HB3 O4 HPQ
    go_wp2_with fail
    (with_reducible refine (any_s s _ HST.out).mono ?_)
    rintro e w5 ⟨rfl, hb⟩
    have HB5 := Lib.hid (HB4.out.trans (hb.mono HB4.out.size))
    have HK5 := Lib.hid (HK4.out.on hb)
    have HPQ5 := Lib.hid (HPQ4.out.on hb)
    clear hb HB4 HK4 HPQ4
    have hcon4 := (rwith_any _ _ M (ordI M) allC s w5 (by omega) (by rw [ordI_len]; omega) (fun k hk => ordI_lt hk) HS.out allC_snd HST.out (HV.out.on HB5.out) HK5.out).mono fun e w' h => h.1 Q HQ.out
    go_wp2_with fail
    (with_reducible refine hcon4.mono ?_)
    rintro e w6 ⟨vw, rfl, TW, hb⟩
    have HTW := Lib.hid TW
    obtain ⟨Aw, cw, rfl, _⟩ := TW.form
    clear TW
    have HB6 := Lib.hid (HB5.out.trans (hb.mono HB5.out.size))
    have hcon6 := same_c _ _ Q w6 hQl HQS.out (HPQ5.out.on hb) HTW.out
    clear hcon4 hb HB5 HK5 HPQ5 HTW
    go_wp2_with fail
    (with_reducible refine hcon6.mono ?_)
    rintro e w7 ⟨rfl, hb⟩
    have HB7 := Lib.hid (HB6.out.trans (hb.mono HB6.out.size))
    clear hcon6 hb HB6
    go_wp2_with fail
    (with_reducible refine (awake6_c _).mono ?_)
    rintro e w9 ⟨rfl, hb⟩
    have HB9 := Lib.hid (HB7.out.trans (hb.mono HB7.out.size))
    clear hb HB7
    go_wp2
    go_ret
    exact ⟨rfl, HB9.out⟩
  · have h2 : (M.length : Int) ≤ n := by omega
    have hd : decide (n < 0) = false := decide_eq_false h1
    have hd2 : decide (n ≥ (M.length : Int)) = true := decide_eq_true h2
    clear hn
    go_enter Tryz.func3, Tryz.ntmps3
    go_wp2_with fail
    (with_reducible refine hf.mono ?_)
    rintro e w1 ⟨rfl, rfl⟩
    clear hf
    go_wp2_with fail
    (with_reducible refine hcon1.mono ?_)
    rintro e w2 ⟨rfl, B2⟩
    have HB2 := Lib.hid B2
    clear hcon1 B2
    have hcon2 := missed_some _ M w2 (by omega) HS.out (HV.out.on HB2.out) Q HQ.out
    go_wp2_with fail
    (with_reducible refine hcon2.mono ?_)
    rintro e w3 ⟨vq, rfl, OQ, hb⟩
    have HPQ := Lib.hid (own_Pl OQ)
    obtain ⟨Aq, cq, rfl, _⟩ := own_form OQ
    clear OQ
    have HB3 := Lib.hid (HB2.out.trans (hb.mono HB2.out.size))
    clear hcon2 hb HB2
    have hcon3 := order_r _ M w3 (by omega) (HV.out.on HB3.out)
    go_wp2_with fail
    (with_reducible refine hcon3.mono ?_)
    rintro e w4 ⟨v4, rfl, O4, hb⟩
    have HK4 := Lib.hid (own_PlK O4)
    obtain ⟨A4, c4, rfl, _⟩ := own_form O4
    have HB4 := Lib.hid (HB3.out.trans (hb.mono HB3.out.size))
    have HPQ4 := Lib.hid (HPQ.out.on hb)
    clear hcon3 hb HB3 O4 HPQ
    go_wp2_with fail
    (with_reducible refine (any_s s _ HST.out).mono ?_)
    rintro e w5 ⟨rfl, hb⟩
    have HB5 := Lib.hid (HB4.out.trans (hb.mono HB4.out.size))
    have HK5 := Lib.hid (HK4.out.on hb)
    have HPQ5 := Lib.hid (HPQ4.out.on hb)
    clear hb HB4 HK4 HPQ4
    have hcon4 := (rwith_any _ _ M (ordI M) allC s w5 (by omega) (by rw [ordI_len]; omega) (fun k hk => ordI_lt hk) HS.out allC_snd HST.out (HV.out.on HB5.out) HK5.out).mono fun e w' h => h.1 Q HQ.out
    go_wp2_with fail
    (with_reducible refine hcon4.mono ?_)
    rintro e w6 ⟨vw, rfl, TW, hb⟩
    have HTW := Lib.hid TW
    obtain ⟨Aw, cw, rfl, _⟩ := TW.form
    clear TW
    have HB6 := Lib.hid (HB5.out.trans (hb.mono HB5.out.size))
    have hcon6 := same_c _ _ Q w6 hQl HQS.out (HPQ5.out.on hb) HTW.out
    clear hcon4 hb HB5 HK5 HPQ5 HTW
    go_wp2_with fail
    (with_reducible refine hcon6.mono ?_)
    rintro e w7 ⟨rfl, hb⟩
    have HB7 := Lib.hid (HB6.out.trans (hb.mono HB6.out.size))
    clear hcon6 hb HB6
    go_wp2_with fail
    (with_reducible refine (awake6_c _).mono ?_)
    rintro e w9 ⟨rfl, hb⟩
    have HB9 := Lib.hid (HB7.out.trans (hb.mono HB7.out.size))
    clear hb HB7
    go_wp2
    go_ret
    exact ⟨rfl, HB9.out⟩
set_option maxHeartbeats 8000000 in
set_option maxRecDepth 100000 in
theorem tzb (A : Option Addr) (m cap : Nat) (M : List Rl) (w : World) (hm : M.length ≤ 8) (hf : Calls Tryz.prog 4 #[.slice A m cap] w fun e w' => e = .returned (.slice A M.length cap) ∧ w' = w) (hv : Ru w (.slice A M.length cap) M) (n : Nat) (r : Rl) (hr : M[n]? = some r) (hs : sndA M = false) : Calls Tryz.prog 3 #[.slice A m cap, .int .i64 (n : Int)] w fun e w' => e = .returned (.bool true) ∧ Below w.heap.size w w' := by
  have hmz : (M.length : Int) ≤ 8 := by omega
  have HV := Lib.hid hv
  have HS := Lib.hid hs
  have hnl : n < M.length := (List.getElem?_eq_some_iff.1 hr).1
  have hnz0 : ¬ (n : Int) < 0 := by omega
  have hnz1 : ¬ (M.length : Int) ≤ (n : Int) := by omega
  have Hr := Lib.hid hr
  have hcon1 := seen_bad _ M n w (by omega) hnl hs hv
  obtain ⟨s, hst⟩ : ∃ s, txt allC = s := ⟨_, rfl⟩
  have HST := Lib.hid hst
  clear hv hs hst hr
  go_enter Tryz.func3, Tryz.ntmps3
  go_wp2_with fail
  (with_reducible refine hf.mono ?_)
  rintro e w1 ⟨rfl, rfl⟩
  clear hf
  go_wp2_with fail
  (with_reducible refine hcon1.mono ?_)
  rintro e w2 ⟨rfl, B2⟩
  have HB2 := Lib.hid B2
  clear hcon1 B2
  have hcon2 := missed_bad _ M w2 (by omega) HS.out (HV.out.on HB2.out)
  go_wp2_with fail
  (with_reducible refine hcon2.mono ?_)
  rintro e w3 ⟨rfl, hb⟩
  have HB3 := Lib.hid (HB2.out.trans (hb.mono HB2.out.size))
  clear hcon2 hb HB2
  have hcon3 := order_r _ M w3 (by omega) (HV.out.on HB3.out)
  go_wp2_with fail
  (with_reducible refine hcon3.mono ?_)
  rintro e w4 ⟨v4, rfl, O4, hb⟩
  have HK4 := Lib.hid (own_PlK O4)
  obtain ⟨A4, c4, rfl, _⟩ := own_form O4
  have HB4 := Lib.hid (HB3.out.trans (hb.mono HB3.out.size))
  clear hcon3 hb HB3 O4
  go_wp2_with fail
  (with_reducible refine (any_s s _ HST.out).mono ?_)
  rintro e w5 ⟨rfl, hb⟩
  have HB5 := Lib.hid (HB4.out.trans (hb.mono HB4.out.size))
  have HK5 := Lib.hid (HK4.out.on hb)
  clear hb HB4 HK4
  have hcon4 := rwith_bad _ M A4 (ordI M).length c4 s w5 (by omega) HS.out (HV.out.on HB5.out)
  go_wp2_with fail
  (with_reducible refine hcon4.mono ?_)
  rintro e w6 ⟨rfl, hb⟩
  have HB6 := Lib.hid (HB5.out.trans (hb.mono HB5.out.size))
  clear hcon4 hb HB5 HK5
  have hcon7 := rseen_form _ M n r w6 (by omega) Hr.out HS.out (HV.out.on HB6.out)
  go_wp2_with fail
  (with_reducible refine hcon7.mono ?_)
  rintro e w8 ⟨rfl, hb⟩
  have HB8 := Lib.hid (HB6.out.trans (hb.mono HB6.out.size))
  clear hcon7 hb HB6
  go_wp2_with fail
  (with_reducible refine (awake6_c _).mono ?_)
  rintro e w9 ⟨rfl, hb⟩
  have HB9 := Lib.hid (HB8.out.trans (hb.mono HB8.out.size))
  clear hb HB8
  go_wp2
  go_ret
  exact ⟨rfl, HB9.out⟩
set_option maxHeartbeats 8000000 in
set_option maxRecDepth 100000 in
theorem tz_none_none (A : Option Addr) (m cap : Nat) (M : List Rl) (w : World) (hm : M.length ≤ 8) (hf : Calls Tryz.prog 4 #[.slice A m cap] w fun e w' => e = .returned (.slice A M.length cap) ∧ w' = w) (hv : Ru w (.slice A M.length cap) M) (n : Nat) (r : Rl) (hr : M[n]? = some r) (hs : sndA M = true) (hQ : missL M = none) (hR : seenL M n = none) : Calls Tryz.prog 3 #[.slice A m cap, .int .i64 (n : Int)] w fun e w' => e = .returned (.bool true) ∧ Below w.heap.size w w' := by
  have hmz : (M.length : Int) ≤ 8 := by omega
  have HV := Lib.hid hv
  have HS := Lib.hid hs
  have hnl : n < M.length := (List.getElem?_eq_some_iff.1 hr).1
  have hnz0 : ¬ (n : Int) < 0 := by omega
  have hnz1 : ¬ (M.length : Int) ≤ (n : Int) := by omega
  have Hr := Lib.hid hr
  have HQ := Lib.hid hQ
  have HR := Lib.hid hR
  have hcon1 := seen_none _ M n r w (by omega) hr hs hv hR
  obtain ⟨s, hst⟩ : ∃ s, txt allC = s := ⟨_, rfl⟩
  have HST := Lib.hid hst
  clear hv hs hst hr hQ hR
  go_enter Tryz.func3, Tryz.ntmps3
  go_wp2_with fail
  (with_reducible refine hf.mono ?_)
  rintro e w1 ⟨rfl, rfl⟩
  clear hf
  go_wp2_with fail
  (with_reducible refine hcon1.mono ?_)
  rintro e w2 ⟨rfl, B2⟩
  have HB2 := Lib.hid B2
  clear hcon1 B2
  have hcon2 := missed_none _ M w2 (by omega) HS.out (HV.out.on HB2.out) HQ.out
  go_wp2_with fail
  (with_reducible refine hcon2.mono ?_)
  rintro e w3 ⟨rfl, hb⟩
  have HB3 := Lib.hid (HB2.out.trans (hb.mono HB2.out.size))
  clear hcon2 hb HB2
  have hcon3 := order_r _ M w3 (by omega) (HV.out.on HB3.out)
  go_wp2_with fail
  (with_reducible refine hcon3.mono ?_)
  rintro e w4 ⟨v4, rfl, O4, hb⟩
  have HK4 := Lib.hid (own_PlK O4)
  obtain ⟨A4, c4, rfl, _⟩ := own_form O4
  have HB4 := Lib.hid (HB3.out.trans (hb.mono HB3.out.size))
  clear hcon3 hb HB3 O4
  go_wp2_with fail
  (with_reducible refine (any_s s _ HST.out).mono ?_)
  rintro e w5 ⟨rfl, hb⟩
  have HB5 := Lib.hid (HB4.out.trans (hb.mono HB4.out.size))
  have HK5 := Lib.hid (HK4.out.on hb)
  clear hb HB4 HK4
  have hcon4 := (rwith_any _ _ M (ordI M) allC s w5 (by omega) (by rw [ordI_len]; omega) (fun k hk => ordI_lt hk) HS.out allC_snd HST.out (HV.out.on HB5.out) HK5.out).mono fun e w' h => h.2 HQ.out
  go_wp2_with fail
  (with_reducible refine hcon4.mono ?_)
  rintro e w6 ⟨rfl, hb⟩
  have HB6 := Lib.hid (HB5.out.trans (hb.mono HB5.out.size))
  clear hcon4 hb HB5 HK5
  have hcon7 := rseen_none _ M n r w6 (by omega) Hr.out HS.out HR.out (HV.out.on HB6.out)
  go_wp2_with fail
  (with_reducible refine hcon7.mono ?_)
  rintro e w8 ⟨rfl, hb⟩
  have HB8 := Lib.hid (HB6.out.trans (hb.mono HB6.out.size))
  clear hcon7 hb HB6
  go_wp2_with fail
  (with_reducible refine (awake6_c _).mono ?_)
  rintro e w9 ⟨rfl, hb⟩
  have HB9 := Lib.hid (HB8.out.trans (hb.mono HB8.out.size))
  clear hb HB8
  go_wp2
  go_ret
  exact ⟨rfl, HB9.out⟩
set_option maxHeartbeats 8000000 in
set_option maxRecDepth 100000 in
theorem tz_none_some (A : Option Addr) (m cap : Nat) (M : List Rl) (w : World) (hm : M.length ≤ 8) (hf : Calls Tryz.prog 4 #[.slice A m cap] w fun e w' => e = .returned (.slice A M.length cap) ∧ w' = w) (hv : Ru w (.slice A M.length cap) M) (n : Nat) (r : Rl) (hr : M[n]? = some r) (hs : sndA M = true) (Q : List Cb) (hQ : missL M = some Q) (hR : seenL M n = none) : Calls Tryz.prog 3 #[.slice A m cap, .int .i64 (n : Int)] w fun e w' => e = .returned (.bool true) ∧ Below w.heap.size w w' := by
  have hmz : (M.length : Int) ≤ 8 := by omega
  have HV := Lib.hid hv
  have HS := Lib.hid hs
  have hnl : n < M.length := (List.getElem?_eq_some_iff.1 hr).1
  have hnz0 : ¬ (n : Int) < 0 := by omega
  have hnz1 : ¬ (M.length : Int) ≤ (n : Int) := by omega
  have Hr := Lib.hid hr
  have HQ := Lib.hid hQ
  have HR := Lib.hid hR
  have hcon1 := seen_none _ M n r w (by omega) hr hs hv hR
  have hQs : sndL Q = true := by have := hQ; unfold missL at this; exact pastL_snd (snd_one allC_snd) this
  have HQS := Lib.hid (sndL_all hQs)
  have hQl : Q.length ≤ 1000000 := by have := sndL_len hQs; omega
  obtain ⟨s, hst⟩ : ∃ s, txt allC = s := ⟨_, rfl⟩
  have HST := Lib.hid hst
  clear hv hs hst hr hQ hR hQs
  go_enter Tryz.func3, Tryz.ntmps3
  go_wp2_with fail
  (with_reducible refine hf.mono ?_)
  rintro e w1 ⟨rfl, rfl⟩
  clear hf
  go_wp2_with fail
  (with_reducible refine hcon1.mono ?_)
  rintro e w2 ⟨rfl, B2⟩
  have HB2 := Lib.hid B2
  clear hcon1 B2
  have hcon2 := missed_some _ M w2 (by omega) HS.out (HV.out.on HB2.out) Q HQ.out
  go_wp2_with fail
  (with_reducible refine hcon2.mono ?_)
  rintro e w3 ⟨vq, rfl, OQ, hb⟩
  have HPQ := Lib.hid (own_Pl OQ)
  obtain ⟨Aq, cq, rfl, _⟩ := own_form OQ
  clear OQ
  have HB3 := Lib.hid (HB2.out.trans (hb.mono HB2.out.size))
  clear hcon2 hb HB2
  have hcon3 := order_r _ M w3 (by omega) (HV.out.on HB3.out)
  go_wp2_with fail
  (with_reducible refine hcon3.mono ?_)
  rintro e w4 ⟨v4, rfl, O4, hb⟩
  have HK4 := Lib.hid (own_PlK O4)
  obtain ⟨A4, c4, rfl, _⟩ := own_form O4
  have HB4 := Lib.hid (HB3.out.trans (hb.mono HB3.out.size))
  have HPQ4 := Lib.hid (HPQ.out.on hb)
  clear hcon3 hb HB3 O4 HPQ
  go_wp2_with fail
  (with_reducible refine (any_s s _ HST.out).mono ?_)
  rintro e w5 ⟨rfl, hb⟩
  have HB5 := Lib.hid (HB4.out.trans (hb.mono HB4.out.size))
  have HK5 := Lib.hid (HK4.out.on hb)
  have HPQ5 := Lib.hid (HPQ4.out.on hb)
  clear hb HB4 HK4 HPQ4
  have hcon4 := (rwith_any _ _ M (ordI M) allC s w5 (by omega) (by rw [ordI_len]; omega) (fun k hk => ordI_lt hk) HS.out allC_snd HST.out (HV.out.on HB5.out) HK5.out).mono fun e w' h => h.1 Q HQ.out
  go_wp2_with fail
  (with_reducible refine hcon4.mono ?_)
  rintro e w6 ⟨vw, rfl, TW, hb⟩
  have HTW := Lib.hid TW
  obtain ⟨Aw, cw, rfl, _⟩ := TW.form
  clear TW
  have HB6 := Lib.hid (HB5.out.trans (hb.mono HB5.out.size))
  have hcon6 := same_c _ _ Q w6 hQl HQS.out (HPQ5.out.on hb) HTW.out
  clear hcon4 hb HB5 HK5 HPQ5 HTW
  go_wp2_with fail
  (with_reducible refine hcon6.mono ?_)
  rintro e w7 ⟨rfl, hb⟩
  have HB7 := Lib.hid (HB6.out.trans (hb.mono HB6.out.size))
  clear hcon6 hb HB6
  have hcon7 := rseen_none _ M n r w7 (by omega) Hr.out HS.out HR.out (HV.out.on HB7.out)
  go_wp2_with fail
  (with_reducible refine hcon7.mono ?_)
  rintro e w8 ⟨rfl, hb⟩
  have HB8 := Lib.hid (HB7.out.trans (hb.mono HB7.out.size))
  clear hcon7 hb HB7
  go_wp2_with fail
  (with_reducible refine (awake6_c _).mono ?_)
  rintro e w9 ⟨rfl, hb⟩
  have HB9 := Lib.hid (HB8.out.trans (hb.mono HB8.out.size))
  clear hb HB8
  go_wp2
  go_ret
  exact ⟨rfl, HB9.out⟩
set_option maxHeartbeats 8000000 in
set_option maxRecDepth 100000 in
theorem tz_some_none (A : Option Addr) (m cap : Nat) (M : List Rl) (w : World) (hm : M.length ≤ 8) (hf : Calls Tryz.prog 4 #[.slice A m cap] w fun e w' => e = .returned (.slice A M.length cap) ∧ w' = w) (hv : Ru w (.slice A M.length cap) M) (n : Nat) (r : Rl) (hr : M[n]? = some r) (hs : sndA M = true) (hQ : missL M = none) (R : List Cb) (hR : seenL M n = some R) : Calls Tryz.prog 3 #[.slice A m cap, .int .i64 (n : Int)] w fun e w' => e = .returned (.bool true) ∧ Below w.heap.size w w' := by
  have hmz : (M.length : Int) ≤ 8 := by omega
  have HV := Lib.hid hv
  have HS := Lib.hid hs
  have hnl : n < M.length := (List.getElem?_eq_some_iff.1 hr).1
  have hnz0 : ¬ (n : Int) < 0 := by omega
  have hnz1 : ¬ (M.length : Int) ≤ (n : Int) := by omega
  have Hr := Lib.hid hr
  have HQ := Lib.hid hQ
  have HR := Lib.hid hR
  have hcon1 := seen_some _ M n r w (by omega) hr hs hv R hR
  have hRs : sndL R = true := by have := hR; unfold seenL at this; exact pastL_snd (snd_one (by rw [at_pos hr]; exact sndA_at hs hr)) this
  have HRS := Lib.hid (sndL_all hRs)
  have hRl : R.length ≤ 1000000 := by have := sndL_len hRs; omega
  obtain ⟨s, hst⟩ : ∃ s, txt allC = s := ⟨_, rfl⟩
  have HST := Lib.hid hst
  clear hv hs hst hr hQ hR hRs
  go_enter Tryz.func3, Tryz.ntmps3
  go_wp2_with fail
  (with_reducible refine hf.mono ?_)
  rintro e w1 ⟨rfl, rfl⟩
  clear hf
  go_wp2_with fail
  (with_reducible refine hcon1.mono ?_)
  rintro e w2 ⟨vp, rfl, OP, B2⟩
  have HP := Lib.hid (own_Pl OP)
  obtain ⟨Ap, cp, rfl, _⟩ := own_form OP
  clear OP
  have HB2 := Lib.hid B2
  clear hcon1 B2
  have hcon2 := missed_none _ M w2 (by omega) HS.out (HV.out.on HB2.out) HQ.out
  go_wp2_with fail
  (with_reducible refine hcon2.mono ?_)
  rintro e w3 ⟨rfl, hb⟩
  have HB3 := Lib.hid (HB2.out.trans (hb.mono HB2.out.size))
  have HP3 := Lib.hid (HP.out.on hb)
  clear hcon2 hb HB2 HP
  have hcon3 := order_r _ M w3 (by omega) (HV.out.on HB3.out)
  go_wp2_with fail
  (with_reducible refine hcon3.mono ?_)
  rintro e w4 ⟨v4, rfl, O4, hb⟩
  have HK4 := Lib.hid (own_PlK O4)
  obtain ⟨A4, c4, rfl, _⟩ := own_form O4
  have HB4 := Lib.hid (HB3.out.trans (hb.mono HB3.out.size))
  have HP4 := Lib.hid (HP3.out.on hb)
  clear hcon3 hb HB3 O4 HP3
  go_wp2_with fail
  (with_reducible refine (any_s s _ HST.out).mono ?_)
  rintro e w5 ⟨rfl, hb⟩
  have HB5 := Lib.hid (HB4.out.trans (hb.mono HB4.out.size))
  have HK5 := Lib.hid (HK4.out.on hb)
  have HP5 := Lib.hid (HP4.out.on hb)
  clear hb HB4 HK4 HP4
  have hcon4 := (rwith_any _ _ M (ordI M) allC s w5 (by omega) (by rw [ordI_len]; omega) (fun k hk => ordI_lt hk) HS.out allC_snd HST.out (HV.out.on HB5.out) HK5.out).mono fun e w' h => h.2 HQ.out
  go_wp2_with fail
  (with_reducible refine hcon4.mono ?_)
  rintro e w6 ⟨rfl, hb⟩
  have HB6 := Lib.hid (HB5.out.trans (hb.mono HB5.out.size))
  have HP6 := Lib.hid (HP5.out.on hb)
  clear hcon4 hb HB5 HK5 HP5
  have hcon7 := rseen_some _ M n r w6 (by omega) Hr.out HS.out R HR.out (HV.out.on HB6.out)
  go_wp2_with fail
  (with_reducible refine hcon7.mono ?_)
  rintro e w8 ⟨v8, rfl, T8, hb⟩
  have HT8 := Lib.hid T8
  obtain ⟨A8, c8, rfl, _⟩ := T8.form
  clear T8
  have HB8 := Lib.hid (HB6.out.trans (hb.mono HB6.out.size))
  have HP8 := Lib.hid (HP6.out.on hb)
  clear hcon7 hb HB6 HP6
  go_wp2_with fail
  (with_reducible refine (awake6_c _).mono ?_)
  rintro e w9 ⟨rfl, hb⟩
  have HB9 := Lib.hid (HB8.out.trans (hb.mono HB8.out.size))
  have hcon9 := same_c _ _ R w9 hRl HRS.out (HP8.out.on hb) (HT8.out.on hb)
  clear hb HB8 HP8 HT8
  go_wp2_with fail
  (with_reducible refine hcon9.mono ?_)
  rintro e w10 ⟨rfl, hb⟩
  have B10 := HB9.out.trans (hb.mono HB9.out.size)
  clear hcon9 hb HB9
  go_wp2
  go_ret
  exact ⟨rfl, B10⟩
set_option maxHeartbeats 8000000 in
set_option maxRecDepth 100000 in
theorem tz_some_some (A : Option Addr) (m cap : Nat) (M : List Rl) (w : World) (hm : M.length ≤ 8) (hf : Calls Tryz.prog 4 #[.slice A m cap] w fun e w' => e = .returned (.slice A M.length cap) ∧ w' = w) (hv : Ru w (.slice A M.length cap) M) (n : Nat) (r : Rl) (hr : M[n]? = some r) (hs : sndA M = true) (Q : List Cb) (hQ : missL M = some Q) (R : List Cb) (hR : seenL M n = some R) : Calls Tryz.prog 3 #[.slice A m cap, .int .i64 (n : Int)] w fun e w' => e = .returned (.bool true) ∧ Below w.heap.size w w' := by
  have hmz : (M.length : Int) ≤ 8 := by omega
  have HV := Lib.hid hv
  have HS := Lib.hid hs
  have hnl : n < M.length := (List.getElem?_eq_some_iff.1 hr).1
  have hnz0 : ¬ (n : Int) < 0 := by omega
  have hnz1 : ¬ (M.length : Int) ≤ (n : Int) := by omega
  have Hr := Lib.hid hr
  have HQ := Lib.hid hQ
  have HR := Lib.hid hR
  have hcon1 := seen_some _ M n r w (by omega) hr hs hv R hR
  have hQs : sndL Q = true := by have := hQ; unfold missL at this; exact pastL_snd (snd_one allC_snd) this
  have HQS := Lib.hid (sndL_all hQs)
  have hQl : Q.length ≤ 1000000 := by have := sndL_len hQs; omega
  have hRs : sndL R = true := by have := hR; unfold seenL at this; exact pastL_snd (snd_one (by rw [at_pos hr]; exact sndA_at hs hr)) this
  have HRS := Lib.hid (sndL_all hRs)
  have hRl : R.length ≤ 1000000 := by have := sndL_len hRs; omega
  obtain ⟨s, hst⟩ : ∃ s, txt allC = s := ⟨_, rfl⟩
  have HST := Lib.hid hst
  clear hv hs hst hr hQ hR hQs hRs
  go_enter Tryz.func3, Tryz.ntmps3
  go_wp2_with fail
  (with_reducible refine hf.mono ?_)
  rintro e w1 ⟨rfl, rfl⟩
  clear hf
  go_wp2_with fail
  (with_reducible refine hcon1.mono ?_)
  rintro e w2 ⟨vp, rfl, OP, B2⟩
  have HP := Lib.hid (own_Pl OP)
  obtain ⟨Ap, cp, rfl, _⟩ := own_form OP
  clear OP
  have HB2 := Lib.hid B2
  clear hcon1 B2
  have hcon2 := missed_some _ M w2 (by omega) HS.out (HV.out.on HB2.out) Q HQ.out
  go_wp2_with fail
  (with_reducible refine hcon2.mono ?_)
  rintro e w3 ⟨vq, rfl, OQ, hb⟩
  have HPQ := Lib.hid (own_Pl OQ)
  obtain ⟨Aq, cq, rfl, _⟩ := own_form OQ
  clear OQ
  have HB3 := Lib.hid (HB2.out.trans (hb.mono HB2.out.size))
  have HP3 := Lib.hid (HP.out.on hb)
  clear hcon2 hb HB2 HP
  have hcon3 := order_r _ M w3 (by omega) (HV.out.on HB3.out)
  go_wp2_with fail
  (with_reducible refine hcon3.mono ?_)
  rintro e w4 ⟨v4, rfl, O4, hb⟩
  have HK4 := Lib.hid (own_PlK O4)
  obtain ⟨A4, c4, rfl, _⟩ := own_form O4
  have HB4 := Lib.hid (HB3.out.trans (hb.mono HB3.out.size))
  have HP4 := Lib.hid (HP3.out.on hb)
  have HPQ4 := Lib.hid (HPQ.out.on hb)
  clear hcon3 hb HB3 O4 HP3 HPQ
  go_wp2_with fail
  (with_reducible refine (any_s s _ HST.out).mono ?_)
  rintro e w5 ⟨rfl, hb⟩
  have HB5 := Lib.hid (HB4.out.trans (hb.mono HB4.out.size))
  have HK5 := Lib.hid (HK4.out.on hb)
  have HP5 := Lib.hid (HP4.out.on hb)
  have HPQ5 := Lib.hid (HPQ4.out.on hb)
  clear hb HB4 HK4 HP4 HPQ4
  have hcon4 := (rwith_any _ _ M (ordI M) allC s w5 (by omega) (by rw [ordI_len]; omega) (fun k hk => ordI_lt hk) HS.out allC_snd HST.out (HV.out.on HB5.out) HK5.out).mono fun e w' h => h.1 Q HQ.out
  go_wp2_with fail
  (with_reducible refine hcon4.mono ?_)
  rintro e w6 ⟨vw, rfl, TW, hb⟩
  have HTW := Lib.hid TW
  obtain ⟨Aw, cw, rfl, _⟩ := TW.form
  clear TW
  have HB6 := Lib.hid (HB5.out.trans (hb.mono HB5.out.size))
  have HP6 := Lib.hid (HP5.out.on hb)
  have hcon6 := same_c _ _ Q w6 hQl HQS.out (HPQ5.out.on hb) HTW.out
  clear hcon4 hb HB5 HK5 HP5 HPQ5 HTW
  go_wp2_with fail
  (with_reducible refine hcon6.mono ?_)
  rintro e w7 ⟨rfl, hb⟩
  have HB7 := Lib.hid (HB6.out.trans (hb.mono HB6.out.size))
  have HP7 := Lib.hid (HP6.out.on hb)
  clear hcon6 hb HB6 HP6
  have hcon7 := rseen_some _ M n r w7 (by omega) Hr.out HS.out R HR.out (HV.out.on HB7.out)
  go_wp2_with fail
  (with_reducible refine hcon7.mono ?_)
  rintro e w8 ⟨v8, rfl, T8, hb⟩
  have HT8 := Lib.hid T8
  obtain ⟨A8, c8, rfl, _⟩ := T8.form
  clear T8
  have HB8 := Lib.hid (HB7.out.trans (hb.mono HB7.out.size))
  have HP8 := Lib.hid (HP7.out.on hb)
  clear hcon7 hb HB7 HP7
  go_wp2_with fail
  (with_reducible refine (awake6_c _).mono ?_)
  rintro e w9 ⟨rfl, hb⟩
  have HB9 := Lib.hid (HB8.out.trans (hb.mono HB8.out.size))
  have hcon9 := same_c _ _ R w9 hRl HRS.out (HP8.out.on hb) (HT8.out.on hb)
  clear hb HB8 HP8 HT8
  go_wp2_with fail
  (with_reducible refine hcon9.mono ?_)
  rintro e w10 ⟨rfl, hb⟩
  have B10 := HB9.out.trans (hb.mono HB9.out.size)
  clear hcon9 hb HB9
  go_wp2
  go_ret
  exact ⟨rfl, B10⟩
theorem tzl_c (A : Option Addr) (cap : Nat) (L : List Rl) (n : Int) (w : World) (hl : L.length ≤ 4611686018427387904) (hc : L.length ≤ cap) (hv : Ru w (.slice A L.length cap) L) : Calls Tryz.prog 3 #[.slice A L.length cap, .int .i64 n] w fun e w' => e = .returned (.bool true) ∧ Below w.heap.size w w' := by
  have hf := few_c A cap L w hl hc hv
  have hm : (L.take 8).length ≤ 8 := by rw [List.length_take]; omega
  have hv8 := hv.take 8
  by_cases hn : n < 0 ∨ ((L.take 8).length : Int) ≤ n
  · cases hs : sndA (L.take 8) with
    | false => exact tzr_bad A _ cap (L.take 8) w hm hf hv8 n hn hs
    | true =>
      cases hQ : missL (L.take 8) with
      | none => exact tzr_none A _ cap (L.take 8) w hm hf hv8 n hn hs hQ
      | some Q => exact tzr_some A _ cap (L.take 8) w hm hf hv8 n hn hs Q hQ
  · obtain ⟨k, rfl⟩ : ∃ k : Nat, n = (k : Int) := ⟨n.toNat, by omega⟩
    obtain ⟨r, hr⟩ : ∃ r, (L.take 8)[k]? = some r := ⟨_, List.getElem?_eq_getElem (by omega)⟩
    cases hs : sndA (L.take 8) with
    | false => exact tzb A _ cap (L.take 8) w hm hf hv8 k r hr hs
    | true =>
      cases hQ : missL (L.take 8) with
      | none =>
        cases hR : seenL (L.take 8) k with
        | none => exact tz_none_none A _ cap (L.take 8) w hm hf hv8 k r hr hs hQ hR
        | some R => exact tz_some_none A _ cap (L.take 8) w hm hf hv8 k r hr hs hQ R hR
      | some Q =>
        cases hR : seenL (L.take 8) k with
        | none => exact tz_none_some A _ cap (L.take 8) w hm hf hv8 k r hr hs Q hQ hR
        | some R => exact tz_some_some A _ cap (L.take 8) w hm hf hv8 k r hr hs Q hQ R hR
end Go.Proofs

namespace Go.Proofs.YtmlammdipbkkfaaGreat
open Go.ChangeShapes Go.WideShapes Go.ChangeAt Go.RowKit Go.Joins Go.Proofs.Hd

theorem laidOut_tzl : laidOutB Tryz.prog = true := by kernel_rfl
set_option maxRecDepth 100000 in
theorem tzl_lifted (os : Os) (started : os.Started) (H : Type) (enc : TypeId × Value → H) :
    ReturnsInHanded {} Tryz.checked os 3 .any (Rows.tableSeenSpec.pre6 enc Tryz.prog Tryz.f3 Rows.tableSeenRow.domain false) (Rows.tableSeenSpec.post enc Tryz.prog Tryz.f3 false true false false) := by
  refine returnsInHanded_of_change_sized (C := Tryz.checked) own started (by kernel_rfl) Tryz.func3
    (ChangeSpec.witness6 (enc := enc) (C := Tryz.checked) false ⟨#[], #[.slice none 0 0, .int .i64 0], []⟩ 8 (by kernel_rfl) (by kernel_rfl) (by kernel_rfl) (by kernel_rfl)) ?_
  intro W base args ds gs before hval0 hW hcnd hsz _
  have hval : ∀ (j : Nat) t v, Tryz.f3.params[j]? = some t → args[j]? = some v → Value.okWide Tryz.prog W .any base t v := hval0
  have hW' := hW
  obtain ⟨p, q, hA0, hV, rfl, hfz, hnd⟩ := hW
  have hA : DataW.TrodAll enc Tryz.prog W 0 (fun _ => true) true Tryz.f3.params.toList args.toList ds p := hA0
  rw [Tryz.params3] at hA hval
  obtain ⟨v0, vs0, d0, ds0, p0, q0, hargs, rfl, rfl, h0, r0⟩ := trodAll_cons hA
  obtain ⟨v1, vs1, d1, ds1, p1, q1, rfl, rfl, rfl, h1, r1⟩ := trodAll_cons r0
  obtain ⟨rfl, rfl, rfl⟩ := trodAll_nil r1
  obtain rfl : args = #[v0, v1] := by cases args; simp_all
  obtain ⟨rfl, rfl⟩ := trodVars_none hV
  have k0 := h0
  have lt0 : ∀ x ∈ p0, x.block < W.heap.size := by obtain ⟨m, hm⟩ := k0; exact DataW.trod_lt m _ _ _ hm
  have kc0 := open_rcap (hval 0 22 v0 rfl rfl) h0
  obtain ⟨lA, lc, lL, rfl, pl, dl⟩ := open_rules (hval 0 22 v0 rfl rfl) h0
  have zl : lL.length ≤ 1466015503658 := by
    rcases dl with e | ⟨el, sp, e1, e2⟩
    · omega
    · subst e1
      have hh := sized_slice hsz (j := 0) (t := 22) (by rw [Tryz.params3]; rfl) rfl Tryz.underlying22
      have hb : Tryz.checked.prog.bytesOf 51 = 96 := by kernel_rfl
      have hr : reachBytes ≤ 140737488351232 := by decide
      rw [hb] at hh
      omega
  have cl := kc0 _ _ _ rfl
  obtain ⟨n, rfl, rfl, rfl, wf1⟩ := open_int Tryz.underlying3 (hval 1 3 v1 rfl rfl) h1
  clear hA0 hval0
  obtain ⟨bn1, bn2⟩ := bounds_i64 wf1
  refine (tzl_c lA lc lL n W (by omega) cl pl).mono fun e W' ⟨he, hg⟩ => ?_
  subst he
  exact ⟨_, rfl, _, _, _, [], _, [], hW', trodAll_mk1 (shut_bool Tryz.underlying4 _), (trodAll_cons_mk (Below.trod laidOut_tzl (by kernel_rfl) (of_decide_eq_true (by kernel_rfl)) k0 hg lt0) (trodAll_cons_mk (shut_int Tryz.underlying3 wf1) trodAll_mk0)), rfl, hg.frame _, (fun h => by cases h)⟩

theorem tzl_holds : Rows.TableSeenSaid :=
  OpenClaim.holds_of_wide 3 Tryz.f3 rfl rfl rfl rfl rfl rfl rfl ⟨rfl, rfl, rfl, rfl, rfl⟩ rfl rfl rfl rfl rfl (by kernel_rfl) Tryz.func3 (by kernel_rfl)
    (of_decide_eq_true (by kernel_rfl)) (by unfold Func.isWrapper; first | (rw [if_pos (by decide +kernel)]; kernel_rfl) | (rw [if_neg (by decide +kernel)]; exact ⟨rfl, rfl⟩))
    (fun os started H enc _ => tzl_lifted os started H enc)
#print axioms tzl_holds
end Go.Proofs.YtmlammdipbkkfaaGreat
