/-
  customhouselaw03.PileLean returns true for every input, and each argument reads behind the call as before. No conditions.
  The walk of customhouselaw03.PileLean: it returns true. Conditions as the theorem lists them.
-/
import Derived.Test.YtipkefljicoldaaJ8
import Derived.Test.YtipkefljicoldaaRows
import Derived.Below
namespace Go.Proofs
open Go.RowKit Go.Proofs.Hd Go.Lib
attribute [local go_sem] uv_nonneg
set_option maxHeartbeats 2000000 in
set_option maxRecDepth 100000 in
theorem pleanl_c (A : Option Addr) (cap : Nat) (L : List Cb) (w : World) (hc : L.length ≤ cap) (hm : cap ≤ maxLen) (hv : Pl w (.slice A L.length cap) L) : Calls Try.prog 4 #[.slice A L.length cap] w fun e w' => e = .returned (.bool true) ∧ Below w.heap.size w w' := by
  obtain ⟨is, his, hs0, hs1, hs2⟩ := info_parts infoStr
  have hcz : (L.length : Int) ≤ (cap : Int) := by omega
  have hmz : (cap : Int) ≤ 9223372036854775807 := by unfold maxLen at hm; omega
  by_cases h : L.length ≤ 40
  · have hz : ¬ (40 : Int) < (L.length : Int) := by omega
    obtain ⟨A', cap', e, _, hA'⟩ := hv.form
    obtain ⟨rfl, rfl⟩ : A = A' ∧ cap = cap' := by injection e with e1 _ e3; exact ⟨e1, e3⟩
    have hA := hA'
    clear e hA'
    have hlz : (L.length : Int) ≤ 40 := by omega
    have HA := Lib.hid hA
    have HB := Lib.hid (below1 w (.cells #[] 9))
    have HO := Lib.hid (World.ownsRow_made (base := w.heap.size) (e := 9) (size := 1) w #[] 0 (Nat.le_refl _) (Nat.zero_le _) rfl)
    have HP := Lib.hid hv
    clear hA hv
    go_enter Try.func4, Try.ntmps4
    go_wp2
    go_loopg [3, 4] L.length (fun gk s3 s4 wr => ∃ k : Nat, k ≤ L.length ∧ gk = L.length - k ∧ s4 = .int .i64 k ∧ Below w.heap.size w wr ∧ wr.ownsRow w.heap.size 9 1 s3 ((L.take k).filter Cb.snd).length (strs ((L.take k).filter Cb.snd)))
    case atStart => exact ⟨0, Nat.zero_le _, rfl, rfl, HB.out, HO.out⟩
    case round =>
      clear HB HO
      obtain ⟨k, hk, rfl, rfl, W, O⟩ := hrel
      have hle : ((L.take k).filter Cb.snd).length ≤ k := Nat.le_trans (List.length_filter_le _ _) (by simp; omega)
      by_cases hlt : k < L.length
      · have hltz : (k : Int) < (L.length : Int) := by omega
        obtain ⟨c, hc⟩ : ∃ c, L[k]? = some c := ⟨_, List.getElem?_eq_getElem (by omega)⟩
        obtain ⟨b, off, rfl, hb, hpc⟩ := HA.out (ne_nil_of hc)
        obtain ⟨c0, c1, c2, c3⟩ := (hpc k c hc).on W
        have HC := Lib.hid (filter_take hc)
        clear hc hpc
        cases hs : c.snd with
        | false =>
          have HN : Hid ((L.take (k + 1)).filter Cb.snd = (L.take k).filter Cb.snd) := by show _ = _; rw [HC.out, hs]; simp
          go_wp2_with fail
          (with_reducible refine (text_no c _ hs).mono ?_)
          rintro e w2 ⟨rfl, hb2⟩
          have W2 := W.trans (hb2.mono W.size)
          have O2 := own_on O hb2
          clear W O hb2 c0 c1 c2 c3 HC
          go_wp2
          go_roundg (L.length - (k + 1))
          case measure => omega
          case rel => exact ⟨k + 1, by omega, rfl, by go_num, W2, by rw [HN.out]; exact O2⟩
        | true =>
          have HN : Hid ((L.take (k + 1)).filter Cb.snd = (L.take k).filter Cb.snd ++ [c]) := by show _ = _; rw [HC.out, hs]; simp
          obtain ⟨s, HT⟩ : ∃ s, Hid (txt c = s) := ⟨_, rfl⟩
          go_wp2_with fail
          (with_reducible refine (text_s s c _ hs HT.out).mono ?_)
          rintro e w2 ⟨rfl, hb2⟩
          have W2 := W.trans (hb2.mono W.size)
          have O2 := own_on O hb2
          clear W O hb2 c0 c1 c2 c3 HC
          go_upto_region 9 with (fail)
          have hb3 := below1 w2 (.cells #[.string s] 9)
          have N3 : Blk (w2.alloc (.cells #[.string s] 9)) w2.heap.size 9 #[.string s] := Blk.new w2 _ _
          have W3 := W2.trans (hb3.mono W2.size)
          have O3 := own_on O2 hb3
          have hz3 := W3.size
          clear W2 O2 hb3
          go_wp2_with (at_builtin; refine wpList_append_lies _ rfl (.tmp 28) (.tmp 30) 26 rfl w.heap.size 9 is _ 1 16 Try.underlying26 his hs0 hs1 hs2 rfl (by decide) _ _ _ rfl O3 ⟨w2.heap.size, 0, none⟩ 1 1 [.string s] rfl rfl (World.news_of_block N3) (by intro u hu; simp only [List.mem_singleton] at hu; subst hu; rfl) (by omega) (by unfold maxLen; omega) (by omega) hz3 _ rfl ?_)
          intro g4 cap4 w4 O4 hg4 hat hgl
          have W4 := W3.grown hg4 hz3 (fun j hj => (O3.lt j hj).1)
          clear W3 O3 N3 hg4 hat hgl
          go_wp2
          go_roundg (L.length - (k + 1))
          case measure => omega
          case rel => exact ⟨k + 1, by omega, rfl, by go_num, W4, by rw [HN.out, strs_snoc, HT.out, List.length_append]; exact O4⟩
      · have hltz : ¬ (k : Int) < (L.length : Int) := by omega
        obtain rfl : k = L.length := by omega
        rw [List.take_of_length_le (by omega)] at O
        have hl2 : L.length ≤ 1000000 := by omega
        have hf2 : (L.filter Cb.snd).length ≤ 1000000 := Nat.le_trans (List.length_filter_le _ _) hl2
        have PT := own_PlT O
        have PV := HP.out.on W
        clear O
        go_wp2_with fail
        refine (awake3_c _).mono ?_
        rintro e w1 ⟨rfl, hb⟩
        replace PT := PT.on hb
        replace PV := PV.on hb
        replace W := W.trans (hb.mono W.size)
        clear hb
        have hcon := plean_c _ L w1 hl2 PV
        go_wp2_with fail
        refine hcon.mono ?_
        rintro e w2 ⟨v2, rfl, O2, hb⟩
        replace PT := PT.on hb
        replace W := W.trans (hb.mono W.size)
        clear hb hcon PV
        have hcon := rlean_c _ (L.filter Cb.snd) w2 hf2 (filter_snd L) PT
        rw [leanS_filter] at hcon
        go_wp2_with fail
        refine hcon.mono ?_
        rintro e w3 ⟨v3, rfl, O3, hb⟩
        replace W := W.trans (hb.mono W.size)
        have hcon2 := same_c v2 v3 (leanS L) w3 (Nat.le_trans (leanS_le L) hl2) (leanS_snd L) (own_Pl (own_on O2 hb)) (own_PlT O3)
        clear hb hcon PT O2 O3
        go_wp2_with fail
        refine hcon2.mono ?_
        rintro e w4 ⟨rfl, hb⟩
        replace W := W.trans (hb.mono W.size)
        clear hb hcon2
        go_wp2
        go_ret
        exact ⟨rfl, W⟩
  · have hz : (40 : Int) < (L.length : Int) := by omega
    have hz2 : (40 : Int) ≤ (cap : Int) := by omega
    have hv2 := hv.take 40
    have e40 : (L.take 40).length = 40 := by simp; omega
    generalize L.take 40 = M at hv2 e40
    rw [e40] at hv2
    have hv3 : Pl w (.slice A M.length cap) M := by rw [e40]; exact hv2
    obtain ⟨A', cap', e, _, hA'⟩ := hv3.form
    obtain ⟨rfl, rfl⟩ : A = A' ∧ cap = cap' := by injection e with e1 _ e3; exact ⟨e1, e3⟩
    have hA := hA'
    clear e hA' hv hv3
    have hv := hv2
    clear hv2
    have h1 : M.length ≤ 40 := by omega
    have h2 : 40 ≤ M.length := by omega
    clear e40
    have hlz : (40 : Int) ≤ 40 := by omega
    have HA := Lib.hid hA
    have HB := Lib.hid (below1 w (.cells #[] 9))
    have HO := Lib.hid (World.ownsRow_made (base := w.heap.size) (e := 9) (size := 1) w #[] 0 (Nat.le_refl _) (Nat.zero_le _) rfl)
    have HP := Lib.hid hv
    clear hA hv
    go_enter Try.func4, Try.ntmps4
    go_wp2
    go_loopg [3, 4] 40 (fun gk s3 s4 wr => ∃ k : Nat, k ≤ 40 ∧ gk = 40 - k ∧ s4 = .int .i64 k ∧ Below w.heap.size w wr ∧ wr.ownsRow w.heap.size 9 1 s3 ((M.take k).filter Cb.snd).length (strs ((M.take k).filter Cb.snd)))
    case atStart => exact ⟨0, Nat.zero_le _, rfl, rfl, HB.out, HO.out⟩
    case round =>
      clear HB HO
      obtain ⟨k, hk, rfl, rfl, W, O⟩ := hrel
      have hle : ((M.take k).filter Cb.snd).length ≤ k := Nat.le_trans (List.length_filter_le _ _) (by simp; omega)
      by_cases hlt : k < 40
      · have hltz : (k : Int) < (40 : Int) := by omega
        obtain ⟨c, hc⟩ : ∃ c, M[k]? = some c := ⟨_, List.getElem?_eq_getElem (by omega)⟩
        obtain ⟨b, off, rfl, hb, hpc⟩ := HA.out (ne_nil_of hc)
        obtain ⟨c0, c1, c2, c3⟩ := (hpc k c hc).on W
        have HC := Lib.hid (filter_take hc)
        clear hc hpc
        cases hs : c.snd with
        | false =>
          have HN : Hid ((M.take (k + 1)).filter Cb.snd = (M.take k).filter Cb.snd) := by show _ = _; rw [HC.out, hs]; simp
          go_wp2_with fail
          (with_reducible refine (text_no c _ hs).mono ?_)
          rintro e w2 ⟨rfl, hb2⟩
          have W2 := W.trans (hb2.mono W.size)
          have O2 := own_on O hb2
          clear W O hb2 c0 c1 c2 c3 HC
          go_wp2
          go_roundg (40 - (k + 1))
          case measure => omega
          case rel => exact ⟨k + 1, by omega, rfl, by go_num, W2, by rw [HN.out]; exact O2⟩
        | true =>
          have HN : Hid ((M.take (k + 1)).filter Cb.snd = (M.take k).filter Cb.snd ++ [c]) := by show _ = _; rw [HC.out, hs]; simp
          obtain ⟨s, HT⟩ : ∃ s, Hid (txt c = s) := ⟨_, rfl⟩
          go_wp2_with fail
          (with_reducible refine (text_s s c _ hs HT.out).mono ?_)
          rintro e w2 ⟨rfl, hb2⟩
          have W2 := W.trans (hb2.mono W.size)
          have O2 := own_on O hb2
          clear W O hb2 c0 c1 c2 c3 HC
          go_upto_region 9 with (fail)
          have hb3 := below1 w2 (.cells #[.string s] 9)
          have N3 : Blk (w2.alloc (.cells #[.string s] 9)) w2.heap.size 9 #[.string s] := Blk.new w2 _ _
          have W3 := W2.trans (hb3.mono W2.size)
          have O3 := own_on O2 hb3
          have hz3 := W3.size
          clear W2 O2 hb3
          go_wp2_with (at_builtin; refine wpList_append_lies _ rfl (.tmp 28) (.tmp 30) 26 rfl w.heap.size 9 is _ 1 16 Try.underlying26 his hs0 hs1 hs2 rfl (by decide) _ _ _ rfl O3 ⟨w2.heap.size, 0, none⟩ 1 1 [.string s] rfl rfl (World.news_of_block N3) (by intro u hu; simp only [List.mem_singleton] at hu; subst hu; rfl) (by omega) (by unfold maxLen; omega) (by omega) hz3 _ rfl ?_)
          intro g4 cap4 w4 O4 hg4 hat hgl
          have W4 := W3.grown hg4 hz3 (fun j hj => (O3.lt j hj).1)
          clear W3 O3 N3 hg4 hat hgl
          go_wp2
          go_roundg (40 - (k + 1))
          case measure => omega
          case rel => exact ⟨k + 1, by omega, rfl, by go_num, W4, by rw [HN.out, strs_snoc, HT.out, List.length_append]; exact O4⟩
      · have hltz : ¬ (k : Int) < (40 : Int) := by omega
        obtain rfl : k = 40 := by omega
        rw [List.take_of_length_le (by omega)] at O
        have hl2 : M.length ≤ 1000000 := by omega
        have hf2 : (M.filter Cb.snd).length ≤ 1000000 := Nat.le_trans (List.length_filter_le _ _) hl2
        have PT := own_PlT O
        have PV := HP.out.on W
        clear O
        go_wp2_with fail
        refine (awake3_c _).mono ?_
        rintro e w1 ⟨rfl, hb⟩
        replace PT := PT.on hb
        replace PV := PV.on hb
        replace W := W.trans (hb.mono W.size)
        clear hb
        have hcon := plean_c _ M w1 hl2 PV
        go_wp2_with fail
        refine hcon.mono ?_
        rintro e w2 ⟨v2, rfl, O2, hb⟩
        replace PT := PT.on hb
        replace W := W.trans (hb.mono W.size)
        clear hb hcon PV
        have hcon := rlean_c _ (M.filter Cb.snd) w2 hf2 (filter_snd M) PT
        rw [leanS_filter] at hcon
        go_wp2_with fail
        refine hcon.mono ?_
        rintro e w3 ⟨v3, rfl, O3, hb⟩
        replace W := W.trans (hb.mono W.size)
        have hcon2 := same_c v2 v3 (leanS M) w3 (Nat.le_trans (leanS_le M) hl2) (leanS_snd M) (own_Pl (own_on O2 hb)) (own_PlT O3)
        clear hb hcon PT O2 O3
        go_wp2_with fail
        refine hcon2.mono ?_
        rintro e w4 ⟨rfl, hb⟩
        replace W := W.trans (hb.mono W.size)
        clear hb hcon2
        go_wp2
        go_ret
        exact ⟨rfl, W⟩
end Go.Proofs

namespace Go.Proofs.Ytipkefljicoldaa
open Go.ChangeShapes Go.WideShapes Go.ChangeAt Go.RowKit Go.Joins Go.Proofs.Hd

theorem laidOut_pleanl : laidOutB Try.prog = true := by kernel_rfl
set_option maxRecDepth 100000 in
theorem pleanl_lifted (os : Os) (started : os.Started) (H : Type) (enc : TypeId × Value → H) :
    ReturnsInHanded {} Try.checked os 4 .any (Rows.pileLeanSpec.pre6 enc Try.prog Try.f4 Rows.pileLeanRow.domain false) (Rows.pileLeanSpec.post enc Try.prog Try.f4 false true false false) := by
  refine returnsInHanded_of_change (C := Try.checked) own started (by kernel_rfl) Try.func4
    (ChangeSpec.witness6 (enc := enc) (C := Try.checked) false ⟨#[], #[.slice none 0 0], []⟩ 8 (by kernel_rfl) (by kernel_rfl) (by kernel_rfl) (by kernel_rfl)) ?_
  intro W base args ds gs before hval0 hW hcnd _
  have hval : ∀ (j : Nat) t v, Try.f4.params[j]? = some t → args[j]? = some v → Value.okWide Try.prog W .any base t v := hval0
  have hW' := hW
  obtain ⟨p, q, hA0, hV, rfl, hfz, hnd⟩ := hW
  have hA : DataW.TrodAll enc Try.prog W 0 (fun _ => true) true Try.f4.params.toList args.toList ds p := hA0
  rw [Try.params4] at hA hval
  obtain ⟨v0, vs0, d0, ds0, p0, q0, hargs, rfl, rfl, h0, r0⟩ := trodAll_cons hA
  obtain ⟨rfl, rfl, rfl⟩ := trodAll_nil r0
  obtain rfl : args = #[v0] := by cases args; simp_all
  obtain ⟨rfl, rfl⟩ := trodVars_none hV
  have k0 := h0
  have lt0 : ∀ x ∈ p0, x.block < W.heap.size := by obtain ⟨m, hm⟩ := k0; exact DataW.trod_lt m _ _ _ hm
  obtain ⟨aA, ac, aL, rfl, la, ma, pa⟩ := open_pl (hval 0 22 v0 rfl rfl) h0
  clear hA0 hval0
  refine (pleanl_c aA ac aL W la ma pa).mono fun e W' ⟨he, hg⟩ => ?_
  subst he
  exact ⟨_, rfl, _, _, _, [], _, [], hW', trodAll_mk1 (shut_bool Try.underlying4 _), (trodAll_cons_mk (Below.trod laidOut_pleanl (by kernel_rfl) (of_decide_eq_true (by kernel_rfl)) k0 hg lt0) trodAll_mk0), rfl, hg.frame _, (fun h => by cases h)⟩

theorem pleanl_holds : Rows.PileLeanSaid :=
  OpenClaim.holds_of_wide 4 Try.f4 rfl rfl rfl rfl rfl rfl rfl ⟨rfl, rfl, rfl, rfl, rfl⟩ rfl rfl rfl rfl rfl (by kernel_rfl) Try.func4 (by kernel_rfl)
    (of_decide_eq_true (by kernel_rfl)) (by unfold Func.isWrapper; first | (rw [if_pos (by decide +kernel)]; kernel_rfl) | (rw [if_neg (by decide +kernel)]; exact ⟨rfl, rfl⟩))
    (fun os started H enc _ => pleanl_lifted os started H enc)
#print axioms pleanl_holds
end Go.Proofs.Ytipkefljicoldaa
