/-
  Contract: Less of the reference of layer 2: the texts of the difference of two sound cubes. Conditions: both texts are those of sound cubes.
-/
import Derived.Test.YtlhbkiobgppciaaCMeets
import Derived.Test.YtlhbkiobgppciaaTxL
namespace Go.Proofs
open Go.RowKit Go.Proofs.Hd
attribute [local go_sem] uv_nonneg
theorem infoStr : (Try.prog.info? 9).map (fun i => (i.zero, i.size, i.bytes)) = some (some (.string ⟨#[]⟩), 1, 16) := by kernel_rfl

set_option maxHeartbeats 4000000 in
theorem rless_f (s t : ByteArray) (a b : Cb) (w : World) (ha : a.snd = true) (hb : b.snd = true) (HS : Hid (txt a = s)) (HT : Hid (txt b = t)) (hg : a.agr b = false) :
    Calls Try.prog 21 #[.string s, .string t] w (GotS w [a]) := by
  go_enter Try.func21, Try.ntmps21
  go_wp2_with fail
  (with_reducible refine (rmeet_f s t a b _ ha hb HS.out HT.out hg).mono ?_)
  rintro e w1 ⟨rfl, B1⟩
  go_wp2
  go_ret
  refine ⟨_, rfl, ?_, B1.alloc B1.size _⟩
  have h := World.ownsRow_lit (base := w.heap.size) (e := 9) (size := 1) w1 #[.string s] 1 B1.size (by decide) rfl
  have e : strs [a] = [.string s] := by unfold strs; rw [← HS.out]; rfl
  rw [e]
  exact h

set_option maxHeartbeats 8000000 in
theorem rless_t (s t r : ByteArray) (a b : Cb) (w : World) (ha : a.snd = true) (hb : b.snd = true) (HS : Hid (txt a = s)) (HT : Hid (txt b = t)) (HR : Hid (txt (a.join b) = r)) (hg : a.agr b = true) (Q : List Cb) (HQ : Hid (lessP b a (openBits a b) = Q)) :
    Calls Try.prog 21 #[.string s, .string t] w (GotS w Q) := by
  have l1 : s.size ≤ 128 := by rw [text_len HS.out]; omega
  have l2 : 128 ≤ s.size := by rw [text_len HS.out]; omega
  have l3 : t.size ≤ 128 := by rw [text_len HT.out]; omega
  have l4 : 128 ≤ t.size := by rw [text_len HT.out]; omega
  go_enter Try.func21, Try.ntmps21
  go_wp2_with fail
  (with_reducible refine (rmeet_t s t r a b _ ha hb HS.out HT.out hg HR.out).mono ?_)
  rintro e w1 ⟨rfl, B1⟩
  go_upto_region 5 with (fail)
  have O2 : (w1.alloc (.cells #[] 9)).ownsRow w.heap.size 9 1 (.slice (some ⟨w1.heap.size, 0, none⟩) 0 0) 0 [] := World.ownsRow_lit (base := w.heap.size) (e := 9) (size := 1) w1 #[] 0 B1.size (by decide) rfl
  have B2 := B1.alloc B1.size (.cells #[] 9)
  generalize (w1.alloc (.cells #[] 9)) = w2 at O2 B2 ⊢
  have R0 := ByRow.start w2 s (grownCap w2 s.size 0 5) 5 (text_len HS.out) (fun i => sgn a (127 - i)) (fun i h => by have e := HS.out; subst e; rw [txt_get])
  have hcv := toBytes w2 s
  have bb : Below w2.heap.size w2 (w2.drew.alloc (.cells (bytesRow s (grownCap w2 s.size 0 5)) 5 ((bytesRow s (grownCap w2 s.size 0 5)).size, (bytesRow s (grownCap w2 s.size 0 5)).size + 1))) := ((Below.refl _ w2).drew).alloc (Nat.le_refl _) _
  have HI : Hid (Rl w (w2.drew.alloc (.cells (bytesRow s (grownCap w2 s.size 0 5)) 5 ((bytesRow s (grownCap w2 s.size 0 5)).size, (bytesRow s (grownCap w2 s.size 0 5)).size + 1))) w2.heap.size a (.slice (some ⟨w1.heap.size, 0, none⟩) 0 0) []) := Lib.hid ⟨B2.trans (bb.mono B2.size), R0, ⟨_, _, heap_alloc_new w2.drew _⟩, own_on O2 bb, B2.size⟩
  have HP := Lib.hid (Prog.start (b := b) ha)
  clear R0 bb O2 B2 B1
  go_wp2_with fail
  generalize grownCap w2 s.size 0 5 = cap at *
  clear hcv
  go_loopg [7, 9] 128 (fun g v i wr => ∃ (k : Nat) (cc : Cb) (D : List Cb), k ≤ 128 ∧ g = 128 - k ∧ i = .int .i64 k ∧ Prog a b k cc D ∧ Rl w wr w2.heap.size cc v D)
  case atStart => exact ⟨0, a, [], by omega, rfl, rfl, HP.out, HI.out⟩
  case round =>
    clear HI HP
    obtain ⟨k, cc, D, hk, rfl, rfl, HP, R⟩ := hrel
    by_cases hlt : k < 128
    · have hlt' : (k : Int) < 128 := by omega
      have hks : k < s.size := by omega
      have hks' : (k : Int) < (s.size : Int) := by omega
      have hkt : k < t.size := by omega
      have hkt' : (k : Int) < (t.size : Int) := by omega
      obtain ⟨m, hm⟩ : ∃ m, m + k = 127 := ⟨127 - k, by omega⟩
      have hm1 : m < 128 := by omega
      have HM := Lib.hid hm
      clear hm
      have f1 := (R.row k hlt).1
      have f2 := (R.row k hlt).2
      cases hKa : a.K m
      · have sgs := sign_x HS.out k m HM.out hks hKa
        cases hKb : b.K m
        · have sgt := sign_x HT.out k m HM.out hkt hKb
          have HN : Hid ((b.K m && !a.K m) = false) := Lib.hid (by rw [hKb]; rfl)
          clear hKa hKb f1 f2
          go_wp2
          go_roundg (128 - (k + 1))
          case measure => omega
          case rel => exact ⟨k + 1, cc, D, by omega, rfl, by go_num, HP.skip HM.out HN.out, R⟩
        · cases hV : b.V m
          · have sgt := sign_0 HT.out k m HM.out hkt hKb hV
            have hcm := HP.free HM.out hKa
            have OS := Lib.hid (other_sign (b := b) hm1 HP.snd hcm)
            have SS := Lib.hid (same_sign (b := b) hm1 HP.snd hcm)
            have HN := Lib.hid (HP.step HM.out hKb hKa)
            have HV := Lib.hid hV
            have hln := HP.len
            clear hKa hKb hV hcm HP
            go_upto_region 14 with (fail)
            have R5 := R.put (c2 := wOther cc b m) k m HM.out 49 (OS.out.2.2 HV.out).symm OS.out.1
            generalize (wr.setCell ⟨w2.heap.size, k, none⟩ (.int .u8 49)) = w5 at R5 ⊢
            clear R f1 f2
            have hcv := fromBytes w5 (wOther cc b m) w2.heap.size s.size cap (by omega) R5.row
            obtain ⟨q, hq⟩ : ∃ q, txt (wOther cc b m) = q := ⟨_, rfl⟩
            rw [hq] at hcv
            have HQQ := Lib.hid hq
            clear hq
            have N5 : Blk (w5.alloc (.cells #[.string q] 9)) w5.heap.size 9 #[.string q] := Blk.new w5 _ _
            have R6 := R5.on (below1 w5 (.cells #[.string q] 9))
            obtain ⟨i0, hi0, hz0, hz1, hz2⟩ := info_parts infoStr
            go_wp2_with (at_builtin; refine wpList_append_lies _ rfl (.tmp 48) (.tmp 51) 41 rfl w.heap.size 9 i0 _ 1 16 Try.underlying41 hi0 hz0 hz1 hz2 rfl (by decide) _ D.length (strs D) rfl R6.own ⟨w5.heap.size, 0, none⟩ 1 1 [.string q] rfl rfl (World.news_of_block N5) (by intro u hu; simp only [List.mem_singleton] at hu; subst hu; rfl) (by omega) (by unfold maxLen; omega) (by omega) (R6.bel.size) _ rfl ?_)
            intro g2 cap2 w7 hown hgrow hat hgl
            have R7 := R6.append hgrow (c := wOther cc b m) (by rw [HQQ.out]; exact hown)
            clear R6 R5 N5 hcv hi0 hz0 hz1 hz2 hown hgrow hat hgl
            have f1 := (R7.row k hlt).1
            have f2 := (R7.row k hlt).2
            go_wp2
            go_roundg (128 - (k + 1))
            case measure => omega
            case rel => exact ⟨k + 1, wSame cc b m, D ++ [wOther cc b m], by omega, rfl, by go_num, HN.out, R7.put k m HM.out 48 (SS.out.2.2 HV.out).symm SS.out.1⟩
          · have sgt := sign_1 HT.out k m HM.out hkt hKb hV
            have hcm := HP.free HM.out hKa
            have OS := Lib.hid (other_sign (b := b) hm1 HP.snd hcm)
            have SS := Lib.hid (same_sign (b := b) hm1 HP.snd hcm)
            have HN := Lib.hid (HP.step HM.out hKb hKa)
            have HV := Lib.hid hV
            have hln := HP.len
            clear hKa hKb hV hcm HP
            go_upto_region 14 with (fail)
            have R5 := R.put (c2 := wOther cc b m) k m HM.out 48 (OS.out.2.1 HV.out).symm OS.out.1
            generalize (wr.setCell ⟨w2.heap.size, k, none⟩ (.int .u8 48)) = w5 at R5 ⊢
            clear R f1 f2
            have hcv := fromBytes w5 (wOther cc b m) w2.heap.size s.size cap (by omega) R5.row
            obtain ⟨q, hq⟩ : ∃ q, txt (wOther cc b m) = q := ⟨_, rfl⟩
            rw [hq] at hcv
            have HQQ := Lib.hid hq
            clear hq
            have N5 : Blk (w5.alloc (.cells #[.string q] 9)) w5.heap.size 9 #[.string q] := Blk.new w5 _ _
            have R6 := R5.on (below1 w5 (.cells #[.string q] 9))
            obtain ⟨i0, hi0, hz0, hz1, hz2⟩ := info_parts infoStr
            go_wp2_with (at_builtin; refine wpList_append_lies _ rfl (.tmp 48) (.tmp 51) 41 rfl w.heap.size 9 i0 _ 1 16 Try.underlying41 hi0 hz0 hz1 hz2 rfl (by decide) _ D.length (strs D) rfl R6.own ⟨w5.heap.size, 0, none⟩ 1 1 [.string q] rfl rfl (World.news_of_block N5) (by intro u hu; simp only [List.mem_singleton] at hu; subst hu; rfl) (by omega) (by unfold maxLen; omega) (by omega) (R6.bel.size) _ rfl ?_)
            intro g2 cap2 w7 hown hgrow hat hgl
            have R7 := R6.append hgrow (c := wOther cc b m) (by rw [HQQ.out]; exact hown)
            clear R6 R5 N5 hcv hi0 hz0 hz1 hz2 hown hgrow hat hgl
            have f1 := (R7.row k hlt).1
            have f2 := (R7.row k hlt).2
            go_wp2
            go_roundg (128 - (k + 1))
            case measure => omega
            case rel => exact ⟨k + 1, wSame cc b m, D ++ [wOther cc b m], by omega, rfl, by go_num, HN.out, R7.put k m HM.out 49 (SS.out.2.1 HV.out).symm SS.out.1⟩
      · have HN : Hid ((b.K m && !a.K m) = false) := Lib.hid (by rw [hKa]; simp)
        cases hVa : a.V m
        · have sgs := sign_0 HS.out k m HM.out hks hKa hVa
          clear hKa hVa f1 f2
          go_wp2
          go_roundg (128 - (k + 1))
          case measure => omega
          case rel => exact ⟨k + 1, cc, D, by omega, rfl, by go_num, HP.skip HM.out HN.out, R⟩
        · have sgs := sign_1 HS.out k m HM.out hks hKa hVa
          clear hKa hVa f1 f2
          go_wp2
          go_roundg (128 - (k + 1))
          case measure => omega
          case rel => exact ⟨k + 1, cc, D, by omega, rfl, by go_num, HP.skip HM.out HN.out, R⟩
    · obtain rfl : k = 128 := by omega
      have e := HP.done.trans HQ.out
      subst e
      go_wp2
      go_ret
      exact ⟨_, rfl, R.own, R.bel⟩

theorem rless_s (s t : ByteArray) (a b : Cb) (w : World) (ha : a.snd = true) (hb : b.snd = true) (hs : txt a = s) (ht : txt b = t) (Q : List Cb) (hq : lessC a b = Q) :
    Calls Try.prog 21 #[.string s, .string t] w (GotS w Q) := by
  subst hq
  unfold lessC
  cases h : a.agr b with
  | true => rw [if_pos rfl]; exact rless_t s t _ a b w ha hb (Lib.hid hs) (Lib.hid ht) (Lib.hid rfl) h _ (Lib.hid rfl)
  | false => rw [if_neg (by simp)]; exact rless_f s t a b w ha hb (Lib.hid hs) (Lib.hid ht) h
end Go.Proofs
