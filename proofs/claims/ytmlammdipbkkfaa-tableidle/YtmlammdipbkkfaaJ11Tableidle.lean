/-
  customhouselaw06.TableIdle returns true for every input, and each argument reads behind the call as before. No conditions.
  The walk of customhouselaw06.TableIdle: it returns true. Conditions as each theorem lists them.
-/
import Derived.Test.YtmlammdipbkkfaaJ10
import Derived.Deep.AppendLies
import Derived.Test.YtmlammdipbkkfaaRows
import Derived.Below
import Derived.SizedLaws
namespace Go.Proofs
open Go.RowKit Go.Proofs.Hd Go.Sort Go.Shelf Go.Lib
attribute [local go_sem] uv_nonneg
set_option maxHeartbeats 8000000 in
set_option maxRecDepth 100000 in
theorem til_bad (A : Option Addr) (n cap : Nat) (M : List Rl) (w : World) (hm : M.length ≤ 8) (hf : Calls Try.prog 14 #[.slice A n cap] w fun e w' => e = .returned (.slice A M.length cap) ∧ w' = w) (hv : Ru w (.slice A M.length cap) M) (hs : sndA M = false) (h0 : M ≠ []) : Calls Try.prog 5 #[.slice A n cap] w fun e w' => e = .returned (.bool true) ∧ Below w.heap.size w w' := by
  have hmz : (M.length : Int) ≤ 8 := by omega
  have HV := Lib.hid hv
  have hcon := idle_bad _ M w (by omega) h0 hs hv
  have hpos : 0 < M.length := List.length_pos_iff.2 h0
  have hpz : (0 : Int) < (M.length : Int) := by omega
  obtain ⟨r, hr⟩ : ∃ r, M[0]? = some r := ⟨_, List.getElem?_eq_getElem hpos⟩
  have HR : Hid (∀ W, Below w.heap.size w W → Calls Try.prog 16 #[.slice A M.length cap, .int .i64 0] W fun e w' => e = .returned (.tuple #[.slice none 0 0, .int .i64 2]) ∧ Below W.heap.size W w') := fun W hb => rseen_form _ M 0 r W (by omega) hr hs (hv.on hb)
  clear hv hs h0 hr HV
  go_enter Try.func5, Try.ntmps5
  go_wp2_with fail
  (with_reducible refine hf.mono ?_)
  rintro e w1 ⟨rfl, rfl⟩
  clear hf
  go_wp2_with fail
  (with_reducible refine hcon.mono ?_)
  rintro e w2 ⟨rfl, B2⟩
  have hb3 := below1 w2 (.cells #[] 3)
  have B3 := B2.trans (hb3.mono B2.size)
  clear hcon hb3
  go_wp2
  refine wp_loop_rounds 1 ?_
  rw [rounds_succ]
  have hcon3 := HR.out _ B3
  go_wp2_with fail
  (with_reducible refine hcon3.mono ?_)
  rintro e w4 ⟨rfl, hb⟩
  have B4 := B3.trans (hb.mono B3.size)
  clear hcon3 hb B3 B2 HR
  go_wp2_with fail
  (with_reducible refine (awake6_c _).mono ?_)
  rintro e w5 ⟨rfl, hb⟩
  have B5 := B4.trans (hb.mono B4.size)
  clear hb B4
  go_wp2
  go_ret
  exact ⟨rfl, B5⟩
set_option maxHeartbeats 8000000 in
set_option maxRecDepth 100000 in
theorem til_some (A : Option Addr) (n cap : Nat) (M : List Rl) (w : World) (hm : M.length ≤ 8) (hf : Calls Try.prog 14 #[.slice A n cap] w fun e w' => e = .returned (.slice A M.length cap) ∧ w' = w) (hv : Ru w (.slice A M.length cap) M) (hs : sndA M = true) (xs : List Nat) (hx : idlU M M.length = some xs) : Calls Try.prog 5 #[.slice A n cap] w fun e w' => e = .returned (.bool true) ∧ Below w.heap.size w w' := by
  have hmz : (M.length : Int) ≤ 8 := by omega
  have HV := Lib.hid hv
  have hcon := (idle_any _ M w (by omega) hs hv).mono fun e w' h => h.1 xs hx
  have HX := Lib.hid hx
  have HS := Lib.hid hs
  clear hv hs hx
  obtain ⟨i1, hi1, hz0, hz1, hz2⟩ := info_parts infoIb
  go_enter Try.func5, Try.ntmps5
  go_wp2_with fail
  (with_reducible refine hf.mono ?_)
  rintro e w1 ⟨rfl, rfl⟩
  clear hf
  go_wp2_with fail
  (with_reducible refine hcon.mono ?_)
  rintro e w2 ⟨v2, rfl, O2, B2⟩
  have HP := Lib.hid (own_PlK O2)
  obtain ⟨A2, c2, rfl, _⟩ := own_form O2
  clear O2
  have HB2 := Lib.hid B2
  have HB3 := Lib.hid (below1 w2 (.cells #[] 3))
  have HO3 : Hid ((w2.alloc (.cells #[] 3)).ownsRow w2.heap.size 3 1 (.slice (some ⟨w2.heap.size, 0, none⟩) 0 0) ([] : List Nat).length (ints [])) := World.ownsRow_made w2 #[] 0 (Nat.le_refl _) (Nat.zero_le _) rfl
  clear hcon B2
  go_wp2
  go_loopg [5, 6, 7, 8] M.length (fun gk s5 s6 _ _ wr => ∃ (k : Nat) (ys : List Nat), k ≤ M.length ∧ gk = M.length - k ∧ s6 = .int .i64 k ∧ Hid (idlU M k = some ys) ∧ Hid (Below w2.heap.size w2 wr) ∧ Hid (wr.ownsRow w2.heap.size 3 1 s5 ys.length (ints ys)))
  case atStart => exact ⟨0, [], Nat.zero_le _, rfl, rfl, rfl, HB3, HO3⟩
  case round =>
    clear HB3 HO3
    obtain ⟨k, ys, hk, rfl, rfl, HI, HB, HO⟩ := hrel
    by_cases hlt : k < M.length
    · have hltz : (k : Int) < (M.length : Int) := by omega
      obtain ⟨r, hr⟩ : ∃ r, M[k]? = some r := ⟨_, List.getElem?_eq_getElem hlt⟩
      have HN : Hid (idlU M (k + 1) = (seenL M k).bind fun R => some (if R.isEmpty = true then ys ++ [k] else ys)) := by show _ = _; rw [idlU, HI.out]; rfl
      have hyl := (idlU_len HI.out).1
      have HRu := Lib.hid ((HV.out.on HB2.out).on HB.out)
      cases hse : seenL M k with
      | none =>
        exfalso
        have h1 : idlU M (k + 1) = none := by rw [HN.out, hse]; rfl
        have h2 := idlU_none h1 (M.length - (k + 1))
        rw [show k + 1 + (M.length - (k + 1)) = M.length by omega, HX.out] at h2
        cases h2
      | some R =>
        have hcon := rseen_some _ M k r wr (by omega) hr HS.out R hse HRu.out
        have HN2 : Hid (idlU M (k + 1) = some (if R.isEmpty = true then ys ++ [k] else ys)) := by show _ = _; rw [HN.out, hse]; rfl
        clear HN hse hr HI HRu
        go_wp2_with fail
        (with_reducible refine hcon.mono ?_)
        rintro e w3 ⟨v3, rfl, T3, hb⟩
        obtain ⟨A3, c3, rfl, _⟩ := T3.form
        have HB4 := Lib.hid (HB.out.trans (hb.mono HB.out.size))
        have HO4 := Lib.hid (own_on HO.out hb)
        clear hcon hb HB HO T3
        cases R with
        | nil =>
          have HN3 : Hid (idlU M (k + 1) = some (ys ++ [k])) := by show _ = _; rw [HN2.out]; rfl
          have hb1 := below1 w3 (.cells #[.int .i64 (k : Int)] 3)
          have N1 : Blk (w3.alloc (.cells #[.int .i64 (k : Int)] 3)) w3.heap.size 3 #[.int .i64 (k : Int)] := Blk.new w3 _ _
          have B5 := HB4.out.trans (hb1.mono HB4.out.size)
          have O5 := own_on HO4.out hb1
          have hz := HB4.out.size
          clear HB4 HO4 hb1 HN2
          simp only [List.length_nil]
          go_wp2_with (at_builtin; refine wpList_append_lies _ rfl (.tmp 45) (.tmp 47) 36 rfl w2.heap.size 3 i1 _ 1 8 Try.underlying36 hi1 hz0 hz1 hz2 rfl (by decide) _ ys.length (ints ys) rfl O5 ⟨w3.heap.size, 0, none⟩ 1 1 [.int .i64 (k : Int)] rfl rfl (World.news_of_block N1) (by intro u hu; simp only [List.mem_singleton] at hu; subst hu; rfl) (by omega) (by unfold maxLen; omega) (by omega) (by simp; omega) _ rfl ?_)
          intro g2 cp2 w4 O6 hg4 _ hlt4
          have B6 := Lib.hid (B5.grown hg4 B5.size (fun j hj => by have := (O5.lt j hj).1; omega))
          have O7 : Hid (w4.ownsRow w2.heap.size 3 1 (.slice (some ⟨g2, 0, none⟩) (ys.length + 1) cp2) (ys ++ [k]).length (ints (ys ++ [k]))) := by show World.ownsRow _ _ _ _ _ _ _; rw [ints_snoc, List.length_append]; exact O6
          clear B5 O5 N1 hg4 O6
          go_wp2
          go_roundg (M.length - (k + 1))
          case measure => omega
          case rel => exact ⟨k + 1, ys ++ [k], by omega, rfl, by go_num, HN3, B6, O7⟩
        | cons a R =>
          have HN3 : Hid (idlU M (k + 1) = some ys) := by show _ = _; rw [HN2.out]; rfl
          have hne : ¬ (((a :: R).length : Nat) : Int) = 0 := by simp; omega
          obtain ⟨m, hm2⟩ : ∃ m, (a :: R).length = m := ⟨_, rfl⟩
          rw [hm2] at hne ⊢
          have hm0 : ¬ m = 0 := by omega
          clear hm2 HN2
          go_wp2
          go_roundg (M.length - (k + 1))
          case measure => omega
          case rel => exact ⟨k + 1, ys, by omega, rfl, by go_num, HN3, HB4, HO4⟩
    · have hltz : ¬ (k : Int) < (M.length : Int) := by omega
      obtain rfl : k = M.length := by omega
      obtain rfl : ys = xs := by have e := HI.out; rw [HX.out] at e; injection e with e; exact e.symm
      have HQ := Lib.hid (own_PlK HO.out)
      obtain ⟨A5, c5, rfl, _⟩ := own_form HO.out
      have hyl := (idlU_len HX.out).1
      have hyz : ys.length ≤ 1000000 := by omega
      clear HI HO HV HX
      go_wp2_with fail
      (with_reducible refine (awake6_c _).mono ?_)
      rintro e w5 ⟨rfl, hb⟩
      have B5 := HB.out.trans (hb.mono HB.out.size)
      have hcon5 := same6_c _ _ ys w5 hyz (HP.out.on B5) (HQ.out.on hb)
      clear hb HB HQ HP
      go_wp2_with fail
      (with_reducible refine hcon5.mono ?_)
      rintro e w6 ⟨rfl, hb⟩
      have B6 := B5.trans (hb.mono B5.size)
      have B7 := HB2.out.trans (B6.mono HB2.out.size)
      clear hb B5 B6 hcon5
      go_wp2
      go_ret
      exact ⟨rfl, B7⟩
set_option maxHeartbeats 8000000 in
set_option maxRecDepth 100000 in
theorem til_none (A : Option Addr) (n cap : Nat) (M : List Rl) (w : World) (hm : M.length ≤ 8) (hf : Calls Try.prog 14 #[.slice A n cap] w fun e w' => e = .returned (.slice A M.length cap) ∧ w' = w) (hv : Ru w (.slice A M.length cap) M) (hs : sndA M = true) (hx : idlU M M.length = none) : Calls Try.prog 5 #[.slice A n cap] w fun e w' => e = .returned (.bool true) ∧ Below w.heap.size w w' := by
  have hmz : (M.length : Int) ≤ 8 := by omega
  have HV := Lib.hid hv
  have hcon := (idle_any _ M w (by omega) hs hv).mono fun e w' h => h.2 hx
  have HX := Lib.hid hx
  have HS := Lib.hid hs
  clear hv hs hx
  obtain ⟨i1, hi1, hz0, hz1, hz2⟩ := info_parts infoIb
  go_enter Try.func5, Try.ntmps5
  go_wp2_with fail
  (with_reducible refine hf.mono ?_)
  rintro e w1 ⟨rfl, rfl⟩
  clear hf
  go_wp2_with fail
  (with_reducible refine hcon.mono ?_)
  rintro e w2 ⟨rfl, B2⟩
  have HB2 := Lib.hid B2
  have HB3 := Lib.hid (below1 w2 (.cells #[] 3))
  have HO3 : Hid ((w2.alloc (.cells #[] 3)).ownsRow w2.heap.size 3 1 (.slice (some ⟨w2.heap.size, 0, none⟩) 0 0) ([] : List Nat).length (ints [])) := World.ownsRow_made w2 #[] 0 (Nat.le_refl _) (Nat.zero_le _) rfl
  clear hcon B2
  go_wp2
  go_loopg [5, 6, 7, 8] M.length (fun gk s5 s6 _ _ wr => ∃ (k : Nat) (ys : List Nat), k ≤ M.length ∧ gk = M.length - k ∧ s6 = .int .i64 k ∧ Hid (idlU M k = some ys) ∧ Hid (Below w2.heap.size w2 wr) ∧ Hid (wr.ownsRow w2.heap.size 3 1 s5 ys.length (ints ys)))
  case atStart => exact ⟨0, [], Nat.zero_le _, rfl, rfl, rfl, HB3, HO3⟩
  case round =>
    clear HB3 HO3
    obtain ⟨k, ys, hk, rfl, rfl, HI, HB, HO⟩ := hrel
    by_cases hlt : k < M.length
    · have hltz : (k : Int) < (M.length : Int) := by omega
      obtain ⟨r, hr⟩ : ∃ r, M[k]? = some r := ⟨_, List.getElem?_eq_getElem hlt⟩
      have HN : Hid (idlU M (k + 1) = (seenL M k).bind fun R => some (if R.isEmpty = true then ys ++ [k] else ys)) := by show _ = _; rw [idlU, HI.out]; rfl
      have hyl := (idlU_len HI.out).1
      have HRu := Lib.hid ((HV.out.on HB2.out).on HB.out)
      cases hse : seenL M k with
      | none =>
        have hcon := rseen_none _ M k r wr (by omega) hr HS.out hse HRu.out
        clear HN hse hr HI HO HV HRu
        go_wp2_with fail
        (with_reducible refine hcon.mono ?_)
        rintro e w3 ⟨rfl, hb⟩
        have B3 := HB.out.trans (hb.mono HB.out.size)
        clear hcon hb HB
        go_wp2_with fail
        (with_reducible refine (awake6_c _).mono ?_)
        rintro e w5 ⟨rfl, hb⟩
        have B5 := B3.trans (hb.mono B3.size)
        have B6 := HB2.out.trans (B5.mono HB2.out.size)
        clear hb B3 B5
        go_wp2
        go_ret
        exact ⟨rfl, B6⟩
      | some R =>
        have hcon := rseen_some _ M k r wr (by omega) hr HS.out R hse HRu.out
        have HN2 : Hid (idlU M (k + 1) = some (if R.isEmpty = true then ys ++ [k] else ys)) := by show _ = _; rw [HN.out, hse]; rfl
        clear HN hse hr HI HRu
        go_wp2_with fail
        (with_reducible refine hcon.mono ?_)
        rintro e w3 ⟨v3, rfl, T3, hb⟩
        obtain ⟨A3, c3, rfl, _⟩ := T3.form
        have HB4 := Lib.hid (HB.out.trans (hb.mono HB.out.size))
        have HO4 := Lib.hid (own_on HO.out hb)
        clear hcon hb HB HO T3
        cases R with
        | nil =>
          have HN3 : Hid (idlU M (k + 1) = some (ys ++ [k])) := by show _ = _; rw [HN2.out]; rfl
          have hb1 := below1 w3 (.cells #[.int .i64 (k : Int)] 3)
          have N1 : Blk (w3.alloc (.cells #[.int .i64 (k : Int)] 3)) w3.heap.size 3 #[.int .i64 (k : Int)] := Blk.new w3 _ _
          have B5 := HB4.out.trans (hb1.mono HB4.out.size)
          have O5 := own_on HO4.out hb1
          have hz := HB4.out.size
          clear HB4 HO4 hb1 HN2
          simp only [List.length_nil]
          go_wp2_with (at_builtin; refine wpList_append_lies _ rfl (.tmp 45) (.tmp 47) 36 rfl w2.heap.size 3 i1 _ 1 8 Try.underlying36 hi1 hz0 hz1 hz2 rfl (by decide) _ ys.length (ints ys) rfl O5 ⟨w3.heap.size, 0, none⟩ 1 1 [.int .i64 (k : Int)] rfl rfl (World.news_of_block N1) (by intro u hu; simp only [List.mem_singleton] at hu; subst hu; rfl) (by omega) (by unfold maxLen; omega) (by omega) (by simp; omega) _ rfl ?_)
          intro g2 cp2 w4 O6 hg4 _ hlt4
          have B6 := Lib.hid (B5.grown hg4 B5.size (fun j hj => by have := (O5.lt j hj).1; omega))
          have O7 : Hid (w4.ownsRow w2.heap.size 3 1 (.slice (some ⟨g2, 0, none⟩) (ys.length + 1) cp2) (ys ++ [k]).length (ints (ys ++ [k]))) := by show World.ownsRow _ _ _ _ _ _ _; rw [ints_snoc, List.length_append]; exact O6
          clear B5 O5 N1 hg4 O6
          go_wp2
          go_roundg (M.length - (k + 1))
          case measure => omega
          case rel => exact ⟨k + 1, ys ++ [k], by omega, rfl, by go_num, HN3, B6, O7⟩
        | cons a R =>
          have HN3 : Hid (idlU M (k + 1) = some ys) := by show _ = _; rw [HN2.out]; rfl
          have hne : ¬ (((a :: R).length : Nat) : Int) = 0 := by simp; omega
          obtain ⟨m, hm2⟩ : ∃ m, (a :: R).length = m := ⟨_, rfl⟩
          rw [hm2] at hne ⊢
          have hm0 : ¬ m = 0 := by omega
          clear hm2 HN2
          go_wp2
          go_roundg (M.length - (k + 1))
          case measure => omega
          case rel => exact ⟨k + 1, ys, by omega, rfl, by go_num, HN3, HB4, HO4⟩
    · have hltz : ¬ (k : Int) < (M.length : Int) := by omega
      obtain rfl : k = M.length := by omega
      exfalso
      have e := HI.out
      rw [HX.out] at e
      cases e
theorem til_c (A : Option Addr) (cap : Nat) (L : List Rl) (w : World) (hl : L.length ≤ 4611686018427387904) (hc : L.length ≤ cap) (hv : Ru w (.slice A L.length cap) L) : Calls Try.prog 5 #[.slice A L.length cap] w fun e w' => e = .returned (.bool true) ∧ Below w.heap.size w w' := by
  have hf := few_c A cap L w hl hc hv
  have hm : (L.take 8).length ≤ 8 := by rw [List.length_take]; omega
  cases hs : sndA (L.take 8) with
  | false => exact til_bad A _ cap (L.take 8) w hm hf (hv.take 8) hs (by intro e; rw [e] at hs; cases hs)
  | true =>
    cases hx : idlU (L.take 8) (L.take 8).length with
    | none => exact til_none A _ cap (L.take 8) w hm hf (hv.take 8) hs hx
    | some xs => exact til_some A _ cap (L.take 8) w hm hf (hv.take 8) hs xs hx
end Go.Proofs

namespace Go.Proofs.Ytmlammdipbkkfaa
open Go.ChangeShapes Go.WideShapes Go.ChangeAt Go.RowKit Go.Joins Go.Proofs.Hd

theorem laidOut_til : laidOutB Try.prog = true := by kernel_rfl
set_option maxRecDepth 100000 in
theorem til_lifted (os : Os) (started : os.Started) (H : Type) (enc : TypeId × Value → H) :
    ReturnsInHanded {} Try.checked os 5 .any (Rows.tableIdleSpec.pre6 enc Try.prog Try.f5 Rows.tableIdleRow.domain false) (Rows.tableIdleSpec.post enc Try.prog Try.f5 false true false false) := by
  refine returnsInHanded_of_change_sized (C := Try.checked) own started (by kernel_rfl) Try.func5
    (ChangeSpec.witness6 (enc := enc) (C := Try.checked) false ⟨#[], #[.slice none 0 0], []⟩ 8 (by kernel_rfl) (by kernel_rfl) (by kernel_rfl) (by kernel_rfl)) ?_
  intro W base args ds gs before hval0 hW hcnd hsz _
  have hval : ∀ (j : Nat) t v, Try.f5.params[j]? = some t → args[j]? = some v → Value.okWide Try.prog W .any base t v := hval0
  have hW' := hW
  obtain ⟨p, q, hA0, hV, rfl, hfz, hnd⟩ := hW
  have hA : DataW.TrodAll enc Try.prog W 0 (fun _ => true) true Try.f5.params.toList args.toList ds p := hA0
  rw [Try.params5] at hA hval
  obtain ⟨v0, vs0, d0, ds0, p0, q0, hargs, rfl, rfl, h0, r0⟩ := trodAll_cons hA
  obtain ⟨rfl, rfl, rfl⟩ := trodAll_nil r0
  obtain rfl : args = #[v0] := by cases args; simp_all
  obtain ⟨rfl, rfl⟩ := trodVars_none hV
  have k0 := h0
  have lt0 : ∀ x ∈ p0, x.block < W.heap.size := by obtain ⟨m, hm⟩ := k0; exact DataW.trod_lt m _ _ _ hm
  have kc0 := open_rcap (hval 0 22 v0 rfl rfl) h0
  obtain ⟨lA, lc, lL, rfl, pl, dl⟩ := open_rules (hval 0 22 v0 rfl rfl) h0
  have zl : lL.length ≤ 1466015503658 := by
    rcases dl with e | ⟨el, sp, e1, e2⟩
    · omega
    · subst e1
      have hh := sized_slice hsz (j := 0) (t := 22) (by rw [Try.params5]; rfl) rfl Try.underlying22
      have hb : Try.checked.prog.bytesOf 55 = 96 := by kernel_rfl
      have hr : reachBytes ≤ 140737488351232 := by decide
      rw [hb] at hh
      omega
  have cl := kc0 _ _ _ rfl
  clear hA0 hval0
  refine (til_c lA lc lL W (by omega) cl pl).mono fun e W' ⟨he, hg⟩ => ?_
  subst he
  exact ⟨_, rfl, _, _, _, [], _, [], hW', trodAll_mk1 (shut_bool Try.underlying4 _), (trodAll_cons_mk (Below.trod laidOut_til (by kernel_rfl) (of_decide_eq_true (by kernel_rfl)) k0 hg lt0) trodAll_mk0), rfl, hg.frame _, (fun h => by cases h)⟩

theorem til_holds : Rows.TableIdleSaid :=
  OpenClaim.holds_of_wide 5 Try.f5 rfl rfl rfl rfl rfl rfl rfl ⟨rfl, rfl, rfl, rfl, rfl⟩ rfl rfl rfl rfl rfl (by kernel_rfl) Try.func5 (by kernel_rfl)
    (of_decide_eq_true (by kernel_rfl)) (by unfold Func.isWrapper; first | (rw [if_pos (by decide +kernel)]; kernel_rfl) | (rw [if_neg (by decide +kernel)]; exact ⟨rfl, rfl⟩))
    (fun os started H enc _ => til_lifted os started H enc)
#print axioms til_holds
end Go.Proofs.Ytmlammdipbkkfaa
