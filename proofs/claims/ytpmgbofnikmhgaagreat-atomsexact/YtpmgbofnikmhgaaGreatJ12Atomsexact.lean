/-
  The row of customhouselaw11.AtomsExact: for every input it returns true, and each argument reads as it did. No conditions.
  Contracts of the reference's Meet and Less of layer 3, where the second list lies somewhere in a longer row. Conditions as each theorem lists them.
  The walk of customhouselaw11.AtomsExact: it returns true. Conditions as each theorem lists them.
-/
import Derived.Test.YtpmgbofnikmhgaaGreatJ11Atomsexact
import Derived.Test.YtpmgbofnikmhgaaGreatRows
import Derived.Below
namespace Go.Proofs.Hd
open Go.RowKit
/-- v is a slice of the texts of the cubes L, wherever in its row. -/
def PlO (w : World) (v : Value) (L : List Cb) : Prop := ∃ A cap, v = .slice A L.length cap ∧ (L ≠ [] → ∃ g o, A = some ⟨g, o, none⟩ ∧ g < w.heap.size ∧ ∀ (k : Nat) (c : Cb), L[k]? = some c → w.cell? ⟨g, o + k, none⟩ = some (.string (txt c)))
theorem PlO.form {w : World} {v : Value} {L : List Cb} (h : PlO w v L) : ∃ A cap, v = .slice A L.length cap ∧ (L ≠ [] → ∃ g o, A = some ⟨g, o, none⟩ ∧ g < w.heap.size ∧ ∀ (k : Nat) (c : Cb), L[k]? = some c → w.cell? ⟨g, o + k, none⟩ = some (.string (txt c))) := h
/-- One text out of a row. -/
theorem PlT.cut {w : World} {A : Option Addr} {n cap : Nat} {L : List Cb} {i : Nat} {c : Cb} (h : PlT w (.slice A n cap) L) (hc : L[i]? = some c) : ∃ g, A = some ⟨g, 0, none⟩ ∧ ∀ (W : World) (cap' : Nat), Below w.heap.size w W → PlO W (.slice (some ⟨g, i, none⟩) 1 cap') [c] := by
  rcases h with ⟨rfl, _⟩ | ⟨g, cap2, e, hg, hk⟩
  · simp at hc
  · injection e with e1 _ _
    refine ⟨g, e1, fun W cap' hb => ⟨_, cap', rfl, fun _ => ⟨g, i, rfl, Nat.lt_of_lt_of_le hg hb.size, fun k d hd => ?_⟩⟩⟩
    match k, hd with
    | 0, hd =>
      simp only [List.getElem?_cons_zero, Option.some.injEq] at hd
      subst hd
      exact on_some hb (hk i c hc)
    | k + 1, hd => simp at hd
/-- The block of a slice, if it has one, is of texts. -/
def TBs (w : World) (v : Value) : Prop := ∀ g o n c, v = .slice (some ⟨g, o, none⟩) n c → TB w g 9
theorem own_tbs {w : World} {base n : Nat} {v : Value} {xs : List Value} (h : w.ownsRow base 9 1 v n xs) : TBs w v := by
  intro g o m c e
  rcases h.2 with ⟨rfl, _⟩ | ⟨g', cap, cur, rfl, _, hheap, _⟩
  · cases e
  · simp only [Value.slice.injEq, Option.some.injEq, Addr.mk.injEq, and_true] at e
    exact ⟨cur, (0, 0), by rw [← e.1.1]; exact hheap⟩
def OptSo (w : World) (o : Option (List Cb)) (e : Ending) (w' : World) : Prop := (∀ R, o = some R → ∃ v, e = .returned (.tuple #[v, .bool true]) ∧ PlT w' v R ∧ TBs w' v ∧ Below w.heap.size w w') ∧ (o = none → e = .returned (.tuple #[.slice none 0 0, .bool false]) ∧ Below w.heap.size w w')
end Go.Proofs.Hd
namespace Go.Proofs
open Go.RowKit Go.Proofs.Hd Go.Lib
attribute [local go_sem] uv_nonneg
set_option maxHeartbeats 4000000 in
set_option maxRecDepth 100000 in
theorem rmeet3o_c (v u : Value) (A B : List Cb) (w : World) (hA : A.length ≤ 1000) (hB : B.length ≤ 1000) (sA : ∀ c ∈ A, c.snd = true) (sB : ∀ c ∈ B, c.snd = true) (hv : PlT w v A) (hu : PlO w u B) : Calls Tryz.prog 20 #[v, u] w (GotS w (metL A B)) := by
  obtain ⟨is, his, hs0, hs1, hs2⟩ := info_parts infoStr
  obtain ⟨A1, c1, rfl, hF⟩ := hv.form
  obtain ⟨A2, c2, rfl, hG⟩ := hu.form
  have hAz : (A.length : Int) ≤ 1000 := by omega
  have hBz : (B.length : Int) ≤ 1000 := by omega
  have HA := Lib.hid hF
  have HB := Lib.hid hG
  have HSA := Lib.hid sA
  have HSB := Lib.hid sB
  have HB0 := Lib.hid (below1 w (.cells #[] 9))
  have HO := Lib.hid (World.ownsRow_made (base := w.heap.size) (e := 9) (size := 1) w #[] 0 (Nat.le_refl _) (Nat.zero_le _) rfl)
  clear hv hu hF hG sA sB
  go_enter Tryz.func20, Tryz.ntmps20
  go_wp2
  go_loopg [5, 6] A.length (fun gk s5 s6 wr => ∃ i : Nat, i ≤ A.length ∧ gk = A.length - i ∧ s6 = .int .i64 i ∧ Below w.heap.size w wr ∧ wr.ownsRow w.heap.size 9 1 s5 (metL (A.take i) B).length (strs (metL (A.take i) B)))
  case atStart => exact ⟨0, Nat.zero_le _, rfl, rfl, HB0.out, HO.out⟩
  case round =>
    clear HB0 HO
    obtain ⟨i, hi, rfl, rfl, W, O⟩ := hrel
    by_cases hlt : i < A.length
    · have hltz : (i : Int) < (A.length : Int) := by omega
      obtain ⟨x, hx⟩ : ∃ x, A[i]? = some x := ⟨_, List.getElem?_eq_getElem hlt⟩
      obtain ⟨ga, rfl, hga, hpa⟩ := HA.out (ne_nil_of hx)
      have hxs := HSA.out x (List.mem_of_getElem? hx)
      have HT := Lib.hid (metL_take (B := B) hx)
      obtain ⟨s, HS⟩ : ∃ s, Hid (txt x = s) := ⟨_, rfl⟩
      have cx0 := hpa i x hx
      rw [HS.out] at cx0
      have HCX := Lib.hid cx0
      have hlen := metL_len A B i
      have hlen2 : i * B.length ≤ 1000 * 1000 := Nat.mul_le_mul (by omega) hB
      have HWr := Lib.hid W
      have HOr : Hid (wr.ownsRow w.heap.size 9 1 u5 (metL (A.take i) B ++ metR x (B.take 0)).length (strs (metL (A.take i) B ++ metR x (B.take 0)))) := by
        have e : metL (A.take i) B ++ metR x (B.take 0) = metL (A.take i) B := by simp [metR]
        show World.ownsRow _ _ _ _ _ _ _
        rw [e]; exact O
      clear hx hpa W O cx0
      go_wp2
      go_loopg [5, 7] B.length (fun gk s5 s7 wr => ∃ k : Nat, k ≤ B.length ∧ gk = B.length - k ∧ s7 = .int .i64 k ∧ Below w.heap.size w wr ∧ wr.ownsRow w.heap.size 9 1 s5 (metL (A.take i) B ++ metR x (B.take k)).length (strs (metL (A.take i) B ++ metR x (B.take k))))
      case atStart => exact ⟨0, Nat.zero_le _, rfl, rfl, HWr.out, HOr.out⟩
      case round =>
        clear HWr HOr
        obtain ⟨k, hk, rfl, rfl, W, O⟩ := hrel
        have hlk := metR_len x B k
        by_cases hlt2 : k < B.length
        · have hltz2 : (k : Int) < (B.length : Int) := by omega
          obtain ⟨y, hy⟩ : ∃ y, B[k]? = some y := ⟨_, List.getElem?_eq_getElem hlt2⟩
          obtain ⟨gb, ob, rfl, hgb, hpb⟩ := HB.out (ne_nil_of hy)
          have hys := HSB.out y (List.mem_of_getElem? hy)
          obtain ⟨t, HTT⟩ : ∃ t, Hid (txt y = t) := ⟨_, rfl⟩
          have cx := on_some W HCX.out
          have cy := on_some W (hpb k y hy)
          rw [HTT.out] at cy
          have HM := Lib.hid (metR_take (x := x) hy)
          have hag := met_eq x y hxs hys
          clear hy hpb
          cases hm : x.met y with
          | false =>
            have HN : Hid (metR x (B.take (k + 1)) = metR x (B.take k)) := by show _ = _; rw [HM.out, hm]; simp
            rw [hm] at hag
            have HAG := Lib.hid hag.symm
            clear hag
            go_wp2_with fail
            go_region_held3 (fun w' => Below wr.heap.size wr w' ∧ w'.cell? ⟨ga, i, none⟩ = some (.string s) ∧ w'.cell? ⟨gb, ob + k, none⟩ = some (.string t))
              (first
                | exact hold2 (by assumption) (by assumption)
                | exact ⟨(Below.refl _ _).drew, cx, cy⟩)
              (first
                | (go_at_call 38; (with_reducible refine (rmeet_f s t x y _ hxs hys HS.out HTT.out HAG.out).mono ?_); rintro e w' ⟨rfl, hb⟩))
            rename_i hS
            have W2 := W.trans (hS.1.mono W.size)
            have O2 := own_on O hS.1
            clear hS hb W O cx cy HM
            go_wp2
            go_roundg (B.length - (k + 1))
            case measure => omega
            case rel => exact ⟨k + 1, by omega, rfl, by go_num, W2, by rw [HN.out]; exact O2⟩
          | true =>
            have HN : Hid (metR x (B.take (k + 1)) = metR x (B.take k) ++ [x.join y]) := by show _ = _; rw [HM.out, hm]; simp
            obtain ⟨r, HR⟩ : ∃ r, Hid (txt (x.join y) = r) := ⟨_, rfl⟩
            rw [hm] at hag
            have HAG := Lib.hid hag.symm
            clear hag
            go_wp2_with fail
            go_region_held3 (fun w' => Below wr.heap.size wr w' ∧ w'.cell? ⟨ga, i, none⟩ = some (.string s) ∧ w'.cell? ⟨gb, ob + k, none⟩ = some (.string t))
              (first
                | exact hold2 (by assumption) (by assumption)
                | exact ⟨(Below.refl _ _).drew, cx, cy⟩)
              (first
                | (go_at_call 38; (with_reducible refine (rmeet_t s t r x y _ hxs hys HS.out HTT.out HAG.out HR.out).mono ?_); rintro e w2 ⟨rfl, hb⟩))
            rename_i hS
            have W2 := W.trans (hS.1.mono W.size)
            have O2 := own_on O hS.1
            clear hS hb W O cx cy HM
            go_upto_region 10 with (fail)
            have hb3 := below1 w2 (.cells #[.string r] 9)
            have N3 : Blk (w2.alloc (.cells #[.string r] 9)) w2.heap.size 9 #[.string r] := Blk.new w2 _ _
            have W3 := W2.trans (hb3.mono W2.size)
            have O3 := own_on O2 hb3
            have hz3 := W3.size
            clear W2 O2 hb3
            go_wp2_with (at_builtin; refine wpList_append_lies _ rfl (.tmp 36) (.tmp 38) 27 rfl w.heap.size 9 is _ 1 16 Tryz.underlying27 his hs0 hs1 hs2 rfl (by decide) _ _ _ rfl O3 ⟨w2.heap.size, 0, none⟩ 1 1 [.string r] rfl rfl (World.news_of_block N3) (by intro u hu; simp only [List.mem_singleton] at hu; subst hu; rfl) (by omega) (by rw [List.length_append]; unfold maxLen; omega) (by rw [List.length_append]; omega) hz3 _ rfl ?_)
            intro g4 cap4 w4 O4 hg4 hat hgl
            have W4 := W3.grown hg4 hz3 (fun j hj => (O3.lt j hj).1)
            clear W3 O3 N3 hg4 hat hgl
            go_wp2
            go_roundg (B.length - (k + 1))
            case measure => omega
            case rel => exact ⟨k + 1, by omega, rfl, by go_num, W4, by rw [HN.out, ← List.append_assoc, strs_snoc, HR.out, List.length_append, List.length_append]; exact O4⟩
        · have hltz2 : ¬ (k : Int) < (B.length : Int) := by omega
          obtain rfl : k = B.length := by omega
          have HN : Hid (metL (A.take (i + 1)) B = metL (A.take i) B ++ metR x (B.take B.length)) := by show _ = _; rw [HT.out, List.take_length]
          go_wp2
          go_roundg (A.length - (i + 1))
          case measure => omega
          case rel => exact ⟨i + 1, by omega, rfl, by go_num, W, by rw [HN.out]; exact O⟩
    · have hltz : ¬ (i : Int) < (A.length : Int) := by omega
      obtain rfl : i = A.length := by omega
      rw [List.take_length] at O
      go_wp2
      go_ret
      exact ⟨_, rfl, O, W⟩
set_option maxHeartbeats 4000000 in
set_option maxRecDepth 100000 in
theorem rless3o_c (v u : Value) (A B : List Cb) (w : World) (hA : A.length ≤ 200) (hB : B.length ≤ 1000) (sA : ∀ c ∈ A, c.snd = true) (sB : ∀ c ∈ B, c.snd = true) (hv : PlT w v A) (hu : PlO w u B) (hBn : 0 < B.length) : Calls Tryz.prog 21 #[v, u] w (OptSo w (lessL A B)) := by
  obtain ⟨is, his, hs0, hs1, hs2⟩ := info_parts infoStr
  obtain ⟨A1, c1, rfl, hF⟩ := hv.form
  obtain ⟨A2, c2, rfl, hG⟩ := hu.form
  have hBz : (B.length : Int) ≤ 1000 := by omega
  have HB := Lib.hid hG
  have HSA := Lib.hid sA
  have HSB := Lib.hid sB
  have HV := Lib.hid hv
  clear hv hu hF hG sA sB
  go_enter Tryz.func21, Tryz.ntmps21
  go_wp2
  go_loopg [0, 6] B.length (fun gk s0 s6 wr => ∃ i : Nat, i ≤ B.length ∧ gk = B.length - i ∧ s6 = .int .i64 i ∧ ∃ cur, Hid (LeftIs A B i cur) ∧ Below w.heap.size w wr ∧ ∃ D cd, s0 = .slice D cur.length cd ∧ Hid (PlT wr (.slice D cur.length cd) cur) ∧ Hid (i = 0 ∨ TBs wr (.slice D cur.length cd)))
  case atStart => exact ⟨0, Nat.zero_le _, rfl, rfl, A, ⟨hA, HSA.out, rfl⟩, Below.refl _ _, A1, c1, rfl, HV.out, .inl rfl⟩
  case round =>
    clear HV
    obtain ⟨i, hi, rfl, rfl, cur, HL, W, D, cd, rfl, HD, HTB⟩ := hrel
    have hcl := HL.out.1
    have hclz : (cur.length : Int) ≤ 200 := by omega
    by_cases hlt : i < B.length
    · have hltz : (i : Int) < (B.length : Int) := by omega
      obtain ⟨y, hy⟩ : ∃ y, B[i]? = some y := ⟨_, List.getElem?_eq_getElem hlt⟩
      obtain ⟨gb, ob, rfl, hgb, hpb⟩ := HB.out (ne_nil_of hy)
      have hys := HSB.out y (List.mem_of_getElem? hy)
      obtain ⟨t, HTT⟩ : ∃ t, Hid (txt y = t) := ⟨_, rfl⟩
      have cy0 := on_some W (hpb i y hy)
      rw [HTT.out] at cy0
      have HCY := Lib.hid cy0
      have HT := Lib.hid (lessL_drop (A := cur) hy)
      have hTot := offL_len cur y
      have HW := Lib.hid W
      have hgi : gb < wr.heap.size := Nat.lt_of_lt_of_le hgb W.size
      have HBx := Lib.hid (below1 wr (.cells #[] 9))
      have HO := Lib.hid (World.ownsRow_made (base := wr.heap.size) (e := 9) (size := 1) wr #[] 0 (Nat.le_refl _) (Nat.zero_le _) rfl)
      clear hy hpb W cy0
      go_wp2
      have HSZ : ∃ wi : World, wi = wr := ⟨_, rfl⟩
      obtain ⟨wi, hwi⟩ := HSZ
      go_loopg [7, 8] cur.length (fun gk s7 s8 wz => ∃ k : Nat, k ≤ cur.length ∧ gk = cur.length - k ∧ s8 = .int .i64 k ∧ Below wi.heap.size wi wz ∧ wz.ownsRow wi.heap.size 9 1 s7 (offL (cur.take k) y).length (strs (offL (cur.take k) y)))
      case atStart => subst hwi; exact ⟨0, Nat.zero_le _, rfl, rfl, HBx.out, HO.out⟩
      case round =>
        subst hwi
        clear HBx HO
        obtain ⟨k, hk, rfl, rfl, Z, O⟩ := hrel
        by_cases hlt2 : k < cur.length
        · have hltz2 : (k : Int) < (cur.length : Int) := by omega
          obtain ⟨x, hx⟩ : ∃ x, cur[k]? = some x := ⟨_, List.getElem?_eq_getElem hlt2⟩
          obtain ⟨ga, rfl, hga, hpa⟩ : ∃ g, D = some ⟨g, 0, none⟩ ∧ g < wi.heap.size ∧ ∀ (k : Nat) (c : Cb), cur[k]? = some c → wi.cell? ⟨g, k, none⟩ = some (.string (txt c)) := by
            obtain ⟨D', cd', e, hD⟩ := HD.out.form
            injection e with e1 _ _
            subst e1
            exact hD (ne_nil_of hx)
          have hxs := HL.out.2.1 x (List.mem_of_getElem? hx)
          obtain ⟨s, HS⟩ : ∃ s, Hid (txt x = s) := ⟨_, rfl⟩
          have cx := hpa k x hx
          rw [HS.out] at cx
          have HM := Lib.hid (offL_take (g := y) hx)
          have hle1 := offL_le cur y k
          have hle2 := offL_le cur y (k + 1)
          have hle3 : (offL (cur.take k) y).length + (lessC x y).length ≤ (offL cur y).length := by rw [HM.out, List.length_append] at hle2; exact hle2
          have Z0 : Below wi.heap.size wi wr.drew := Z.drew
          have OR0 : wr.drew.ownsRow wi.heap.size 9 1 u7 (offL (cur.take k) y).length (strs (offL (cur.take k) y)) := O
          have czx := on_some Z cx
          have czy := on_some Z HCY.out
          clear hx hpa hle1 hle2 Z O
          go_wp2_with fail
          refine wp_region_held_drew (S := fun w' => Below wi.heap.size wi w' ∧ w'.cell? ⟨ga, k, none⟩ = some (.string s) ∧ w'.cell? ⟨gb, ob + i, none⟩ = some (.string t)) (by kernel_rfl) ⟨Z0, on_some Z0 cx, on_some Z0 HCY.out⟩ (fun hHeld => ?_)
          refine wpAnyH_take (i := 0) (oi := ⟨some 22, _, _, _, _, _⟩) (v := ?vz0) rfl (by kernel_rfl) (by kernel_rfl) (by kernel_rfl) (fun _ _ _ h => h) (Or.inl ⟨by rfl, ?yz0⟩) hHeld ?rz0
          case yz0 => (intro w' hSw; (try dsimp only at hSw); go_simp; try (with_reducible rfl))
          simp only [Act.put, List.setIfInBounds_toArray, List.set_cons_zero, List.set_cons_succ]
          refine wpAnyH_take (i := 1) (oi := ⟨some 23, _, _, _, _, _⟩) (v := ?vz1) rfl (by kernel_rfl) (by kernel_rfl) (by kernel_rfl) (fun _ _ _ h => h) (Or.inl ⟨by rfl, ?yz1⟩) hHeld ?rz1
          case yz1 => (intro w' hSw; (try dsimp only at hSw); go_simp; try (with_reducible rfl))
          simp only [Act.put, List.setIfInBounds_toArray, List.set_cons_zero, List.set_cons_succ]
          refine wpAnyH_take (i := 2) (oi := ⟨some 24, _, _, _, _, _⟩) (v := ?vz2) rfl (by kernel_rfl) (by kernel_rfl) (by kernel_rfl) (fun _ _ _ h => h) (Or.inl ⟨by rfl, ?yz2⟩) hHeld ?rz2
          case yz2 => (intro w' hSw; (try dsimp only at hSw); go_simp; try (with_reducible rfl))
          simp only [Act.put, List.setIfInBounds_toArray, List.set_cons_zero, List.set_cons_succ]
          refine wpAnyH_take (i := 3) (oi := ⟨some 25, _, _, _, _, _⟩) (v := ?vz3) rfl (by kernel_rfl) (by kernel_rfl) (by kernel_rfl) (fun _ _ _ h => h) (Or.inl ⟨by rfl, ?yz3⟩) hHeld ?rz3
          case yz3 => (intro w' hSw; (try dsimp only at hSw); go_simp; try (with_reducible rfl))
          simp only [Act.put, List.setIfInBounds_toArray, List.set_cons_zero, List.set_cons_succ]
          refine wpAnyH_take (i := 4) (oi := ⟨some 26, _, _, _, _, _⟩) (v := ?vz4) rfl (by kernel_rfl) (by kernel_rfl) (by kernel_rfl) (fun _ _ _ h => h) (Or.inl ⟨by rfl, ?yz4⟩) hHeld ?rz4
          case yz4 => (intro w' hSw; (try dsimp only at hSw); go_simp; try (with_reducible rfl))
          simp only [Act.put, List.setIfInBounds_toArray, List.set_cons_zero, List.set_cons_succ]
          refine wpAnyH_take (i := 5) (oi := ⟨some 27, _, _, _, _, _⟩) (v := ?vz5) rfl (by kernel_rfl) (by kernel_rfl) (by kernel_rfl) (fun _ _ _ h => h) (Or.inl ⟨by rfl, ?yz5⟩) hHeld ?rz5
          case yz5 => (intro w' hSw; (try dsimp only at hSw); go_simp; try (with_reducible rfl))
          simp only [Act.put, List.setIfInBounds_toArray, List.set_cons_zero, List.set_cons_succ]
          refine wpAnyH_take (i := 6) (oi := ⟨some 28, _, _, _, _, _⟩) (v := ?vz6) rfl (by kernel_rfl) (by kernel_rfl) (by kernel_rfl) (fun _ _ _ h => h) (Or.inl ⟨by rfl, ?yz6⟩) hHeld ?rz6
          case yz6 => (intro w' hSw; (try dsimp only at hSw); go_simp; try (with_reducible rfl))
          simp only [Act.put, List.setIfInBounds_toArray, List.set_cons_zero, List.set_cons_succ]
          refine wpAnyH_take (i := 7) (oi := ⟨some 29, _, _, _, _, _⟩) (v := ?vz7) rfl (by kernel_rfl) (by kernel_rfl) (by kernel_rfl) (fun _ _ _ h => h) (Or.inl ⟨by rfl, ?yz7⟩) hHeld ?rz7
          case yz7 => (intro w' hSw; (try dsimp only at hSw); go_simp; try (with_reducible rfl))
          simp only [Act.put, List.setIfInBounds_toArray, List.set_cons_zero, List.set_cons_succ]
          refine wpAnyH_take (i := 8) (oi := ⟨some 30, _, _, _, _, _⟩) (v := ?vz8) rfl (by kernel_rfl) (by kernel_rfl) (by kernel_rfl) (fun _ _ _ h => h) (Or.inl ⟨by rfl, ?yz8⟩) hHeld ?rz8
          case yz8 => (intro w' hSw; (try dsimp only at hSw); go_simp; try (with_reducible rfl))
          simp only [Act.put, List.setIfInBounds_toArray, List.set_cons_zero, List.set_cons_succ]
          refine wpAnyH_ready (rs := [9]) (by kernel_rfl) (by simp) ?_
          refine AllReadyH.cons (o := ⟨some 31, _, _, _, _, _⟩) rfl (fun K hK => ?_) AllReadyH.nil
          go_simp
          (with_reducible refine (rless_s s t x y _ hxs hys HS.out HTT.out _ rfl).mono ?_)
          rintro e wq ⟨vq, rfl, OQ, hbq⟩
          (try dsimp only)
          have OR := own_on OR0 hbq
          have SQ := (own_PlT OQ).src
          have BQ : Below wi.heap.size wi wq := Z0.trans (hbq.mono Z0.size)
          have hzq := BQ.size
          refine hK.out _ _ ⟨BQ, on_some BQ cx, on_some BQ HCY.out⟩ (fun hNext => ?_)
          clear hK K hHeld
          have hHeld := hNext
          clear hNext
          try simp only [Act.put, List.setIfInBounds_toArray, List.set_cons_zero, List.set_cons_succ]
          refine wpAnyH_ready (rs := [10]) (by kernel_rfl) (by simp) ?_
          refine AllReadyH.cons (o := ⟨some 32, _, _, _, _, _⟩) rfl (fun K hK => ?_) AllReadyH.nil
          refine step_app _ rfl (.tmp 22) (.tmp 31) 27 rfl wi.heap.size 9 is _ 1 16 Tryz.underlying27 his hs0 hs1 hs2 rfl (by decide) _ _ _ rfl OR _ (lessC x y).length (strs (lessC x y)) rfl SQ (by unfold maxLen; omega) (by omega) hzq ?_
          intro v4 w4 O4 hg4
          have B4 := BQ.grown hg4 hzq (fun j hj => (OR.lt j hj).1)
          refine hK.out _ _ ⟨B4, on_some B4 cx, on_some B4 HCY.out⟩ (fun hNext => ?_)
          clear hK K hHeld
          have hHeld := hNext
          clear hNext
          try simp only [Act.put, List.setIfInBounds_toArray, List.set_cons_zero, List.set_cons_succ]
          refine wpAnyH_take (i := 11) (oi := ⟨some 7, _, _, _, _, _⟩) (v := ?vz11) rfl (by kernel_rfl) (by kernel_rfl) (by kernel_rfl) (fun _ _ _ h => h) (Or.inl ⟨by rfl, ?yz11⟩) hHeld ?rz11
          case yz11 => (intro w' hSw; (try dsimp only at hSw); go_simp; try (with_reducible rfl))
          simp only [Act.put, List.setIfInBounds_toArray, List.set_cons_zero, List.set_cons_succ]
          refine wpAnyH_done (by kernel_rfl) ?_ _
          have B5 := hHeld.1
          clear hHeld OQ OR OR0 SQ BQ hzq hbq Z0 hg4 czx czy
          go_wp2
          go_roundg (cur.length - (k + 1))
          case measure => omega
          case rel => exact ⟨k + 1, by omega, rfl, by go_num, B5, by rw [HM.out, strs_append, List.length_append]; exact O4⟩
        · have hltz2 : ¬ (k : Int) < (cur.length : Int) := by omega
          obtain rfl : k = cur.length := by omega
          rw [List.take_length] at O
          have W1 := HW.out.trans (Z.mono HW.out.size)
          have hcon := rlean_c _ (offL cur y) wr (by omega) (offL_snd HL.out.2.1) (own_PlT O)
          clear O Z
          go_wp2_with fail
          refine hcon.mono ?_
          rintro e w2 ⟨v2, rfl, O2, hb2⟩
          have W2 := W1.trans (hb2.mono W1.size)
          have PT := own_PlT O2
          obtain ⟨E, cE, rfl, _⟩ := own_form O2
          have HTB2 : Hid (i + 1 = 0 ∨ TBs w2 (.slice E (leanS (offL cur y)).length cE)) := .inr (own_tbs O2)
          clear hcon W1 hb2 O2
          by_cases h200 : (leanS (offL cur y)).length ≤ 200
          · have h200z : ¬ (200 : Int) < ((leanS (offL cur y)).length : Int) := by omega
            have HN : Hid (LeftIs A B (i + 1) (leanS (offL cur y))) := ⟨h200, leanS_snd _, by rw [HL.out.2.2, HT.out, if_pos h200]⟩
            have HP := Lib.hid PT
            clear PT HT HL
            go_wp2
            go_roundg (B.length - (i + 1))
            case measure => omega
            case rel => exact ⟨i + 1, by omega, rfl, by go_num, _, HN, W2, _, _, rfl, HP, HTB2⟩
          · have h200z : (200 : Int) < ((leanS (offL cur y)).length : Int) := by omega
            have HN : Hid (lessL A B = none) := by show _ = _; rw [HL.out.2.2, HT.out, if_neg h200]
            clear PT HT HL
            go_wp2
            go_ret2
            exact ⟨(fun R hR => by rw [HN.out] at hR; cases hR), fun _ => ⟨rfl, W2⟩⟩
    · have hltz : ¬ (i : Int) < (B.length : Int) := by omega
      obtain rfl : i = B.length := by omega
      have HN : Hid (lessL A B = some cur) := by show _ = _; rw [HL.out.2.2, List.drop_length, lessL]
      clear HL
      go_wp2
      go_ret2
      exact ⟨fun R hR => by rw [HN.out] at hR; injection hR with hR; subst hR; exact ⟨_, rfl, HD.out, HTB.out.resolve_left (by omega), W⟩, fun hn => by rw [HN.out] at hn; cases hn⟩
end Go.Proofs

namespace Go.Proofs.Hd
open Go.RowKit
/-- Texts, in a row of texts. -/
def StB (w : World) (s : Value) (p : List Cb) : Prop := PlT w s p ∧ TBs w s
theorem TBs.on {w w' : World} {v : Value} (h : TBs w v) (hb : Below w.heap.size w w') : TBs w' v := fun g o n c e => by
  obtain ⟨cs, fr, hh⟩ := h g o n c e
  exact ⟨cs, fr, (hb.block g (Array.getElem?_eq_some_iff.1 hh).1).trans hh⟩
theorem StB.on {w w' : World} {s : Value} {p : List Cb} (h : StB w s p) (hb : Below w.heap.size w w') : StB w' s p := ⟨h.1.on hb, h.2.on hb⟩
theorem StB.pl {w : World} {s : Value} {p : List Cb} (h : StB w s p) : PlT w s p := h.1
theorem StB.one {w : World} {s : Value} {p : List Cb} (h : StB w s p) : s.oneCell' = true := by obtain ⟨A, c, rfl, _⟩ := h.1.form; rfl
theorem StB.kept {w w' : World} {s v : Value} {p : List Cb} {B n : Nat} {xs : List Value} (h : StB w s p) (ho : w.ownsRow B 27 1 v n xs) (hg : w.grownBy w' v.ownBlock) : StB w' s p := by
  have hne : ∀ g, TB w g 9 → some g ≠ v.ownBlock := fun g ht e => by
    rcases ho.2 with ⟨rfl, _⟩ | ⟨g', cap, cur, rfl, _, hheap, _⟩
    · cases e
    · have e2 : g = g' := by injection e
      subst e2
      exact absurd (tb_ne ht ⟨cur, (0, 0), hheap⟩) (by decide)
  obtain ⟨h1, h2⟩ := h
  refine ⟨?_, fun g o n c e => ?_⟩
  · rcases h1 with h1 | ⟨g, cap, rfl, hlt, hc⟩
    · exact .inl h1
    · refine .inr ⟨g, cap, rfl, Nat.lt_of_lt_of_le hlt hg.size, fun k c hk => ?_⟩
      exact (World.cell?_of_block (a := ⟨g, k, none⟩) (hg.block g hlt (hne g (h2 g 0 _ _ rfl)))).trans (hc k c hk)
  · obtain ⟨cs, fr, hh⟩ := h2 g o n c e
    exact ⟨cs, fr, (hg.block g (Array.getElem?_eq_some_iff.1 hh).1 (hne g ⟨cs, fr, hh⟩)).trans hh⟩
/-- v reads as lists of texts. -/
def RdT (w : World) (v : Value) (T : List (List Cb)) : Prop := ∃ A cap, v = .slice A T.length cap ∧ (T ≠ [] → ∃ b, A = some ⟨b, 0, none⟩ ∧ ∀ (k : Nat) (p : List Cb), T[k]? = some p → ∃ s, w.cell? ⟨b, k, none⟩ = some s ∧ StB w s p)
theorem RdT.on {w w' : World} {v : Value} {T : List (List Cb)} (h : RdT w v T) (hb : Below w.heap.size w w') : RdT w' v T := by
  obtain ⟨A, cap, e, h2⟩ := h
  refine ⟨A, cap, e, fun hne => ?_⟩
  obtain ⟨b, e2, hk⟩ := h2 hne
  refine ⟨b, e2, fun k p hp => ?_⟩
  obtain ⟨s, h3, h4⟩ := hk k p hp
  exact ⟨s, on_some hb h3, h4.on hb⟩
/-- Lists of texts in a row of the call's own. -/
def OwT (B : Nat) (w : World) (v : Value) (T : List (List Cb)) : Prop := ∃ hs, w.ownsRow B 27 1 v T.length hs ∧ ∀ (k : Nat) (p : List Cb), T[k]? = some p → ∃ s, hs[k]? = some s ∧ StB w s p
theorem OwT.on {B : Nat} {w w' : World} {v : Value} {T : List (List Cb)} (h : OwT B w v T) (hb : Below w.heap.size w w') : OwT B w' v T := by
  obtain ⟨hs, h1, h2⟩ := h
  refine ⟨hs, own_on h1 hb, fun k p hp => ?_⟩
  obtain ⟨s, h3, h4⟩ := h2 k p hp
  exact ⟨s, h3, h4.on hb⟩
theorem OwT.rd {B : Nat} {w : World} {v : Value} {T : List (List Cb)} (h : OwT B w v T) : RdT w v T := by
  obtain ⟨hs, h1, h2⟩ := h
  rcases h1.2 with ⟨rfl, h0⟩ | ⟨g, cap, cur, rfl, _, hheap, _⟩
  · obtain rfl : T = [] := List.eq_nil_of_length_eq_zero h0
    exact ⟨none, 0, rfl, fun h => absurd rfl h⟩
  · refine ⟨_, cap, rfl, fun _ => ⟨g, rfl, fun k p hp => ?_⟩⟩
    obtain ⟨s, h3, h4⟩ := h2 k p hp
    have hk := (List.getElem?_eq_some_iff.1 hp).1
    exact ⟨s, by rw [h1.cellAt k (by omega)]; exact h3, h4⟩
theorem OwT.snoc {B : Nat} {w w' : World} {v v' s : Value} {T : List (List Cb)} {p : List Cb} {hs : List Value} (h1 : w.ownsRow B 27 1 v T.length hs) (h2 : ∀ (k : Nat) (p : List Cb), T[k]? = some p → ∃ s, hs[k]? = some s ∧ StB w s p) (hp : StB w s p)
    (ho : w'.ownsRow B 27 1 v' (T.length + 1) (hs ++ [s])) (hg : w.grownBy w' v.ownBlock) : OwT B w' v' (T ++ [p]) := by
  have hl : hs.length = T.length := by rw [h1.1, Nat.mul_one]
  refine ⟨hs ++ [s], by rw [List.length_append]; exact ho, fun k q hq => ?_⟩
  by_cases hk : k < T.length
  · rw [List.getElem?_append_left hk] at hq
    obtain ⟨s', h3, h4⟩ := h2 k q hq
    exact ⟨s', by rw [List.getElem?_append_left (by omega)]; exact h3, h4.kept h1 hg⟩
  · rw [List.getElem?_append_right (by omega)] at hq
    obtain ⟨e, e2⟩ := List.getElem?_eq_some_iff.1 hq
    simp at e
    have e3 : k - T.length = 0 := by omega
    subst e2
    refine ⟨s, by rw [List.getElem?_append_right (by omega), hl, e3]; rfl, ?_⟩
    have e4 : [p][k - T.length] = p := by simp [e3]
    rw [e4]
    exact hp.kept h1 hg
theorem src_hd {w : World} {g : Nat} {t : TypeId} {s : Value} (h : Blk w g t #[s]) (h1 : s.oneCell' = true) : Src w 1 (.slice (some ⟨g, 0, none⟩) 1 1) 1 [s] := by
  refine ⟨rfl, by intro u hu; simp at hu; rw [hu]; exact h1, .inr ⟨_, 1, rfl, fun j u hu => ?_⟩⟩
  have e : (⟨g, 0, none⟩ : Addr).add j = ⟨g, j, none⟩ := by unfold Addr.add; by_cases h0 : j = 0 <;> simp [h0]
  rw [e, h.cell]
  simpa using hu
/-- The text of all headers, as it is written. -/
def xUp (k : Nat) : Nat → UInt8 := fun i => if i < k then 120 else 0
theorem xUp_zero : by8 (xUp 0) = by8 (fun _ => 0) := by8_congr fun j _ => by simp [xUp]
theorem xUp_set (k : Nat) : (by8 (xUp k)).set k (.int .u8 120) = by8 (xUp (k + 1)) := by
  have h := by8_set (xUp k) k 120
  rw [show ((120 : UInt8).toNat : Int) = 120 from rfl] at h
  rw [h]
  apply by8_congr
  intro j _
  unfold xUp
  by_cases e : j = k
  · rw [if_pos e, if_pos (by omega)]
  · rw [if_neg e]
    by_cases e2 : j < k
    · rw [if_pos e2, if_pos (by omega)]
    · rw [if_neg e2, if_neg (by omega)]
theorem xUp_all : by8 (xUp 128) = by8 (upTxt cAll 128) := by8_congr fun j hj => by
  unfold xUp upTxt sgn
  rw [if_pos hj, if_pos (by omega)]
  have h : cAll.K (127 - j) = false := by
    show hbit 0 0 (127 - j) = false
    simp [hbit]
  rw [h]
  rfl
theorem sps_some_take {cs : List Cb} {bs : List AtC} {k : Nat} (h : spsC 0 cs atm0 = some bs) (hk : k ≤ cs.length) : ∃ al, spsC 0 (cs.take k) atm0 = some al := by
  cases hq : spsC 0 (cs.take k) atm0 with
  | some al => exact ⟨al, rfl⟩
  | none => rw [sps_none hk hq] at h; cases h
theorem pprt_take {T : List (List Cb)} {c : Cb} {k : Nat} {p : List Cb} (h : T[k]? = some p) : (T.take (k + 1)).flatMap (pprt c) = (T.take k).flatMap (pprt c) ++ pprt c p := by
  rw [List.take_add_one, h, List.flatMap_append]
  simp
theorem pprt_len (c : Cb) (T : List (List Cb)) : (T.flatMap (pprt c)).length ≤ 2 * T.length := by
  induction T with
  | nil => simp
  | cons p T ih =>
    rw [List.flatMap_cons, List.length_append, List.length_cons]
    have h2 : (pprt c p).length ≤ 2 := by
      unfold pprt
      split <;> split <;> simp
    omega
theorem all_all {cs : List Cb} {k : Nat} (h : cs.all Cb.snd = true) : (cs.take k).all Cb.snd = true := by
  rw [List.all_eq_true] at *
  exact fun c hc => h c (List.mem_of_mem_take hc)
end Go.Proofs.Hd
namespace Go.Proofs
open Go.RowKit Go.Proofs.Hd Go.Lib Go.Shelf
attribute [local go_sem] uv_nonneg
theorem infoStrs : (Tryz.prog.info? 27).map (fun i => (i.zero, i.size, i.bytes)) = some (some (.slice none 0 0), 1, 24) := by kernel_rfl
set_option maxHeartbeats 16000000 in
set_option maxRecDepth 100000 in
theorem aexact_c (A : Option Addr) (cap : Nat) (cs0 : List Cb) (w : World) (hc : cs0.length ≤ cap) (hm : cap ≤ maxLen) (hv : Pl w (.slice A cs0.length cap) cs0) :
    Calls Tryz.prog 4 #[.slice A cs0.length cap] w fun e w' => e = .returned (.bool true) ∧ Below w.heap.size w w' := by
  obtain ⟨ic, hic, hcz0, hcz1, hcz2⟩ := info_parts infoStrs
  go_enter Tryz.func4, Tryz.ntmps4
  have hf := few_c A cap cs0 w hc hm
  have PV := Pl.take hv 7
  have hlen : (cs0.take 7).length ≤ 7 := by rw [List.length_take]; omega
  generalize cs0.take 7 = cs at hf PV hlen
  clear hv hc hm
  go_wp2_with fail
  (with_reducible refine hf.mono ?_)
  rintro e w2 ⟨rfl, rfl⟩
  have B0 := Lib.hid (Below.refl w.heap.size w)
  have HLN := Lib.hid hlen
  have PV_0 := Lib.hid PV
  have hd200 : decide (cs.length ≤ 200) = true := decide_eq_true (by omega)
  clear hf hlen PV
  cases hs : cs.all Cb.snd with
  | false =>
    have hcall := texts_c _ cs w (by have := HLN.out; omega) PV_0.out
    go_wp2_with fail
    (with_reducible refine hcall.mono ?_)
    rintro e w1 ht
    obtain ⟨rfl, hb⟩ := ht.2 hs
    have B1 := Lib.hid (B0.out.trans (hb.mono B0.out.size))
    have PV_1 := Lib.hid (PV_0.out.on hb)
    clear hb hcall ht B0 PV_0
    have hcall := asplit_r _ cs w1 (by have := HLN.out; omega) PV_1.out
    go_wp2_with fail
    (with_reducible refine hcall.mono ?_)
    rintro e w2 hr2
    clear hcall
    have hcall := trivial
    cases hr2 with
    | form hs2 hb =>
      have B2 := Lib.hid (B1.out.trans (hb.mono B1.out.size))
      have PV_2 := Lib.hid (PV_1.out.on hb)
      clear hb hcall hs2 hs B1 PV_1
      have hcall := awake11_c w2
      go_wp2_with fail
      (with_reducible refine hcall.mono ?_)
      rintro e w3 ⟨rfl, hb⟩
      have B3 := Lib.hid (B2.out.trans (hb.mono B2.out.size))
      have PV_3 := Lib.hid (PV_2.out.on hb)
      clear hb hcall  B2 PV_2
      go_wp2
      go_ret
      exact ⟨rfl, B3.out⟩
    | many hs2 hb =>
      rw [hs] at hs2
      cases hs2
    | some v3 bs hs2 hq hA hb =>
      rw [hs] at hs2
      cases hs2
  | true =>
    have hcall := texts_c _ cs w (by have := HLN.out; omega) PV_0.out
    go_wp2_with fail
    (with_reducible refine hcall.mono ?_)
    rintro e w4 ht
    obtain ⟨vt, rfl, hOT, hb⟩ := ht.1 hs
    rw [hd200]
    have VT := Lib.hid (own_PlT hOT)
    have VT2 := VT.out
    obtain ⟨At, ct, rfl, -⟩ := VT2.form
    have hct : Hid (cs.length ≤ ct) := by
      rcases hOT.2 with ⟨e, h0⟩ | ⟨g, cap2, cur, e, _, _, h1, _⟩
      · show _ ≤ _; omega
      · have e3 : ct = cap2 := by
          simp only [Value.slice.injEq] at e
          first | exact e.2.2 | exact e.2
        rw [e3]; exact h1
    have B4 := Lib.hid (B0.out.trans (hb.mono B0.out.size))
    have PV_4 := Lib.hid (PV_0.out.on hb)
    clear hb hcall ht hOT B0 PV_0
    have VT_4 := VT
    clear VT
    have hcall := asplit_r _ cs w4 (by have := HLN.out; omega) PV_4.out
    go_wp2_with fail
    (with_reducible refine hcall.mono ?_)
    rintro e w5 hr2
    clear hcall
    have hcall := trivial
    cases hr2 with
    | form hs2 hb =>
      rw [hs] at hs2
      cases hs2
    | many hs2 hb =>
      have B5 := Lib.hid (B4.out.trans (hb.mono B4.out.size))
      have VT_5 := Lib.hid (VT_4.out.on hb)
      have PV_5 := Lib.hid (PV_4.out.on hb)
      clear hb hcall hs2 hs B4 VT_4 PV_4
      have hcall := awake11_c w5
      go_wp2_with fail
      (with_reducible refine hcall.mono ?_)
      rintro e w6 ⟨rfl, hb⟩
      have B6 := Lib.hid (B5.out.trans (hb.mono B5.out.size))
      have VT_6 := Lib.hid (VT_5.out.on hb)
      have PV_6 := Lib.hid (PV_5.out.on hb)
      clear hb hcall  B5 VT_5 PV_5
      go_wp2
      go_ret
      exact ⟨rfl, B6.out⟩
    | some v3 bs hs2 hq hA hb =>
      have HK := Lib.hid (SpK.of hs hq)
      have HSS := Lib.hid hs
      have HQ := Lib.hid hq
      have AL := Lib.hid hA
      obtain ⟨A3, c3, rfl, -, -⟩ := hA.form
      have B5 := Lib.hid (B4.out.trans (hb.mono B4.out.size))
      have VT_5 := Lib.hid (VT_4.out.on hb)
      have PV_5 := Lib.hid (PV_4.out.on hb)
      clear hb hcall hs hs2 hq hA B4 VT_4 PV_4
      have AL_5 := AL
      clear AL
      have hmk : ∀ u : World, (Instr.makeSlice 45 (.int .i64 128) (.int .i64 128)).run Tryz.prog u = .ok (.slice (some ⟨u.heap.size, 0, none⟩) 128 128) (u.alloc (.cells (by8 (fun _ => 0)).toArray 5)) := make128
      go_wp2_with fail
      go_loopg [8] 128 (fun gk s8 wr => ∃ k : Nat, k ≤ 128 ∧ gk = 128 - k ∧ s8 = .int .i64 k ∧ wr = w5.alloc (.cells (by8 (xUp k)).toArray 5))
      case atStart => exact ⟨0, by omega, rfl, rfl, by rw [xUp_zero]⟩
      case round =>
        obtain ⟨k, hk, rfl, rfl, rfl⟩ := hrel
        by_cases hlt : k < 128
        · have hlt' : (k : Int) < 128 := by omega
          have hg := by8_get (xUp k) k hlt
          go_wp2
          go_roundg (128 - (k + 1))
          case measure => omega
          case rel => exact ⟨k + 1, by omega, rfl, by go_num, by rw [xUp_set]⟩
        · obtain rfl : k = 128 := by omega
          rw [xUp_all]
          have hcv := back128 cAll w5
          have b1 := below1 w5 (.cells (by8 (upTxt cAll 128)).toArray 5)
          clear hmk hlt
          go_upto_region 11 with (fail)
          obtain ⟨tx, htx⟩ : ∃ tx, txt cAll = tx := ⟨_, rfl⟩
          rw [htx] at hcv
          have HTX := Lib.hid htx
          clear htx
          generalize hgen : (w5.alloc (.cells (by8 (upTxt cAll 128)).toArray 5)) = wd at hcv b1 ⊢
          have b2 := below1 wd (.cells #[.string tx] 9)
          have n2 : Blk (wd.alloc (.cells #[.string tx] 9)) wd.heap.size 9 #[.string tx] := Blk.new wd _ _
          have b3 := below1 (wd.alloc (.cells #[.string tx] 9)) (.cells #[.slice (some ⟨wd.heap.size, 0, none⟩) 1 1] 27)
          have n3 : Blk ((wd.alloc (.cells #[.string tx] 9)).alloc (.cells #[.slice (some ⟨wd.heap.size, 0, none⟩) 1 1] 27)) (wd.heap.size + 1) 27 #[.slice (some ⟨wd.heap.size, 0, none⟩) 1 1] := by have h := Blk.new (wd.alloc (.cells #[.string tx] 9)) 27 #[.slice (some ⟨wd.heap.size, 0, none⟩) 1 1]; rw [World.size_alloc] at h; exact h
          have n2 := n2.on b3
          have hB2 := b1.trans ((b2.trans (b3.mono b2.size)).mono b1.size)
          have RW0 : Hid (RdT ((wd.alloc (.cells #[.string tx] 9)).alloc (.cells #[.slice (some ⟨wd.heap.size, 0, none⟩) 1 1] 27)) (.slice (some ⟨wd.heap.size + 1, 0, none⟩) 1 1) (atm0.map Atm.pl)) := by
            refine ⟨_, 1, rfl, fun _ => ⟨wd.heap.size + 1, rfl, fun k p hp => ?_⟩⟩
            match k, hp with
            | 0, hp =>
              have hp2 : [cAll] = p := by simpa [atm0] using hp
              subst hp2
              refine ⟨.slice (some ⟨wd.heap.size, 0, none⟩) 1 1, n3.cell 0, .inr ⟨wd.heap.size, 1, rfl, n2.lt, fun j c hj => ?_⟩, fun g o n c e => ?_⟩
              · match j, hj with
                | 0, hj =>
                  simp only [List.getElem?_cons_zero, Option.some.injEq] at hj
                  subst hj
                  rw [HTX.out]
                  exact n2.cell 0
                | j + 1, hj => simp at hj
              · simp only [Value.slice.injEq, Option.some.injEq, Addr.mk.injEq, and_true] at e
                rw [← e.1.1]
                exact ⟨_, (0, 0), n2⟩
            | k + 1, hp => simp [atm0] at hp
          clear n2 n3 b2 b3 b1
          go_upto_region 12 with (fail)
          generalize hgen2 : ((wd.alloc (.cells #[.string tx] 9)).alloc (.cells #[.slice (some ⟨wd.heap.size, 0, none⟩) 1 1] 27)) = we at RW0 hB2 ⊢
          generalize hgn2 : wd.heap.size + 1 = ne at RW0 ⊢
          clear hcv hgen hgen2 hgn2
          have AL_e := Lib.hid (AL_5.out.on hB2)
          have VT_e := Lib.hid (VT_5.out.on hB2)
          have PV_e := Lib.hid (PV_5.out.on hB2)
          have Be := Lib.hid (B5.out.trans (hB2.mono B5.out.size))
          clear hB2 AL_5 VT_5 PV_5 B5
          have hcz : (cs.length : Int) ≤ 7 := by have := HLN.out; omega
          have Rs := Lib.hid (Below.refl we.heap.size we)
          go_wp2
          go_loopg [9, 10, 11, 12, 13, 14, 15] cs.length (fun gk s9 s10 _ _ _ _ _ wr => ∃ (i : Nat) (al : List AtC), i ≤ cs.length ∧ gk = cs.length - i ∧ s10 = .int .i64 i ∧ Hid (spsC 0 (cs.take i) atm0 = some al) ∧ Hid (RdT wr s9 (al.map Atm.pl)) ∧ Hid (Below we.heap.size we wr))
          case atStart => exact ⟨0, atm0, Nat.zero_le _, rfl, rfl, rfl, RW0, Rs⟩
          case round =>
            clear RW0 Rs
            obtain ⟨i, al, hi, rfl, rfl, HD, RW, R⟩ := hrel
            by_cases hil : i < cs.length
            · have hiz : (i : Int) < (cs.length : Int) := by omega
              obtain ⟨c, hc⟩ : ∃ c, cs[i]? = some c := ⟨_, List.getElem?_eq_getElem hil⟩
              obtain ⟨al2, hal2⟩ := sps_some_take (k := i + 1) HQ.out (by omega)
              have hsp : splC c (i : Int) al = some al2 := by rw [← sps_at hc HD.out]; exact hal2
              have KA := Lib.hid (SpK.of (all_all HSS.out) HD.out)
              obtain ⟨hpl1, hpl2⟩ := spl_piles hsp
              have HPL := Lib.hid hpl1
              have HLE := Lib.hid hpl2
              have HD2 := Lib.hid hal2
              have HCS := Lib.hid (all_of HSS.out c (List.mem_of_getElem? hc))
              have hall : al.length ≤ 128 := by have h1 := KA.out.le (by rw [List.length_take]; have := HLN.out; omega); exact h1
              obtain ⟨gt, hgt, hcut⟩ := VT_e.out.cut hc
              subst hgt
              have HCUT : Hid (∀ (W : World) (cap2 : Nat), Below we.heap.size we W → PlO W (.slice (some ⟨gt, i, none⟩) 1 cap2) [c]) := hcut
              clear hc hal2 hsp hpl1 hpl2 hcut
              have HPW : Hid (∀ p ∈ al.map Atm.pl, (∀ d ∈ p, d.snd = true) ∧ p.length ≤ 200 ∧ leP c p = some (leanS (offL p c))) := fun p hp => by
                obtain ⟨a, ha, rfl⟩ := List.mem_map.1 hp
                exact ⟨(KA.out.inv.good a ha).snd, (KA.out.inv.good a ha).len, (HLE.out a ha).2⟩
              have hWl : (al.map Atm.pl).length ≤ 128 := by rw [List.length_map]; exact hall
              generalize hWT : al.map Atm.pl = T at RW HPW HPL hWl
              clear hWT hall HLE
              have b1 := below1 wr (.cells #[] 27)
              have O1 := World.ownsRow_made (base := wr.heap.size) (e := 27) (size := 1) wr #[] 0 (Nat.le_refl _) (Nat.zero_le _) rfl
              obtain ⟨Aw, cw, hu9, hrw⟩ := RW.out
              subst hu9
              have HW : Hid (∀ W, Below wr.heap.size (wr.alloc (.cells #[] 27)) W → RdT W (.slice Aw T.length cw) T ∧ Below we.heap.size we W) := fun W hb => ⟨RW.out.on (b1.trans hb), R.out.trans ((b1.trans hb).mono R.out.size)⟩
              have hTz : (T.length : Int) ≤ 128 := by omega
              clear hrw RW R
              go_upto_region 16 with (fail)
              have OT0 : Hid (OwT wr.heap.size (wr.alloc (.cells #[] 27)) (.slice (some ⟨wr.heap.size, 0, none⟩) 0 0) ((T.take 0).flatMap (pprt c))) := ⟨[], O1, fun k p hp => by simp at hp⟩
              have BN := Lib.hid (Below.refl wr.heap.size (wr.alloc (.cells #[] 27)))
              have HNB : Hid (wr.heap.size ≤ (wr.alloc (.cells #[] 27)).heap.size) := b1.size
              clear b1 O1
              generalize (wr.alloc (.cells #[] 27)) = wa at HW OT0 BN HNB ⊢
              generalize wr.heap.size = nb at HW OT0 BN HNB ⊢
              go_wp2
              go_loopg [11, 12, 13, 14, 15] T.length (fun gj s11 s12 _ _ _ wz => ∃ k : Nat, k ≤ T.length ∧ gj = T.length - k ∧ s12 = .int .i64 k ∧ Hid (Below nb wa wz) ∧ Hid (OwT nb wz s11 ((T.take k).flatMap (pprt c))))
              case atStart => exact ⟨0, Nat.zero_le _, rfl, rfl, BN, OT0⟩
              case round =>
                clear BN OT0
                obtain ⟨k, hk, rfl, rfl, BZ, OT⟩ := hrel
                by_cases hkl : k < T.length
                · have hkz : (k : Int) < (T.length : Int) := by omega
                  obtain ⟨p, hp⟩ : ∃ p, T[k]? = some p := ⟨_, List.getElem?_eq_getElem hkl⟩
                  obtain ⟨hps, hpl, hle⟩ := HPW.out p (List.mem_of_getElem? hp)
                  obtain ⟨hRW, hBW⟩ := HW.out wr BZ.out
                  obtain ⟨A9, c9, e9, hrk⟩ := hRW
                  injection e9 with e9 _ e11
                  subst e11
                  obtain ⟨bw, e10, hcell⟩ := hrk (ne_nil_of hp)
                  rw [e10] at e9
                  subst e9
                  obtain ⟨s, hsc, hst⟩ := hcell k p hp
                  obtain ⟨Sa, Sc, rfl, -⟩ := hst.1.form
                  have HP := Lib.hid hp
                  have HPS := Lib.hid hps
                  have HPLn := Lib.hid hpl
                  have HLE := Lib.hid hle
                  have HSC := Lib.hid hsc
                  have HST := Lib.hid hst
                  have HBW := Lib.hid hBW
                  have hcc : (cs.length : Int) ≤ (ct : Int) := by have := hct.out; omega
                  have hi0 : (0 : Int) ≤ (i : Int) + 1 := by omega
                  have hi1 : (i : Int) + 1 ≤ (ct : Int) := by omega
                  have hi2 : ¬ ct = i := by omega
                  have hw1 : IntKind.i64.wrap ((i : Int) + 1) = (i : Int) + 1 := by rw [IntKind.wrap_i64]; omega
                  clear hp hps hpl hle hsc hst hBW hcell hrk e10
                  go_upto_region 19 with (fail)
                  have HKP : Hid (∀ W, Below wr.heap.size wr W → (W.cell? ⟨bw, k, none⟩ = some (.slice Sa p.length Sc))) := fun W hb => on_some hb HSC.out
                  refine wp_region_held_drew (S := fun w' => w'.cell? ⟨bw, k, none⟩ = some (.slice Sa p.length Sc)) (by kernel_rfl) (HKP.out _ (Below.refl _ wr).drew) (fun hHeld => ?_)
                  have hB := (Below.refl wr.heap.size wr).drew
                  generalize wr.drew = u0 at hHeld hB ⊢
                  refine wpAnyH_take (i := 0) (oi := ⟨some 65, _, _, _, _, _⟩) (v := ?vma0_1) rfl (by kernel_rfl) (by kernel_rfl) (by kernel_rfl) (fun _ _ _ h => h) (Or.inl ⟨by rfl, ?yma0_1⟩) hHeld ?rma0_1
                  case yma0_1 => (intro w' hSw; (try dsimp only at hSw); go_simp; try (with_reducible rfl))
                  simp only [Act.put, List.setIfInBounds_toArray, List.set_cons_zero, List.set_cons_succ]
                  refine wpAnyH_take (i := 1) (oi := ⟨some 66, _, _, _, _, _⟩) (v := ?vma1_2) rfl (by kernel_rfl) (by kernel_rfl) (by kernel_rfl) (fun _ _ _ h => h) (Or.inl ⟨by rfl, ?yma1_2⟩) hHeld ?rma1_2
                  case yma1_2 => (intro w' hSw; (try dsimp only at hSw); go_simp; try (with_reducible rfl))
                  simp only [Act.put, List.setIfInBounds_toArray, List.set_cons_zero, List.set_cons_succ]
                  refine wpAnyH_take (i := 2) (oi := ⟨some 67, _, _, _, _, _⟩) (v := ?vma2_3) rfl (by kernel_rfl) (by kernel_rfl) (by kernel_rfl) (fun _ _ _ h => h) (Or.inl ⟨by rfl, ?yma2_3⟩) hHeld ?rma2_3
                  case yma2_3 => (intro w' hSw; (try dsimp only at hSw); go_simp; try (with_reducible rfl))
                  simp only [Act.put, List.setIfInBounds_toArray, List.set_cons_zero, List.set_cons_succ]
                  refine wpAnyH_take (i := 3) (oi := ⟨some 68, _, _, _, _, _⟩) (v := ?vma3_4) rfl (by kernel_rfl) (by kernel_rfl) (by kernel_rfl) (fun _ _ _ h => h) (Or.inl ⟨by rfl, ?yma3_4⟩) hHeld ?rma3_4
                  case yma3_4 => (intro w' hSw; (try dsimp only at hSw); go_simp; try (with_reducible rfl))
                  simp only [Act.put, List.setIfInBounds_toArray, List.set_cons_zero, List.set_cons_succ]
                  refine wpAnyH_take (i := 4) (oi := ⟨some 69, _, _, _, _, _⟩) (v := ?vma4_5) rfl (by kernel_rfl) (by kernel_rfl) (by kernel_rfl) (fun _ _ _ h => h) (Or.inl ⟨by rfl, ?yma4_5⟩) hHeld ?rma4_5
                  case yma4_5 => (intro w' hSw; (try dsimp only at hSw); go_simp; try (with_reducible rfl))
                  simp only [Act.put, List.setIfInBounds_toArray, List.set_cons_zero, List.set_cons_succ]
                  refine wpAnyH_take (i := 5) (oi := ⟨some 70, _, _, _, _, _⟩) (v := ?vma5_6) rfl (by kernel_rfl) (by kernel_rfl) (by kernel_rfl) (fun _ _ _ h => h) (Or.inl ⟨by rfl, ?yma5_6⟩) hHeld ?rma5_6
                  case yma5_6 => (intro w' hSw; (try dsimp only at hSw); go_simp; try (with_reducible rfl))
                  simp only [Act.put, List.setIfInBounds_toArray, List.set_cons_zero, List.set_cons_succ]
                  refine wpAnyH_take (i := 6) (oi := ⟨some 71, _, _, _, _, _⟩) (v := ?vma6_7) rfl (by kernel_rfl) (by kernel_rfl) (by kernel_rfl) (fun _ _ _ h => h) (Or.inl ⟨by rfl, ?yma6_7⟩) hHeld ?rma6_7
                  case yma6_7 => (intro w' hSw; (try dsimp only at hSw); go_simp; try (with_reducible rfl))
                  simp only [Act.put, List.setIfInBounds_toArray, List.set_cons_zero, List.set_cons_succ]
                  refine wpAnyH_take (i := 7) (oi := ⟨some 72, _, _, _, _, _⟩) (v := ?vma7_8) rfl (by kernel_rfl) (by kernel_rfl) (by kernel_rfl) (fun _ _ _ h => h) (Or.inl ⟨by rfl, ?yma7_8⟩) hHeld ?rma7_8
                  case yma7_8 => (intro w' hSw; (try dsimp only at hSw); go_simp; try (with_reducible rfl))
                  simp only [Act.put, List.setIfInBounds_toArray, List.set_cons_zero, List.set_cons_succ]
                  refine wpAnyH_take (i := 8) (oi := ⟨some 73, _, _, _, _, _⟩) (v := ?vma8_9) rfl (by kernel_rfl) (by kernel_rfl) (by kernel_rfl) (fun _ _ _ h => h) (Or.inl ⟨by rfl, ?yma8_9⟩) hHeld ?rma8_9
                  case yma8_9 => (intro w' hSw; (try dsimp only at hSw); go_simp; try (with_reducible rfl))
                  simp only [Act.put, List.setIfInBounds_toArray, List.set_cons_zero, List.set_cons_succ]
                  refine wpAnyH_ready (rs := [9]) (by kernel_rfl) (by simp) ?_
                  refine AllReadyH.cons (o := ⟨some 74, _, _, _, _, _⟩) rfl (fun K hK => ?_) AllReadyH.nil
                  go_simp
                  (with_reducible refine (rmeet3o_c _ _ p [c] u0 (by have := HPLn.out; omega) (by simp) HPS.out (fun d hd => by rw [List.mem_singleton] at hd; subst hd; exact HCS.out) (HST.out.pl.on hB) (HCUT.out u0 _ (HBW.out.trans (hB.mono HBW.out.size)))).mono ?_)
                  rintro e u1 ⟨vm, rfl, hOm, hb⟩
                  have t_m : PlT u1 vm (metL p [c]) := own_PlT hOm
                  have t_m2 := t_m
                  obtain ⟨Ma, Mc, rfl, -⟩ := t_m2.form
                  clear hOm t_m2
                  (try dsimp only)
                  have hB2 := hB.trans (hb.mono hB.size)
                  refine hK.out _ _ (HKP.out _ hB2) (fun hNext => ?_)
                  clear hK K hHeld
                  have hHeld := hNext
                  clear hNext
                  clear hB
                  have hB := hB2
                  clear hB2
                  clear hb
                  try simp only [Act.put, List.setIfInBounds_toArray, List.set_cons_zero, List.set_cons_succ]
                  refine wpAnyH_ready (rs := [10]) (by kernel_rfl) (by simp) ?_
                  refine AllReadyH.cons (o := ⟨some 75, _, _, _, _, _⟩) rfl (fun K hK => ?_) AllReadyH.nil
                  go_simp
                  (with_reducible refine (rlean_c _ (metL p [c]) u1 (by have h1 := metL_len p [c] p.length; rw [List.take_length] at h1; simp only [List.length_cons, List.length_nil] at h1; have := HPLn.out; omega) (metL_snd HPS.out (one_snd HCS.out)) t_m).mono ?_)
                  rintro e u2 ⟨vl, rfl, hOl, hb⟩
                  have t_l : StB u2 vl (leanS (metL p [c])) := ⟨own_PlT hOl, own_tbs hOl⟩
                  have t_l2 := t_l.1
                  obtain ⟨La, Lc, rfl, -⟩ := t_l2.form
                  clear hOl t_l2
                  (try dsimp only)
                  have hB2 := hB.trans (hb.mono hB.size)
                  refine hK.out _ _ (HKP.out _ hB2) (fun hNext => ?_)
                  clear hK K hHeld
                  have hHeld := hNext
                  clear hNext
                  clear hB
                  have hB := hB2
                  clear hB2
                  replace t_m := t_m.on hb
                  clear hb
                  try simp only [Act.put, List.setIfInBounds_toArray, List.set_cons_zero, List.set_cons_succ]
                  refine wpAnyH_take (i := 11) (oi := ⟨some 13, _, _, _, _, _⟩) (v := ?vma11_10) rfl (by kernel_rfl) (by kernel_rfl) (by kernel_rfl) (fun _ _ _ h => h) (Or.inl ⟨by rfl, ?yma11_10⟩) hHeld ?rma11_10
                  case yma11_10 => (intro w' hSw; (try dsimp only at hSw); go_simp; try (with_reducible rfl))
                  simp only [Act.put, List.setIfInBounds_toArray, List.set_cons_zero, List.set_cons_succ]
                  refine wpAnyH_done (by kernel_rfl) ?_ _
                  have hnbz : nb ≤ wr.heap.size := Nat.le_trans HNB.out BZ.out.size
                  have B19 := Lib.hid (BZ.out.trans (hB.mono hnbz))
                  have OT2 := Lib.hid (OT.out.on hB)
                  have HSC2 := Lib.hid (on_some hB HSC.out)
                  have HST2 := Lib.hid (HST.out.on hB)
                  have HBW2 := Lib.hid (HBW.out.trans (hB.mono HBW.out.size))
                  have HM := Lib.hid t_l
                  have hnb2 : Hid (nb ≤ u2.heap.size) := Nat.le_trans hnbz hB.size
                  clear hHeld hB HKP t_m t_l BZ OT HSC HST HBW hnbz
                  generalize u2 = w19 at B19 OT2 HSC2 HST2 HBW2 HM hnb2 ⊢
                  go_upto_region 20 with (fail)
                  have HKP : Hid (∀ W, Below w19.heap.size w19 W → (W.cell? ⟨bw, k, none⟩ = some (.slice Sa p.length Sc))) := fun W hb => on_some hb HSC2.out
                  refine wp_region_held_drew (S := fun w' => w'.cell? ⟨bw, k, none⟩ = some (.slice Sa p.length Sc)) (by kernel_rfl) (HKP.out _ (Below.refl _ w19).drew) (fun hHeld => ?_)
                  have hB := (Below.refl w19.heap.size w19).drew
                  generalize w19.drew = u0 at hHeld hB ⊢
                  refine wpAnyH_take (i := 0) (oi := ⟨some 77, _, _, _, _, _⟩) (v := ?vmb0_1) rfl (by kernel_rfl) (by kernel_rfl) (by kernel_rfl) (fun _ _ _ h => h) (Or.inl ⟨by rfl, ?ymb0_1⟩) hHeld ?rmb0_1
                  case ymb0_1 => (intro w' hSw; (try dsimp only at hSw); go_simp; try (with_reducible rfl))
                  simp only [Act.put, List.setIfInBounds_toArray, List.set_cons_zero, List.set_cons_succ]
                  refine wpAnyH_take (i := 1) (oi := ⟨some 78, _, _, _, _, _⟩) (v := ?vmb1_2) rfl (by kernel_rfl) (by kernel_rfl) (by kernel_rfl) (fun _ _ _ h => h) (Or.inl ⟨by rfl, ?ymb1_2⟩) hHeld ?rmb1_2
                  case ymb1_2 => (intro w' hSw; (try dsimp only at hSw); go_simp; try (with_reducible rfl))
                  simp only [Act.put, List.setIfInBounds_toArray, List.set_cons_zero, List.set_cons_succ]
                  refine wpAnyH_take (i := 2) (oi := ⟨some 79, _, _, _, _, _⟩) (v := ?vmb2_3) rfl (by kernel_rfl) (by kernel_rfl) (by kernel_rfl) (fun _ _ _ h => h) (Or.inl ⟨by rfl, ?ymb2_3⟩) hHeld ?rmb2_3
                  case ymb2_3 => (intro w' hSw; (try dsimp only at hSw); go_simp; try (with_reducible rfl))
                  simp only [Act.put, List.setIfInBounds_toArray, List.set_cons_zero, List.set_cons_succ]
                  refine wpAnyH_take (i := 3) (oi := ⟨some 80, _, _, _, _, _⟩) (v := ?vmb3_4) rfl (by kernel_rfl) (by kernel_rfl) (by kernel_rfl) (fun _ _ _ h => h) (Or.inl ⟨by rfl, ?ymb3_4⟩) hHeld ?rmb3_4
                  case ymb3_4 => (intro w' hSw; (try dsimp only at hSw); go_simp; try (with_reducible rfl))
                  simp only [Act.put, List.setIfInBounds_toArray, List.set_cons_zero, List.set_cons_succ]
                  refine wpAnyH_take (i := 4) (oi := ⟨some 81, _, _, _, _, _⟩) (v := ?vmb4_5) rfl (by kernel_rfl) (by kernel_rfl) (by kernel_rfl) (fun _ _ _ h => h) (Or.inl ⟨by rfl, ?ymb4_5⟩) hHeld ?rmb4_5
                  case ymb4_5 => (intro w' hSw; (try dsimp only at hSw); go_simp; try (with_reducible rfl))
                  simp only [Act.put, List.setIfInBounds_toArray, List.set_cons_zero, List.set_cons_succ]
                  refine wpAnyH_take (i := 5) (oi := ⟨some 82, _, _, _, _, _⟩) (v := ?vmb5_6) rfl (by kernel_rfl) (by kernel_rfl) (by kernel_rfl) (fun _ _ _ h => h) (Or.inl ⟨by rfl, ?ymb5_6⟩) hHeld ?rmb5_6
                  case ymb5_6 => (intro w' hSw; (try dsimp only at hSw); go_simp; try (with_reducible rfl))
                  simp only [Act.put, List.setIfInBounds_toArray, List.set_cons_zero, List.set_cons_succ]
                  refine wpAnyH_take (i := 6) (oi := ⟨some 83, _, _, _, _, _⟩) (v := ?vmb6_7) rfl (by kernel_rfl) (by kernel_rfl) (by kernel_rfl) (fun _ _ _ h => h) (Or.inl ⟨by rfl, ?ymb6_7⟩) hHeld ?rmb6_7
                  case ymb6_7 => (intro w' hSw; (try dsimp only at hSw); go_simp; try (with_reducible rfl))
                  simp only [Act.put, List.setIfInBounds_toArray, List.set_cons_zero, List.set_cons_succ]
                  refine wpAnyH_take (i := 7) (oi := ⟨some 84, _, _, _, _, _⟩) (v := ?vmb7_8) rfl (by kernel_rfl) (by kernel_rfl) (by kernel_rfl) (fun _ _ _ h => h) (Or.inl ⟨by rfl, ?ymb7_8⟩) hHeld ?rmb7_8
                  case ymb7_8 => (intro w' hSw; (try dsimp only at hSw); go_simp; try (with_reducible rfl))
                  simp only [Act.put, List.setIfInBounds_toArray, List.set_cons_zero, List.set_cons_succ]
                  refine wpAnyH_take (i := 8) (oi := ⟨some 85, _, _, _, _, _⟩) (v := ?vmb8_9) rfl (by kernel_rfl) (by kernel_rfl) (by kernel_rfl) (fun _ _ _ h => h) (Or.inl ⟨by rfl, ?ymb8_9⟩) hHeld ?rmb8_9
                  case ymb8_9 => (intro w' hSw; (try dsimp only at hSw); go_simp; try (with_reducible rfl))
                  simp only [Act.put, List.setIfInBounds_toArray, List.set_cons_zero, List.set_cons_succ]
                  refine wpAnyH_ready (rs := [9]) (by kernel_rfl) (by simp) ?_
                  refine AllReadyH.cons (o := ⟨some 86, _, _, _, _, _⟩) rfl (fun K hK => ?_) AllReadyH.nil
                  go_simp
                  (with_reducible refine (rless3o_c _ _ p [c] u0 HPLn.out (by simp) HPS.out (fun d hd => by rw [List.mem_singleton] at hd; subst hd; exact HCS.out) (HST2.out.pl.on hB) (HCUT.out u0 _ (HBW2.out.trans (hB.mono HBW2.out.size))) (by simp)).mono ?_)
                  rintro e u1 hle
                  obtain ⟨vo, rfl, hOp, hOt, hb⟩ := hle.1 _ HLE.out
                  have t_o : StB u1 vo (leanS (offL p c)) := ⟨hOp, hOt⟩
                  obtain ⟨Oa, Oc, rfl, -⟩ := hOp.form
                  clear hOp hOt hle
                  (try dsimp only)
                  have hB2 := hB.trans (hb.mono hB.size)
                  refine hK.out _ _ (HKP.out _ hB2) (fun hNext => ?_)
                  clear hK K hHeld
                  have hHeld := hNext
                  clear hNext
                  clear hB
                  have hB := hB2
                  clear hB2
                  clear hb
                  try simp only [Act.put, List.setIfInBounds_toArray, List.set_cons_zero, List.set_cons_succ]
                  refine wpAnyH_take (i := 10) (oi := ⟨some 76, _, _, _, _, _⟩) (v := ?vmb10_10) rfl (by kernel_rfl) (by kernel_rfl) (by kernel_rfl) (fun _ _ _ h => h) (Or.inl ⟨by rfl, ?ymb10_10⟩) hHeld ?rmb10_10
                  case ymb10_10 => (intro w' hSw; (try dsimp only at hSw); go_simp; try (with_reducible rfl))
                  simp only [Act.put, List.setIfInBounds_toArray, List.set_cons_zero, List.set_cons_succ]
                  refine wpAnyH_take (i := 11) (oi := ⟨some 87, _, _, _, _, _⟩) (v := ?vmb11_11) rfl (by kernel_rfl) (by kernel_rfl) (by kernel_rfl) (fun _ _ _ h => h) (Or.inl ⟨by rfl, ?ymb11_11⟩) hHeld ?rmb11_11
                  case ymb11_11 => (intro w' hSw; (try dsimp only at hSw); go_simp; try (with_reducible rfl))
                  simp only [Act.put, List.setIfInBounds_toArray, List.set_cons_zero, List.set_cons_succ]
                  refine wpAnyH_take (i := 12) (oi := ⟨some 88, _, _, _, _, _⟩) (v := ?vmb12_12) rfl (by kernel_rfl) (by kernel_rfl) (by kernel_rfl) (fun _ _ _ h => h) (Or.inl ⟨by rfl, ?ymb12_12⟩) hHeld ?rmb12_12
                  case ymb12_12 => (intro w' hSw; (try dsimp only at hSw); go_simp; try (with_reducible rfl))
                  simp only [Act.put, List.setIfInBounds_toArray, List.set_cons_zero, List.set_cons_succ]
                  refine wpAnyH_take (i := 13) (oi := ⟨some 14, _, _, _, _, _⟩) (v := ?vmb13_13) rfl (by kernel_rfl) (by kernel_rfl) (by kernel_rfl) (fun _ _ _ h => h) (Or.inl ⟨by rfl, ?ymb13_13⟩) hHeld ?rmb13_13
                  case ymb13_13 => (intro w' hSw; (try dsimp only at hSw); go_simp; try (with_reducible rfl))
                  simp only [Act.put, List.setIfInBounds_toArray, List.set_cons_zero, List.set_cons_succ]
                  refine wpAnyH_take (i := 14) (oi := ⟨some 15, _, _, _, _, _⟩) (v := ?vmb14_14) rfl (by kernel_rfl) (by kernel_rfl) (by kernel_rfl) (fun _ _ _ h => h) (Or.inl ⟨by rfl, ?ymb14_14⟩) hHeld ?rmb14_14
                  case ymb14_14 => (intro w' hSw; (try dsimp only at hSw); go_simp; try (with_reducible rfl))
                  simp only [Act.put, List.setIfInBounds_toArray, List.set_cons_zero, List.set_cons_succ]
                  refine wpAnyH_done (by kernel_rfl) ?_ _
                  have B20 := Lib.hid (B19.out.trans (hB.mono hnb2.out))
                  have OT3 := Lib.hid (OT2.out.on hB)
                  have HM2 := Lib.hid (HM.out.on hB)
                  have HO2 := Lib.hid t_o
                  have hnb3 : Hid (nb ≤ u1.heap.size) := Nat.le_trans hnb2.out hB.size
                  clear hHeld hB HKP t_o B19 OT2 HSC2 HST2 HBW2 HM hnb2
                  generalize u1 = w20 at B20 OT3 HM2 HO2 hnb3 ⊢
                  have HPT := Lib.hid (pprt_take (c := c) HP.out)
                  have hTk : ((T.take k).flatMap (pprt c)).length ≤ 256 := by
                    have h1 := pprt_len c (T.take k)
                    rw [List.length_take] at h1
                    omega
                  have HTK := Lib.hid hTk
                  generalize hFF : (T.take k).flatMap (pprt c) = FF at OT3 HPT hTk HTK
                  clear hFF hTk
                  have HPP : Hid (pprt c p = (if (leanS (metL p [c])).isEmpty = true then [] else [leanS (metL p [c])]) ++ (if (leanS (offL p c)).isEmpty = true then [] else [leanS (offL p c)])) := rfl
                  generalize leanS (metL p [c]) = M at HM2 HPP ⊢
                  generalize leanS (offL p c) = L at HO2 HPP HLE ⊢
                  by_cases hMe : M = []
                  · subst hMe
                    by_cases hLe : L = []
                    · subst hLe
                      have HP0 : Hid (FF ++ pprt c p = FF) := by show _ = _; rw [HPP.out]; simp
                      clear HM2 HO2
                      have OTF : Hid (OwT nb w20 u11 ((T.take (k + 1)).flatMap (pprt c))) := by
                        show OwT _ _ _ _
                        rw [HPT.out, HP0.out]
                        exact OT3.out
                      clear OT3
                      go_wp2
                      go_roundg (T.length - (k + 1))
                      case measure => omega
                      case rel => exact ⟨k + 1, by omega, rfl, by go_num, B20, OTF⟩
                    · have hLz : (0 : Int) < (L.length : Int) := by have := List.length_pos_iff.2 hLe; omega
                      have hLe2 : L.isEmpty = false := by simpa using hLe
                      have HP0 : Hid (FF ++ pprt c p = FF ++ [L]) := by show _ = _; rw [HPP.out, hLe2]; simp
                      clear HM2 hLe hLe2
                      obtain ⟨hsL, hoL, hqL⟩ := OT3.out
                      have bL := below1 w20 (.cells #[.slice Oa L.length Oc] 27)
                      have YL : Blk (w20.alloc (.cells #[.slice Oa L.length Oc] 27)) w20.heap.size 27 #[.slice Oa L.length Oc] := Blk.new w20 _ _
                      have SL := src_hd YL HO2.out.one
                      have ooL := own_on hoL bL
                      have bbL := B20.out.trans (bL.mono hnb3.out)
                      have hzL : nb ≤ (w20.alloc (.cells #[.slice Oa L.length Oc] 27)).heap.size := Nat.le_trans hnb3.out bL.size
                      have fxL := Lib.hid (HO2.out.on bL)
                      have hq2L : Hid (∀ (k : Nat) (q : List Cb), (FF)[k]? = some q → ∃ s, hsL[k]? = some s ∧ StB (w20.alloc (.cells #[.slice Oa L.length Oc] 27)) s q) := fun k q hq => by
                        obtain ⟨s, h3, h4⟩ := hqL k q hq
                        exact ⟨s, h3, h4.on bL⟩
                      have hFL := HTK.out
                      clear hoL hqL bL YL OT3 B20 HO2
                      go_wp2_with (at_builtin; refine wpList_app _ rfl (.tmp 99) (.tmp 101) 46 rfl nb 27 ic _ 1 24 Tryz.underlying46 hic hcz0 hcz1 hcz2 rfl (by decide) _ (FF).length hsL rfl ooL _ 1 [.slice Oa L.length Oc] rfl SL (by unfold maxLen; omega) (by omega) hzL ?_)
                      intro vm1 wm1 om1 gm1
                      have Bm1 := Lib.hid (bbL.grown gm1 hzL (fun j hj => (ooL.lt j hj).1))
                      have OTm1 : Hid (OwT nb wm1 vm1 (FF ++ [L])) := OwT.snoc ooL hq2L.out fxL.out (by first | exact om1 | (have h := om1; simp only [List.length_append, List.length_cons, List.length_nil] at h ⊢; exact h)) gm1
                      have hnbm1 : Hid (nb ≤ wm1.heap.size) := Nat.le_trans hzL gm1.size
                      clear SL ooL bbL hzL fxL hq2L hFL om1 gm1
                      have OTF : Hid (OwT nb wm1 vm1 ((T.take (k + 1)).flatMap (pprt c))) := by
                        show OwT _ _ _ _
                        rw [HPT.out, HP0.out]
                        exact OTm1.out
                      clear OTm1
                      go_wp2
                      go_roundg (T.length - (k + 1))
                      case measure => omega
                      case rel => exact ⟨k + 1, by omega, rfl, by go_num, Bm1, OTF⟩
                  · have hMz : (0 : Int) < (M.length : Int) := by have := List.length_pos_iff.2 hMe; omega
                    have hMe2 : M.isEmpty = false := by simpa using hMe
                    clear hMe
                    obtain ⟨hsM, hoM, hqM⟩ := OT3.out
                    have bM := below1 w20 (.cells #[.slice La M.length Lc] 27)
                    have YM : Blk (w20.alloc (.cells #[.slice La M.length Lc] 27)) w20.heap.size 27 #[.slice La M.length Lc] := Blk.new w20 _ _
                    have SM := src_hd YM HM2.out.one
                    have ooM := own_on hoM bM
                    have bbM := B20.out.trans (bM.mono hnb3.out)
                    have hzM : nb ≤ (w20.alloc (.cells #[.slice La M.length Lc] 27)).heap.size := Nat.le_trans hnb3.out bM.size
                    have fxM := Lib.hid (HM2.out.on bM)
                    have hq2M : Hid (∀ (k : Nat) (q : List Cb), (FF)[k]? = some q → ∃ s, hsM[k]? = some s ∧ StB (w20.alloc (.cells #[.slice La M.length Lc] 27)) s q) := fun k q hq => by
                      obtain ⟨s, h3, h4⟩ := hqM k q hq
                      exact ⟨s, h3, h4.on bM⟩
                    have otM := Lib.hid (HO2.out.on bM)
                    have hFM := HTK.out
                    clear hoM hqM bM YM OT3 B20 HM2 HO2
                    go_wp2_with (at_builtin; refine wpList_app _ rfl (.tmp 92) (.tmp 94) 46 rfl nb 27 ic _ 1 24 Tryz.underlying46 hic hcz0 hcz1 hcz2 rfl (by decide) _ (FF).length hsM rfl ooM _ 1 [.slice La M.length Lc] rfl SM (by unfold maxLen; omega) (by omega) hzM ?_)
                    intro vm2 wm2 om2 gm2
                    have Bm2 := Lib.hid (bbM.grown gm2 hzM (fun j hj => (ooM.lt j hj).1))
                    have OTm2 : Hid (OwT nb wm2 vm2 (FF ++ [M])) := OwT.snoc ooM hq2M.out fxM.out (by first | exact om2 | (have h := om2; simp only [List.length_append, List.length_cons, List.length_nil] at h ⊢; exact h)) gm2
                    have hnbm2 : Hid (nb ≤ wm2.heap.size) := Nat.le_trans hzM gm2.size
                    have otm2 := Lib.hid (otM.out.kept ooM gm2)
                    clear SM ooM bbM hzM fxM hq2M hFM om2 gm2 otM
                    by_cases hLe : L = []
                    · subst hLe
                      have HP0 : Hid (FF ++ pprt c p = FF ++ [M]) := by show _ = _; rw [HPP.out, hMe2]; simp
                      clear otm2
                      have OTF : Hid (OwT nb wm2 vm2 ((T.take (k + 1)).flatMap (pprt c))) := by
                        show OwT _ _ _ _
                        rw [HPT.out, HP0.out]
                        exact OTm2.out
                      clear OTm2
                      go_wp2
                      go_roundg (T.length - (k + 1))
                      case measure => omega
                      case rel => exact ⟨k + 1, by omega, rfl, by go_num, Bm2, OTF⟩
                    · have hLz : (0 : Int) < (L.length : Int) := by have := List.length_pos_iff.2 hLe; omega
                      have hLe2 : L.isEmpty = false := by simpa using hLe
                      have HP0 : Hid (FF ++ pprt c p = (FF ++ [M]) ++ [L]) := by show _ = _; rw [HPP.out, hMe2, hLe2]; simp
                      clear hLe hLe2
                      obtain ⟨hsN, hoN, hqN⟩ := OTm2.out
                      have bN := below1 wm2 (.cells #[.slice Oa L.length Oc] 27)
                      have YN : Blk (wm2.alloc (.cells #[.slice Oa L.length Oc] 27)) wm2.heap.size 27 #[.slice Oa L.length Oc] := Blk.new wm2 _ _
                      have SN := src_hd YN otm2.out.one
                      have ooN := own_on hoN bN
                      have bbN := Bm2.out.trans (bN.mono hnbm2.out)
                      have hzN : nb ≤ (wm2.alloc (.cells #[.slice Oa L.length Oc] 27)).heap.size := Nat.le_trans hnbm2.out bN.size
                      have fxN := Lib.hid (otm2.out.on bN)
                      have hq2N : Hid (∀ (k : Nat) (q : List Cb), (FF ++ [M])[k]? = some q → ∃ s, hsN[k]? = some s ∧ StB (wm2.alloc (.cells #[.slice Oa L.length Oc] 27)) s q) := fun k q hq => by
                        obtain ⟨s, h3, h4⟩ := hqN k q hq
                        exact ⟨s, h3, h4.on bN⟩
                      have hFN := HTK.out
                      clear hoN hqN bN YN OTm2 Bm2 otm2
                      go_wp2_with (at_builtin; refine wpList_app _ rfl (.tmp 99) (.tmp 101) 46 rfl nb 27 ic _ 1 24 Tryz.underlying46 hic hcz0 hcz1 hcz2 rfl (by decide) _ (FF ++ [M]).length hsN rfl ooN _ 1 [.slice Oa L.length Oc] rfl SN (by simp only [List.length_append, List.length_cons, List.length_nil]; unfold maxLen; omega) (by simp only [List.length_append, List.length_cons, List.length_nil]; omega) hzN ?_)
                      intro vm3 wm3 om3 gm3
                      have Bm3 := Lib.hid (bbN.grown gm3 hzN (fun j hj => (ooN.lt j hj).1))
                      have OTm3 : Hid (OwT nb wm3 vm3 (FF ++ [M] ++ [L])) := OwT.snoc ooN hq2N.out fxN.out (by first | exact om3 | (have h := om3; simp only [List.length_append, List.length_cons, List.length_nil] at h ⊢; exact h)) gm3
                      have hnbm3 : Hid (nb ≤ wm3.heap.size) := Nat.le_trans hzN gm3.size
                      clear SN ooN bbN hzN fxN hq2N hFN om3 gm3
                      have OTF : Hid (OwT nb wm3 vm3 ((T.take (k + 1)).flatMap (pprt c))) := by
                        show OwT _ _ _ _
                        rw [HPT.out, HP0.out]
                        exact OTm3.out
                      clear OTm3
                      go_wp2
                      go_roundg (T.length - (k + 1))
                      case measure => omega
                      case rel => exact ⟨k + 1, by omega, rfl, by go_num, Bm3, OTF⟩
                · have hkz : ¬ (k : Int) < (T.length : Int) := by omega
                  have RW2 : Hid (RdT wr u11 (al2.map Atm.pl)) := by
                    show RdT _ _ _
                    have h := OT.out.rd
                    rw [List.take_of_length_le (by omega), ← HPL.out] at h
                    exact h
                  have R2 := Lib.hid (HW.out wr BZ.out).2
                  clear OT
                  go_wp2
                  go_roundg (cs.length - (i + 1))
                  case measure => omega
                  case rel => exact ⟨i + 1, al2, by omega, rfl, by go_num, HD2, RW2, R2⟩
            · have hiz : ¬ (i : Int) < (cs.length : Int) := by omega
              have hbs : al = bs := by
                have h1 := HD.out
                rw [List.take_of_length_le (by omega), HQ.out] at h1
                injection h1 with h1
                exact h1.symm
              subst hbs
              obtain ⟨Aw, cw, hu9, hrw⟩ := RW.out
              subst hu9
              have hlm : (al.map Atm.pl).length = al.length := List.length_map _
              rw [hlm]
              have HRW := Lib.hid hrw
              clear hrw hlm
              have halz : (al.length : Int) ≤ 128 := by have := HK.out.le HLN.out; omega
              have B4 := Lib.hid (Be.out.trans (R.out.mono Be.out.size))
              have ALr := Lib.hid (AL_e.out.on R.out)
              obtain ⟨A8, c8, e8, -, -, hcc⟩ := ALr.out
              injection e8 with e8 _ e10
              subst e8 e10
              have HCC := Lib.hid hcc
              clear hcc
              have hnew : Hid (∀ W, Below wr.heap.size wr W → (∀ (j : Nat) (a : AtC), al[j]? = some a → ∃ b off bw, A3 = some ⟨b, off, none⟩ ∧ Aw = some ⟨bw, 0, none⟩ ∧ AtomAt W b (off + j * 4) a ∧ ∃ s, W.cell? ⟨bw, j, none⟩ = some s ∧ StB W s a.pl)) := fun W hb j a ha => by
                obtain ⟨b, off, e1, -, h1⟩ := HCC.out (ne_nil_of ha)
                have ha2 : (al.map Atm.pl)[j]? = some a.pl := by rw [List.getElem?_map, ha]; rfl
                obtain ⟨bw, e2, h2⟩ := HRW.out (ne_nil_of ha2)
                obtain ⟨s, h3, h4⟩ := h2 j a.pl ha2
                exact ⟨b, off, bw, e1, e2, (h1 j a ha).on hb, s, on_some hb h3, h4.on hb⟩
              clear HCC HRW ALr R RW HD
              generalize hwx : wr = wx at B4 hnew ⊢
              clear hwx
              have RX := Lib.hid (Below.refl wx.heap.size wx)
              go_wp2
              go_loopg [16] al.length (fun gk s16 wz => ∃ j : Nat, j ≤ al.length ∧ gk = al.length - j ∧ s16 = .int .i64 j ∧ Hid (Below wx.heap.size wx wz))
              case atStart => exact ⟨0, Nat.zero_le _, rfl, rfl, RX⟩
              case round =>
                clear RX
                obtain ⟨j, hj, rfl, rfl, RZ⟩ := hrel
                by_cases hjl : j < al.length
                · have hjz : (j : Int) < (al.length : Int) := by omega
                  obtain ⟨a, ha⟩ : ∃ a, al[j]? = some a := ⟨_, List.getElem?_eq_getElem hjl⟩
                  obtain ⟨b, off, bw, rfl, rfl, hat, s, hsc, hst⟩ := hnew.out wr RZ.out j a ha
                  obtain ⟨I1, I2, I3, P1, P2, P3, ⟨-, -, -, k3⟩, -, hPn, -, hP2⟩ := hat.cells
                  subst hP2
                  obtain ⟨Sa, Sc, rfl, -⟩ := hst.1.form
                  have hga := HK.out.inv.good a (List.mem_of_getElem? ha)
                  have HGA := Lib.hid hga
                  have K3 := Lib.hid k3
                  have HSC := Lib.hid hsc
                  have HST := Lib.hid hst.1
                  have HPn := Lib.hid hPn
                  clear hat k3 hsc hst hga hPn ha
                  go_upto_region 31 with (fail)
                  have HKP : Hid (∀ W, Below wr.heap.size wr W → (W.cell? ⟨b, off + j * 4 + 3, none⟩ = some (.slice P1 a.pl.length P3) ∧ W.cell? ⟨bw, j, none⟩ = some (.slice Sa a.pl.length Sc))) := fun W hb => ⟨on_some hb K3.out, on_some hb HSC.out⟩
                  refine wp_region_held_drew (S := fun w' => w'.cell? ⟨b, off + j * 4 + 3, none⟩ = some (.slice P1 a.pl.length P3) ∧ w'.cell? ⟨bw, j, none⟩ = some (.slice Sa a.pl.length Sc)) (by kernel_rfl) (HKP.out _ (Below.refl _ wr).drew) (fun hHeld => ?_)
                  have hB := (Below.refl wr.heap.size wr).drew
                  generalize wr.drew = u0 at hHeld hB ⊢
                  refine wpAnyH_take (i := 0) (oi := ⟨some 115, _, _, _, _, _⟩) (v := ?vmc0_1) rfl (by kernel_rfl) (by kernel_rfl) (by kernel_rfl) (fun _ _ _ h => h) (Or.inl ⟨by rfl, ?ymc0_1⟩) hHeld ?rmc0_1
                  case ymc0_1 => (intro w' hSw; (try dsimp only at hSw); go_simp; try (with_reducible rfl))
                  simp only [Act.put, List.setIfInBounds_toArray, List.set_cons_zero, List.set_cons_succ]
                  refine wpAnyH_take (i := 1) (oi := ⟨some 116, _, _, _, _, _⟩) (v := ?vmc1_2) rfl (by kernel_rfl) (by kernel_rfl) (by kernel_rfl) (fun _ _ _ h => h) (Or.inl ⟨by rfl, ?ymc1_2⟩) hHeld ?rmc1_2
                  case ymc1_2 => (intro w' hSw; (try dsimp only at hSw); go_simp; try (with_reducible rfl))
                  simp only [Act.put, List.setIfInBounds_toArray, List.set_cons_zero, List.set_cons_succ]
                  refine wpAnyH_take (i := 2) (oi := ⟨some 117, _, _, _, _, _⟩) (v := ?vmc2_3) rfl (by kernel_rfl) (by kernel_rfl) (by kernel_rfl) (fun _ _ _ h => h) (Or.inl ⟨by rfl, ?ymc2_3⟩) hHeld ?rmc2_3
                  case ymc2_3 => (intro w' hSw; (try dsimp only at hSw); go_simp; try (with_reducible rfl))
                  simp only [Act.put, List.setIfInBounds_toArray, List.set_cons_zero, List.set_cons_succ]
                  refine wpAnyH_take (i := 3) (oi := ⟨some 118, _, _, _, _, _⟩) (v := ?vmc3_4) rfl (by kernel_rfl) (by kernel_rfl) (by kernel_rfl) (fun _ _ _ h => h) (Or.inl ⟨by rfl, ?ymc3_4⟩) hHeld ?rmc3_4
                  case ymc3_4 => (intro w' hSw; (try dsimp only at hSw); go_simp; try (with_reducible rfl))
                  simp only [Act.put, List.setIfInBounds_toArray, List.set_cons_zero, List.set_cons_succ]
                  refine wpAnyH_take (i := 4) (oi := ⟨some 119, _, _, _, _, _⟩) (v := ?vmc4_5) rfl (by kernel_rfl) (by kernel_rfl) (by kernel_rfl) (fun _ _ _ h => h) (Or.inl ⟨by rfl, ?ymc4_5⟩) hHeld ?rmc4_5
                  case ymc4_5 => (intro w' hSw; (try dsimp only at hSw); go_simp; try (with_reducible rfl))
                  simp only [Act.put, List.setIfInBounds_toArray, List.set_cons_zero, List.set_cons_succ]
                  refine wpAnyH_take (i := 5) (oi := ⟨some 120, _, _, _, _, _⟩) (v := ?vmc5_6) rfl (by kernel_rfl) (by kernel_rfl) (by kernel_rfl) (fun _ _ _ h => h) (Or.inl ⟨by rfl, ?ymc5_6⟩) hHeld ?rmc5_6
                  case ymc5_6 => (intro w' hSw; (try dsimp only at hSw); go_simp; try (with_reducible rfl))
                  simp only [Act.put, List.setIfInBounds_toArray, List.set_cons_zero, List.set_cons_succ]
                  refine wpAnyH_take (i := 6) (oi := ⟨some 121, _, _, _, _, _⟩) (v := ?vmc6_7) rfl (by kernel_rfl) (by kernel_rfl) (by kernel_rfl) (fun _ _ _ h => h) (Or.inl ⟨by rfl, ?ymc6_7⟩) hHeld ?rmc6_7
                  case ymc6_7 => (intro w' hSw; (try dsimp only at hSw); go_simp; try (with_reducible rfl))
                  simp only [Act.put, List.setIfInBounds_toArray, List.set_cons_zero, List.set_cons_succ]
                  refine wpAnyH_take (i := 7) (oi := ⟨some 122, _, _, _, _, _⟩) (v := ?vmc7_8) rfl (by kernel_rfl) (by kernel_rfl) (by kernel_rfl) (fun _ _ _ h => h) (Or.inl ⟨by rfl, ?ymc7_8⟩) hHeld ?rmc7_8
                  case ymc7_8 => (intro w' hSw; (try dsimp only at hSw); go_simp; try (with_reducible rfl))
                  simp only [Act.put, List.setIfInBounds_toArray, List.set_cons_zero, List.set_cons_succ]
                  refine wpAnyH_take (i := 8) (oi := ⟨some 123, _, _, _, _, _⟩) (v := ?vmc8_9) rfl (by kernel_rfl) (by kernel_rfl) (by kernel_rfl) (fun _ _ _ h => h) (Or.inl ⟨by rfl, ?ymc8_9⟩) hHeld ?rmc8_9
                  case ymc8_9 => (intro w' hSw; (try dsimp only at hSw); go_simp; try (with_reducible rfl))
                  simp only [Act.put, List.setIfInBounds_toArray, List.set_cons_zero, List.set_cons_succ]
                  refine wpAnyH_ready (rs := [9]) (by kernel_rfl) (by simp) ?_
                  refine AllReadyH.cons (o := ⟨some 124, _, _, _, _, _⟩) rfl (fun K hK => ?_) AllReadyH.nil
                  go_simp
                  (with_reducible refine (same_c _ _ a.pl u0 (by have := HGA.out.len; omega) HGA.out.snd (HPn.out.on hB) (HST.out.on hB)).mono ?_)
                  rintro e u1 ⟨rfl, hb⟩
                  (try dsimp only)
                  have hB2 := hB.trans (hb.mono hB.size)
                  refine hK.out _ _ (HKP.out _ hB2) (fun hNext => ?_)
                  clear hK K hHeld
                  have hHeld := hNext
                  clear hNext
                  clear hB
                  have hB := hB2
                  clear hB2
                  clear hb
                  try simp only [Act.put, List.setIfInBounds_toArray, List.set_cons_zero, List.set_cons_succ]
                  refine wpAnyH_take (i := 10) (oi := ⟨some 125, _, _, _, _, _⟩) (v := ?vmc10_10) rfl (by kernel_rfl) (by kernel_rfl) (by kernel_rfl) (fun _ _ _ h => h) (Or.inl ⟨by rfl, ?ymc10_10⟩) hHeld ?rmc10_10
                  case ymc10_10 => (intro w' hSw; (try dsimp only at hSw); go_simp; try (with_reducible rfl))
                  simp only [Act.put, List.setIfInBounds_toArray, List.set_cons_zero, List.set_cons_succ]
                  refine wpAnyH_done (by kernel_rfl) ?_ _
                  have RZ2 := Lib.hid (RZ.out.trans (hB.mono RZ.out.size))
                  clear hHeld hB HKP RZ K3 HSC HST HPn HGA
                  go_wp2
                  go_roundg (al.length - (j + 1))
                  case measure => omega
                  case rel => exact ⟨j + 1, by omega, rfl, by go_num, RZ2⟩
                · have hjz : ¬ (j : Int) < (al.length : Int) := by omega
                  have B5 := Lib.hid (B4.out.trans (RZ.out.mono B4.out.size))
                  have hcall := awake11_c wr
                  go_wp2_with fail
                  (with_reducible refine hcall.mono ?_)
                  rintro e w7 ⟨rfl, hb⟩
                  have B7 := Lib.hid (B5.out.trans (hb.mono B5.out.size))
                  clear hb hcall  B5 
                  go_wp2
                  go_ret
                  exact ⟨rfl, B7.out⟩
end Go.Proofs

namespace Go.Proofs.YtpmgbofnikmhgaaGreat
open Go.ChangeShapes Go.WideShapes Go.ChangeAt Go.RowKit Go.Joins Go.Proofs.Hd

theorem laidOut_aex : laidOutB Tryz.prog = true := by kernel_rfl
set_option maxRecDepth 100000 in
theorem aex_lifted (os : Os) (started : os.Started) (H : Type) (enc : TypeId × Value → H) :
    ReturnsInHanded {} Tryz.checked os 4 .any (Rows.atomsExactSpec.pre6 enc Tryz.prog Tryz.f4 Rows.atomsExactRow.domain false) (Rows.atomsExactSpec.post enc Tryz.prog Tryz.f4 false true false false) := by
  refine returnsInHanded_of_change (C := Tryz.checked) own started (by kernel_rfl) Tryz.func4
    (ChangeSpec.witness6 (enc := enc) (C := Tryz.checked) false ⟨#[], #[.slice none 0 0], []⟩ 8 (by kernel_rfl) (by kernel_rfl) (by kernel_rfl) (by kernel_rfl)) ?_
  intro W base args ds gs before hval0 hW hcnd _
  have hval : ∀ (j : Nat) t v, Tryz.f4.params[j]? = some t → args[j]? = some v → Value.okWide Tryz.prog W .any base t v := hval0
  have hW' := hW
  obtain ⟨p, q, hA0, hV, rfl, hfz, hnd⟩ := hW
  have hA : DataW.TrodAll enc Tryz.prog W 0 (fun _ => true) true Tryz.f4.params.toList args.toList ds p := hA0
  rw [Tryz.params4] at hA hval
  obtain ⟨v0, vs0, d0, ds0, p0, q0, hargs, rfl, rfl, h0, r0⟩ := trodAll_cons hA
  obtain ⟨rfl, rfl, rfl⟩ := trodAll_nil r0
  obtain rfl : args = #[v0] := by cases args; simp_all
  obtain ⟨rfl, rfl⟩ := trodVars_none hV
  have k0 := h0
  have lt0 : ∀ x ∈ p0, x.block < W.heap.size := by obtain ⟨m, hm⟩ := k0; exact DataW.trod_lt m _ _ _ hm
  obtain ⟨pA, pc, pL, rfl, lp, mp, pp⟩ := open_pl (hval 0 22 v0 rfl rfl) h0
  clear hA0 hval0
  refine (aexact_c _ pc pL W lp mp pp).mono fun e W' ⟨he, hg⟩ => ?_
  subst he
  exact ⟨_, rfl, _, _, _, [], _, [], hW', trodAll_mk1 (shut_bool Tryz.underlying4 _), (trodAll_cons_mk (Below.trod laidOut_aex (by kernel_rfl) (of_decide_eq_true (by kernel_rfl)) k0 hg lt0) trodAll_mk0), rfl, hg.frame _, (fun h => by cases h)⟩

theorem aex_holds : Rows.AtomsExactSaid :=
  OpenClaim.holds_of_wide 4 Tryz.f4 rfl rfl rfl rfl rfl rfl rfl ⟨rfl, rfl, rfl, rfl, rfl⟩ rfl rfl rfl rfl rfl (by kernel_rfl) Tryz.func4 (by kernel_rfl)
    (of_decide_eq_true (by kernel_rfl)) (by unfold Func.isWrapper; first | (rw [if_pos (by decide +kernel)]; kernel_rfl) | (rw [if_neg (by decide +kernel)]; exact ⟨rfl, rfl⟩))
    (fun os started H enc _ => aex_lifted os started H enc)
#print axioms aex_holds
end Go.Proofs.YtpmgbofnikmhgaaGreat
