/-
  Contracts of the reference's Meet and Less of layer 3. Conditions as each theorem lists them.
-/
import Derived.Test.YtipkefljicoldaaJ7
import Derived.Deep.RegionHeld3
namespace Go.Proofs.Hd
open Go.RowKit
theorem metL_agr {x y : Cb} (hx : x.snd = true) (hy : y.snd = true) : x.met y = x.agr y := met_eq x y hx hy
theorem strs_append (A B : List Cb) : strs (A ++ B) = strs A ++ strs B := by simp [strs]
theorem strs_one (L : List Cb) : ∀ u ∈ strs L, u.oneCell' = true := by
  intro u hu
  unfold strs at hu
  obtain ⟨c, _, rfl⟩ := List.mem_map.1 hu
  rfl
theorem PlT.src {w : World} {v : Value} {L : List Cb} (h : PlT w v L) : Src w 1 v L.length (strs L) := by
  refine ⟨by simp [strs], strs_one L, ?_⟩
  rcases h with ⟨rfl, A, cap, rfl⟩ | ⟨g, cap, rfl, hg, hc⟩
  · cases A with
    | none => exact .inl ⟨rfl, cap, rfl⟩
    | some ad => exact .inr ⟨ad, cap, rfl, fun j u hu => by simp [strs] at hu⟩
  · refine .inr ⟨_, cap, rfl, fun j u hu => ?_⟩
    unfold strs at hu
    rw [List.getElem?_map] at hu
    cases hj : L[j]? with
    | none => rw [hj] at hu; cases hu
    | some c =>
      rw [hj] at hu
      injection hu with hu
      subst hu
      have e : (⟨g, 0, none⟩ : Addr).add j = ⟨g, j, none⟩ := by unfold Addr.add; by_cases h0 : j = 0 <;> simp [h0]
      rw [e]
      exact hc j c hj
/-- The texts of a list and true, or nothing and false. -/
def OptS (w : World) (o : Option (List Cb)) (e : Ending) (w' : World) : Prop := (∀ R, o = some R → ∃ v, e = .returned (.tuple #[v, .bool true]) ∧ PlT w' v R ∧ Below w.heap.size w w') ∧ (o = none → e = .returned (.tuple #[.slice none 0 0, .bool false]) ∧ Below w.heap.size w w')
section
variable {P : Program} (w : World)
theorem step_app {ops : Array Oper} {o : Oper} {a : Act} {K : Act → World → Prop} {Q : Exit → Act → World → Prop} {E : Prop} (hgd : o.guard = none) (s x : Operand) (t : TypeId)
    (ho : o.op = .call { callee := .builtin .append, args := #[s, x], argTypes := #[t, t] }) (base : Nat) (e : TypeId) (i : TypeInfo) (z : Value) (size bytes : Nat) (ht : P.underlying t = some (.slice e)) (hi : P.info? e = some i) (hz : i.zero = some z)
    (hsize : i.size = size) (hby : i.bytes = bytes) (hzs : z.cells.size = size) (hsz : 0 < size) (v : Value) (n : Nat) (xs : List Value) (hs : a.eval s = v) (hown : w.ownsRow base e size v n xs)
    (y : Value) (m : Nat) (news : List Value) (hy : a.eval x = y) (hx : Src w size y m news) (h63 : n + m ≤ maxLen) (hbytes : (n + m) * bytes ≤ 140737488355328) (hbase : base ≤ w.heap.size)
    (h : ∀ v' w', w'.ownsRow base e size v' (n + m) (xs ++ news) → w.grownBy w' v.ownBlock → K (a.put o.dst v') w') :
    if Region.wanted o (yielded ops a.tmps) = true then Oper.wp P o a w K Q else E := by
  have hw : Region.wanted o (yielded ops a.tmps) = true := by simp [Region.wanted, hgd]
  rw [if_pos hw]
  exact wp_app w s x t ho base e i z size bytes ht hi hz hsize hby hzs hsz v n xs hs hown y m news hy hx h63 hbytes hbase h
end
end Go.Proofs.Hd
namespace Go.Proofs
open Go.RowKit Go.Proofs.Hd Go.Lib
attribute [local go_sem] uv_nonneg
set_option maxHeartbeats 4000000 in
set_option maxRecDepth 100000 in
theorem rmeet3_c (v u : Value) (A B : List Cb) (w : World) (hA : A.length ≤ 1000) (hB : B.length ≤ 1000) (sA : ∀ c ∈ A, c.snd = true) (sB : ∀ c ∈ B, c.snd = true) (hv : PlT w v A) (hu : PlT w u B) : Calls Try.prog 23 #[v, u] w (GotS w (metL A B)) := by
  obtain ⟨is, his, hs0, hs1, hs2⟩ := info_parts infoStr
  obtain ⟨A1, c1, rfl, hF⟩ := hv.form
  obtain ⟨A2, c2, rfl, hG⟩ := hu.form
  have hAz : (A.length : Int) ≤ 1000 := by omega
  have hBz : (B.length : Int) ≤ 1000 := by omega
  have HA := Lib.hid hF
  have HB := Lib.hid hG
  have HSA := Lib.hid sA
  have HSB := Lib.hid sB
  have HB0 := Lib.hid (below1 w (.cells #[] 9))
  have HO := Lib.hid (World.ownsRow_made (base := w.heap.size) (e := 9) (size := 1) w #[] 0 (Nat.le_refl _) (Nat.zero_le _) rfl)
  clear hv hu hF hG sA sB
  go_enter Try.func23, Try.ntmps23
  go_wp2
  go_loopg [5, 6] A.length (fun gk s5 s6 wr => ∃ i : Nat, i ≤ A.length ∧ gk = A.length - i ∧ s6 = .int .i64 i ∧ Below w.heap.size w wr ∧ wr.ownsRow w.heap.size 9 1 s5 (metL (A.take i) B).length (strs (metL (A.take i) B)))
  case atStart => exact ⟨0, Nat.zero_le _, rfl, rfl, HB0.out, HO.out⟩
  case round =>
    clear HB0 HO
    obtain ⟨i, hi, rfl, rfl, W, O⟩ := hrel
    by_cases hlt : i < A.length
    · have hltz : (i : Int) < (A.length : Int) := by omega
      obtain ⟨x, hx⟩ : ∃ x, A[i]? = some x := ⟨_, List.getElem?_eq_getElem hlt⟩
      obtain ⟨ga, rfl, hga, hpa⟩ := HA.out (ne_nil_of hx)
      have hxs := HSA.out x (List.mem_of_getElem? hx)
      have HT := Lib.hid (metL_take (B := B) hx)
      obtain ⟨s, HS⟩ : ∃ s, Hid (txt x = s) := ⟨_, rfl⟩
      have cx0 := hpa i x hx
      rw [HS.out] at cx0
      have HCX := Lib.hid cx0
      have hlen := metL_len A B i
      have hlen2 : i * B.length ≤ 1000 * 1000 := Nat.mul_le_mul (by omega) hB
      have HWr := Lib.hid W
      have HOr : Hid (wr.ownsRow w.heap.size 9 1 u5 (metL (A.take i) B ++ metR x (B.take 0)).length (strs (metL (A.take i) B ++ metR x (B.take 0)))) := by
        have e : metL (A.take i) B ++ metR x (B.take 0) = metL (A.take i) B := by simp [metR]
        show World.ownsRow _ _ _ _ _ _ _
        rw [e]; exact O
      clear hx hpa W O cx0
      go_wp2
      go_loopg [5, 7] B.length (fun gk s5 s7 wr => ∃ k : Nat, k ≤ B.length ∧ gk = B.length - k ∧ s7 = .int .i64 k ∧ Below w.heap.size w wr ∧ wr.ownsRow w.heap.size 9 1 s5 (metL (A.take i) B ++ metR x (B.take k)).length (strs (metL (A.take i) B ++ metR x (B.take k))))
      case atStart => exact ⟨0, Nat.zero_le _, rfl, rfl, HWr.out, HOr.out⟩
      case round =>
        clear HWr HOr
        obtain ⟨k, hk, rfl, rfl, W, O⟩ := hrel
        have hlk := metR_len x B k
        by_cases hlt2 : k < B.length
        · have hltz2 : (k : Int) < (B.length : Int) := by omega
          obtain ⟨y, hy⟩ : ∃ y, B[k]? = some y := ⟨_, List.getElem?_eq_getElem hlt2⟩
          obtain ⟨gb, rfl, hgb, hpb⟩ := HB.out (ne_nil_of hy)
          have hys := HSB.out y (List.mem_of_getElem? hy)
          obtain ⟨t, HTT⟩ : ∃ t, Hid (txt y = t) := ⟨_, rfl⟩
          have cx := on_some W HCX.out
          have cy := on_some W (hpb k y hy)
          rw [HTT.out] at cy
          have HM := Lib.hid (metR_take (x := x) hy)
          have hag := met_eq x y hxs hys
          clear hy hpb
          cases hm : x.met y with
          | false =>
            have HN : Hid (metR x (B.take (k + 1)) = metR x (B.take k)) := by show _ = _; rw [HM.out, hm]; simp
            rw [hm] at hag
            have HAG := Lib.hid hag.symm
            clear hag
            go_wp2_with fail
            go_region_held3 (fun w' => Below wr.heap.size wr w' ∧ w'.cell? ⟨ga, i, none⟩ = some (.string s) ∧ w'.cell? ⟨gb, k, none⟩ = some (.string t))
              (first
                | exact hold2 (by assumption) (by assumption)
                | exact ⟨(Below.refl _ _).drew, cx, cy⟩)
              (first
                | (go_at_call 39; (with_reducible refine (rmeet_f s t x y _ hxs hys HS.out HTT.out HAG.out).mono ?_); rintro e w' ⟨rfl, hb⟩))
            rename_i hS
            have W2 := W.trans (hS.1.mono W.size)
            have O2 := own_on O hS.1
            clear hS hb W O cx cy HM
            go_wp2
            go_roundg (B.length - (k + 1))
            case measure => omega
            case rel => exact ⟨k + 1, by omega, rfl, by go_num, W2, by rw [HN.out]; exact O2⟩
          | true =>
            have HN : Hid (metR x (B.take (k + 1)) = metR x (B.take k) ++ [x.join y]) := by show _ = _; rw [HM.out, hm]; simp
            obtain ⟨r, HR⟩ : ∃ r, Hid (txt (x.join y) = r) := ⟨_, rfl⟩
            rw [hm] at hag
            have HAG := Lib.hid hag.symm
            clear hag
            go_wp2_with fail
            go_region_held3 (fun w' => Below wr.heap.size wr w' ∧ w'.cell? ⟨ga, i, none⟩ = some (.string s) ∧ w'.cell? ⟨gb, k, none⟩ = some (.string t))
              (first
                | exact hold2 (by assumption) (by assumption)
                | exact ⟨(Below.refl _ _).drew, cx, cy⟩)
              (first
                | (go_at_call 39; (with_reducible refine (rmeet_t s t r x y _ hxs hys HS.out HTT.out HAG.out HR.out).mono ?_); rintro e w2 ⟨rfl, hb⟩))
            rename_i hS
            have W2 := W.trans (hS.1.mono W.size)
            have O2 := own_on O hS.1
            clear hS hb W O cx cy HM
            go_upto_region 10 with (fail)
            have hb3 := below1 w2 (.cells #[.string r] 9)
            have N3 : Blk (w2.alloc (.cells #[.string r] 9)) w2.heap.size 9 #[.string r] := Blk.new w2 _ _
            have W3 := W2.trans (hb3.mono W2.size)
            have O3 := own_on O2 hb3
            have hz3 := W3.size
            clear W2 O2 hb3
            go_wp2_with (at_builtin; refine wpList_append_lies _ rfl (.tmp 36) (.tmp 38) 26 rfl w.heap.size 9 is _ 1 16 Try.underlying26 his hs0 hs1 hs2 rfl (by decide) _ _ _ rfl O3 ⟨w2.heap.size, 0, none⟩ 1 1 [.string r] rfl rfl (World.news_of_block N3) (by intro u hu; simp only [List.mem_singleton] at hu; subst hu; rfl) (by omega) (by rw [List.length_append]; unfold maxLen; omega) (by rw [List.length_append]; omega) hz3 _ rfl ?_)
            intro g4 cap4 w4 O4 hg4 hat hgl
            have W4 := W3.grown hg4 hz3 (fun j hj => (O3.lt j hj).1)
            clear W3 O3 N3 hg4 hat hgl
            go_wp2
            go_roundg (B.length - (k + 1))
            case measure => omega
            case rel => exact ⟨k + 1, by omega, rfl, by go_num, W4, by rw [HN.out, ← List.append_assoc, strs_snoc, HR.out, List.length_append, List.length_append]; exact O4⟩
        · have hltz2 : ¬ (k : Int) < (B.length : Int) := by omega
          obtain rfl : k = B.length := by omega
          have HN : Hid (metL (A.take (i + 1)) B = metL (A.take i) B ++ metR x (B.take B.length)) := by show _ = _; rw [HT.out, List.take_length]
          go_wp2
          go_roundg (A.length - (i + 1))
          case measure => omega
          case rel => exact ⟨i + 1, by omega, rfl, by go_num, W, by rw [HN.out]; exact O⟩
    · have hltz : ¬ (i : Int) < (A.length : Int) := by omega
      obtain rfl : i = A.length := by omega
      rw [List.take_length] at O
      go_wp2
      go_ret
      exact ⟨_, rfl, O, W⟩
set_option maxHeartbeats 4000000 in
set_option maxRecDepth 100000 in
theorem rless3_c (v u : Value) (A B : List Cb) (w : World) (hA : A.length ≤ 200) (hB : B.length ≤ 1000) (sA : ∀ c ∈ A, c.snd = true) (sB : ∀ c ∈ B, c.snd = true) (hv : PlT w v A) (hu : PlT w u B) : Calls Try.prog 24 #[v, u] w (OptS w (lessL A B)) := by
  obtain ⟨is, his, hs0, hs1, hs2⟩ := info_parts infoStr
  obtain ⟨A1, c1, rfl, hF⟩ := hv.form
  obtain ⟨A2, c2, rfl, hG⟩ := hu.form
  have hBz : (B.length : Int) ≤ 1000 := by omega
  have HB := Lib.hid hG
  have HSA := Lib.hid sA
  have HSB := Lib.hid sB
  have HV := Lib.hid hv
  clear hv hu hF hG sA sB
  go_enter Try.func24, Try.ntmps24
  go_wp2
  go_loopg [0, 6] B.length (fun gk s0 s6 wr => ∃ i : Nat, i ≤ B.length ∧ gk = B.length - i ∧ s6 = .int .i64 i ∧ ∃ cur, Hid (LeftIs A B i cur) ∧ Below w.heap.size w wr ∧ ∃ D cd, s0 = .slice D cur.length cd ∧ Hid (PlT wr (.slice D cur.length cd) cur))
  case atStart => exact ⟨0, Nat.zero_le _, rfl, rfl, A, ⟨hA, HSA.out, rfl⟩, Below.refl _ _, A1, c1, rfl, HV.out⟩
  case round =>
    clear HV
    obtain ⟨i, hi, rfl, rfl, cur, HL, W, D, cd, rfl, HD⟩ := hrel
    have hcl := HL.out.1
    have hclz : (cur.length : Int) ≤ 200 := by omega
    by_cases hlt : i < B.length
    · have hltz : (i : Int) < (B.length : Int) := by omega
      obtain ⟨y, hy⟩ : ∃ y, B[i]? = some y := ⟨_, List.getElem?_eq_getElem hlt⟩
      obtain ⟨gb, rfl, hgb, hpb⟩ := HB.out (ne_nil_of hy)
      have hys := HSB.out y (List.mem_of_getElem? hy)
      obtain ⟨t, HTT⟩ : ∃ t, Hid (txt y = t) := ⟨_, rfl⟩
      have cy0 := on_some W (hpb i y hy)
      rw [HTT.out] at cy0
      have HCY := Lib.hid cy0
      have HT := Lib.hid (lessL_drop (A := cur) hy)
      have hTot := offL_len cur y
      have HW := Lib.hid W
      have hgi : gb < wr.heap.size := Nat.lt_of_lt_of_le hgb W.size
      have HBx := Lib.hid (below1 wr (.cells #[] 9))
      have HO := Lib.hid (World.ownsRow_made (base := wr.heap.size) (e := 9) (size := 1) wr #[] 0 (Nat.le_refl _) (Nat.zero_le _) rfl)
      clear hy hpb W cy0
      go_wp2
      have HSZ : ∃ wi : World, wi = wr := ⟨_, rfl⟩
      obtain ⟨wi, hwi⟩ := HSZ
      go_loopg [7, 8] cur.length (fun gk s7 s8 wz => ∃ k : Nat, k ≤ cur.length ∧ gk = cur.length - k ∧ s8 = .int .i64 k ∧ Below wi.heap.size wi wz ∧ wz.ownsRow wi.heap.size 9 1 s7 (offL (cur.take k) y).length (strs (offL (cur.take k) y)))
      case atStart => subst hwi; exact ⟨0, Nat.zero_le _, rfl, rfl, HBx.out, HO.out⟩
      case round =>
        subst hwi
        clear HBx HO
        obtain ⟨k, hk, rfl, rfl, Z, O⟩ := hrel
        by_cases hlt2 : k < cur.length
        · have hltz2 : (k : Int) < (cur.length : Int) := by omega
          obtain ⟨x, hx⟩ : ∃ x, cur[k]? = some x := ⟨_, List.getElem?_eq_getElem hlt2⟩
          obtain ⟨ga, rfl, hga, hpa⟩ : ∃ g, D = some ⟨g, 0, none⟩ ∧ g < wi.heap.size ∧ ∀ (k : Nat) (c : Cb), cur[k]? = some c → wi.cell? ⟨g, k, none⟩ = some (.string (txt c)) := by
            obtain ⟨D', cd', e, hD⟩ := HD.out.form
            injection e with e1 _ _
            subst e1
            exact hD (ne_nil_of hx)
          have hxs := HL.out.2.1 x (List.mem_of_getElem? hx)
          obtain ⟨s, HS⟩ : ∃ s, Hid (txt x = s) := ⟨_, rfl⟩
          have cx := hpa k x hx
          rw [HS.out] at cx
          have HM := Lib.hid (offL_take (g := y) hx)
          have hle1 := offL_le cur y k
          have hle2 := offL_le cur y (k + 1)
          have hle3 : (offL (cur.take k) y).length + (lessC x y).length ≤ (offL cur y).length := by rw [HM.out, List.length_append] at hle2; exact hle2
          have Z0 : Below wi.heap.size wi wr.drew := Z.drew
          have OR0 : wr.drew.ownsRow wi.heap.size 9 1 u7 (offL (cur.take k) y).length (strs (offL (cur.take k) y)) := O
          have czx := on_some Z cx
          have czy := on_some Z HCY.out
          clear hx hpa hle1 hle2 Z O
          go_wp2_with fail
          refine wp_region_held_drew (S := fun w' => Below wi.heap.size wi w' ∧ w'.cell? ⟨ga, k, none⟩ = some (.string s) ∧ w'.cell? ⟨gb, i, none⟩ = some (.string t)) (by kernel_rfl) ⟨Z0, on_some Z0 cx, on_some Z0 HCY.out⟩ (fun hHeld => ?_)
          refine wpAnyH_take (i := 0) (oi := ⟨some 22, _, _, _, _, _⟩) (v := ?vz0) rfl (by kernel_rfl) (by kernel_rfl) (by kernel_rfl) (fun _ _ _ h => h) (Or.inl ⟨by rfl, ?yz0⟩) hHeld ?rz0
          case yz0 => (intro w' hSw; (try dsimp only at hSw); go_simp; try (with_reducible rfl))
          simp only [Act.put, List.setIfInBounds_toArray, List.set_cons_zero, List.set_cons_succ]
          refine wpAnyH_take (i := 1) (oi := ⟨some 23, _, _, _, _, _⟩) (v := ?vz1) rfl (by kernel_rfl) (by kernel_rfl) (by kernel_rfl) (fun _ _ _ h => h) (Or.inl ⟨by rfl, ?yz1⟩) hHeld ?rz1
          case yz1 => (intro w' hSw; (try dsimp only at hSw); go_simp; try (with_reducible rfl))
          simp only [Act.put, List.setIfInBounds_toArray, List.set_cons_zero, List.set_cons_succ]
          refine wpAnyH_take (i := 2) (oi := ⟨some 24, _, _, _, _, _⟩) (v := ?vz2) rfl (by kernel_rfl) (by kernel_rfl) (by kernel_rfl) (fun _ _ _ h => h) (Or.inl ⟨by rfl, ?yz2⟩) hHeld ?rz2
          case yz2 => (intro w' hSw; (try dsimp only at hSw); go_simp; try (with_reducible rfl))
          simp only [Act.put, List.setIfInBounds_toArray, List.set_cons_zero, List.set_cons_succ]
          refine wpAnyH_take (i := 3) (oi := ⟨some 25, _, _, _, _, _⟩) (v := ?vz3) rfl (by kernel_rfl) (by kernel_rfl) (by kernel_rfl) (fun _ _ _ h => h) (Or.inl ⟨by rfl, ?yz3⟩) hHeld ?rz3
          case yz3 => (intro w' hSw; (try dsimp only at hSw); go_simp; try (with_reducible rfl))
          simp only [Act.put, List.setIfInBounds_toArray, List.set_cons_zero, List.set_cons_succ]
          refine wpAnyH_take (i := 4) (oi := ⟨some 26, _, _, _, _, _⟩) (v := ?vz4) rfl (by kernel_rfl) (by kernel_rfl) (by kernel_rfl) (fun _ _ _ h => h) (Or.inl ⟨by rfl, ?yz4⟩) hHeld ?rz4
          case yz4 => (intro w' hSw; (try dsimp only at hSw); go_simp; try (with_reducible rfl))
          simp only [Act.put, List.setIfInBounds_toArray, List.set_cons_zero, List.set_cons_succ]
          refine wpAnyH_take (i := 5) (oi := ⟨some 27, _, _, _, _, _⟩) (v := ?vz5) rfl (by kernel_rfl) (by kernel_rfl) (by kernel_rfl) (fun _ _ _ h => h) (Or.inl ⟨by rfl, ?yz5⟩) hHeld ?rz5
          case yz5 => (intro w' hSw; (try dsimp only at hSw); go_simp; try (with_reducible rfl))
          simp only [Act.put, List.setIfInBounds_toArray, List.set_cons_zero, List.set_cons_succ]
          refine wpAnyH_take (i := 6) (oi := ⟨some 28, _, _, _, _, _⟩) (v := ?vz6) rfl (by kernel_rfl) (by kernel_rfl) (by kernel_rfl) (fun _ _ _ h => h) (Or.inl ⟨by rfl, ?yz6⟩) hHeld ?rz6
          case yz6 => (intro w' hSw; (try dsimp only at hSw); go_simp; try (with_reducible rfl))
          simp only [Act.put, List.setIfInBounds_toArray, List.set_cons_zero, List.set_cons_succ]
          refine wpAnyH_take (i := 7) (oi := ⟨some 29, _, _, _, _, _⟩) (v := ?vz7) rfl (by kernel_rfl) (by kernel_rfl) (by kernel_rfl) (fun _ _ _ h => h) (Or.inl ⟨by rfl, ?yz7⟩) hHeld ?rz7
          case yz7 => (intro w' hSw; (try dsimp only at hSw); go_simp; try (with_reducible rfl))
          simp only [Act.put, List.setIfInBounds_toArray, List.set_cons_zero, List.set_cons_succ]
          refine wpAnyH_take (i := 8) (oi := ⟨some 30, _, _, _, _, _⟩) (v := ?vz8) rfl (by kernel_rfl) (by kernel_rfl) (by kernel_rfl) (fun _ _ _ h => h) (Or.inl ⟨by rfl, ?yz8⟩) hHeld ?rz8
          case yz8 => (intro w' hSw; (try dsimp only at hSw); go_simp; try (with_reducible rfl))
          simp only [Act.put, List.setIfInBounds_toArray, List.set_cons_zero, List.set_cons_succ]
          refine wpAnyH_ready (rs := [9]) (by kernel_rfl) (by simp) ?_
          refine AllReadyH.cons (o := ⟨some 31, _, _, _, _, _⟩) rfl (fun K hK => ?_) AllReadyH.nil
          go_simp
          (with_reducible refine (rless_s s t x y _ hxs hys HS.out HTT.out _ rfl).mono ?_)
          rintro e wq ⟨vq, rfl, OQ, hbq⟩
          (try dsimp only)
          have OR := own_on OR0 hbq
          have SQ := (own_PlT OQ).src
          have BQ : Below wi.heap.size wi wq := Z0.trans (hbq.mono Z0.size)
          have hzq := BQ.size
          refine hK.out _ _ ⟨BQ, on_some BQ cx, on_some BQ HCY.out⟩ (fun hNext => ?_)
          clear hK K hHeld
          have hHeld := hNext
          clear hNext
          try simp only [Act.put, List.setIfInBounds_toArray, List.set_cons_zero, List.set_cons_succ]
          refine wpAnyH_ready (rs := [10]) (by kernel_rfl) (by simp) ?_
          refine AllReadyH.cons (o := ⟨some 32, _, _, _, _, _⟩) rfl (fun K hK => ?_) AllReadyH.nil
          refine step_app _ rfl (.tmp 22) (.tmp 31) 26 rfl wi.heap.size 9 is _ 1 16 Try.underlying26 his hs0 hs1 hs2 rfl (by decide) _ _ _ rfl OR _ (lessC x y).length (strs (lessC x y)) rfl SQ (by unfold maxLen; omega) (by omega) hzq ?_
          intro v4 w4 O4 hg4
          have B4 := BQ.grown hg4 hzq (fun j hj => (OR.lt j hj).1)
          refine hK.out _ _ ⟨B4, on_some B4 cx, on_some B4 HCY.out⟩ (fun hNext => ?_)
          clear hK K hHeld
          have hHeld := hNext
          clear hNext
          try simp only [Act.put, List.setIfInBounds_toArray, List.set_cons_zero, List.set_cons_succ]
          refine wpAnyH_take (i := 11) (oi := ⟨some 7, _, _, _, _, _⟩) (v := ?vz11) rfl (by kernel_rfl) (by kernel_rfl) (by kernel_rfl) (fun _ _ _ h => h) (Or.inl ⟨by rfl, ?yz11⟩) hHeld ?rz11
          case yz11 => (intro w' hSw; (try dsimp only at hSw); go_simp; try (with_reducible rfl))
          simp only [Act.put, List.setIfInBounds_toArray, List.set_cons_zero, List.set_cons_succ]
          refine wpAnyH_done (by kernel_rfl) ?_ _
          have B5 := hHeld.1
          clear hHeld OQ OR OR0 SQ BQ hzq hbq Z0 hg4 czx czy
          go_wp2
          go_roundg (cur.length - (k + 1))
          case measure => omega
          case rel => exact ⟨k + 1, by omega, rfl, by go_num, B5, by rw [HM.out, strs_append, List.length_append]; exact O4⟩
        · have hltz2 : ¬ (k : Int) < (cur.length : Int) := by omega
          obtain rfl : k = cur.length := by omega
          rw [List.take_length] at O
          have W1 := HW.out.trans (Z.mono HW.out.size)
          have hcon := rlean_c _ (offL cur y) wr (by omega) (offL_snd HL.out.2.1) (own_PlT O)
          clear O Z
          go_wp2_with fail
          refine hcon.mono ?_
          rintro e w2 ⟨v2, rfl, O2, hb2⟩
          have W2 := W1.trans (hb2.mono W1.size)
          have PT := own_PlT O2
          obtain ⟨E, cE, rfl, _⟩ := own_form O2
          clear hcon W1 hb2 O2
          by_cases h200 : (leanS (offL cur y)).length ≤ 200
          · have h200z : ¬ (200 : Int) < ((leanS (offL cur y)).length : Int) := by omega
            have HN : Hid (LeftIs A B (i + 1) (leanS (offL cur y))) := ⟨h200, leanS_snd _, by rw [HL.out.2.2, HT.out, if_pos h200]⟩
            have HP := Lib.hid PT
            clear PT HT HL
            go_wp2
            go_roundg (B.length - (i + 1))
            case measure => omega
            case rel => exact ⟨i + 1, by omega, rfl, by go_num, _, HN, W2, _, _, rfl, HP⟩
          · have h200z : (200 : Int) < ((leanS (offL cur y)).length : Int) := by omega
            have HN : Hid (lessL A B = none) := by show _ = _; rw [HL.out.2.2, HT.out, if_neg h200]
            clear PT HT HL
            go_wp2
            go_ret2
            exact ⟨(fun R hR => by rw [HN.out] at hR; cases hR), fun _ => ⟨rfl, W2⟩⟩
    · have hltz : ¬ (i : Int) < (B.length : Int) := by omega
      obtain rfl : i = B.length := by omega
      have HN : Hid (lessL A B = some cur) := by show _ = _; rw [HL.out.2.2, List.drop_length, lessL]
      clear HL
      go_wp2
      go_ret2
      exact ⟨fun R hR => by rw [HN.out] at hR; injection hR with hR; subst hR; exact ⟨_, rfl, HD.out, W⟩, fun hn => by rw [HN.out] at hn; cases hn⟩
end Go.Proofs
