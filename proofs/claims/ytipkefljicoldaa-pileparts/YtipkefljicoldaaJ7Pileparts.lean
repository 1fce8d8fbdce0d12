/-
  customhouselaw03.PileParts returns true for every input, and each argument reads behind the call as before. No conditions.
  The walk of customhouselaw03.PileParts: it returns true. Conditions as each theorem lists them.
-/
import Derived.Test.YtipkefljicoldaaJ6
import Derived.Deep.RegionHeld3
import Derived.Test.YtipkefljicoldaaRows
import Derived.Below
namespace Go.Proofs
open Go.RowKit Go.Proofs.Hd Go.Lib
attribute [local go_sem] uv_nonneg
set_option maxHeartbeats 2000000 in
set_option maxRecDepth 100000 in
theorem pparts_bad (A1 A2 : Option Addr) (c1 c2 : Nat) (A B : List Cb) (hh hl : BitVec 64) (w : World) (hA : A.length ≤ 30) (hB : B.length ≤ 30) (ha : Pl w (.slice A1 A.length c1) A) (hb : Pl w (.slice A2 B.length c2) B) (x y : Bool) (hx : anyHas A hh hl = x) (hy : anyHas B hh hl = y) (h : (sndL A && sndL B) = false) :
    Calls Try.prog 6 #[.slice A1 A.length c1, .slice A2 B.length c2, .agg #[.int .u64 (uv hh), .int .u64 (uv hl)]] w fun e w' => e = .returned (.bool true) ∧ Below w.heap.size w w' := by
  have hAz : ¬ (30 : Int) < (A.length : Int) := by omega
  have hBz : ¬ (30 : Int) < (B.length : Int) := by omega
  have b0 := below1 w (.cells #[.int .u64 (uv hh), .int .u64 (uv hl)] 25)
  have N0 : Blk (w.alloc (.cells #[.int .u64 (uv hh), .int .u64 (uv hl)] 25)) w.heap.size 25 #[.int .u64 (uv hh), .int .u64 (uv hl)] := Blk.new w _ _
  have PA := ha.on b0
  have PB := hb.on b0
  have HX := Lib.hid hx
  have HY := Lib.hid hy
  have Hh := Lib.hid h
  clear ha hb hx hy h
  go_enter Try.func6, Try.ntmps6
  go_wp2_with fail
  refine (awake3_c _).mono ?_
  rintro e w1 ⟨rfl, hb⟩
  replace N0 := N0.on hb
  replace PA := PA.on hb
  replace PB := PB.on hb
  have L := b0.trans (hb.mono b0.size)
  clear b0 hb
  have hcon := pjoin_bad _ _ A B w1 PA PB Hh.out
  go_wp2_with fail
  refine hcon.mono ?_
  rintro e w2 ⟨rfl, hb⟩
  replace N0 := N0.on hb
  replace PA := PA.on hb
  replace PB := PB.on hb
  replace L := L.trans (hb.mono L.size)
  clear hcon hb
  have hcon := pmeet_bad _ _ A B w2 PA PB Hh.out
  go_wp2_with fail
  refine hcon.mono ?_
  rintro e w3 ⟨rfl, hb⟩
  replace N0 := N0.on hb
  replace PA := PA.on hb
  replace PB := PB.on hb
  replace L := L.trans (hb.mono L.size)
  clear hcon hb
  have hcon := pless_bad _ _ A B w3 PA PB Hh.out
  go_wp2_with fail
  refine hcon.mono ?_
  rintro e w4 ⟨rfl, hb⟩
  replace N0 := N0.on hb
  replace PA := PA.on hb
  replace PB := PB.on hb
  replace L := L.trans (hb.mono L.size)
  clear hcon hb
  go_wp2_with fail
  have n0 := N0.cell 0
  have n1 := N0.cell 1
  have HPA := Lib.hid PA
  have HPB := Lib.hid PB
  clear PA PB
  go_region_held3 (fun w' => Below w4.heap.size w4 w' ∧ w'.cell? ⟨w.heap.size, 0, none⟩ = some (.int .u64 (uv hh)) ∧ w'.cell? ⟨w.heap.size, 1, none⟩ = some (.int .u64 (uv hl)))
    (first
      | exact hold2 (by assumption) (by assumption)
      | exact ⟨(Below.refl _ _).drew, n0, n1⟩)
    (first
      | (go_at_call 13; (with_reducible refine (phas_c x _ A hh hl _ HX.out (HPA.out.on (And.left (by assumption)))).mono ?_); rintro e w' ⟨rfl, hb⟩)
      | (go_at_call 13; (with_reducible refine (phas_c y _ B hh hl _ HY.out (HPB.out.on (And.left (by assumption)))).mono ?_); rintro e w' ⟨rfl, hb⟩))
  rename_i hS
  obtain ⟨BW, n0', n1'⟩ := hS
  replace L := L.trans (BW.mono L.size)
  have N1 := N0.on BW
  clear hb HX HY HPA HPB n0 n1 n0' n1' N0 BW 
  cases x <;> cases y
  all_goals
    have n0 := N1.cell 0
    have n1 := N1.cell 1
    go_wp2
    go_ret
    exact ⟨rfl, L⟩
set_option maxHeartbeats 2000000 in
set_option maxRecDepth 100000 in
theorem pparts_tt (A1 A2 : Option Addr) (c1 c2 : Nat) (A B : List Cb) (hh hl : BitVec 64) (w : World) (hA : A.length ≤ 30) (hB : B.length ≤ 30) (ha : Pl w (.slice A1 A.length c1) A) (hb : Pl w (.slice A2 B.length c2) B) (x y : Bool) (hx : anyHas A hh hl = x) (hy : anyHas B hh hl = y) (h1 : sndL A = true) (h2 : sndL B = true) (J : List Cb) (hJ : capL (leanS (A ++ B)) = some J) (M : List Cb) (hM : capL (leanS (metL A B)) = some M) (R : List Cb) (hR : lessL A B = some R) :
    Calls Try.prog 6 #[.slice A1 A.length c1, .slice A2 B.length c2, .agg #[.int .u64 (uv hh), .int .u64 (uv hl)]] w fun e w' => e = .returned (.bool true) ∧ Below w.heap.size w w' := by
  have hAz : ¬ (30 : Int) < (A.length : Int) := by omega
  have hBz : ¬ (30 : Int) < (B.length : Int) := by omega
  have b0 := below1 w (.cells #[.int .u64 (uv hh), .int .u64 (uv hl)] 25)
  have N0 : Blk (w.alloc (.cells #[.int .u64 (uv hh), .int .u64 (uv hl)] 25)) w.heap.size 25 #[.int .u64 (uv hh), .int .u64 (uv hl)] := Blk.new w _ _
  have PA := ha.on b0
  have PB := hb.on b0
  have HX := Lib.hid hx
  have HY := Lib.hid hy
  have sA := sndL_all h1
  have sB := sndL_all h2
  have HJ : Hid (anyHas J hh hl = (x || y)) := by show _ = _; rw [joined_has sA sB hJ, hx, hy]
  have HM : Hid (anyHas M hh hl = (x && y)) := by show _ = _; rw [meeting_has sA sB hM, hx, hy]
  have HR : Hid (anyHas R hh hl = (x && !y)) := by show _ = _; rw [lessL_has hh hl sB sA hR, hx, hy]
  have H1 := Lib.hid h1
  have H2 := Lib.hid h2
  have HJo := Lib.hid hJ
  have HMo := Lib.hid hM
  have HRo := Lib.hid hR
  clear ha hb hx hy h1 h2 hJ hM hR sA sB
  go_enter Try.func6, Try.ntmps6
  go_wp2_with fail
  refine (awake3_c _).mono ?_
  rintro e w1 ⟨rfl, hb⟩
  replace N0 := N0.on hb
  replace PA := PA.on hb
  replace PB := PB.on hb
  have L := b0.trans (hb.mono b0.size)
  clear b0 hb
  have hcon := (pjoin_any _ _ A B w1 PA PB H1.out H2.out).mono fun e w' h => h.1 _ HJo.out
  go_wp2_with fail
  refine hcon.mono ?_
  rintro e w2 ⟨vj, rfl, Oj, hb⟩
  have Pj := own_Pl Oj
  clear Oj
  replace N0 := N0.on hb
  replace PA := PA.on hb
  replace PB := PB.on hb
  replace L := L.trans (hb.mono L.size)
  clear hcon hb
  have hcon := (pmeet_any _ _ A B w2 PA PB H1.out H2.out).mono fun e w' h => h.1 _ HMo.out
  go_wp2_with fail
  refine hcon.mono ?_
  rintro e w3 ⟨vm, rfl, Om, hb⟩
  replace Pj := Pj.on hb
  have Pm := own_Pl Om
  clear Om
  replace N0 := N0.on hb
  replace PA := PA.on hb
  replace PB := PB.on hb
  replace L := L.trans (hb.mono L.size)
  clear hcon hb
  have hcon := (pless_any _ _ A B w3 PA PB H1.out H2.out).mono fun e w' h => h.1 _ HRo.out
  go_wp2_with fail
  refine hcon.mono ?_
  rintro e w4 ⟨vl, rfl, Ol, hb⟩
  replace Pj := Pj.on hb
  replace Pm := Pm.on hb
  have Pl := own_Pl Ol
  clear Ol
  replace N0 := N0.on hb
  replace PA := PA.on hb
  replace PB := PB.on hb
  replace L := L.trans (hb.mono L.size)
  clear hcon hb
  go_wp2_with fail
  have n0 := N0.cell 0
  have n1 := N0.cell 1
  have HPA := Lib.hid PA
  have HPB := Lib.hid PB
  have HPj := Lib.hid Pj
  have HPm := Lib.hid Pm
  have HPl := Lib.hid Pl
  clear PA PB Pj Pm Pl
  go_region_held3 (fun w' => Below w4.heap.size w4 w' ∧ w'.cell? ⟨w.heap.size, 0, none⟩ = some (.int .u64 (uv hh)) ∧ w'.cell? ⟨w.heap.size, 1, none⟩ = some (.int .u64 (uv hl)))
    (first
      | exact hold2 (by assumption) (by assumption)
      | exact ⟨(Below.refl _ _).drew, n0, n1⟩)
    (first
      | (go_at_call 13; (with_reducible refine (phas_c x _ A hh hl _ HX.out (HPA.out.on (And.left (by assumption)))).mono ?_); rintro e w' ⟨rfl, hb⟩)
      | (go_at_call 13; (with_reducible refine (phas_c y _ B hh hl _ HY.out (HPB.out.on (And.left (by assumption)))).mono ?_); rintro e w' ⟨rfl, hb⟩))
  rename_i hS
  obtain ⟨BW, n0', n1'⟩ := hS
  replace L := L.trans (BW.mono L.size)
  have N1 := N0.on BW
  have Pj := HPj.out.on BW
  have Pm := HPm.out.on BW
  have Pl := HPl.out.on BW
  clear hb HX HY HPA HPB n0 n1 n0' n1' N0 BW HPj HPm HPl
  cases x <;> cases y
  all_goals
    have n0 := N1.cell 0
    have n1 := N1.cell 1
    go_wp2_with fail
    (with_reducible refine (phas_c _ _ J hh hl _ HJ.out Pj).mono ?_)
    rintro e wn ⟨rfl, hb⟩
    replace Pj := Pj.on hb
    replace Pm := Pm.on hb
    replace Pl := Pl.on hb
    replace N1 := N1.on hb
    replace L := L.trans (hb.mono L.size)
    clear hb n0 n1
    have n0 := N1.cell 0
    have n1 := N1.cell 1
    go_wp2_with fail
    (with_reducible refine (phas_c _ _ M hh hl _ HM.out Pm).mono ?_)
    rintro e wn ⟨rfl, hb⟩
    replace Pj := Pj.on hb
    replace Pm := Pm.on hb
    replace Pl := Pl.on hb
    replace N1 := N1.on hb
    replace L := L.trans (hb.mono L.size)
    clear hb n0 n1
    have n0 := N1.cell 0
    have n1 := N1.cell 1
    go_wp2_with fail
    (with_reducible refine (phas_c _ _ R hh hl _ HR.out Pl).mono ?_)
    rintro e wn ⟨rfl, hb⟩
    replace Pj := Pj.on hb
    replace Pm := Pm.on hb
    replace Pl := Pl.on hb
    replace N1 := N1.on hb
    replace L := L.trans (hb.mono L.size)
    clear hb n0 n1
    have n0 := N1.cell 0
    have n1 := N1.cell 1
    go_wp2
    go_ret
    exact ⟨rfl, L⟩
set_option maxHeartbeats 2000000 in
set_option maxRecDepth 100000 in
theorem pparts_tf (A1 A2 : Option Addr) (c1 c2 : Nat) (A B : List Cb) (hh hl : BitVec 64) (w : World) (hA : A.length ≤ 30) (hB : B.length ≤ 30) (ha : Pl w (.slice A1 A.length c1) A) (hb : Pl w (.slice A2 B.length c2) B) (x y : Bool) (hx : anyHas A hh hl = x) (hy : anyHas B hh hl = y) (h1 : sndL A = true) (h2 : sndL B = true) (J : List Cb) (hJ : capL (leanS (A ++ B)) = some J) (M : List Cb) (hM : capL (leanS (metL A B)) = some M) (hR : lessL A B = none) :
    Calls Try.prog 6 #[.slice A1 A.length c1, .slice A2 B.length c2, .agg #[.int .u64 (uv hh), .int .u64 (uv hl)]] w fun e w' => e = .returned (.bool true) ∧ Below w.heap.size w w' := by
  have hAz : ¬ (30 : Int) < (A.length : Int) := by omega
  have hBz : ¬ (30 : Int) < (B.length : Int) := by omega
  have b0 := below1 w (.cells #[.int .u64 (uv hh), .int .u64 (uv hl)] 25)
  have N0 : Blk (w.alloc (.cells #[.int .u64 (uv hh), .int .u64 (uv hl)] 25)) w.heap.size 25 #[.int .u64 (uv hh), .int .u64 (uv hl)] := Blk.new w _ _
  have PA := ha.on b0
  have PB := hb.on b0
  have HX := Lib.hid hx
  have HY := Lib.hid hy
  have sA := sndL_all h1
  have sB := sndL_all h2
  have HJ : Hid (anyHas J hh hl = (x || y)) := by show _ = _; rw [joined_has sA sB hJ, hx, hy]
  have HM : Hid (anyHas M hh hl = (x && y)) := by show _ = _; rw [meeting_has sA sB hM, hx, hy]
  have H1 := Lib.hid h1
  have H2 := Lib.hid h2
  have HJo := Lib.hid hJ
  have HMo := Lib.hid hM
  have HRo := Lib.hid hR
  clear ha hb hx hy h1 h2 hJ hM hR sA sB
  go_enter Try.func6, Try.ntmps6
  go_wp2_with fail
  refine (awake3_c _).mono ?_
  rintro e w1 ⟨rfl, hb⟩
  replace N0 := N0.on hb
  replace PA := PA.on hb
  replace PB := PB.on hb
  have L := b0.trans (hb.mono b0.size)
  clear b0 hb
  have hcon := (pjoin_any _ _ A B w1 PA PB H1.out H2.out).mono fun e w' h => h.1 _ HJo.out
  go_wp2_with fail
  refine hcon.mono ?_
  rintro e w2 ⟨vj, rfl, Oj, hb⟩
  have Pj := own_Pl Oj
  clear Oj
  replace N0 := N0.on hb
  replace PA := PA.on hb
  replace PB := PB.on hb
  replace L := L.trans (hb.mono L.size)
  clear hcon hb
  have hcon := (pmeet_any _ _ A B w2 PA PB H1.out H2.out).mono fun e w' h => h.1 _ HMo.out
  go_wp2_with fail
  refine hcon.mono ?_
  rintro e w3 ⟨vm, rfl, Om, hb⟩
  replace Pj := Pj.on hb
  have Pm := own_Pl Om
  clear Om
  replace N0 := N0.on hb
  replace PA := PA.on hb
  replace PB := PB.on hb
  replace L := L.trans (hb.mono L.size)
  clear hcon hb
  have hcon := (pless_any _ _ A B w3 PA PB H1.out H2.out).mono fun e w' h => h.2 HRo.out
  go_wp2_with fail
  refine hcon.mono ?_
  rintro e w4 ⟨rfl, hb⟩
  replace Pj := Pj.on hb
  replace Pm := Pm.on hb
  replace N0 := N0.on hb
  replace PA := PA.on hb
  replace PB := PB.on hb
  replace L := L.trans (hb.mono L.size)
  clear hcon hb
  go_wp2_with fail
  have n0 := N0.cell 0
  have n1 := N0.cell 1
  have HPA := Lib.hid PA
  have HPB := Lib.hid PB
  have HPj := Lib.hid Pj
  have HPm := Lib.hid Pm
  clear PA PB Pj Pm
  go_region_held3 (fun w' => Below w4.heap.size w4 w' ∧ w'.cell? ⟨w.heap.size, 0, none⟩ = some (.int .u64 (uv hh)) ∧ w'.cell? ⟨w.heap.size, 1, none⟩ = some (.int .u64 (uv hl)))
    (first
      | exact hold2 (by assumption) (by assumption)
      | exact ⟨(Below.refl _ _).drew, n0, n1⟩)
    (first
      | (go_at_call 13; (with_reducible refine (phas_c x _ A hh hl _ HX.out (HPA.out.on (And.left (by assumption)))).mono ?_); rintro e w' ⟨rfl, hb⟩)
      | (go_at_call 13; (with_reducible refine (phas_c y _ B hh hl _ HY.out (HPB.out.on (And.left (by assumption)))).mono ?_); rintro e w' ⟨rfl, hb⟩))
  rename_i hS
  obtain ⟨BW, n0', n1'⟩ := hS
  replace L := L.trans (BW.mono L.size)
  have N1 := N0.on BW
  have Pj := HPj.out.on BW
  have Pm := HPm.out.on BW
  clear hb HX HY HPA HPB n0 n1 n0' n1' N0 BW HPj HPm
  cases x <;> cases y
  all_goals
    have n0 := N1.cell 0
    have n1 := N1.cell 1
    go_wp2_with fail
    (with_reducible refine (phas_c _ _ J hh hl _ HJ.out Pj).mono ?_)
    rintro e wn ⟨rfl, hb⟩
    replace Pj := Pj.on hb
    replace Pm := Pm.on hb
    replace N1 := N1.on hb
    replace L := L.trans (hb.mono L.size)
    clear hb n0 n1
    have n0 := N1.cell 0
    have n1 := N1.cell 1
    go_wp2_with fail
    (with_reducible refine (phas_c _ _ M hh hl _ HM.out Pm).mono ?_)
    rintro e wn ⟨rfl, hb⟩
    replace Pj := Pj.on hb
    replace Pm := Pm.on hb
    replace N1 := N1.on hb
    replace L := L.trans (hb.mono L.size)
    clear hb n0 n1
    have n0 := N1.cell 0
    have n1 := N1.cell 1
    go_wp2
    go_ret
    exact ⟨rfl, L⟩
set_option maxHeartbeats 2000000 in
set_option maxRecDepth 100000 in
theorem pparts_ft (A1 A2 : Option Addr) (c1 c2 : Nat) (A B : List Cb) (hh hl : BitVec 64) (w : World) (hA : A.length ≤ 30) (hB : B.length ≤ 30) (ha : Pl w (.slice A1 A.length c1) A) (hb : Pl w (.slice A2 B.length c2) B) (x y : Bool) (hx : anyHas A hh hl = x) (hy : anyHas B hh hl = y) (h1 : sndL A = true) (h2 : sndL B = true) (J : List Cb) (hJ : capL (leanS (A ++ B)) = some J) (hM : capL (leanS (metL A B)) = none) (R : List Cb) (hR : lessL A B = some R) :
    Calls Try.prog 6 #[.slice A1 A.length c1, .slice A2 B.length c2, .agg #[.int .u64 (uv hh), .int .u64 (uv hl)]] w fun e w' => e = .returned (.bool true) ∧ Below w.heap.size w w' := by
  have hAz : ¬ (30 : Int) < (A.length : Int) := by omega
  have hBz : ¬ (30 : Int) < (B.length : Int) := by omega
  have b0 := below1 w (.cells #[.int .u64 (uv hh), .int .u64 (uv hl)] 25)
  have N0 : Blk (w.alloc (.cells #[.int .u64 (uv hh), .int .u64 (uv hl)] 25)) w.heap.size 25 #[.int .u64 (uv hh), .int .u64 (uv hl)] := Blk.new w _ _
  have PA := ha.on b0
  have PB := hb.on b0
  have HX := Lib.hid hx
  have HY := Lib.hid hy
  have sA := sndL_all h1
  have sB := sndL_all h2
  have HJ : Hid (anyHas J hh hl = (x || y)) := by show _ = _; rw [joined_has sA sB hJ, hx, hy]
  have HR : Hid (anyHas R hh hl = (x && !y)) := by show _ = _; rw [lessL_has hh hl sB sA hR, hx, hy]
  have H1 := Lib.hid h1
  have H2 := Lib.hid h2
  have HJo := Lib.hid hJ
  have HMo := Lib.hid hM
  have HRo := Lib.hid hR
  clear ha hb hx hy h1 h2 hJ hM hR sA sB
  go_enter Try.func6, Try.ntmps6
  go_wp2_with fail
  refine (awake3_c _).mono ?_
  rintro e w1 ⟨rfl, hb⟩
  replace N0 := N0.on hb
  replace PA := PA.on hb
  replace PB := PB.on hb
  have L := b0.trans (hb.mono b0.size)
  clear b0 hb
  have hcon := (pjoin_any _ _ A B w1 PA PB H1.out H2.out).mono fun e w' h => h.1 _ HJo.out
  go_wp2_with fail
  refine hcon.mono ?_
  rintro e w2 ⟨vj, rfl, Oj, hb⟩
  have Pj := own_Pl Oj
  clear Oj
  replace N0 := N0.on hb
  replace PA := PA.on hb
  replace PB := PB.on hb
  replace L := L.trans (hb.mono L.size)
  clear hcon hb
  have hcon := (pmeet_any _ _ A B w2 PA PB H1.out H2.out).mono fun e w' h => h.2 HMo.out
  go_wp2_with fail
  refine hcon.mono ?_
  rintro e w3 ⟨rfl, hb⟩
  replace Pj := Pj.on hb
  replace N0 := N0.on hb
  replace PA := PA.on hb
  replace PB := PB.on hb
  replace L := L.trans (hb.mono L.size)
  clear hcon hb
  have hcon := (pless_any _ _ A B w3 PA PB H1.out H2.out).mono fun e w' h => h.1 _ HRo.out
  go_wp2_with fail
  refine hcon.mono ?_
  rintro e w4 ⟨vl, rfl, Ol, hb⟩
  replace Pj := Pj.on hb
  have Pl := own_Pl Ol
  clear Ol
  replace N0 := N0.on hb
  replace PA := PA.on hb
  replace PB := PB.on hb
  replace L := L.trans (hb.mono L.size)
  clear hcon hb
  go_wp2_with fail
  have n0 := N0.cell 0
  have n1 := N0.cell 1
  have HPA := Lib.hid PA
  have HPB := Lib.hid PB
  have HPj := Lib.hid Pj
  have HPl := Lib.hid Pl
  clear PA PB Pj Pl
  go_region_held3 (fun w' => Below w4.heap.size w4 w' ∧ w'.cell? ⟨w.heap.size, 0, none⟩ = some (.int .u64 (uv hh)) ∧ w'.cell? ⟨w.heap.size, 1, none⟩ = some (.int .u64 (uv hl)))
    (first
      | exact hold2 (by assumption) (by assumption)
      | exact ⟨(Below.refl _ _).drew, n0, n1⟩)
    (first
      | (go_at_call 13; (with_reducible refine (phas_c x _ A hh hl _ HX.out (HPA.out.on (And.left (by assumption)))).mono ?_); rintro e w' ⟨rfl, hb⟩)
      | (go_at_call 13; (with_reducible refine (phas_c y _ B hh hl _ HY.out (HPB.out.on (And.left (by assumption)))).mono ?_); rintro e w' ⟨rfl, hb⟩))
  rename_i hS
  obtain ⟨BW, n0', n1'⟩ := hS
  replace L := L.trans (BW.mono L.size)
  have N1 := N0.on BW
  have Pj := HPj.out.on BW
  have Pl := HPl.out.on BW
  clear hb HX HY HPA HPB n0 n1 n0' n1' N0 BW HPj HPl
  cases x <;> cases y
  all_goals
    have n0 := N1.cell 0
    have n1 := N1.cell 1
    go_wp2_with fail
    (with_reducible refine (phas_c _ _ J hh hl _ HJ.out Pj).mono ?_)
    rintro e wn ⟨rfl, hb⟩
    replace Pj := Pj.on hb
    replace Pl := Pl.on hb
    replace N1 := N1.on hb
    replace L := L.trans (hb.mono L.size)
    clear hb n0 n1
    have n0 := N1.cell 0
    have n1 := N1.cell 1
    go_wp2_with fail
    (with_reducible refine (phas_c _ _ R hh hl _ HR.out Pl).mono ?_)
    rintro e wn ⟨rfl, hb⟩
    replace Pj := Pj.on hb
    replace Pl := Pl.on hb
    replace N1 := N1.on hb
    replace L := L.trans (hb.mono L.size)
    clear hb n0 n1
    have n0 := N1.cell 0
    have n1 := N1.cell 1
    go_wp2
    go_ret
    exact ⟨rfl, L⟩
set_option maxHeartbeats 2000000 in
set_option maxRecDepth 100000 in
theorem pparts_ff (A1 A2 : Option Addr) (c1 c2 : Nat) (A B : List Cb) (hh hl : BitVec 64) (w : World) (hA : A.length ≤ 30) (hB : B.length ≤ 30) (ha : Pl w (.slice A1 A.length c1) A) (hb : Pl w (.slice A2 B.length c2) B) (x y : Bool) (hx : anyHas A hh hl = x) (hy : anyHas B hh hl = y) (h1 : sndL A = true) (h2 : sndL B = true) (J : List Cb) (hJ : capL (leanS (A ++ B)) = some J) (hM : capL (leanS (metL A B)) = none) (hR : lessL A B = none) :
    Calls Try.prog 6 #[.slice A1 A.length c1, .slice A2 B.length c2, .agg #[.int .u64 (uv hh), .int .u64 (uv hl)]] w fun e w' => e = .returned (.bool true) ∧ Below w.heap.size w w' := by
  have hAz : ¬ (30 : Int) < (A.length : Int) := by omega
  have hBz : ¬ (30 : Int) < (B.length : Int) := by omega
  have b0 := below1 w (.cells #[.int .u64 (uv hh), .int .u64 (uv hl)] 25)
  have N0 : Blk (w.alloc (.cells #[.int .u64 (uv hh), .int .u64 (uv hl)] 25)) w.heap.size 25 #[.int .u64 (uv hh), .int .u64 (uv hl)] := Blk.new w _ _
  have PA := ha.on b0
  have PB := hb.on b0
  have HX := Lib.hid hx
  have HY := Lib.hid hy
  have sA := sndL_all h1
  have sB := sndL_all h2
  have HJ : Hid (anyHas J hh hl = (x || y)) := by show _ = _; rw [joined_has sA sB hJ, hx, hy]
  have H1 := Lib.hid h1
  have H2 := Lib.hid h2
  have HJo := Lib.hid hJ
  have HMo := Lib.hid hM
  have HRo := Lib.hid hR
  clear ha hb hx hy h1 h2 hJ hM hR sA sB
  go_enter Try.func6, Try.ntmps6
  go_wp2_with fail
  refine (awake3_c _).mono ?_
  rintro e w1 ⟨rfl, hb⟩
  replace N0 := N0.on hb
  replace PA := PA.on hb
  replace PB := PB.on hb
  have L := b0.trans (hb.mono b0.size)
  clear b0 hb
  have hcon := (pjoin_any _ _ A B w1 PA PB H1.out H2.out).mono fun e w' h => h.1 _ HJo.out
  go_wp2_with fail
  refine hcon.mono ?_
  rintro e w2 ⟨vj, rfl, Oj, hb⟩
  have Pj := own_Pl Oj
  clear Oj
  replace N0 := N0.on hb
  replace PA := PA.on hb
  replace PB := PB.on hb
  replace L := L.trans (hb.mono L.size)
  clear hcon hb
  have hcon := (pmeet_any _ _ A B w2 PA PB H1.out H2.out).mono fun e w' h => h.2 HMo.out
  go_wp2_with fail
  refine hcon.mono ?_
  rintro e w3 ⟨rfl, hb⟩
  replace Pj := Pj.on hb
  replace N0 := N0.on hb
  replace PA := PA.on hb
  replace PB := PB.on hb
  replace L := L.trans (hb.mono L.size)
  clear hcon hb
  have hcon := (pless_any _ _ A B w3 PA PB H1.out H2.out).mono fun e w' h => h.2 HRo.out
  go_wp2_with fail
  refine hcon.mono ?_
  rintro e w4 ⟨rfl, hb⟩
  replace Pj := Pj.on hb
  replace N0 := N0.on hb
  replace PA := PA.on hb
  replace PB := PB.on hb
  replace L := L.trans (hb.mono L.size)
  clear hcon hb
  go_wp2_with fail
  have n0 := N0.cell 0
  have n1 := N0.cell 1
  have HPA := Lib.hid PA
  have HPB := Lib.hid PB
  have HPj := Lib.hid Pj
  clear PA PB Pj
  go_region_held3 (fun w' => Below w4.heap.size w4 w' ∧ w'.cell? ⟨w.heap.size, 0, none⟩ = some (.int .u64 (uv hh)) ∧ w'.cell? ⟨w.heap.size, 1, none⟩ = some (.int .u64 (uv hl)))
    (first
      | exact hold2 (by assumption) (by assumption)
      | exact ⟨(Below.refl _ _).drew, n0, n1⟩)
    (first
      | (go_at_call 13; (with_reducible refine (phas_c x _ A hh hl _ HX.out (HPA.out.on (And.left (by assumption)))).mono ?_); rintro e w' ⟨rfl, hb⟩)
      | (go_at_call 13; (with_reducible refine (phas_c y _ B hh hl _ HY.out (HPB.out.on (And.left (by assumption)))).mono ?_); rintro e w' ⟨rfl, hb⟩))
  rename_i hS
  obtain ⟨BW, n0', n1'⟩ := hS
  replace L := L.trans (BW.mono L.size)
  have N1 := N0.on BW
  have Pj := HPj.out.on BW
  clear hb HX HY HPA HPB n0 n1 n0' n1' N0 BW HPj
  cases x <;> cases y
  all_goals
    have n0 := N1.cell 0
    have n1 := N1.cell 1
    go_wp2_with fail
    (with_reducible refine (phas_c _ _ J hh hl _ HJ.out Pj).mono ?_)
    rintro e wn ⟨rfl, hb⟩
    replace Pj := Pj.on hb
    replace N1 := N1.on hb
    replace L := L.trans (hb.mono L.size)
    clear hb n0 n1
    have n0 := N1.cell 0
    have n1 := N1.cell 1
    go_wp2
    go_ret
    exact ⟨rfl, L⟩
set_option maxHeartbeats 2000000 in
set_option maxRecDepth 100000 in
theorem pparts_long1 (A1 A2 : Option Addr) (c1 c2 : Nat) (A B : List Cb) (hh hl : BitVec 64) (w : World) (hA : 30 < A.length) :
    Calls Try.prog 6 #[.slice A1 A.length c1, .slice A2 B.length c2, .agg #[.int .u64 (uv hh), .int .u64 (uv hl)]] w fun e w' => e = .returned (.bool true) ∧ Below w.heap.size w w' := by
  have hAz : (30 : Int) < (A.length : Int) := by omega
  have L := below1 w (.cells #[.int .u64 (uv hh), .int .u64 (uv hl)] 25)
  go_enter Try.func6, Try.ntmps6
  go_wp2_with fail
  refine (awake3_c _).mono ?_
  rintro e w1 ⟨rfl, hb⟩
  replace L := L.trans (hb.mono L.size)
  clear hb
  go_wp2_with fail
  refine (awake3_c _).mono ?_
  rintro e w2 ⟨rfl, hb⟩
  replace L := L.trans (hb.mono L.size)
  clear hb
  go_wp2
  go_ret
  exact ⟨rfl, L⟩
set_option maxHeartbeats 2000000 in
set_option maxRecDepth 100000 in
theorem pparts_long2 (A1 A2 : Option Addr) (c1 c2 : Nat) (A B : List Cb) (hh hl : BitVec 64) (w : World) (hA : A.length ≤ 30) (hB : 30 < B.length) :
    Calls Try.prog 6 #[.slice A1 A.length c1, .slice A2 B.length c2, .agg #[.int .u64 (uv hh), .int .u64 (uv hl)]] w fun e w' => e = .returned (.bool true) ∧ Below w.heap.size w w' := by
  have hAz : ¬ (30 : Int) < (A.length : Int) := by omega
  have hBz : (30 : Int) < (B.length : Int) := by omega
  have L := below1 w (.cells #[.int .u64 (uv hh), .int .u64 (uv hl)] 25)
  go_enter Try.func6, Try.ntmps6
  go_wp2_with fail
  refine (awake3_c _).mono ?_
  rintro e w1 ⟨rfl, hb⟩
  replace L := L.trans (hb.mono L.size)
  clear hb
  go_wp2_with fail
  refine (awake3_c _).mono ?_
  rintro e w2 ⟨rfl, hb⟩
  replace L := L.trans (hb.mono L.size)
  clear hb
  go_wp2
  go_ret
  exact ⟨rfl, L⟩
theorem pparts_c (A1 A2 : Option Addr) (c1 c2 : Nat) (A B : List Cb) (hh hl : BitVec 64) (w : World) (ha : Pl w (.slice A1 A.length c1) A) (hb : Pl w (.slice A2 B.length c2) B) :
    Calls Try.prog 6 #[.slice A1 A.length c1, .slice A2 B.length c2, .agg #[.int .u64 (uv hh), .int .u64 (uv hl)]] w fun e w' => e = .returned (.bool true) ∧ Below w.heap.size w w' := by
  by_cases hA : 30 < A.length
  · exact pparts_long1 A1 A2 c1 c2 A B hh hl w hA
  by_cases hB : 30 < B.length
  · exact pparts_long2 A1 A2 c1 c2 A B hh hl w (by omega) hB
  cases hs : sndL A && sndL B with
  | false => exact pparts_bad A1 A2 c1 c2 A B hh hl w (by omega) (by omega) ha hb _ _ rfl rfl hs
  | true =>
    rw [Bool.and_eq_true] at hs
    have hJ : capL (leanS (A ++ B)) = some (leanS (A ++ B)) := by
      unfold capL
      rw [if_pos]
      have := leanS_le (A ++ B)
      rw [List.length_append] at this
      omega
    cases hM : capL (leanS (metL A B)) with
    | none =>
      cases hR : lessL A B with
      | none => exact pparts_ff A1 A2 c1 c2 A B hh hl w (by omega) (by omega) ha hb _ _ rfl rfl hs.1 hs.2 _ hJ hM hR
      | some R => exact pparts_ft A1 A2 c1 c2 A B hh hl w (by omega) (by omega) ha hb _ _ rfl rfl hs.1 hs.2 _ hJ hM R hR
    | some M =>
      cases hR : lessL A B with
      | none => exact pparts_tf A1 A2 c1 c2 A B hh hl w (by omega) (by omega) ha hb _ _ rfl rfl hs.1 hs.2 _ hJ M hM hR
      | some R => exact pparts_tt A1 A2 c1 c2 A B hh hl w (by omega) (by omega) ha hb _ _ rfl rfl hs.1 hs.2 _ hJ M hM R hR
end Go.Proofs

namespace Go.Proofs.Ytipkefljicoldaa
open Go.ChangeShapes Go.WideShapes Go.ChangeAt Go.RowKit Go.Joins Go.Proofs.Hd

theorem laidOut_pparts : laidOutB Try.prog = true := by kernel_rfl
set_option maxRecDepth 100000 in
theorem pparts_lifted (os : Os) (started : os.Started) (H : Type) (enc : TypeId × Value → H) :
    ReturnsInHanded {} Try.checked os 6 .any (Rows.pilePartsSpec.pre6 enc Try.prog Try.f6 Rows.pilePartsRow.domain false) (Rows.pilePartsSpec.post enc Try.prog Try.f6 false true false false) := by
  refine returnsInHanded_of_change (C := Try.checked) own started (by kernel_rfl) Try.func6
    (ChangeSpec.witness6 (enc := enc) (C := Try.checked) false ⟨#[], #[.slice none 0 0, .slice none 0 0, .agg #[.int .u64 0, .int .u64 0]], []⟩ 8 (by kernel_rfl) (by kernel_rfl) (by kernel_rfl) (by kernel_rfl)) ?_
  intro W base args ds gs before hval0 hW hcnd _
  have hval : ∀ (j : Nat) t v, Try.f6.params[j]? = some t → args[j]? = some v → Value.okWide Try.prog W .any base t v := hval0
  have hW' := hW
  obtain ⟨p, q, hA0, hV, rfl, hfz, hnd⟩ := hW
  have hA : DataW.TrodAll enc Try.prog W 0 (fun _ => true) true Try.f6.params.toList args.toList ds p := hA0
  rw [Try.params6] at hA hval
  obtain ⟨v0, vs0, d0, ds0, p0, q0, hargs, rfl, rfl, h0, r0⟩ := trodAll_cons hA
  obtain ⟨v1, vs1, d1, ds1, p1, q1, rfl, rfl, rfl, h1, r1⟩ := trodAll_cons r0
  obtain ⟨v2, vs2, d2, ds2, p2, q2, rfl, rfl, rfl, h2, r2⟩ := trodAll_cons r1
  obtain ⟨rfl, rfl, rfl⟩ := trodAll_nil r2
  obtain rfl : args = #[v0, v1, v2] := by cases args; simp_all
  obtain ⟨rfl, rfl⟩ := trodVars_none hV
  have k0 := h0
  have lt0 : ∀ x ∈ p0, x.block < W.heap.size := by obtain ⟨m, hm⟩ := k0; exact DataW.trod_lt m _ _ _ hm
  obtain ⟨aA, ac, aL, rfl, la, ma, pa⟩ := open_pl (hval 0 22 v0 rfl rfl) h0
  have k1 := h1
  have lt1 : ∀ x ∈ p1, x.block < W.heap.size := by obtain ⟨m, hm⟩ := k1; exact DataW.trod_lt m _ _ _ hm
  obtain ⟨bA, bc, bL, rfl, lb, mb, pb⟩ := open_pl (hval 1 22 v1 rfl rfl) h1
  obtain ⟨hh, hl, rfl, rfl, rfl, s2⟩ := open_head (hval 2 25 v2 rfl rfl) h2
  clear hA0 hval0
  refine (pparts_c aA bA ac bc aL bL hh hl W pa pb).mono fun e W' ⟨he, hg⟩ => ?_
  subst he
  exact ⟨_, rfl, _, _, _, [], _, [], hW', trodAll_mk1 (shut_bool Try.underlying4 _), (trodAll_cons_mk (Below.trod laidOut_pparts (by kernel_rfl) (of_decide_eq_true (by kernel_rfl)) k0 hg lt0) (trodAll_cons_mk (Below.trod laidOut_pparts (by kernel_rfl) (of_decide_eq_true (by kernel_rfl)) k1 hg lt1) (trodAll_cons_mk (s2 _ _) trodAll_mk0))), rfl, hg.frame _, (fun h => by cases h)⟩

theorem pparts_holds : Rows.PilePartsSaid :=
  OpenClaim.holds_of_wide 6 Try.f6 rfl rfl rfl rfl rfl rfl rfl ⟨rfl, rfl, rfl, rfl, rfl⟩ rfl rfl rfl rfl rfl (by kernel_rfl) Try.func6 (by kernel_rfl)
    (of_decide_eq_true (by kernel_rfl)) (by unfold Func.isWrapper; first | (rw [if_pos (by decide +kernel)]; kernel_rfl) | (rw [if_neg (by decide +kernel)]; exact ⟨rfl, rfl⟩))
    (fun os started H enc _ => pparts_lifted os started H enc)
#print axioms pparts_holds
end Go.Proofs.Ytipkefljicoldaa
