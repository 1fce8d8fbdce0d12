/-
  The law TriePlays, where the cube that is asked for is not sound. Conditions as each theorem lists them.
-/
import Derived.Test.YtgoieipchhamgaaJ11Trieplays
namespace Go.Proofs
open Go.RowKit Go.Proofs.Hd Go.Lib
attribute [local go_sem] uv_nonneg
set_option maxRecDepth 100000 in
set_option maxHeartbeats 32000000 in
theorem trplays_f (v : Value) (L : List Sp6) (hh hl : BitVec 64) (c : Cb) (w : World) (hs : c.snd = false) (hv : St w v L) :
    Calls Try.prog 3 #[v, .agg #[.int .u64 (uv hh), .int .u64 (uv hl)], .agg #[.int .u64 (uv c.vh), .int .u64 (uv c.vl), .int .u64 (uv c.ch), .int .u64 (uv c.cl)]] w fun e w' => e = .returned (.bool true) ∧ Below w.heap.size w w' := by
  obtain ⟨ii, hii, hiz0, hiz1, hiz2⟩ := info_parts infoItem
  have hb0 := below2 w (.cells #[.int .u64 (uv hh), .int .u64 (uv hl)] 25) (.cells #[.int .u64 (uv c.vh), .int .u64 (uv c.vl), .int .u64 (uv c.ch), .int .u64 (uv c.cl)] 27)
  have HBW := Lib.hid hb0
  have HH : Hid (Blk ((w.alloc (.cells #[.int .u64 (uv hh), .int .u64 (uv hl)] 25)).alloc (.cells #[.int .u64 (uv c.vh), .int .u64 (uv c.vl), .int .u64 (uv c.ch), .int .u64 (uv c.cl)] 27)) w.heap.size 25 #[.int .u64 (uv hh), .int .u64 (uv hl)]) := (Blk.new w _ _).on (below1 _ _)
  have HC : Hid (Blk ((w.alloc (.cells #[.int .u64 (uv hh), .int .u64 (uv hl)] 25)).alloc (.cells #[.int .u64 (uv c.vh), .int .u64 (uv c.vl), .int .u64 (uv c.ch), .int .u64 (uv c.cl)] 27)) (w.heap.size + 1) 27 #[.int .u64 (uv c.vh), .int .u64 (uv c.vl), .int .u64 (uv c.ch), .int .u64 (uv c.cl)]) := by
    have h := Blk.new (w.alloc (.cells #[.int .u64 (uv hh), .int .u64 (uv hl)] 25)) 27 #[.int .u64 (uv c.vh), .int .u64 (uv c.vl), .int .u64 (uv c.ch), .int .u64 (uv c.cl)]
    show Blk _ _ _ _
    simpa using h
  obtain ⟨A, cap, rfl, hml, hwfs, hst⟩ := hv.on hb0
  have HST := Lib.hid hst
  have HWF := Lib.hid hwfs
  clear hb0 hv hst hwfs
  obtain ⟨n, hn⟩ : ∃ n, L.length = n := ⟨_, rfl⟩
  rw [hn] at hml ⊢
  have hnz : (n : Int) ≤ 9223372036854775807 := by unfold maxLen at hml; omega
  have HN := Lib.hid hn
  have HSND := Lib.hid hs
  clear hn hml hs
  go_enter Try.func3, Try.ntmps3
  go_upto_region 1 with (fail)
  generalize ((w.alloc (.cells #[.int .u64 (uv hh), .int .u64 (uv hl)] 25)).alloc (.cells #[.int .u64 (uv c.vh), .int .u64 (uv c.vl), .int .u64 (uv c.ch), .int .u64 (uv c.cl)] 27)) = wb at HBW HH HC HST ⊢
  generalize w.heap.size + 1 = bc at HC ⊢
  generalize w.heap.size = bh at HH ⊢
  go_wp2_with fail
  (with_reducible refine (new_c wb).mono ?_)
  rintro e w1 ⟨B, rfl, hT1, hB1, hb1⟩
  obtain ⟨S0, hS0⟩ : ∃ S : Nat → Prop, S = fun y => y = B := ⟨_, rfl⟩
  have HT1 : Hid (One wb.heap.size w1 B [] S0) := by
    subst hS0
    exact ⟨hT1, fun y hy => by have : y = B := hy; omega⟩
  have H1 := Lib.hid hb1
  clear hT1 hB1 hb1 hS0
  go_wp2_with fail
  (with_reducible refine (awake12_c w1).mono ?_)
  rintro e w2 ⟨rfl, hb4⟩
  have HT2 := Lib.hid (HT1.out.on hb4)
  have HB2 := Lib.hid (H1.out.trans (hb4.mono H1.out.size))
  clear hb4 HT1 H1
  go_upto_region 4 with (fail)
  have hb3 := below1 w2 (.cells #[] 37)
  have HR3 : Hid (Lr wb.heap.size (w2.alloc (.cells #[] 37)) (.slice (some ⟨w2.heap.size, 0, none⟩) 0 0) []) := World.ownsRow_made w2 #[] 0 HB2.out.size (Nat.zero_le _) rfl
  have HT3 := Lib.hid (HT2.out.on hb3)
  have HB3 := Lib.hid (HB2.out.trans (hb3.mono HB2.out.size))
  clear hb3 HT2 HB2
  go_upto_region 5 with (fail)
  generalize (w2.alloc (.cells #[] 37)) = w3 at HR3 HT3 HB3 ⊢
  generalize w2.heap.size = bl at HR3 ⊢
  have h0 := ((HH.out.on HB3.out).cell 0).trans rfl
  have h1 := ((HH.out.on HB3.out).cell 1).trans rfl
  simp only [List.getElem?_toArray, List.getElem?_cons_succ, List.getElem?_cons_zero] at h0 h1
  have hcall : Calls Try.prog 9 #[.agg #[.int .u64 (uv hh), .int .u64 (uv hl), .int .u64 18446744073709551615, .int .u64 18446744073709551615]] w3 fun e w' => e = .returned (.tuple #[.string (txt (oneC hh hl)), .bool true]) ∧ Below w3.heap.size w3 w' := by
    have h := text_yes (oneC hh hl) w3 (oneC_snd hh hl)
    rw [show (oneC hh hl).ch = BitVec.allOnes 64 from rfl, show (oneC hh hl).cl = BitVec.allOnes 64 from rfl, uv_ones] at h
    exact h
  go_wp2_with fail
  (with_reducible refine hcall.mono ?_)
  rintro e w4 ⟨rfl, hb⟩
  obtain ⟨s1, hs1⟩ : ∃ s1, txt (oneC hh hl) = s1 := ⟨_, rfl⟩
  rw [hs1]
  have HS1 := Lib.hid hs1
  have HR4 := Lib.hid (HR3.out.on hb)
  have HT4 := Lib.hid (HT3.out.on hb)
  have HB4 := Lib.hid (HB3.out.trans (hb.mono HB3.out.size))
  clear hb hcall HR3 HT3 HB3 h0 h1 hs1
  have x0 := ((HC.out.on HB4.out).cell 0).trans rfl
  have x1 := ((HC.out.on HB4.out).cell 1).trans rfl
  have x2 := ((HC.out.on HB4.out).cell 2).trans rfl
  have x3 := ((HC.out.on HB4.out).cell 3).trans rfl
  simp only [List.getElem?_toArray, List.getElem?_cons_succ, List.getElem?_cons_zero] at x0 x1 x2 x3
  go_wp2_with fail
  (with_reducible refine (text_no c _ HSND.out).mono ?_)
  rintro e w5 ⟨rfl, hb⟩
  have HS2 := HSND
  have HR5 := Lib.hid (HR4.out.on hb)
  have HT5 := Lib.hid (HT4.out.on hb)
  have HB5 := Lib.hid (HB4.out.trans (hb.mono HB4.out.size))
  clear hb HR4 HT4 HB4 x0 x1 x2 x3
  go_wp2
  go_loopg [8, 13, 14, 15, 16, 17, 18, 19, 20] 41 (fun gk s8 s13 s14 s15 s16 s17 s18 s19 s20 wr => ∃ (k : Nat) (l : List (Int × Cb)) (S : Nat → Prop) (lv : Value), gk + k = 41 ∧ k ≤ 40 ∧ s8 = lv ∧ s13 = .int .i64 k ∧ (∃ x, s14 = x) ∧ (∃ x, s15 = x) ∧ (∃ x, s16 = x) ∧ (∃ x, s17 = x) ∧ (∃ x, s18 = x) ∧ (∃ x, s19 = x) ∧ (∃ x, s20 = x) ∧ Hid (Below wb.heap.size wb wr) ∧ Hid (Lr wb.heap.size wr lv l) ∧ Hid (One wb.heap.size wr B l S) ∧ Hid (l.length ≤ k))
  case atStart => exact ⟨0, [], S0, _, by omega, by omega, rfl, rfl, ⟨_, rfl⟩, ⟨_, rfl⟩, ⟨_, rfl⟩, ⟨_, rfl⟩, ⟨_, rfl⟩, ⟨_, rfl⟩, ⟨_, rfl⟩, HB5, HR5, HT5, Nat.le_refl _⟩
  case round =>
    clear HR5 HT5 HB5
    obtain ⟨k, l, S, lv, hgk, hk40, rfl, rfl, ⟨y14, rfl⟩, ⟨y15, rfl⟩, ⟨y16, rfl⟩, ⟨y17, rfl⟩, ⟨y18, rfl⟩, ⟨y19, rfl⟩, ⟨y20, rfl⟩, HB, HR, HT, HLK0⟩ := hrel
    by_cases hlt : k < n
    · have hltz : (k : Int) < (n : Int) := by omega
      by_cases h40 : k < 40
      · have h40z : (k : Int) < 40 := by omega
        obtain ⟨r, hr⟩ : ∃ r, L[k]? = some r := ⟨_, List.getElem?_eq_getElem (by have := HN.out; omega)⟩
        have hwf := HWF.out r (List.mem_of_getElem? hr)
        obtain ⟨b, off, rfl, _, hpc⟩ : ∃ b o, A = some ⟨b, o, none⟩ ∧ b < wb.heap.size ∧ ∀ (k : Nat) (r : Sp6), L[k]? = some r → ∀ (j : Nat) (u : Value), r.cs[j]? = some u → wb.cell? ⟨b, o + k * 6 + j, none⟩ = some u := by
          rcases HST.out with h | h
          · rw [h] at hr; simp at hr
          · exact h
        obtain ⟨what, id, e⟩ := r
        dsimp only at hwf
        have z0 := on_some HB.out (hpc k _ hr 0 _ rfl)
        have z1 := on_some HB.out (hpc k _ hr 1 _ rfl)
        have z2 := on_some HB.out (hpc k _ hr 2 _ rfl)
        have z3 := on_some HB.out (hpc k _ hr 3 _ rfl)
        have z4 := on_some HB.out (hpc k _ hr 4 _ rfl)
        have z5 := on_some HB.out (hpc k _ hr 5 _ rfl)
        rw [Nat.add_zero] at z0
        clear hpc hr
        go_upto_region 11 with (fail)
        have hb := below1 wr (.cells #[.int .i64 what, .int .i64 id, .int .u64 (uv e.vh), .int .u64 (uv e.vl), .int .u64 (uv e.ch), .int .u64 (uv e.cl)] 35)
        have HX : Hid (Blk (wr.alloc (.cells #[.int .i64 what, .int .i64 id, .int .u64 (uv e.vh), .int .u64 (uv e.vl), .int .u64 (uv e.ch), .int .u64 (uv e.cl)] 35)) wr.heap.size 35 #[.int .i64 what, .int .i64 id, .int .u64 (uv e.vh), .int .u64 (uv e.vl), .int .u64 (uv e.ch), .int .u64 (uv e.cl)]) := Blk.new wr _ _
        clear z0 z1 z2 z3 z4 z5
        have hB := Lib.hid (HB.out.trans (hb.mono HB.out.size))
        have hR := Lib.hid (HR.out.on hb)
        have hT := Lib.hid (HT.out.on hb)
        clear hb HB HR HT 
        have HB := hB
        have HR := hR
        have HT := hT
        clear hB hR hT
        generalize (wr.alloc (.cells #[.int .i64 what, .int .i64 id, .int .u64 (uv e.vh), .int .u64 (uv e.vl), .int .u64 (uv e.ch), .int .u64 (uv e.cl)] 35)) = w3 at HB HR HT HX ⊢
        generalize wr.heap.size = bx at HX ⊢
        obtain ⟨Ar, cr, hlv⟩ := own_slT HR.out
        subst hlv
        have HTK0 := Lib.hid HT.out.at_.tok
        obtain ⟨m, hm⟩ : ∃ m, l.length = m := ⟨_, rfl⟩
        have HM := Lib.hid hm
        have hm40 : m ≤ 40 := by have := HLK0.out; omega
        have hmz : (m : Int) ≤ 40 := by omega
        have HRm : Hid (Lr wb.heap.size w3 (.slice Ar m cr) l) := by rw [← hm]; exact HR.out
        rw [hm]
        clear hm HR
        go_wp2
        go_loopg [15, 16] m (fun gk2 s15 s16 wr => ∃ (j : Nat) (a : Int), gk2 + j = m ∧ s15 = .int .i64 a ∧ s16 = .int .i64 j ∧ Hid (Below w3.heap.size w3 wr) ∧ Hid (LastT l id j a))
        case atStart => exact ⟨0, -1, by omega, rfl, rfl, Below.refl _ _, LastT.zero l id⟩
        case round =>
          obtain ⟨j, a, hgj, rfl, rfl, HBj, HLA⟩ := hrel
          by_cases hjm : j < m
          · have hjmz : (j : Int) < (m : Int) := by omega
            obtain ⟨⟨y, d⟩, hy⟩ : ∃ p, l[j]? = some p := ⟨_, List.getElem?_eq_getElem (by have := HM.out; omega)⟩
            obtain ⟨_, _, _, g, rfl, _, hcc⟩ := HRm.out.get hy
            have d1 := on_some HBj.out (hcc j y d hy).1
            have d2 := ((HX.out.on HBj.out).cell 1).trans rfl
            simp only [List.getElem?_toArray, List.getElem?_cons_succ, List.getElem?_cons_zero] at d2
            have HY := Lib.hid hy
            clear hcc hy
            by_cases hyi : y = id
            · have hd : (y == id) = true := by rw [hyi]; exact beq_self_eq_true _
              have HLA2 : Hid (LastT l id (j + 1) (j : Int)) := by have h := HY.out; rw [hyi] at h; exact LastT.yes h
              clear hyi
              go_wp2_with fail
              go_quiet (fail)
              have HB2 := Lib.hid (bdn HBj.out nq)
              clear d1 d2 HBj HLA
              generalize wr.drewN nq = w4 at HB2 ⊢
              go_wp2
              go_roundg (m - (j + 1))
              case measure => omega
              case rel => exact ⟨j + 1, (j : Int), by omega, rfl, by go_num, HB2, HLA2⟩
            · have hd : (y == id) = false := by simpa using hyi
              have HLA2 : Hid (LastT l id (j + 1) a) := HLA.out.no HY.out hyi
              clear hyi
              go_wp2_with fail
              go_quiet (fail)
              have HB2 := Lib.hid (bdn HBj.out nq)
              clear d1 d2 HBj HLA
              generalize wr.drewN nq = w4 at HB2 ⊢
              go_wp2
              go_roundg (m - (j + 1))
              case measure => omega
              case rel => exact ⟨j + 1, a, by omega, rfl, by go_num, HB2, HLA2⟩
          · have hjmz : ¬ (j : Int) < (m : Int) := by omega
            obtain rfl : j = m := by omega
            obtain ⟨w4, hw4⟩ : ∃ w4, w4 = wr := ⟨_, rfl⟩
            subst hw4
            have hb := HBj.out
            have hX := Lib.hid (HX.out.on hb)
            have HR : Hid (Lr wb.heap.size w3 (.slice Ar j cr) l) := HRm
            clear HX HRm HBj
            have HX := hX
            clear hX
            have hB := Lib.hid (HB.out.trans (hb.mono HB.out.size))
            have hR := Lib.hid (HR.out.on hb)
            have hT := Lib.hid (HT.out.on hb)
            clear hb HB HR HT 
            have HB := hB
            have HR := hR
            have HT := hT
            clear hB hR hT
            obtain ⟨lv, hlv⟩ : ∃ lv, Value.slice Ar j cr = lv := ⟨_, rfl⟩
            have hla := HLA.out
            have HM2 := HM
            clear HLA
            rcases hla with ⟨rfl, hno⟩ | ⟨ka, ce, rfl, hka, hkc⟩
            · have HNO0 : Hid (id ∉ tIds l) := by
                have h := hno
                rw [List.take_of_length_le (by have := HM.out; omega)] at h
                exact h
              clear hno hlv
              by_cases hw0 : what = 0
              · have hw0b : (what == 0) = true := by rw [hw0]; rfl
                clear hw0
                have x0 := (HX.out.cell 0).trans rfl
                have x1 := (HX.out.cell 1).trans rfl
                have x2 := (HX.out.cell 2).trans rfl
                have x3 := (HX.out.cell 3).trans rfl
                have x4 := (HX.out.cell 4).trans rfl
                have x5 := (HX.out.cell 5).trans rfl
                simp only [List.getElem?_toArray, List.getElem?_cons_succ, List.getElem?_cons_zero] at x0 x1 x2 x3 x4 x5
                cases hes : e.snd with
                | true =>
                  have HES := Lib.hid hes
                  clear hes
                  go_wp2_with fail
                  (with_reducible refine (text_yes e _ HES.out).mono ?_)
                  rintro e0 w5 ⟨rfl, hb⟩
                  have hX := Lib.hid (HX.out.on hb)
                  clear HX x0 x1 x2 x3 x4 x5
                  have HX := hX
                  clear hX
                  have hB := Lib.hid (HB.out.trans (hb.mono HB.out.size))
                  have hR := Lib.hid (HR.out.on hb)
                  have hT := Lib.hid (HT.out.on hb)
                  clear hb HB HR HT 
                  have HB := hB
                  have HR := hR
                  have HT := hT
                  clear hB hR hT
                  obtain ⟨se, hse⟩ : ∃ se, txt e = se := ⟨_, rfl⟩
                  rw [hse]
                  have HSE := Lib.hid hse
                  clear hse
                  by_cases hneg : id < 0
                  · have HNEG := Lib.hid hneg
                    have hcall := add_c id e B l S w5 hwf (by have := HLK0.out; omega) HT.out.at_
                    rw [addE_neg HNEG.out, addT_no (by rw [addE_neg HNEG.out]; omega)] at hcall
                    have x0 := (HX.out.cell 0).trans rfl
                    have x1 := (HX.out.cell 1).trans rfl
                    have x2 := (HX.out.cell 2).trans rfl
                    have x3 := (HX.out.cell 3).trans rfl
                    have x4 := (HX.out.cell 4).trans rfl
                    have x5 := (HX.out.cell 5).trans rfl
                    simp only [List.getElem?_toArray, List.getElem?_cons_succ, List.getElem?_cons_zero] at x0 x1 x2 x3 x4 x5
                    go_wp2_with fail
                    (with_reducible refine hcall.mono ?_)
                    rintro e0 wp ⟨Sp, rfl, q1, q2, q3⟩
                    have hR := Lib.hid (HR.out.trie HT.out.at_ q3)
                    obtain ⟨hT, hb⟩ := HT.out.step HB.out.size q1 q2 q3
                    have hTT := Lib.hid hT
                    have hB := Lib.hid (HB.out.trans hb)
                    clear q1 q2 q3 hT hb hcall HB HR HT x0 x1 x2 x3 x4 x5 HX
                    have HB := hB
                    have HR := hR
                    have HT := hTT
                    clear hB hR hTT
                    obtain ⟨l', hl'⟩ : ∃ l', l = l' := ⟨_, rfl⟩
                    rw [hl'] at HR HT HLK0
                    have HLK : Hid (l'.length ≤ k + 1) := Nat.le_succ_of_le HLK0.out
                    have HLJ : Hid (l'.length = j) := by rw [← hl']; exact HM.out
                    clear hl' hneg HLK0
                    have HTK := Lib.hid HT.out.at_.tok
                    have HLB : Hid (l'.length ≤ 1000) := by have := HLK.out; show l'.length ≤ _; omega
                    have hb := below1 wp (.cells #[] 3)
                    have hO0 := World.ownsRow_made (base := wp.heap.size) (e := 3) (size := 1) wp #[] 0 (Nat.le_refl _) (Nat.zero_le _) rfl
                    have HN0 : Hid (Nm (wp.alloc (.cells #[] 3)) (.slice (some ⟨wp.heap.size, 0, none⟩) 0 0) []) := own_Nm (L := []) hO0
                    clear hO0
                    have hB := Lib.hid (HB.out.trans (hb.mono HB.out.size))
                    have hR := Lib.hid (HR.out.on hb)
                    have hT := Lib.hid (HT.out.on hb)
                    clear hb HB HR HT 
                    have HB := hB
                    have HR := hR
                    have HT := hT
                    clear hB hR hT
                    go_upto_region 36 with (fail)
                    generalize (wp.alloc (.cells #[] 3)) = wt at HB HR HT HN0 ⊢
                    generalize hvo : Value.slice (some ⟨wp.heap.size, 0, none⟩) 0 0 = vo at HN0 ⊢
                    clear hvo
                    have HNO : Hid (Nm wt vo (ovS l' c)) := by show Nm _ _ _; rw [ovS_no HS2.out]; exact HN0.out
                    clear HN0
                    have hcall := len_c B l' _ wt HT.out.at_
                    have hneq : ((l'.length : Int) != (j : Int)) = false := by rw [HLJ.out]; simp
                    have h0 := ((HH.out.on HB.out).cell 0).trans rfl
                    have h1 := ((HH.out.on HB.out).cell 1).trans rfl
                    simp only [List.getElem?_toArray, List.getElem?_cons_succ, List.getElem?_cons_zero] at h0 h1
                    go_wp2_with fail
                    (with_reducible refine hcall.mono ?_)
                    rintro e0 w8 ⟨rfl, rfl⟩
                    clear hcall
                    have hcall := match_c hh hl B l' _ w8 (by have := HLB.out; omega) HT.out.at_
                    go_wp2_with fail
                    (with_reducible refine hcall.mono ?_)
                    rintro e0 w9 ⟨vm, rfl, hvm, hb⟩
                    have HNM := Lib.hid (own_Nm hvm)
                    have hN := Lib.hid (HNO.out.on hb)
                    clear HNO hvm h0 h1 hneq
                    have HNO := hN
                    clear hN
                    have hB := Lib.hid (HB.out.trans (hb.mono HB.out.size))
                    have hR := Lib.hid (HR.out.on hb)
                    have hT := Lib.hid (HT.out.on hb)
                    clear hb HB HR HT hcall
                    have HB := hB
                    have HR := hR
                    have HT := hT
                    clear hB hR hT
                    have hcall := meets_l _ s1 l' (oneC hh hl) w9 HLB.out HTK.out (oneC_snd hh hl) HS1.out HR.out.it
                    go_wp2_with fail
                    (with_reducible refine hcall.mono ?_)
                    rintro e0 w10 ⟨vn, rfl, hvn, hb⟩
                    have hN := Lib.hid (HNO.out.on hb)
                    have hN2 := Lib.hid (HNM.out.on hb)
                    have HNN := Lib.hid hvn
                    clear HNO HNM hvn
                    have HNO := hN
                    have HNM := hN2
                    clear hN hN2
                    have hB := Lib.hid (HB.out.trans (hb.mono HB.out.size))
                    have hR := Lib.hid (HR.out.on hb)
                    have hT := Lib.hid (HT.out.on hb)
                    clear hb HB HR HT hcall
                    have HB := hB
                    have HR := hR
                    have HT := hT
                    clear hB hR hT
                    have hcall := rint_same vm vn _ _ w10 (mtT_one HTK.out hh hl).symm (Nat.le_trans (mtT_le2 _ _ _) (by have := HLB.out; omega)) HNM.out HNN.out
                    go_wp2_with fail
                    (with_reducible refine hcall.mono ?_)
                    rintro e0 w11 ⟨rfl, hb⟩
                    have hN := Lib.hid (HNO.out.on hb)
                    clear HNO HNM HNN
                    have HNO := hN
                    clear hN
                    have hB := Lib.hid (HB.out.trans (hb.mono HB.out.size))
                    have hR := Lib.hid (HR.out.on hb)
                    have hT := Lib.hid (HT.out.on hb)
                    clear hb HB HR HT hcall
                    have HB := hB
                    have HR := hR
                    have HT := hT
                    clear hB hR hT
                    have hcall := ov_c c B l' _ w11 (by have := HLB.out; omega) HT.out.at_
                    have x0 := ((HC.out.on HB.out).cell 0).trans rfl
                    have x1 := ((HC.out.on HB.out).cell 1).trans rfl
                    have x2 := ((HC.out.on HB.out).cell 2).trans rfl
                    have x3 := ((HC.out.on HB.out).cell 3).trans rfl
                    simp only [List.getElem?_toArray, List.getElem?_cons_succ, List.getElem?_cons_zero] at x0 x1 x2 x3
                    go_wp2_with fail
                    (with_reducible refine hcall.mono ?_)
                    rintro e0 w12 ⟨vq, rfl, hvq, hb⟩
                    have HNQ := Lib.hid (own_Nm hvq)
                    have hN := Lib.hid (HNO.out.on hb)
                    clear HNO hvq x0 x1 x2 x3
                    have HNO := hN
                    clear hN
                    have hB := Lib.hid (HB.out.trans (hb.mono HB.out.size))
                    have hR := Lib.hid (HR.out.on hb)
                    have hT := Lib.hid (HT.out.on hb)
                    clear hb HB HR HT hcall
                    have HB := hB
                    have HR := hR
                    have HT := hT
                    clear hB hR hT
                    have hcall := rint_same vq vo _ _ w12 rfl (Nat.le_trans (ovS_len _ _) (by have := HLB.out; omega)) HNQ.out HNO.out
                    go_wp2_with fail
                    (with_reducible refine hcall.mono ?_)
                    rintro e0 w13 ⟨rfl, hb⟩
                    clear HNO HNQ
                    have hB := Lib.hid (HB.out.trans (hb.mono HB.out.size))
                    have hR := Lib.hid (HR.out.on hb)
                    have hT := Lib.hid (HT.out.on hb)
                    clear hb HB HR HT hcall
                    have HB := hB
                    have HR := hR
                    have HT := hT
                    clear hB hR hT
                    clear HTK HLB
                    go_wp2
                    go_roundg (40 - k)
                    case measure => omega
                    case rel => exact ⟨k + 1, _, _, _, by omega, by omega, rfl, by go_num, ⟨_, rfl⟩, ⟨_, rfl⟩, ⟨_, rfl⟩, ⟨_, rfl⟩, ⟨_, rfl⟩, ⟨_, rfl⟩, ⟨_, rfl⟩, HB, HR, HT, HLK⟩
                  · have HNEG := Lib.hid hneg
                    have x0 := (HX.out.cell 0).trans rfl
                    have x1 := (HX.out.cell 1).trans rfl
                    have x2 := (HX.out.cell 2).trans rfl
                    have x3 := (HX.out.cell 3).trans rfl
                    have x4 := (HX.out.cell 4).trans rfl
                    have x5 := (HX.out.cell 5).trans rfl
                    simp only [List.getElem?_toArray, List.getElem?_cons_succ, List.getElem?_cons_zero] at x0 x1 x2 x3 x4 x5
                    go_upto_region 21 with (fail)
                    have hb3 := below1 w5 (.cells #[.int .i64 id, .string se] 37)
                    have SR := src_item (Blk.new w5 37 #[.int .i64 id, .string se])
                    have O3 := HR.out.on hb3
                    have hz3 := (HB.out.trans (hb3.mono HB.out.size)).size
                    have HB3 := Lib.hid (HB.out.trans (hb3.mono HB.out.size))
                    have HT3 := Lib.hid (HT.out.on hb3)
                    have HX3 := Lib.hid (HX.out.on hb3)
                    have hlk := HLK0.out
                    unfold Lr at O3
                    clear hb3 HB HR HT HX x0 x2 x3 x4 x5
                    have x1 := (HX3.out.cell 1).trans rfl
                    simp only [List.getElem?_toArray, List.getElem?_cons_succ, List.getElem?_cons_zero] at x1
                    go_wp2_with (at_builtin; refine wpList_app2 _ rfl (.tmp 80) (.tmp 85) 31 rfl wb.heap.size 37 ii _ 2 24 Try.underlying31 hii hiz0 hiz1 hiz2 rfl (by decide) _ _ _ rfl O3 _ 1 [.int .i64 id, .string se] rfl SR (by unfold maxLen; omega) (by omega) hz3 ?_)
                    intro v6 w6 O6 hg6
                    have HB := Lib.hid (HB3.out.grown hg6.1 hz3 (fun j hj => (O3.lt j hj).1))
                    have HT6 := Lib.hid (HT3.out.row O3 hg6)
                    have HX := Lib.hid (HX3.out.grown hg6.1 (own_apart O3 HX3.out (by decide)))
                    have HR : Hid (Lr wb.heap.size w6 v6 (l ++ [(id, e)])) := by
                      show World.ownsRow _ _ _ _ _ _ _
                      rw [itF_app, List.length_append]
                      show World.ownsRow _ _ _ _ _ _ (itF l ++ [.int .i64 id, .string (txt e)])
                      rw [HSE.out]
                      exact O6
                    clear O3 SR hz3 O6 hg6 HB3 HT3 HX3 hlk x1
                    have HT := HT6
                    clear HT6
                    have hcall := add_c id e B l S w6 hwf (by have := HLK0.out; omega) HT.out.at_
                    rw [addE_ok (by have := HNEG.out; omega) HES.out HNO0.out, addT_ok (addE_ok (by have := HNEG.out; omega) HES.out HNO0.out)] at hcall
                    have x0 := (HX.out.cell 0).trans rfl
                    have x1 := (HX.out.cell 1).trans rfl
                    have x2 := (HX.out.cell 2).trans rfl
                    have x3 := (HX.out.cell 3).trans rfl
                    have x4 := (HX.out.cell 4).trans rfl
                    have x5 := (HX.out.cell 5).trans rfl
                    simp only [List.getElem?_toArray, List.getElem?_cons_succ, List.getElem?_cons_zero] at x0 x1 x2 x3 x4 x5
                    go_wp2_with fail
                    (with_reducible refine hcall.mono ?_)
                    rintro e0 wp ⟨Sp, rfl, q1, q2, q3⟩
                    have hR := Lib.hid (HR.out.trie HT.out.at_ q3)
                    obtain ⟨hT, hb⟩ := HT.out.step HB.out.size q1 q2 q3
                    have hTT := Lib.hid hT
                    have hB := Lib.hid (HB.out.trans hb)
                    clear q1 q2 q3 hT hb hcall HB HR HT x0 x1 x2 x3 x4 x5 HX
                    have HB := hB
                    have HR := hR
                    have HT := hTT
                    clear hB hR hTT
                    obtain ⟨l', hl'⟩ : ∃ l', l ++ [(id, e)] = l' := ⟨_, rfl⟩
                    rw [hl'] at HR HT
                    have HLK : Hid (l'.length ≤ k + 1) := by
                      show l'.length ≤ _
                      rw [← hl', List.length_append]
                      have := HLK0.out
                      simp
                      omega
                    clear hl' hneg HLK0
                    obtain ⟨Ar, cr, hlv⟩ := own_slT HR.out
                    subst hlv
                    have HTK := Lib.hid HT.out.at_.tok
                    have HLB : Hid (l'.length ≤ 1000) := by have := HLK.out; show l'.length ≤ _; omega
                    have hb := below1 wp (.cells #[] 3)
                    have hO0 := World.ownsRow_made (base := wp.heap.size) (e := 3) (size := 1) wp #[] 0 (Nat.le_refl _) (Nat.zero_le _) rfl
                    have HN0 : Hid (Nm (wp.alloc (.cells #[] 3)) (.slice (some ⟨wp.heap.size, 0, none⟩) 0 0) []) := own_Nm (L := []) hO0
                    clear hO0
                    have hB := Lib.hid (HB.out.trans (hb.mono HB.out.size))
                    have hR := Lib.hid (HR.out.on hb)
                    have hT := Lib.hid (HT.out.on hb)
                    clear hb HB HR HT 
                    have HB := hB
                    have HR := hR
                    have HT := hT
                    clear hB hR hT
                    go_upto_region 36 with (fail)
                    generalize (wp.alloc (.cells #[] 3)) = wt at HB HR HT HN0 ⊢
                    generalize hvo : Value.slice (some ⟨wp.heap.size, 0, none⟩) 0 0 = vo at HN0 ⊢
                    clear hvo
                    have HNO : Hid (Nm wt vo (ovS l' c)) := by show Nm _ _ _; rw [ovS_no HS2.out]; exact HN0.out
                    clear HN0
                    have hcall := len_c B l' _ wt HT.out.at_
                    have hneq : ((l'.length : Int) != (l'.length : Int)) = false := by simp
                    have h0 := ((HH.out.on HB.out).cell 0).trans rfl
                    have h1 := ((HH.out.on HB.out).cell 1).trans rfl
                    simp only [List.getElem?_toArray, List.getElem?_cons_succ, List.getElem?_cons_zero] at h0 h1
                    go_wp2_with fail
                    (with_reducible refine hcall.mono ?_)
                    rintro e0 w8 ⟨rfl, rfl⟩
                    clear hcall
                    have hcall := match_c hh hl B l' _ w8 (by have := HLB.out; omega) HT.out.at_
                    go_wp2_with fail
                    (with_reducible refine hcall.mono ?_)
                    rintro e0 w9 ⟨vm, rfl, hvm, hb⟩
                    have HNM := Lib.hid (own_Nm hvm)
                    have hN := Lib.hid (HNO.out.on hb)
                    clear HNO hvm h0 h1 hneq
                    have HNO := hN
                    clear hN
                    have hB := Lib.hid (HB.out.trans (hb.mono HB.out.size))
                    have hR := Lib.hid (HR.out.on hb)
                    have hT := Lib.hid (HT.out.on hb)
                    clear hb HB HR HT hcall
                    have HB := hB
                    have HR := hR
                    have HT := hT
                    clear hB hR hT
                    have hcall := meets_l _ s1 l' (oneC hh hl) w9 HLB.out HTK.out (oneC_snd hh hl) HS1.out HR.out.it
                    go_wp2_with fail
                    (with_reducible refine hcall.mono ?_)
                    rintro e0 w10 ⟨vn, rfl, hvn, hb⟩
                    have hN := Lib.hid (HNO.out.on hb)
                    have hN2 := Lib.hid (HNM.out.on hb)
                    have HNN := Lib.hid hvn
                    clear HNO HNM hvn
                    have HNO := hN
                    have HNM := hN2
                    clear hN hN2
                    have hB := Lib.hid (HB.out.trans (hb.mono HB.out.size))
                    have hR := Lib.hid (HR.out.on hb)
                    have hT := Lib.hid (HT.out.on hb)
                    clear hb HB HR HT hcall
                    have HB := hB
                    have HR := hR
                    have HT := hT
                    clear hB hR hT
                    have hcall := rint_same vm vn _ _ w10 (mtT_one HTK.out hh hl).symm (Nat.le_trans (mtT_le2 _ _ _) (by have := HLB.out; omega)) HNM.out HNN.out
                    go_wp2_with fail
                    (with_reducible refine hcall.mono ?_)
                    rintro e0 w11 ⟨rfl, hb⟩
                    have hN := Lib.hid (HNO.out.on hb)
                    clear HNO HNM HNN
                    have HNO := hN
                    clear hN
                    have hB := Lib.hid (HB.out.trans (hb.mono HB.out.size))
                    have hR := Lib.hid (HR.out.on hb)
                    have hT := Lib.hid (HT.out.on hb)
                    clear hb HB HR HT hcall
                    have HB := hB
                    have HR := hR
                    have HT := hT
                    clear hB hR hT
                    have hcall := ov_c c B l' _ w11 (by have := HLB.out; omega) HT.out.at_
                    have x0 := ((HC.out.on HB.out).cell 0).trans rfl
                    have x1 := ((HC.out.on HB.out).cell 1).trans rfl
                    have x2 := ((HC.out.on HB.out).cell 2).trans rfl
                    have x3 := ((HC.out.on HB.out).cell 3).trans rfl
                    simp only [List.getElem?_toArray, List.getElem?_cons_succ, List.getElem?_cons_zero] at x0 x1 x2 x3
                    go_wp2_with fail
                    (with_reducible refine hcall.mono ?_)
                    rintro e0 w12 ⟨vq, rfl, hvq, hb⟩
                    have HNQ := Lib.hid (own_Nm hvq)
                    have hN := Lib.hid (HNO.out.on hb)
                    clear HNO hvq x0 x1 x2 x3
                    have HNO := hN
                    clear hN
                    have hB := Lib.hid (HB.out.trans (hb.mono HB.out.size))
                    have hR := Lib.hid (HR.out.on hb)
                    have hT := Lib.hid (HT.out.on hb)
                    clear hb HB HR HT hcall
                    have HB := hB
                    have HR := hR
                    have HT := hT
                    clear hB hR hT
                    have hcall := rint_same vq vo _ _ w12 rfl (Nat.le_trans (ovS_len _ _) (by have := HLB.out; omega)) HNQ.out HNO.out
                    go_wp2_with fail
                    (with_reducible refine hcall.mono ?_)
                    rintro e0 w13 ⟨rfl, hb⟩
                    clear HNO HNQ
                    have hB := Lib.hid (HB.out.trans (hb.mono HB.out.size))
                    have hR := Lib.hid (HR.out.on hb)
                    have hT := Lib.hid (HT.out.on hb)
                    clear hb HB HR HT hcall
                    have HB := hB
                    have HR := hR
                    have HT := hT
                    clear hB hR hT
                    clear HTK HLB
                    go_wp2
                    go_roundg (40 - k)
                    case measure => omega
                    case rel => exact ⟨k + 1, _, _, _, by omega, by omega, rfl, by go_num, ⟨_, rfl⟩, ⟨_, rfl⟩, ⟨_, rfl⟩, ⟨_, rfl⟩, ⟨_, rfl⟩, ⟨_, rfl⟩, ⟨_, rfl⟩, HB, HR, HT, HLK⟩
                | false =>
                  have HES := Lib.hid hes
                  clear hes
                  go_wp2_with fail
                  (with_reducible refine (text_no e _ HES.out).mono ?_)
                  rintro e0 w5 ⟨rfl, hb⟩
                  have hX := Lib.hid (HX.out.on hb)
                  clear HX x0 x1 x2 x3 x4 x5
                  have HX := hX
                  clear hX
                  have hB := Lib.hid (HB.out.trans (hb.mono HB.out.size))
                  have hR := Lib.hid (HR.out.on hb)
                  have hT := Lib.hid (HT.out.on hb)
                  clear hb HB HR HT 
                  have HB := hB
                  have HR := hR
                  have HT := hT
                  clear hB hR hT
                  by_cases hneg : id < 0
                  · have HNEG := Lib.hid hneg
                    have hcall := add_c id e B l S w5 hwf (by have := HLK0.out; omega) HT.out.at_
                    rw [addE_neg HNEG.out, addT_no (by rw [addE_neg HNEG.out]; omega)] at hcall
                    have x0 := (HX.out.cell 0).trans rfl
                    have x1 := (HX.out.cell 1).trans rfl
                    have x2 := (HX.out.cell 2).trans rfl
                    have x3 := (HX.out.cell 3).trans rfl
                    have x4 := (HX.out.cell 4).trans rfl
                    have x5 := (HX.out.cell 5).trans rfl
                    simp only [List.getElem?_toArray, List.getElem?_cons_succ, List.getElem?_cons_zero] at x0 x1 x2 x3 x4 x5
                    go_wp2_with fail
                    (with_reducible refine hcall.mono ?_)
                    rintro e0 wp ⟨Sp, rfl, q1, q2, q3⟩
                    have hR := Lib.hid (HR.out.trie HT.out.at_ q3)
                    obtain ⟨hT, hb⟩ := HT.out.step HB.out.size q1 q2 q3
                    have hTT := Lib.hid hT
                    have hB := Lib.hid (HB.out.trans hb)
                    clear q1 q2 q3 hT hb hcall HB HR HT x0 x1 x2 x3 x4 x5 HX
                    have HB := hB
                    have HR := hR
                    have HT := hTT
                    clear hB hR hTT
                    obtain ⟨l', hl'⟩ : ∃ l', l = l' := ⟨_, rfl⟩
                    rw [hl'] at HR HT HLK0
                    have HLK : Hid (l'.length ≤ k + 1) := Nat.le_succ_of_le HLK0.out
                    have HLJ : Hid (l'.length = j) := by rw [← hl']; exact HM.out
                    clear hl' hneg HLK0
                    have HTK := Lib.hid HT.out.at_.tok
                    have HLB : Hid (l'.length ≤ 1000) := by have := HLK.out; show l'.length ≤ _; omega
                    have hb := below1 wp (.cells #[] 3)
                    have hO0 := World.ownsRow_made (base := wp.heap.size) (e := 3) (size := 1) wp #[] 0 (Nat.le_refl _) (Nat.zero_le _) rfl
                    have HN0 : Hid (Nm (wp.alloc (.cells #[] 3)) (.slice (some ⟨wp.heap.size, 0, none⟩) 0 0) []) := own_Nm (L := []) hO0
                    clear hO0
                    have hB := Lib.hid (HB.out.trans (hb.mono HB.out.size))
                    have hR := Lib.hid (HR.out.on hb)
                    have hT := Lib.hid (HT.out.on hb)
                    clear hb HB HR HT 
                    have HB := hB
                    have HR := hR
                    have HT := hT
                    clear hB hR hT
                    go_upto_region 36 with (fail)
                    generalize (wp.alloc (.cells #[] 3)) = wt at HB HR HT HN0 ⊢
                    generalize hvo : Value.slice (some ⟨wp.heap.size, 0, none⟩) 0 0 = vo at HN0 ⊢
                    clear hvo
                    have HNO : Hid (Nm wt vo (ovS l' c)) := by show Nm _ _ _; rw [ovS_no HS2.out]; exact HN0.out
                    clear HN0
                    have hcall := len_c B l' _ wt HT.out.at_
                    have hneq : ((l'.length : Int) != (j : Int)) = false := by rw [HLJ.out]; simp
                    have h0 := ((HH.out.on HB.out).cell 0).trans rfl
                    have h1 := ((HH.out.on HB.out).cell 1).trans rfl
                    simp only [List.getElem?_toArray, List.getElem?_cons_succ, List.getElem?_cons_zero] at h0 h1
                    go_wp2_with fail
                    (with_reducible refine hcall.mono ?_)
                    rintro e0 w8 ⟨rfl, rfl⟩
                    clear hcall
                    have hcall := match_c hh hl B l' _ w8 (by have := HLB.out; omega) HT.out.at_
                    go_wp2_with fail
                    (with_reducible refine hcall.mono ?_)
                    rintro e0 w9 ⟨vm, rfl, hvm, hb⟩
                    have HNM := Lib.hid (own_Nm hvm)
                    have hN := Lib.hid (HNO.out.on hb)
                    clear HNO hvm h0 h1 hneq
                    have HNO := hN
                    clear hN
                    have hB := Lib.hid (HB.out.trans (hb.mono HB.out.size))
                    have hR := Lib.hid (HR.out.on hb)
                    have hT := Lib.hid (HT.out.on hb)
                    clear hb HB HR HT hcall
                    have HB := hB
                    have HR := hR
                    have HT := hT
                    clear hB hR hT
                    have hcall := meets_l _ s1 l' (oneC hh hl) w9 HLB.out HTK.out (oneC_snd hh hl) HS1.out HR.out.it
                    go_wp2_with fail
                    (with_reducible refine hcall.mono ?_)
                    rintro e0 w10 ⟨vn, rfl, hvn, hb⟩
                    have hN := Lib.hid (HNO.out.on hb)
                    have hN2 := Lib.hid (HNM.out.on hb)
                    have HNN := Lib.hid hvn
                    clear HNO HNM hvn
                    have HNO := hN
                    have HNM := hN2
                    clear hN hN2
                    have hB := Lib.hid (HB.out.trans (hb.mono HB.out.size))
                    have hR := Lib.hid (HR.out.on hb)
                    have hT := Lib.hid (HT.out.on hb)
                    clear hb HB HR HT hcall
                    have HB := hB
                    have HR := hR
                    have HT := hT
                    clear hB hR hT
                    have hcall := rint_same vm vn _ _ w10 (mtT_one HTK.out hh hl).symm (Nat.le_trans (mtT_le2 _ _ _) (by have := HLB.out; omega)) HNM.out HNN.out
                    go_wp2_with fail
                    (with_reducible refine hcall.mono ?_)
                    rintro e0 w11 ⟨rfl, hb⟩
                    have hN := Lib.hid (HNO.out.on hb)
                    clear HNO HNM HNN
                    have HNO := hN
                    clear hN
                    have hB := Lib.hid (HB.out.trans (hb.mono HB.out.size))
                    have hR := Lib.hid (HR.out.on hb)
                    have hT := Lib.hid (HT.out.on hb)
                    clear hb HB HR HT hcall
                    have HB := hB
                    have HR := hR
                    have HT := hT
                    clear hB hR hT
                    have hcall := ov_c c B l' _ w11 (by have := HLB.out; omega) HT.out.at_
                    have x0 := ((HC.out.on HB.out).cell 0).trans rfl
                    have x1 := ((HC.out.on HB.out).cell 1).trans rfl
                    have x2 := ((HC.out.on HB.out).cell 2).trans rfl
                    have x3 := ((HC.out.on HB.out).cell 3).trans rfl
                    simp only [List.getElem?_toArray, List.getElem?_cons_succ, List.getElem?_cons_zero] at x0 x1 x2 x3
                    go_wp2_with fail
                    (with_reducible refine hcall.mono ?_)
                    rintro e0 w12 ⟨vq, rfl, hvq, hb⟩
                    have HNQ := Lib.hid (own_Nm hvq)
                    have hN := Lib.hid (HNO.out.on hb)
                    clear HNO hvq x0 x1 x2 x3
                    have HNO := hN
                    clear hN
                    have hB := Lib.hid (HB.out.trans (hb.mono HB.out.size))
                    have hR := Lib.hid (HR.out.on hb)
                    have hT := Lib.hid (HT.out.on hb)
                    clear hb HB HR HT hcall
                    have HB := hB
                    have HR := hR
                    have HT := hT
                    clear hB hR hT
                    have hcall := rint_same vq vo _ _ w12 rfl (Nat.le_trans (ovS_len _ _) (by have := HLB.out; omega)) HNQ.out HNO.out
                    go_wp2_with fail
                    (with_reducible refine hcall.mono ?_)
                    rintro e0 w13 ⟨rfl, hb⟩
                    clear HNO HNQ
                    have hB := Lib.hid (HB.out.trans (hb.mono HB.out.size))
                    have hR := Lib.hid (HR.out.on hb)
                    have hT := Lib.hid (HT.out.on hb)
                    clear hb HB HR HT hcall
                    have HB := hB
                    have HR := hR
                    have HT := hT
                    clear hB hR hT
                    clear HTK HLB
                    go_wp2
                    go_roundg (40 - k)
                    case measure => omega
                    case rel => exact ⟨k + 1, _, _, _, by omega, by omega, rfl, by go_num, ⟨_, rfl⟩, ⟨_, rfl⟩, ⟨_, rfl⟩, ⟨_, rfl⟩, ⟨_, rfl⟩, ⟨_, rfl⟩, ⟨_, rfl⟩, HB, HR, HT, HLK⟩
                  · have HNEG := Lib.hid hneg
                    have hcall := add_c id e B l S w5 hwf (by have := HLK0.out; omega) HT.out.at_
                    rw [addE_form (by have := HNEG.out; omega) HES.out, addT_no (by rw [addE_form (by have := HNEG.out; omega) HES.out]; omega)] at hcall
                    have x0 := (HX.out.cell 0).trans rfl
                    have x1 := (HX.out.cell 1).trans rfl
                    have x2 := (HX.out.cell 2).trans rfl
                    have x3 := (HX.out.cell 3).trans rfl
                    have x4 := (HX.out.cell 4).trans rfl
                    have x5 := (HX.out.cell 5).trans rfl
                    simp only [List.getElem?_toArray, List.getElem?_cons_succ, List.getElem?_cons_zero] at x0 x1 x2 x3 x4 x5
                    go_wp2_with fail
                    (with_reducible refine hcall.mono ?_)
                    rintro e0 wp ⟨Sp, rfl, q1, q2, q3⟩
                    have hR := Lib.hid (HR.out.trie HT.out.at_ q3)
                    obtain ⟨hT, hb⟩ := HT.out.step HB.out.size q1 q2 q3
                    have hTT := Lib.hid hT
                    have hB := Lib.hid (HB.out.trans hb)
                    clear q1 q2 q3 hT hb hcall HB HR HT x0 x1 x2 x3 x4 x5 HX
                    have HB := hB
                    have HR := hR
                    have HT := hTT
                    clear hB hR hTT
                    obtain ⟨l', hl'⟩ : ∃ l', l = l' := ⟨_, rfl⟩
                    rw [hl'] at HR HT HLK0
                    have HLK : Hid (l'.length ≤ k + 1) := Nat.le_succ_of_le HLK0.out
                    have HLJ : Hid (l'.length = j) := by rw [← hl']; exact HM.out
                    clear hl' hneg HLK0
                    have HTK := Lib.hid HT.out.at_.tok
                    have HLB : Hid (l'.length ≤ 1000) := by have := HLK.out; show l'.length ≤ _; omega
                    have hb := below1 wp (.cells #[] 3)
                    have hO0 := World.ownsRow_made (base := wp.heap.size) (e := 3) (size := 1) wp #[] 0 (Nat.le_refl _) (Nat.zero_le _) rfl
                    have HN0 : Hid (Nm (wp.alloc (.cells #[] 3)) (.slice (some ⟨wp.heap.size, 0, none⟩) 0 0) []) := own_Nm (L := []) hO0
                    clear hO0
                    have hB := Lib.hid (HB.out.trans (hb.mono HB.out.size))
                    have hR := Lib.hid (HR.out.on hb)
                    have hT := Lib.hid (HT.out.on hb)
                    clear hb HB HR HT 
                    have HB := hB
                    have HR := hR
                    have HT := hT
                    clear hB hR hT
                    go_upto_region 36 with (fail)
                    generalize (wp.alloc (.cells #[] 3)) = wt at HB HR HT HN0 ⊢
                    generalize hvo : Value.slice (some ⟨wp.heap.size, 0, none⟩) 0 0 = vo at HN0 ⊢
                    clear hvo
                    have HNO : Hid (Nm wt vo (ovS l' c)) := by show Nm _ _ _; rw [ovS_no HS2.out]; exact HN0.out
                    clear HN0
                    have hcall := len_c B l' _ wt HT.out.at_
                    have hneq : ((l'.length : Int) != (j : Int)) = false := by rw [HLJ.out]; simp
                    have h0 := ((HH.out.on HB.out).cell 0).trans rfl
                    have h1 := ((HH.out.on HB.out).cell 1).trans rfl
                    simp only [List.getElem?_toArray, List.getElem?_cons_succ, List.getElem?_cons_zero] at h0 h1
                    go_wp2_with fail
                    (with_reducible refine hcall.mono ?_)
                    rintro e0 w8 ⟨rfl, rfl⟩
                    clear hcall
                    have hcall := match_c hh hl B l' _ w8 (by have := HLB.out; omega) HT.out.at_
                    go_wp2_with fail
                    (with_reducible refine hcall.mono ?_)
                    rintro e0 w9 ⟨vm, rfl, hvm, hb⟩
                    have HNM := Lib.hid (own_Nm hvm)
                    have hN := Lib.hid (HNO.out.on hb)
                    clear HNO hvm h0 h1 hneq
                    have HNO := hN
                    clear hN
                    have hB := Lib.hid (HB.out.trans (hb.mono HB.out.size))
                    have hR := Lib.hid (HR.out.on hb)
                    have hT := Lib.hid (HT.out.on hb)
                    clear hb HB HR HT hcall
                    have HB := hB
                    have HR := hR
                    have HT := hT
                    clear hB hR hT
                    have hcall := meets_l _ s1 l' (oneC hh hl) w9 HLB.out HTK.out (oneC_snd hh hl) HS1.out HR.out.it
                    go_wp2_with fail
                    (with_reducible refine hcall.mono ?_)
                    rintro e0 w10 ⟨vn, rfl, hvn, hb⟩
                    have hN := Lib.hid (HNO.out.on hb)
                    have hN2 := Lib.hid (HNM.out.on hb)
                    have HNN := Lib.hid hvn
                    clear HNO HNM hvn
                    have HNO := hN
                    have HNM := hN2
                    clear hN hN2
                    have hB := Lib.hid (HB.out.trans (hb.mono HB.out.size))
                    have hR := Lib.hid (HR.out.on hb)
                    have hT := Lib.hid (HT.out.on hb)
                    clear hb HB HR HT hcall
                    have HB := hB
                    have HR := hR
                    have HT := hT
                    clear hB hR hT
                    have hcall := rint_same vm vn _ _ w10 (mtT_one HTK.out hh hl).symm (Nat.le_trans (mtT_le2 _ _ _) (by have := HLB.out; omega)) HNM.out HNN.out
                    go_wp2_with fail
                    (with_reducible refine hcall.mono ?_)
                    rintro e0 w11 ⟨rfl, hb⟩
                    have hN := Lib.hid (HNO.out.on hb)
                    clear HNO HNM HNN
                    have HNO := hN
                    clear hN
                    have hB := Lib.hid (HB.out.trans (hb.mono HB.out.size))
                    have hR := Lib.hid (HR.out.on hb)
                    have hT := Lib.hid (HT.out.on hb)
                    clear hb HB HR HT hcall
                    have HB := hB
                    have HR := hR
                    have HT := hT
                    clear hB hR hT
                    have hcall := ov_c c B l' _ w11 (by have := HLB.out; omega) HT.out.at_
                    have x0 := ((HC.out.on HB.out).cell 0).trans rfl
                    have x1 := ((HC.out.on HB.out).cell 1).trans rfl
                    have x2 := ((HC.out.on HB.out).cell 2).trans rfl
                    have x3 := ((HC.out.on HB.out).cell 3).trans rfl
                    simp only [List.getElem?_toArray, List.getElem?_cons_succ, List.getElem?_cons_zero] at x0 x1 x2 x3
                    go_wp2_with fail
                    (with_reducible refine hcall.mono ?_)
                    rintro e0 w12 ⟨vq, rfl, hvq, hb⟩
                    have HNQ := Lib.hid (own_Nm hvq)
                    have hN := Lib.hid (HNO.out.on hb)
                    clear HNO hvq x0 x1 x2 x3
                    have HNO := hN
                    clear hN
                    have hB := Lib.hid (HB.out.trans (hb.mono HB.out.size))
                    have hR := Lib.hid (HR.out.on hb)
                    have hT := Lib.hid (HT.out.on hb)
                    clear hb HB HR HT hcall
                    have HB := hB
                    have HR := hR
                    have HT := hT
                    clear hB hR hT
                    have hcall := rint_same vq vo _ _ w12 rfl (Nat.le_trans (ovS_len _ _) (by have := HLB.out; omega)) HNQ.out HNO.out
                    go_wp2_with fail
                    (with_reducible refine hcall.mono ?_)
                    rintro e0 w13 ⟨rfl, hb⟩
                    clear HNO HNQ
                    have hB := Lib.hid (HB.out.trans (hb.mono HB.out.size))
                    have hR := Lib.hid (HR.out.on hb)
                    have hT := Lib.hid (HT.out.on hb)
                    clear hb HB HR HT hcall
                    have HB := hB
                    have HR := hR
                    have HT := hT
                    clear hB hR hT
                    clear HTK HLB
                    go_wp2
                    go_roundg (40 - k)
                    case measure => omega
                    case rel => exact ⟨k + 1, _, _, _, by omega, by omega, rfl, by go_num, ⟨_, rfl⟩, ⟨_, rfl⟩, ⟨_, rfl⟩, ⟨_, rfl⟩, ⟨_, rfl⟩, ⟨_, rfl⟩, ⟨_, rfl⟩, HB, HR, HT, HLK⟩
              · have hw0b : (what == 0) = false := by simpa using hw0
                by_cases hw1 : what = 1
                · have hw1b : (what == 1) = true := by rw [hw1]; rfl
                  clear hw0 hw1
                  have hcall := rem_c id B l S w4 hwf HT.out.at_
                  rw [decide_eq_false HNO0.out, remT_out HNO0.out] at hcall
                  have x0 := (HX.out.cell 0).trans rfl
                  have x1 := (HX.out.cell 1).trans rfl
                  have x2 := (HX.out.cell 2).trans rfl
                  have x3 := (HX.out.cell 3).trans rfl
                  have x4 := (HX.out.cell 4).trans rfl
                  have x5 := (HX.out.cell 5).trans rfl
                  simp only [List.getElem?_toArray, List.getElem?_cons_succ, List.getElem?_cons_zero] at x0 x1 x2 x3 x4 x5
                  go_wp2_with fail
                  (with_reducible refine hcall.mono ?_)
                  rintro e0 wp ⟨Sp, rfl, q1, q2, q3⟩
                  have hR := Lib.hid (HR.out.trie HT.out.at_ q3)
                  obtain ⟨hT, hb⟩ := HT.out.step HB.out.size q1 q2 q3
                  have hTT := Lib.hid hT
                  have hB := Lib.hid (HB.out.trans hb)
                  clear q1 q2 q3 hT hb hcall HB HR HT x0 x1 x2 x3 x4 x5 HX
                  have HB := hB
                  have HR := hR
                  have HT := hTT
                  clear hB hR hTT
                  obtain ⟨l', hl'⟩ : ∃ l', l = l' := ⟨_, rfl⟩
                  rw [hl'] at HR HT HLK0
                  have HLK : Hid (l'.length ≤ k + 1) := Nat.le_succ_of_le HLK0.out
                  have HLJ : Hid (l'.length = j) := by rw [← hl']; exact HM.out
                  clear hl' HLK0
                  have HTK := Lib.hid HT.out.at_.tok
                  have HLB : Hid (l'.length ≤ 1000) := by have := HLK.out; show l'.length ≤ _; omega
                  have hb := below1 wp (.cells #[] 3)
                  have hO0 := World.ownsRow_made (base := wp.heap.size) (e := 3) (size := 1) wp #[] 0 (Nat.le_refl _) (Nat.zero_le _) rfl
                  have HN0 : Hid (Nm (wp.alloc (.cells #[] 3)) (.slice (some ⟨wp.heap.size, 0, none⟩) 0 0) []) := own_Nm (L := []) hO0
                  clear hO0
                  have hB := Lib.hid (HB.out.trans (hb.mono HB.out.size))
                  have hR := Lib.hid (HR.out.on hb)
                  have hT := Lib.hid (HT.out.on hb)
                  clear hb HB HR HT 
                  have HB := hB
                  have HR := hR
                  have HT := hT
                  clear hB hR hT
                  go_upto_region 36 with (fail)
                  generalize (wp.alloc (.cells #[] 3)) = wt at HB HR HT HN0 ⊢
                  generalize hvo : Value.slice (some ⟨wp.heap.size, 0, none⟩) 0 0 = vo at HN0 ⊢
                  clear hvo
                  have HNO : Hid (Nm wt vo (ovS l' c)) := by show Nm _ _ _; rw [ovS_no HS2.out]; exact HN0.out
                  clear HN0
                  have hcall := len_c B l' _ wt HT.out.at_
                  have hneq : ((l'.length : Int) != (j : Int)) = false := by rw [HLJ.out]; simp
                  have h0 := ((HH.out.on HB.out).cell 0).trans rfl
                  have h1 := ((HH.out.on HB.out).cell 1).trans rfl
                  simp only [List.getElem?_toArray, List.getElem?_cons_succ, List.getElem?_cons_zero] at h0 h1
                  go_wp2_with fail
                  (with_reducible refine hcall.mono ?_)
                  rintro e0 w8 ⟨rfl, rfl⟩
                  clear hcall
                  have hcall := match_c hh hl B l' _ w8 (by have := HLB.out; omega) HT.out.at_
                  go_wp2_with fail
                  (with_reducible refine hcall.mono ?_)
                  rintro e0 w9 ⟨vm, rfl, hvm, hb⟩
                  have HNM := Lib.hid (own_Nm hvm)
                  have hN := Lib.hid (HNO.out.on hb)
                  clear HNO hvm h0 h1 hneq
                  have HNO := hN
                  clear hN
                  have hB := Lib.hid (HB.out.trans (hb.mono HB.out.size))
                  have hR := Lib.hid (HR.out.on hb)
                  have hT := Lib.hid (HT.out.on hb)
                  clear hb HB HR HT hcall
                  have HB := hB
                  have HR := hR
                  have HT := hT
                  clear hB hR hT
                  have hcall := meets_l _ s1 l' (oneC hh hl) w9 HLB.out HTK.out (oneC_snd hh hl) HS1.out HR.out.it
                  go_wp2_with fail
                  (with_reducible refine hcall.mono ?_)
                  rintro e0 w10 ⟨vn, rfl, hvn, hb⟩
                  have hN := Lib.hid (HNO.out.on hb)
                  have hN2 := Lib.hid (HNM.out.on hb)
                  have HNN := Lib.hid hvn
                  clear HNO HNM hvn
                  have HNO := hN
                  have HNM := hN2
                  clear hN hN2
                  have hB := Lib.hid (HB.out.trans (hb.mono HB.out.size))
                  have hR := Lib.hid (HR.out.on hb)
                  have hT := Lib.hid (HT.out.on hb)
                  clear hb HB HR HT hcall
                  have HB := hB
                  have HR := hR
                  have HT := hT
                  clear hB hR hT
                  have hcall := rint_same vm vn _ _ w10 (mtT_one HTK.out hh hl).symm (Nat.le_trans (mtT_le2 _ _ _) (by have := HLB.out; omega)) HNM.out HNN.out
                  go_wp2_with fail
                  (with_reducible refine hcall.mono ?_)
                  rintro e0 w11 ⟨rfl, hb⟩
                  have hN := Lib.hid (HNO.out.on hb)
                  clear HNO HNM HNN
                  have HNO := hN
                  clear hN
                  have hB := Lib.hid (HB.out.trans (hb.mono HB.out.size))
                  have hR := Lib.hid (HR.out.on hb)
                  have hT := Lib.hid (HT.out.on hb)
                  clear hb HB HR HT hcall
                  have HB := hB
                  have HR := hR
                  have HT := hT
                  clear hB hR hT
                  have hcall := ov_c c B l' _ w11 (by have := HLB.out; omega) HT.out.at_
                  have x0 := ((HC.out.on HB.out).cell 0).trans rfl
                  have x1 := ((HC.out.on HB.out).cell 1).trans rfl
                  have x2 := ((HC.out.on HB.out).cell 2).trans rfl
                  have x3 := ((HC.out.on HB.out).cell 3).trans rfl
                  simp only [List.getElem?_toArray, List.getElem?_cons_succ, List.getElem?_cons_zero] at x0 x1 x2 x3
                  go_wp2_with fail
                  (with_reducible refine hcall.mono ?_)
                  rintro e0 w12 ⟨vq, rfl, hvq, hb⟩
                  have HNQ := Lib.hid (own_Nm hvq)
                  have hN := Lib.hid (HNO.out.on hb)
                  clear HNO hvq x0 x1 x2 x3
                  have HNO := hN
                  clear hN
                  have hB := Lib.hid (HB.out.trans (hb.mono HB.out.size))
                  have hR := Lib.hid (HR.out.on hb)
                  have hT := Lib.hid (HT.out.on hb)
                  clear hb HB HR HT hcall
                  have HB := hB
                  have HR := hR
                  have HT := hT
                  clear hB hR hT
                  have hcall := rint_same vq vo _ _ w12 rfl (Nat.le_trans (ovS_len _ _) (by have := HLB.out; omega)) HNQ.out HNO.out
                  go_wp2_with fail
                  (with_reducible refine hcall.mono ?_)
                  rintro e0 w13 ⟨rfl, hb⟩
                  clear HNO HNQ
                  have hB := Lib.hid (HB.out.trans (hb.mono HB.out.size))
                  have hR := Lib.hid (HR.out.on hb)
                  have hT := Lib.hid (HT.out.on hb)
                  clear hb HB HR HT hcall
                  have HB := hB
                  have HR := hR
                  have HT := hT
                  clear hB hR hT
                  clear HTK HLB
                  go_wp2
                  go_roundg (40 - k)
                  case measure => omega
                  case rel => exact ⟨k + 1, _, _, _, by omega, by omega, rfl, by go_num, ⟨_, rfl⟩, ⟨_, rfl⟩, ⟨_, rfl⟩, ⟨_, rfl⟩, ⟨_, rfl⟩, ⟨_, rfl⟩, ⟨_, rfl⟩, HB, HR, HT, HLK⟩
                · have hw1b : (what == 1) = false := by simpa using hw1
                  clear hw0 hw1
                  have x0 := (HX.out.cell 0).trans rfl
                  have x1 := (HX.out.cell 1).trans rfl
                  have x2 := (HX.out.cell 2).trans rfl
                  have x3 := (HX.out.cell 3).trans rfl
                  have x4 := (HX.out.cell 4).trans rfl
                  have x5 := (HX.out.cell 5).trans rfl
                  simp only [List.getElem?_toArray, List.getElem?_cons_succ, List.getElem?_cons_zero] at x0 x1 x2 x3 x4 x5
                  obtain ⟨wp, hwp⟩ : ∃ wp, wp = w4 := ⟨_, rfl⟩
                  subst hwp
                  obtain ⟨l', hl'⟩ : ∃ l', l = l' := ⟨_, rfl⟩
                  rw [hl'] at HR HT HLK0
                  have HLK : Hid (l'.length ≤ k + 1) := Nat.le_succ_of_le HLK0.out
                  have HLJ : Hid (l'.length = j) := by rw [← hl']; exact HM.out
                  clear hl' HLK0
                  have HTK := Lib.hid HT.out.at_.tok
                  have HLB : Hid (l'.length ≤ 1000) := by have := HLK.out; show l'.length ≤ _; omega
                  have hb := below1 wp (.cells #[] 3)
                  have hO0 := World.ownsRow_made (base := wp.heap.size) (e := 3) (size := 1) wp #[] 0 (Nat.le_refl _) (Nat.zero_le _) rfl
                  have HN0 : Hid (Nm (wp.alloc (.cells #[] 3)) (.slice (some ⟨wp.heap.size, 0, none⟩) 0 0) []) := own_Nm (L := []) hO0
                  clear hO0
                  have hB := Lib.hid (HB.out.trans (hb.mono HB.out.size))
                  have hR := Lib.hid (HR.out.on hb)
                  have hT := Lib.hid (HT.out.on hb)
                  clear hb HB HR HT 
                  have HB := hB
                  have HR := hR
                  have HT := hT
                  clear hB hR hT
                  go_upto_region 36 with (fail)
                  generalize (wp.alloc (.cells #[] 3)) = wt at HB HR HT HN0 ⊢
                  generalize hvo : Value.slice (some ⟨wp.heap.size, 0, none⟩) 0 0 = vo at HN0 ⊢
                  clear hvo
                  have HNO : Hid (Nm wt vo (ovS l' c)) := by show Nm _ _ _; rw [ovS_no HS2.out]; exact HN0.out
                  clear HN0
                  have hcall := len_c B l' _ wt HT.out.at_
                  have hneq : ((l'.length : Int) != (j : Int)) = false := by rw [HLJ.out]; simp
                  have h0 := ((HH.out.on HB.out).cell 0).trans rfl
                  have h1 := ((HH.out.on HB.out).cell 1).trans rfl
                  simp only [List.getElem?_toArray, List.getElem?_cons_succ, List.getElem?_cons_zero] at h0 h1
                  go_wp2_with fail
                  (with_reducible refine hcall.mono ?_)
                  rintro e0 w8 ⟨rfl, rfl⟩
                  clear hcall
                  have hcall := match_c hh hl B l' _ w8 (by have := HLB.out; omega) HT.out.at_
                  go_wp2_with fail
                  (with_reducible refine hcall.mono ?_)
                  rintro e0 w9 ⟨vm, rfl, hvm, hb⟩
                  have HNM := Lib.hid (own_Nm hvm)
                  have hN := Lib.hid (HNO.out.on hb)
                  clear HNO hvm h0 h1 hneq
                  have HNO := hN
                  clear hN
                  have hB := Lib.hid (HB.out.trans (hb.mono HB.out.size))
                  have hR := Lib.hid (HR.out.on hb)
                  have hT := Lib.hid (HT.out.on hb)
                  clear hb HB HR HT hcall
                  have HB := hB
                  have HR := hR
                  have HT := hT
                  clear hB hR hT
                  have hcall := meets_l _ s1 l' (oneC hh hl) w9 HLB.out HTK.out (oneC_snd hh hl) HS1.out HR.out.it
                  go_wp2_with fail
                  (with_reducible refine hcall.mono ?_)
                  rintro e0 w10 ⟨vn, rfl, hvn, hb⟩
                  have hN := Lib.hid (HNO.out.on hb)
                  have hN2 := Lib.hid (HNM.out.on hb)
                  have HNN := Lib.hid hvn
                  clear HNO HNM hvn
                  have HNO := hN
                  have HNM := hN2
                  clear hN hN2
                  have hB := Lib.hid (HB.out.trans (hb.mono HB.out.size))
                  have hR := Lib.hid (HR.out.on hb)
                  have hT := Lib.hid (HT.out.on hb)
                  clear hb HB HR HT hcall
                  have HB := hB
                  have HR := hR
                  have HT := hT
                  clear hB hR hT
                  have hcall := rint_same vm vn _ _ w10 (mtT_one HTK.out hh hl).symm (Nat.le_trans (mtT_le2 _ _ _) (by have := HLB.out; omega)) HNM.out HNN.out
                  go_wp2_with fail
                  (with_reducible refine hcall.mono ?_)
                  rintro e0 w11 ⟨rfl, hb⟩
                  have hN := Lib.hid (HNO.out.on hb)
                  clear HNO HNM HNN
                  have HNO := hN
                  clear hN
                  have hB := Lib.hid (HB.out.trans (hb.mono HB.out.size))
                  have hR := Lib.hid (HR.out.on hb)
                  have hT := Lib.hid (HT.out.on hb)
                  clear hb HB HR HT hcall
                  have HB := hB
                  have HR := hR
                  have HT := hT
                  clear hB hR hT
                  have hcall := ov_c c B l' _ w11 (by have := HLB.out; omega) HT.out.at_
                  have x0 := ((HC.out.on HB.out).cell 0).trans rfl
                  have x1 := ((HC.out.on HB.out).cell 1).trans rfl
                  have x2 := ((HC.out.on HB.out).cell 2).trans rfl
                  have x3 := ((HC.out.on HB.out).cell 3).trans rfl
                  simp only [List.getElem?_toArray, List.getElem?_cons_succ, List.getElem?_cons_zero] at x0 x1 x2 x3
                  go_wp2_with fail
                  (with_reducible refine hcall.mono ?_)
                  rintro e0 w12 ⟨vq, rfl, hvq, hb⟩
                  have HNQ := Lib.hid (own_Nm hvq)
                  have hN := Lib.hid (HNO.out.on hb)
                  clear HNO hvq x0 x1 x2 x3
                  have HNO := hN
                  clear hN
                  have hB := Lib.hid (HB.out.trans (hb.mono HB.out.size))
                  have hR := Lib.hid (HR.out.on hb)
                  have hT := Lib.hid (HT.out.on hb)
                  clear hb HB HR HT hcall
                  have HB := hB
                  have HR := hR
                  have HT := hT
                  clear hB hR hT
                  have hcall := rint_same vq vo _ _ w12 rfl (Nat.le_trans (ovS_len _ _) (by have := HLB.out; omega)) HNQ.out HNO.out
                  go_wp2_with fail
                  (with_reducible refine hcall.mono ?_)
                  rintro e0 w13 ⟨rfl, hb⟩
                  clear HNO HNQ
                  have hB := Lib.hid (HB.out.trans (hb.mono HB.out.size))
                  have hR := Lib.hid (HR.out.on hb)
                  have hT := Lib.hid (HT.out.on hb)
                  clear hb HB HR HT hcall
                  have HB := hB
                  have HR := hR
                  have HT := hT
                  clear hB hR hT
                  clear HTK HLB
                  go_wp2
                  go_roundg (40 - k)
                  case measure => omega
                  case rel => exact ⟨k + 1, _, _, _, by omega, by omega, rfl, by go_num, ⟨_, rfl⟩, ⟨_, rfl⟩, ⟨_, rfl⟩, ⟨_, rfl⟩, ⟨_, rfl⟩, ⟨_, rfl⟩, ⟨_, rfl⟩, HB, HR, HT, HLK⟩
            · have HKA := Lib.hid hkc
              have HIN : Hid (id ∈ tIds l) := List.mem_map.2 ⟨(id, ce), List.mem_of_getElem? hkc, rfl⟩
              have HPOS : Hid (¬ id < 0) := by have h := HTK0.out.pos _ (List.mem_of_getElem? hkc); dsimp only at h; show ¬ id < 0; omega
              have hkaz : (0 : Int) ≤ (ka : Int) := by omega
              clear hkc hlv hka
              by_cases hw0 : what = 0
              · have hw0b : (what == 0) = true := by rw [hw0]; rfl
                clear hw0
                have x0 := (HX.out.cell 0).trans rfl
                have x1 := (HX.out.cell 1).trans rfl
                have x2 := (HX.out.cell 2).trans rfl
                have x3 := (HX.out.cell 3).trans rfl
                have x4 := (HX.out.cell 4).trans rfl
                have x5 := (HX.out.cell 5).trans rfl
                simp only [List.getElem?_toArray, List.getElem?_cons_succ, List.getElem?_cons_zero] at x0 x1 x2 x3 x4 x5
                cases hes : e.snd with
                | true =>
                  have HES := Lib.hid hes
                  clear hes
                  go_wp2_with fail
                  (with_reducible refine (text_yes e _ HES.out).mono ?_)
                  rintro e0 w5 ⟨rfl, hb⟩
                  have hX := Lib.hid (HX.out.on hb)
                  clear HX x0 x1 x2 x3 x4 x5
                  have HX := hX
                  clear hX
                  have hB := Lib.hid (HB.out.trans (hb.mono HB.out.size))
                  have hR := Lib.hid (HR.out.on hb)
                  have hT := Lib.hid (HT.out.on hb)
                  clear hb HB HR HT 
                  have HB := hB
                  have HR := hR
                  have HT := hT
                  clear hB hR hT
                  obtain ⟨se, hse⟩ : ∃ se, txt e = se := ⟨_, rfl⟩
                  rw [hse]
                  have HSE := Lib.hid hse
                  clear hse
                  have hneg : ¬ id < 0 := by have := HPOS.out; omega
                  have HNEG := Lib.hid hneg
                  have hcall := add_c id e B l S w5 hwf (by have := HLK0.out; omega) HT.out.at_
                  rw [addE_there (by have := HNEG.out; omega) HES.out HIN.out, addT_no (by rw [addE_there (by have := HNEG.out; omega) HES.out HIN.out]; omega)] at hcall
                  have x0 := (HX.out.cell 0).trans rfl
                  have x1 := (HX.out.cell 1).trans rfl
                  have x2 := (HX.out.cell 2).trans rfl
                  have x3 := (HX.out.cell 3).trans rfl
                  have x4 := (HX.out.cell 4).trans rfl
                  have x5 := (HX.out.cell 5).trans rfl
                  simp only [List.getElem?_toArray, List.getElem?_cons_succ, List.getElem?_cons_zero] at x0 x1 x2 x3 x4 x5
                  go_wp2_with fail
                  (with_reducible refine hcall.mono ?_)
                  rintro e0 wp ⟨Sp, rfl, q1, q2, q3⟩
                  have hR := Lib.hid (HR.out.trie HT.out.at_ q3)
                  obtain ⟨hT, hb⟩ := HT.out.step HB.out.size q1 q2 q3
                  have hTT := Lib.hid hT
                  have hB := Lib.hid (HB.out.trans hb)
                  clear q1 q2 q3 hT hb hcall HB HR HT x0 x1 x2 x3 x4 x5 HX
                  have HB := hB
                  have HR := hR
                  have HT := hTT
                  clear hB hR hTT
                  obtain ⟨l', hl'⟩ : ∃ l', l = l' := ⟨_, rfl⟩
                  rw [hl'] at HR HT HLK0
                  have HLK : Hid (l'.length ≤ k + 1) := Nat.le_succ_of_le HLK0.out
                  have HLJ : Hid (l'.length = j) := by rw [← hl']; exact HM.out
                  clear hl' hneg HLK0
                  have HTK := Lib.hid HT.out.at_.tok
                  have HLB : Hid (l'.length ≤ 1000) := by have := HLK.out; show l'.length ≤ _; omega
                  have hb := below1 wp (.cells #[] 3)
                  have hO0 := World.ownsRow_made (base := wp.heap.size) (e := 3) (size := 1) wp #[] 0 (Nat.le_refl _) (Nat.zero_le _) rfl
                  have HN0 : Hid (Nm (wp.alloc (.cells #[] 3)) (.slice (some ⟨wp.heap.size, 0, none⟩) 0 0) []) := own_Nm (L := []) hO0
                  clear hO0
                  have hB := Lib.hid (HB.out.trans (hb.mono HB.out.size))
                  have hR := Lib.hid (HR.out.on hb)
                  have hT := Lib.hid (HT.out.on hb)
                  clear hb HB HR HT 
                  have HB := hB
                  have HR := hR
                  have HT := hT
                  clear hB hR hT
                  go_upto_region 36 with (fail)
                  generalize (wp.alloc (.cells #[] 3)) = wt at HB HR HT HN0 ⊢
                  generalize hvo : Value.slice (some ⟨wp.heap.size, 0, none⟩) 0 0 = vo at HN0 ⊢
                  clear hvo
                  have HNO : Hid (Nm wt vo (ovS l' c)) := by show Nm _ _ _; rw [ovS_no HS2.out]; exact HN0.out
                  clear HN0
                  have hcall := len_c B l' _ wt HT.out.at_
                  have hneq : ((l'.length : Int) != (j : Int)) = false := by rw [HLJ.out]; simp
                  have h0 := ((HH.out.on HB.out).cell 0).trans rfl
                  have h1 := ((HH.out.on HB.out).cell 1).trans rfl
                  simp only [List.getElem?_toArray, List.getElem?_cons_succ, List.getElem?_cons_zero] at h0 h1
                  go_wp2_with fail
                  (with_reducible refine hcall.mono ?_)
                  rintro e0 w8 ⟨rfl, rfl⟩
                  clear hcall
                  have hcall := match_c hh hl B l' _ w8 (by have := HLB.out; omega) HT.out.at_
                  go_wp2_with fail
                  (with_reducible refine hcall.mono ?_)
                  rintro e0 w9 ⟨vm, rfl, hvm, hb⟩
                  have HNM := Lib.hid (own_Nm hvm)
                  have hN := Lib.hid (HNO.out.on hb)
                  clear HNO hvm h0 h1 hneq
                  have HNO := hN
                  clear hN
                  have hB := Lib.hid (HB.out.trans (hb.mono HB.out.size))
                  have hR := Lib.hid (HR.out.on hb)
                  have hT := Lib.hid (HT.out.on hb)
                  clear hb HB HR HT hcall
                  have HB := hB
                  have HR := hR
                  have HT := hT
                  clear hB hR hT
                  have hcall := meets_l _ s1 l' (oneC hh hl) w9 HLB.out HTK.out (oneC_snd hh hl) HS1.out HR.out.it
                  go_wp2_with fail
                  (with_reducible refine hcall.mono ?_)
                  rintro e0 w10 ⟨vn, rfl, hvn, hb⟩
                  have hN := Lib.hid (HNO.out.on hb)
                  have hN2 := Lib.hid (HNM.out.on hb)
                  have HNN := Lib.hid hvn
                  clear HNO HNM hvn
                  have HNO := hN
                  have HNM := hN2
                  clear hN hN2
                  have hB := Lib.hid (HB.out.trans (hb.mono HB.out.size))
                  have hR := Lib.hid (HR.out.on hb)
                  have hT := Lib.hid (HT.out.on hb)
                  clear hb HB HR HT hcall
                  have HB := hB
                  have HR := hR
                  have HT := hT
                  clear hB hR hT
                  have hcall := rint_same vm vn _ _ w10 (mtT_one HTK.out hh hl).symm (Nat.le_trans (mtT_le2 _ _ _) (by have := HLB.out; omega)) HNM.out HNN.out
                  go_wp2_with fail
                  (with_reducible refine hcall.mono ?_)
                  rintro e0 w11 ⟨rfl, hb⟩
                  have hN := Lib.hid (HNO.out.on hb)
                  clear HNO HNM HNN
                  have HNO := hN
                  clear hN
                  have hB := Lib.hid (HB.out.trans (hb.mono HB.out.size))
                  have hR := Lib.hid (HR.out.on hb)
                  have hT := Lib.hid (HT.out.on hb)
                  clear hb HB HR HT hcall
                  have HB := hB
                  have HR := hR
                  have HT := hT
                  clear hB hR hT
                  have hcall := ov_c c B l' _ w11 (by have := HLB.out; omega) HT.out.at_
                  have x0 := ((HC.out.on HB.out).cell 0).trans rfl
                  have x1 := ((HC.out.on HB.out).cell 1).trans rfl
                  have x2 := ((HC.out.on HB.out).cell 2).trans rfl
                  have x3 := ((HC.out.on HB.out).cell 3).trans rfl
                  simp only [List.getElem?_toArray, List.getElem?_cons_succ, List.getElem?_cons_zero] at x0 x1 x2 x3
                  go_wp2_with fail
                  (with_reducible refine hcall.mono ?_)
                  rintro e0 w12 ⟨vq, rfl, hvq, hb⟩
                  have HNQ := Lib.hid (own_Nm hvq)
                  have hN := Lib.hid (HNO.out.on hb)
                  clear HNO hvq x0 x1 x2 x3
                  have HNO := hN
                  clear hN
                  have hB := Lib.hid (HB.out.trans (hb.mono HB.out.size))
                  have hR := Lib.hid (HR.out.on hb)
                  have hT := Lib.hid (HT.out.on hb)
                  clear hb HB HR HT hcall
                  have HB := hB
                  have HR := hR
                  have HT := hT
                  clear hB hR hT
                  have hcall := rint_same vq vo _ _ w12 rfl (Nat.le_trans (ovS_len _ _) (by have := HLB.out; omega)) HNQ.out HNO.out
                  go_wp2_with fail
                  (with_reducible refine hcall.mono ?_)
                  rintro e0 w13 ⟨rfl, hb⟩
                  clear HNO HNQ
                  have hB := Lib.hid (HB.out.trans (hb.mono HB.out.size))
                  have hR := Lib.hid (HR.out.on hb)
                  have hT := Lib.hid (HT.out.on hb)
                  clear hb HB HR HT hcall
                  have HB := hB
                  have HR := hR
                  have HT := hT
                  clear hB hR hT
                  clear HTK HLB
                  go_wp2
                  go_roundg (40 - k)
                  case measure => omega
                  case rel => exact ⟨k + 1, _, _, _, by omega, by omega, rfl, by go_num, ⟨_, rfl⟩, ⟨_, rfl⟩, ⟨_, rfl⟩, ⟨_, rfl⟩, ⟨_, rfl⟩, ⟨_, rfl⟩, ⟨_, rfl⟩, HB, HR, HT, HLK⟩
                | false =>
                  have HES := Lib.hid hes
                  clear hes
                  go_wp2_with fail
                  (with_reducible refine (text_no e _ HES.out).mono ?_)
                  rintro e0 w5 ⟨rfl, hb⟩
                  have hX := Lib.hid (HX.out.on hb)
                  clear HX x0 x1 x2 x3 x4 x5
                  have HX := hX
                  clear hX
                  have hB := Lib.hid (HB.out.trans (hb.mono HB.out.size))
                  have hR := Lib.hid (HR.out.on hb)
                  have hT := Lib.hid (HT.out.on hb)
                  clear hb HB HR HT 
                  have HB := hB
                  have HR := hR
                  have HT := hT
                  clear hB hR hT
                  have hneg : ¬ id < 0 := by have := HPOS.out; omega
                  have HNEG := Lib.hid hneg
                  have hcall := add_c id e B l S w5 hwf (by have := HLK0.out; omega) HT.out.at_
                  rw [addE_form (by have := HNEG.out; omega) HES.out, addT_no (by rw [addE_form (by have := HNEG.out; omega) HES.out]; omega)] at hcall
                  have x0 := (HX.out.cell 0).trans rfl
                  have x1 := (HX.out.cell 1).trans rfl
                  have x2 := (HX.out.cell 2).trans rfl
                  have x3 := (HX.out.cell 3).trans rfl
                  have x4 := (HX.out.cell 4).trans rfl
                  have x5 := (HX.out.cell 5).trans rfl
                  simp only [List.getElem?_toArray, List.getElem?_cons_succ, List.getElem?_cons_zero] at x0 x1 x2 x3 x4 x5
                  go_wp2_with fail
                  (with_reducible refine hcall.mono ?_)
                  rintro e0 wp ⟨Sp, rfl, q1, q2, q3⟩
                  have hR := Lib.hid (HR.out.trie HT.out.at_ q3)
                  obtain ⟨hT, hb⟩ := HT.out.step HB.out.size q1 q2 q3
                  have hTT := Lib.hid hT
                  have hB := Lib.hid (HB.out.trans hb)
                  clear q1 q2 q3 hT hb hcall HB HR HT x0 x1 x2 x3 x4 x5 HX
                  have HB := hB
                  have HR := hR
                  have HT := hTT
                  clear hB hR hTT
                  obtain ⟨l', hl'⟩ : ∃ l', l = l' := ⟨_, rfl⟩
                  rw [hl'] at HR HT HLK0
                  have HLK : Hid (l'.length ≤ k + 1) := Nat.le_succ_of_le HLK0.out
                  have HLJ : Hid (l'.length = j) := by rw [← hl']; exact HM.out
                  clear hl' hneg HLK0
                  have HTK := Lib.hid HT.out.at_.tok
                  have HLB : Hid (l'.length ≤ 1000) := by have := HLK.out; show l'.length ≤ _; omega
                  have hb := below1 wp (.cells #[] 3)
                  have hO0 := World.ownsRow_made (base := wp.heap.size) (e := 3) (size := 1) wp #[] 0 (Nat.le_refl _) (Nat.zero_le _) rfl
                  have HN0 : Hid (Nm (wp.alloc (.cells #[] 3)) (.slice (some ⟨wp.heap.size, 0, none⟩) 0 0) []) := own_Nm (L := []) hO0
                  clear hO0
                  have hB := Lib.hid (HB.out.trans (hb.mono HB.out.size))
                  have hR := Lib.hid (HR.out.on hb)
                  have hT := Lib.hid (HT.out.on hb)
                  clear hb HB HR HT 
                  have HB := hB
                  have HR := hR
                  have HT := hT
                  clear hB hR hT
                  go_upto_region 36 with (fail)
                  generalize (wp.alloc (.cells #[] 3)) = wt at HB HR HT HN0 ⊢
                  generalize hvo : Value.slice (some ⟨wp.heap.size, 0, none⟩) 0 0 = vo at HN0 ⊢
                  clear hvo
                  have HNO : Hid (Nm wt vo (ovS l' c)) := by show Nm _ _ _; rw [ovS_no HS2.out]; exact HN0.out
                  clear HN0
                  have hcall := len_c B l' _ wt HT.out.at_
                  have hneq : ((l'.length : Int) != (j : Int)) = false := by rw [HLJ.out]; simp
                  have h0 := ((HH.out.on HB.out).cell 0).trans rfl
                  have h1 := ((HH.out.on HB.out).cell 1).trans rfl
                  simp only [List.getElem?_toArray, List.getElem?_cons_succ, List.getElem?_cons_zero] at h0 h1
                  go_wp2_with fail
                  (with_reducible refine hcall.mono ?_)
                  rintro e0 w8 ⟨rfl, rfl⟩
                  clear hcall
                  have hcall := match_c hh hl B l' _ w8 (by have := HLB.out; omega) HT.out.at_
                  go_wp2_with fail
                  (with_reducible refine hcall.mono ?_)
                  rintro e0 w9 ⟨vm, rfl, hvm, hb⟩
                  have HNM := Lib.hid (own_Nm hvm)
                  have hN := Lib.hid (HNO.out.on hb)
                  clear HNO hvm h0 h1 hneq
                  have HNO := hN
                  clear hN
                  have hB := Lib.hid (HB.out.trans (hb.mono HB.out.size))
                  have hR := Lib.hid (HR.out.on hb)
                  have hT := Lib.hid (HT.out.on hb)
                  clear hb HB HR HT hcall
                  have HB := hB
                  have HR := hR
                  have HT := hT
                  clear hB hR hT
                  have hcall := meets_l _ s1 l' (oneC hh hl) w9 HLB.out HTK.out (oneC_snd hh hl) HS1.out HR.out.it
                  go_wp2_with fail
                  (with_reducible refine hcall.mono ?_)
                  rintro e0 w10 ⟨vn, rfl, hvn, hb⟩
                  have hN := Lib.hid (HNO.out.on hb)
                  have hN2 := Lib.hid (HNM.out.on hb)
                  have HNN := Lib.hid hvn
                  clear HNO HNM hvn
                  have HNO := hN
                  have HNM := hN2
                  clear hN hN2
                  have hB := Lib.hid (HB.out.trans (hb.mono HB.out.size))
                  have hR := Lib.hid (HR.out.on hb)
                  have hT := Lib.hid (HT.out.on hb)
                  clear hb HB HR HT hcall
                  have HB := hB
                  have HR := hR
                  have HT := hT
                  clear hB hR hT
                  have hcall := rint_same vm vn _ _ w10 (mtT_one HTK.out hh hl).symm (Nat.le_trans (mtT_le2 _ _ _) (by have := HLB.out; omega)) HNM.out HNN.out
                  go_wp2_with fail
                  (with_reducible refine hcall.mono ?_)
                  rintro e0 w11 ⟨rfl, hb⟩
                  have hN := Lib.hid (HNO.out.on hb)
                  clear HNO HNM HNN
                  have HNO := hN
                  clear hN
                  have hB := Lib.hid (HB.out.trans (hb.mono HB.out.size))
                  have hR := Lib.hid (HR.out.on hb)
                  have hT := Lib.hid (HT.out.on hb)
                  clear hb HB HR HT hcall
                  have HB := hB
                  have HR := hR
                  have HT := hT
                  clear hB hR hT
                  have hcall := ov_c c B l' _ w11 (by have := HLB.out; omega) HT.out.at_
                  have x0 := ((HC.out.on HB.out).cell 0).trans rfl
                  have x1 := ((HC.out.on HB.out).cell 1).trans rfl
                  have x2 := ((HC.out.on HB.out).cell 2).trans rfl
                  have x3 := ((HC.out.on HB.out).cell 3).trans rfl
                  simp only [List.getElem?_toArray, List.getElem?_cons_succ, List.getElem?_cons_zero] at x0 x1 x2 x3
                  go_wp2_with fail
                  (with_reducible refine hcall.mono ?_)
                  rintro e0 w12 ⟨vq, rfl, hvq, hb⟩
                  have HNQ := Lib.hid (own_Nm hvq)
                  have hN := Lib.hid (HNO.out.on hb)
                  clear HNO hvq x0 x1 x2 x3
                  have HNO := hN
                  clear hN
                  have hB := Lib.hid (HB.out.trans (hb.mono HB.out.size))
                  have hR := Lib.hid (HR.out.on hb)
                  have hT := Lib.hid (HT.out.on hb)
                  clear hb HB HR HT hcall
                  have HB := hB
                  have HR := hR
                  have HT := hT
                  clear hB hR hT
                  have hcall := rint_same vq vo _ _ w12 rfl (Nat.le_trans (ovS_len _ _) (by have := HLB.out; omega)) HNQ.out HNO.out
                  go_wp2_with fail
                  (with_reducible refine hcall.mono ?_)
                  rintro e0 w13 ⟨rfl, hb⟩
                  clear HNO HNQ
                  have hB := Lib.hid (HB.out.trans (hb.mono HB.out.size))
                  have hR := Lib.hid (HR.out.on hb)
                  have hT := Lib.hid (HT.out.on hb)
                  clear hb HB HR HT hcall
                  have HB := hB
                  have HR := hR
                  have HT := hT
                  clear hB hR hT
                  clear HTK HLB
                  go_wp2
                  go_roundg (40 - k)
                  case measure => omega
                  case rel => exact ⟨k + 1, _, _, _, by omega, by omega, rfl, by go_num, ⟨_, rfl⟩, ⟨_, rfl⟩, ⟨_, rfl⟩, ⟨_, rfl⟩, ⟨_, rfl⟩, ⟨_, rfl⟩, ⟨_, rfl⟩, HB, HR, HT, HLK⟩
              · have hw0b : (what == 0) = false := by simpa using hw0
                by_cases hw1 : what = 1
                · have hw1b : (what == 1) = true := by rw [hw1]; rfl
                  clear hw0 hw1
                  have hcall := rem_c id B l S w4 hwf HT.out.at_
                  rw [decide_eq_true HIN.out] at hcall
                  have x0 := (HX.out.cell 0).trans rfl
                  have x1 := (HX.out.cell 1).trans rfl
                  have x2 := (HX.out.cell 2).trans rfl
                  have x3 := (HX.out.cell 3).trans rfl
                  have x4 := (HX.out.cell 4).trans rfl
                  have x5 := (HX.out.cell 5).trans rfl
                  simp only [List.getElem?_toArray, List.getElem?_cons_succ, List.getElem?_cons_zero] at x0 x1 x2 x3 x4 x5
                  go_wp2_with fail
                  (with_reducible refine hcall.mono ?_)
                  rintro e0 wp ⟨Sp, rfl, q1, q2, q3⟩
                  have hR := Lib.hid (HR.out.trie HT.out.at_ q3)
                  obtain ⟨hT, hb⟩ := HT.out.step HB.out.size q1 q2 q3
                  have hTT := Lib.hid hT
                  have hB := Lib.hid (HB.out.trans hb)
                  clear q1 q2 q3 hT hb hcall HB HR HT x0 x1 x2 x3 x4 x5 HX
                  have HB := hB
                  have HR := hR
                  have HT := hTT
                  clear hB hR hTT
                  obtain ⟨hjl, hlc, hcm, g, hAr, hgl, _⟩ := HR.out.get HKA.out
                  subst hAr
                  have hkl : ka < l.length := (List.getElem?_eq_some_iff.1 HKA.out).1
                  have hkj : ka < j := by omega
                  have hklz : (ka : Int) < (j : Int) := by omega
                  have hka1 : (ka : Int) + 1 ≤ (j : Int) := by omega
                  have hlcz : (j : Int) ≤ (cr : Int) := by omega
                  have hkc : (ka : Int) ≤ (cr : Int) := by omega
                  have hkc1 : (ka : Int) + 1 ≤ (cr : Int) := by omega
                  have hcpz : (cr : Int) ≤ 9223372036854775807 := by unfold maxLen at hcm; omega
                  have hl40z : (j : Int) ≤ 40 := by omega
                  have hka0 : (0 : Int) ≤ (ka : Int) := by omega
                  obtain ⟨k1, hk1⟩ : ∃ k1, k1 = ka + 1 := ⟨_, rfl⟩
                  have hw : IntKind.i64.wrap ((ka : Int) + 1) = (k1 : Int) := by rw [IntKind.wrap_i64]; omega
                  have hk1j : (k1 : Int) ≤ (j : Int) := by omega
                  have hdl : (l.drop k1).length ≤ 40 := by rw [List.length_drop]; omega
                  have HK1 := Lib.hid hk1
                  have HJL := Lib.hid hjl
                  have HKP : Hid (∀ W, Below wp.heap.size wp W → Below wp.heap.size wp W) := fun W h => h
                  have HS3 : Hid (∀ (cc : Nat) W, Below wp.heap.size wp W → Src W 2 (.slice (some ⟨g, 0, none⟩) ka cc) ka (itF (l.take ka))) := fun cc W h => (HR.out.on h).first (by omega)
                  clear hjl
                  go_upto_region 34 with (fail)
                  by_cases hca : k1 = cr
                  · have hfe : k1 = j := by omega
                    clear hk1
                    subst hfe
                    subst hca
                    have HS4 : Hid (∀ W, Below wp.heap.size wp W → Src W 2 (.slice (some ⟨g, 0, none⟩) 0 0) (l.drop k1).length (itF (l.drop k1))) := fun W _ => by
                      rw [show l.drop k1 = [] from List.drop_eq_nil_of_le (by have := HJL.out; omega)]
                      exact ⟨rfl, fun u hu => by simp [itF] at hu, .inr ⟨_, _, rfl, fun j u hj => by simp [itF] at hj⟩⟩
                    refine wp_region_held_drew (S := fun w' => Below wp.heap.size wp w') (by kernel_rfl) (HKP.out _ (Below.refl _ wp).drew) (fun hHeld => ?_)
                    have hB : Below wp.heap.size wp wp.drew := (Below.refl _ wp).drew
                    generalize wp.drew = u0 at hHeld hB ⊢
                    refine wpAnyH_take (i := 1) (oi := ⟨some 117, _, _, _, _, _⟩) (v := ?vca11_1) rfl (by kernel_rfl) (by kernel_rfl) (by kernel_rfl) (fun _ _ _ h => h) (Or.inl ⟨by rfl, ?yca11_1⟩) hHeld ?rca11_1
                    case yca11_1 => (intro w' hSw; (try dsimp only at hSw); go_simp; try (with_reducible rfl))
                    simp only [Act.put, List.setIfInBounds_toArray, List.set_cons_zero, List.set_cons_succ]
                    refine wpAnyH_take (i := 2) (oi := ⟨some 118, _, _, _, _, _⟩) (v := ?vca12_2) rfl (by kernel_rfl) (by kernel_rfl) (by kernel_rfl) (fun _ _ _ h => h) (Or.inl ⟨by rfl, ?yca12_2⟩) hHeld ?rca12_2
                    case yca12_2 => (intro w' hSw; (try dsimp only at hSw); go_simp; try (with_reducible rfl))
                    simp only [Act.put, List.setIfInBounds_toArray, List.set_cons_zero, List.set_cons_succ]
                    refine wpAnyH_take (i := 3) (oi := ⟨some 119, _, _, _, _, _⟩) (v := ?vca13_3) rfl (by kernel_rfl) (by kernel_rfl) (by kernel_rfl) (fun _ _ _ h => h) (Or.inl ⟨by rfl, ?yca13_3⟩) hHeld ?rca13_3
                    case yca13_3 => (intro w' hSw; (try dsimp only at hSw); go_simp; try (with_reducible rfl))
                    simp only [Act.put, List.setIfInBounds_toArray, List.set_cons_zero, List.set_cons_succ]
                    refine wpAnyH_take (i := 5) (oi := ⟨some 121, _, _, _, _, _⟩) (v := ?vca15_4) rfl (by kernel_rfl) (by kernel_rfl) (by kernel_rfl) (fun _ _ _ h => h) (Or.inl ⟨by rfl, ?yca15_4⟩) hHeld ?rca15_4
                    case yca15_4 => (intro w' hSw; (try dsimp only at hSw); go_simp; try (with_reducible rfl))
                    simp only [Act.put, List.setIfInBounds_toArray, List.set_cons_zero, List.set_cons_succ]
                    refine wpAnyH_take (i := 6) (oi := ⟨some 122, _, _, _, _, _⟩) (v := ?vca16_5) rfl (by kernel_rfl) (by kernel_rfl) (by kernel_rfl) (fun _ _ _ h => h) (Or.inl ⟨by rfl, ?yca16_5⟩) hHeld ?rca16_5
                    case yca16_5 => (intro w' hSw; (try dsimp only at hSw); go_simp; try (with_reducible rfl))
                    simp only [Act.put, List.setIfInBounds_toArray, List.set_cons_zero, List.set_cons_succ]
                    refine wpAnyH_take (i := 7) (oi := ⟨some 123, _, _, _, _, _⟩) (v := ?vca17_6) rfl (by kernel_rfl) (by kernel_rfl) (by kernel_rfl) (fun _ _ _ h => h) (Or.inl ⟨by rfl, ?yca17_6⟩) hHeld ?rca17_6
                    case yca17_6 => (intro w' hSw; (try dsimp only at hSw); go_simp; try (with_reducible rfl))
                    simp only [Act.put, List.setIfInBounds_toArray, List.set_cons_zero, List.set_cons_succ]
                    refine wpAnyH_take (i := 8) (oi := ⟨some 124, _, _, _, _, _⟩) (v := ?vca18_7) rfl (by kernel_rfl) (by kernel_rfl) (by kernel_rfl) (fun _ _ _ h => h) (Or.inl ⟨by rfl, ?yca18_7⟩) hHeld ?rca18_7
                    case yca18_7 => (intro w' hSw; (try dsimp only at hSw); go_simp; try (with_reducible rfl))
                    simp only [Act.put, List.setIfInBounds_toArray, List.set_cons_zero, List.set_cons_succ]
                    refine wpAnyH_ready (rs := [0]) (by kernel_rfl) (by simp) ?_
                    refine AllReadyH.cons (o := ⟨some 116, _, _, _, _, _⟩) rfl (fun K hK => ?_) AllReadyH.nil
                    go_simp
                    have hb := below1 u0 (.cells #[] 37)
                    have hB2 := hB.trans (hb.mono hB.size)
                    refine hK.out _ _ (HKP.out _ hB2) (fun hNext => ?_)
                    have kO : (u0.alloc (.cells #[] 37)).ownsRow wp.heap.size 37 2 (.slice (some ⟨u0.heap.size, 0, none⟩) 0 0) 0 [] := World.ownsRow_made u0 #[] 0 hB.size (Nat.zero_le _) rfl
                    clear hK K hHeld
                    have hHeld := hNext
                    clear hNext
                    clear hB
                    have hB := hB2
                    clear hB2 hb
                    generalize hgen : (u0.alloc (.cells #[] 37)) = u1 at hHeld hB kO ⊢
                    clear hgen
                    generalize hgen : u0.heap.size = bO at kO ⊢
                    clear hgen
                    try simp only [Act.put, List.setIfInBounds_toArray, List.set_cons_zero, List.set_cons_succ]
                    refine wpAnyH_ready (rs := [4]) (by kernel_rfl) (by simp) ?_
                    refine AllReadyH.cons (o := ⟨some 120, _, _, _, _, _⟩) rfl (fun K hK => ?_) AllReadyH.nil
                    refine step_app _ rfl (.tmp 116) (.tmp 119) 31 rfl wp.heap.size 37 ii _ 2 24 Try.underlying31 hii hiz0 hiz1 hiz2 rfl (by decide) (.slice (some ⟨bO, 0, none⟩) 0 0) 0 [] rfl kO (.slice (some ⟨g, 0, none⟩) ka k1) ka (itF (l.take ka)) rfl (HS3.out _ _ hB) (by unfold maxLen; omega) (by omega) hB.size ?_
                    intro v2 u2 kO2 hgr
                    have hB2 := hB.grown hgr hB.size (fun j hj => (kO.lt j hj).1)
                    refine hK.out _ _ (HKP.out _ hB2) (fun hNext => ?_)
                    clear hK K hHeld
                    have hHeld := hNext
                    clear hNext
                    rw [Nat.zero_add, List.nil_append] at kO2
                    clear hB kO hgr
                    have hB := hB2
                    clear hB2
                    have kO := kO2
                    clear kO2
                    try simp only [Act.put, List.setIfInBounds_toArray, List.set_cons_zero, List.set_cons_succ]
                    refine wpAnyH_ready (rs := [9]) (by kernel_rfl) (by simp) ?_
                    refine AllReadyH.cons (o := ⟨some 125, _, _, _, _, _⟩) rfl (fun K hK => ?_) AllReadyH.nil
                    refine step_app _ rfl (.tmp 120) (.tmp 124) 31 rfl wp.heap.size 37 ii _ 2 24 Try.underlying31 hii hiz0 hiz1 hiz2 rfl (by decide) (v2) ka (itF (l.take ka)) rfl kO (.slice (some ⟨g, 0, none⟩) 0 0) (l.drop k1).length (itF (l.drop k1)) rfl (HS4.out _ hB) (by unfold maxLen; omega) (by omega) hB.size ?_
                    intro v4 u3 kO2 hgr
                    have hB2 := hB.grown hgr hB.size (fun j hj => (kO.lt j hj).1)
                    refine hK.out _ _ (HKP.out _ hB2) (fun hNext => ?_)
                    clear hK K hHeld
                    have hHeld := hNext
                    clear hNext
                    clear hB kO hgr
                    have hB := hB2
                    clear hB2
                    have kO := kO2
                    clear kO2
                    try simp only [Act.put, List.setIfInBounds_toArray, List.set_cons_zero, List.set_cons_succ]
                    refine wpAnyH_take (i := 10) (oi := ⟨some 8, _, _, _, _, _⟩) (v := ?vca110_8) rfl (by kernel_rfl) (by kernel_rfl) (by kernel_rfl) (fun _ _ _ h => h) (Or.inl ⟨by rfl, ?yca110_8⟩) hHeld ?rca110_8
                    case yca110_8 => (intro w' hSw; (try dsimp only at hSw); go_simp; try (with_reducible rfl))
                    simp only [Act.put, List.setIfInBounds_toArray, List.set_cons_zero, List.set_cons_succ]
                    refine wpAnyH_done (by kernel_rfl) ?_ _
                    obtain ⟨wq, hwq⟩ : ∃ wq, wq = u3 := ⟨_, rfl⟩
                    subst hwq
                    have hb := hB
                    have hR : Lr wb.heap.size wq v4 (remT l id) := by
                      show World.ownsRow _ _ _ _ _ _ _
                      rw [remT_at HTK0.out HKA.out, ← HK1.out, itF_app, List.length_append, List.length_take, Nat.min_eq_left (by have := HJL.out; omega)]
                      exact own_weak kO HB.out.size
                    have HR2 := Lib.hid hR
                    have hBq := Lib.hid (HB.out.trans (hb.mono HB.out.size))
                    have hT := Lib.hid (HT.out.on hb)
                    clear hR kO hb hB HB HR HT HKP HS3 HS4 hgl hcm hlc hkl hkj hklz hka1 hlcz hkc hkc1 hcpz hl40z hka0 hdl HJL hHeld hw hk1j HK1
                    have HB := hBq
                    have HR := HR2
                    have HT := hT
                    clear hBq HR2 hT
                    obtain ⟨l', hl'⟩ : ∃ l', remT l id = l' := ⟨_, rfl⟩
                    rw [hl'] at HR HT
                    have HLK : Hid (l'.length ≤ k + 1) := by
                      show l'.length ≤ _
                      rw [← hl']
                      exact Nat.le_trans (remT_len _ _) (Nat.le_succ_of_le HLK0.out)
                    clear hl' HLK0
                    obtain ⟨Ar, cr, hlv⟩ := own_slT HR.out
                    subst hlv
                    have HTK := Lib.hid HT.out.at_.tok
                    have HLB : Hid (l'.length ≤ 1000) := by have := HLK.out; show l'.length ≤ _; omega
                    have hb := below1 wq (.cells #[] 3)
                    have hO0 := World.ownsRow_made (base := wq.heap.size) (e := 3) (size := 1) wq #[] 0 (Nat.le_refl _) (Nat.zero_le _) rfl
                    have HN0 : Hid (Nm (wq.alloc (.cells #[] 3)) (.slice (some ⟨wq.heap.size, 0, none⟩) 0 0) []) := own_Nm (L := []) hO0
                    clear hO0
                    have hB := Lib.hid (HB.out.trans (hb.mono HB.out.size))
                    have hR := Lib.hid (HR.out.on hb)
                    have hT := Lib.hid (HT.out.on hb)
                    clear hb HB HR HT 
                    have HB := hB
                    have HR := hR
                    have HT := hT
                    clear hB hR hT
                    go_upto_region 36 with (fail)
                    generalize (wq.alloc (.cells #[] 3)) = wt at HB HR HT HN0 ⊢
                    generalize hvo : Value.slice (some ⟨wq.heap.size, 0, none⟩) 0 0 = vo at HN0 ⊢
                    clear hvo
                    have HNO : Hid (Nm wt vo (ovS l' c)) := by show Nm _ _ _; rw [ovS_no HS2.out]; exact HN0.out
                    clear HN0
                    have hcall := len_c B l' _ wt HT.out.at_
                    have hneq : ((l'.length : Int) != (l'.length : Int)) = false := by simp
                    have h0 := ((HH.out.on HB.out).cell 0).trans rfl
                    have h1 := ((HH.out.on HB.out).cell 1).trans rfl
                    simp only [List.getElem?_toArray, List.getElem?_cons_succ, List.getElem?_cons_zero] at h0 h1
                    go_wp2_with fail
                    (with_reducible refine hcall.mono ?_)
                    rintro e0 w8 ⟨rfl, rfl⟩
                    clear hcall
                    have hcall := match_c hh hl B l' _ w8 (by have := HLB.out; omega) HT.out.at_
                    go_wp2_with fail
                    (with_reducible refine hcall.mono ?_)
                    rintro e0 w9 ⟨vm, rfl, hvm, hb⟩
                    have HNM := Lib.hid (own_Nm hvm)
                    have hN := Lib.hid (HNO.out.on hb)
                    clear HNO hvm h0 h1 hneq
                    have HNO := hN
                    clear hN
                    have hB := Lib.hid (HB.out.trans (hb.mono HB.out.size))
                    have hR := Lib.hid (HR.out.on hb)
                    have hT := Lib.hid (HT.out.on hb)
                    clear hb HB HR HT hcall
                    have HB := hB
                    have HR := hR
                    have HT := hT
                    clear hB hR hT
                    have hcall := meets_l _ s1 l' (oneC hh hl) w9 HLB.out HTK.out (oneC_snd hh hl) HS1.out HR.out.it
                    go_wp2_with fail
                    (with_reducible refine hcall.mono ?_)
                    rintro e0 w10 ⟨vn, rfl, hvn, hb⟩
                    have hN := Lib.hid (HNO.out.on hb)
                    have hN2 := Lib.hid (HNM.out.on hb)
                    have HNN := Lib.hid hvn
                    clear HNO HNM hvn
                    have HNO := hN
                    have HNM := hN2
                    clear hN hN2
                    have hB := Lib.hid (HB.out.trans (hb.mono HB.out.size))
                    have hR := Lib.hid (HR.out.on hb)
                    have hT := Lib.hid (HT.out.on hb)
                    clear hb HB HR HT hcall
                    have HB := hB
                    have HR := hR
                    have HT := hT
                    clear hB hR hT
                    have hcall := rint_same vm vn _ _ w10 (mtT_one HTK.out hh hl).symm (Nat.le_trans (mtT_le2 _ _ _) (by have := HLB.out; omega)) HNM.out HNN.out
                    go_wp2_with fail
                    (with_reducible refine hcall.mono ?_)
                    rintro e0 w11 ⟨rfl, hb⟩
                    have hN := Lib.hid (HNO.out.on hb)
                    clear HNO HNM HNN
                    have HNO := hN
                    clear hN
                    have hB := Lib.hid (HB.out.trans (hb.mono HB.out.size))
                    have hR := Lib.hid (HR.out.on hb)
                    have hT := Lib.hid (HT.out.on hb)
                    clear hb HB HR HT hcall
                    have HB := hB
                    have HR := hR
                    have HT := hT
                    clear hB hR hT
                    have hcall := ov_c c B l' _ w11 (by have := HLB.out; omega) HT.out.at_
                    have x0 := ((HC.out.on HB.out).cell 0).trans rfl
                    have x1 := ((HC.out.on HB.out).cell 1).trans rfl
                    have x2 := ((HC.out.on HB.out).cell 2).trans rfl
                    have x3 := ((HC.out.on HB.out).cell 3).trans rfl
                    simp only [List.getElem?_toArray, List.getElem?_cons_succ, List.getElem?_cons_zero] at x0 x1 x2 x3
                    go_wp2_with fail
                    (with_reducible refine hcall.mono ?_)
                    rintro e0 w12 ⟨vq, rfl, hvq, hb⟩
                    have HNQ := Lib.hid (own_Nm hvq)
                    have hN := Lib.hid (HNO.out.on hb)
                    clear HNO hvq x0 x1 x2 x3
                    have HNO := hN
                    clear hN
                    have hB := Lib.hid (HB.out.trans (hb.mono HB.out.size))
                    have hR := Lib.hid (HR.out.on hb)
                    have hT := Lib.hid (HT.out.on hb)
                    clear hb HB HR HT hcall
                    have HB := hB
                    have HR := hR
                    have HT := hT
                    clear hB hR hT
                    have hcall := rint_same vq vo _ _ w12 rfl (Nat.le_trans (ovS_len _ _) (by have := HLB.out; omega)) HNQ.out HNO.out
                    go_wp2_with fail
                    (with_reducible refine hcall.mono ?_)
                    rintro e0 w13 ⟨rfl, hb⟩
                    clear HNO HNQ
                    have hB := Lib.hid (HB.out.trans (hb.mono HB.out.size))
                    have hR := Lib.hid (HR.out.on hb)
                    have hT := Lib.hid (HT.out.on hb)
                    clear hb HB HR HT hcall
                    have HB := hB
                    have HR := hR
                    have HT := hT
                    clear hB hR hT
                    clear HTK HLB
                    go_wp2
                    go_roundg (40 - k)
                    case measure => omega
                    case rel => exact ⟨k + 1, _, _, _, by omega, by omega, rfl, by go_num, ⟨_, rfl⟩, ⟨_, rfl⟩, ⟨_, rfl⟩, ⟨_, rfl⟩, ⟨_, rfl⟩, ⟨_, rfl⟩, ⟨_, rfl⟩, HB, HR, HT, HLK⟩
                  · have hca2 : ¬ cr = k1 := fun e => hca e.symm
                    have HS4 : Hid (∀ W, Below wp.heap.size wp W → Src W 2 (.slice (some ⟨g, k1 * 2, none⟩) (j - k1) (cr - k1)) (l.drop k1).length (itF (l.drop k1))) := fun W h => by
                      have h2 := (HR.out.on h).rest (cap2 := cr - k1) (k := k1) (by have := HJL.out; omega)
                      rw [← HJL.out] at h2
                      exact h2
                    clear hk1
                    refine wp_region_held_drew (S := fun w' => Below wp.heap.size wp w') (by kernel_rfl) (HKP.out _ (Below.refl _ wp).drew) (fun hHeld => ?_)
                    have hB : Below wp.heap.size wp wp.drew := (Below.refl _ wp).drew
                    generalize wp.drew = u0 at hHeld hB ⊢
                    refine wpAnyH_take (i := 1) (oi := ⟨some 117, _, _, _, _, _⟩) (v := ?vcb21_1) rfl (by kernel_rfl) (by kernel_rfl) (by kernel_rfl) (fun _ _ _ h => h) (Or.inl ⟨by rfl, ?ycb21_1⟩) hHeld ?rcb21_1
                    case ycb21_1 => (intro w' hSw; (try dsimp only at hSw); go_simp; try (with_reducible rfl))
                    simp only [Act.put, List.setIfInBounds_toArray, List.set_cons_zero, List.set_cons_succ]
                    refine wpAnyH_take (i := 2) (oi := ⟨some 118, _, _, _, _, _⟩) (v := ?vcb22_2) rfl (by kernel_rfl) (by kernel_rfl) (by kernel_rfl) (fun _ _ _ h => h) (Or.inl ⟨by rfl, ?ycb22_2⟩) hHeld ?rcb22_2
                    case ycb22_2 => (intro w' hSw; (try dsimp only at hSw); go_simp; try (with_reducible rfl))
                    simp only [Act.put, List.setIfInBounds_toArray, List.set_cons_zero, List.set_cons_succ]
                    refine wpAnyH_take (i := 3) (oi := ⟨some 119, _, _, _, _, _⟩) (v := ?vcb23_3) rfl (by kernel_rfl) (by kernel_rfl) (by kernel_rfl) (fun _ _ _ h => h) (Or.inl ⟨by rfl, ?ycb23_3⟩) hHeld ?rcb23_3
                    case ycb23_3 => (intro w' hSw; (try dsimp only at hSw); go_simp; try (with_reducible rfl))
                    simp only [Act.put, List.setIfInBounds_toArray, List.set_cons_zero, List.set_cons_succ]
                    refine wpAnyH_take (i := 5) (oi := ⟨some 121, _, _, _, _, _⟩) (v := ?vcb25_4) rfl (by kernel_rfl) (by kernel_rfl) (by kernel_rfl) (fun _ _ _ h => h) (Or.inl ⟨by rfl, ?ycb25_4⟩) hHeld ?rcb25_4
                    case ycb25_4 => (intro w' hSw; (try dsimp only at hSw); go_simp; try (with_reducible rfl))
                    simp only [Act.put, List.setIfInBounds_toArray, List.set_cons_zero, List.set_cons_succ]
                    refine wpAnyH_take (i := 6) (oi := ⟨some 122, _, _, _, _, _⟩) (v := ?vcb26_5) rfl (by kernel_rfl) (by kernel_rfl) (by kernel_rfl) (fun _ _ _ h => h) (Or.inl ⟨by rfl, ?ycb26_5⟩) hHeld ?rcb26_5
                    case ycb26_5 => (intro w' hSw; (try dsimp only at hSw); go_simp; try (with_reducible rfl))
                    simp only [Act.put, List.setIfInBounds_toArray, List.set_cons_zero, List.set_cons_succ]
                    refine wpAnyH_take (i := 7) (oi := ⟨some 123, _, _, _, _, _⟩) (v := ?vcb27_6) rfl (by kernel_rfl) (by kernel_rfl) (by kernel_rfl) (fun _ _ _ h => h) (Or.inl ⟨by rfl, ?ycb27_6⟩) hHeld ?rcb27_6
                    case ycb27_6 => (intro w' hSw; (try dsimp only at hSw); go_simp; try (with_reducible rfl))
                    simp only [Act.put, List.setIfInBounds_toArray, List.set_cons_zero, List.set_cons_succ]
                    refine wpAnyH_take (i := 8) (oi := ⟨some 124, _, _, _, _, _⟩) (v := ?vcb28_7) rfl (by kernel_rfl) (by kernel_rfl) (by kernel_rfl) (fun _ _ _ h => h) (Or.inl ⟨by rfl, ?ycb28_7⟩) hHeld ?rcb28_7
                    case ycb28_7 => (intro w' hSw; (try dsimp only at hSw); go_simp; try (with_reducible rfl))
                    simp only [Act.put, List.setIfInBounds_toArray, List.set_cons_zero, List.set_cons_succ]
                    refine wpAnyH_ready (rs := [0]) (by kernel_rfl) (by simp) ?_
                    refine AllReadyH.cons (o := ⟨some 116, _, _, _, _, _⟩) rfl (fun K hK => ?_) AllReadyH.nil
                    go_simp
                    have hb := below1 u0 (.cells #[] 37)
                    have hB2 := hB.trans (hb.mono hB.size)
                    refine hK.out _ _ (HKP.out _ hB2) (fun hNext => ?_)
                    have kO : (u0.alloc (.cells #[] 37)).ownsRow wp.heap.size 37 2 (.slice (some ⟨u0.heap.size, 0, none⟩) 0 0) 0 [] := World.ownsRow_made u0 #[] 0 hB.size (Nat.zero_le _) rfl
                    clear hK K hHeld
                    have hHeld := hNext
                    clear hNext
                    clear hB
                    have hB := hB2
                    clear hB2 hb
                    generalize hgen : (u0.alloc (.cells #[] 37)) = u1 at hHeld hB kO ⊢
                    clear hgen
                    generalize hgen : u0.heap.size = bO at kO ⊢
                    clear hgen
                    try simp only [Act.put, List.setIfInBounds_toArray, List.set_cons_zero, List.set_cons_succ]
                    refine wpAnyH_ready (rs := [4]) (by kernel_rfl) (by simp) ?_
                    refine AllReadyH.cons (o := ⟨some 120, _, _, _, _, _⟩) rfl (fun K hK => ?_) AllReadyH.nil
                    refine step_app _ rfl (.tmp 116) (.tmp 119) 31 rfl wp.heap.size 37 ii _ 2 24 Try.underlying31 hii hiz0 hiz1 hiz2 rfl (by decide) (.slice (some ⟨bO, 0, none⟩) 0 0) 0 [] rfl kO (.slice (some ⟨g, 0, none⟩) ka cr) ka (itF (l.take ka)) rfl (HS3.out _ _ hB) (by unfold maxLen; omega) (by omega) hB.size ?_
                    intro v2 u2 kO2 hgr
                    have hB2 := hB.grown hgr hB.size (fun j hj => (kO.lt j hj).1)
                    refine hK.out _ _ (HKP.out _ hB2) (fun hNext => ?_)
                    clear hK K hHeld
                    have hHeld := hNext
                    clear hNext
                    rw [Nat.zero_add, List.nil_append] at kO2
                    clear hB kO hgr
                    have hB := hB2
                    clear hB2
                    have kO := kO2
                    clear kO2
                    try simp only [Act.put, List.setIfInBounds_toArray, List.set_cons_zero, List.set_cons_succ]
                    refine wpAnyH_ready (rs := [9]) (by kernel_rfl) (by simp) ?_
                    refine AllReadyH.cons (o := ⟨some 125, _, _, _, _, _⟩) rfl (fun K hK => ?_) AllReadyH.nil
                    refine step_app _ rfl (.tmp 120) (.tmp 124) 31 rfl wp.heap.size 37 ii _ 2 24 Try.underlying31 hii hiz0 hiz1 hiz2 rfl (by decide) (v2) ka (itF (l.take ka)) rfl kO (.slice (some ⟨g, k1 * 2, none⟩) (j - k1) (cr - k1)) (l.drop k1).length (itF (l.drop k1)) rfl (HS4.out _ hB) (by unfold maxLen; omega) (by omega) hB.size ?_
                    intro v4 u3 kO2 hgr
                    have hB2 := hB.grown hgr hB.size (fun j hj => (kO.lt j hj).1)
                    refine hK.out _ _ (HKP.out _ hB2) (fun hNext => ?_)
                    clear hK K hHeld
                    have hHeld := hNext
                    clear hNext
                    clear hB kO hgr
                    have hB := hB2
                    clear hB2
                    have kO := kO2
                    clear kO2
                    try simp only [Act.put, List.setIfInBounds_toArray, List.set_cons_zero, List.set_cons_succ]
                    refine wpAnyH_take (i := 10) (oi := ⟨some 8, _, _, _, _, _⟩) (v := ?vcb210_8) rfl (by kernel_rfl) (by kernel_rfl) (by kernel_rfl) (fun _ _ _ h => h) (Or.inl ⟨by rfl, ?ycb210_8⟩) hHeld ?rcb210_8
                    case ycb210_8 => (intro w' hSw; (try dsimp only at hSw); go_simp; try (with_reducible rfl))
                    simp only [Act.put, List.setIfInBounds_toArray, List.set_cons_zero, List.set_cons_succ]
                    refine wpAnyH_done (by kernel_rfl) ?_ _
                    obtain ⟨wq, hwq⟩ : ∃ wq, wq = u3 := ⟨_, rfl⟩
                    subst hwq
                    have hb := hB
                    have hR : Lr wb.heap.size wq v4 (remT l id) := by
                      show World.ownsRow _ _ _ _ _ _ _
                      rw [remT_at HTK0.out HKA.out, ← HK1.out, itF_app, List.length_append, List.length_take, Nat.min_eq_left (by have := HJL.out; omega)]
                      exact own_weak kO HB.out.size
                    have HR2 := Lib.hid hR
                    have hBq := Lib.hid (HB.out.trans (hb.mono HB.out.size))
                    have hT := Lib.hid (HT.out.on hb)
                    clear hR kO hb hB HB HR HT HKP HS3 HS4 hgl hcm hlc hkl hkj hklz hka1 hlcz hkc hkc1 hcpz hl40z hka0 hdl HJL hHeld hw hk1j HK1
                    have HB := hBq
                    have HR := HR2
                    have HT := hT
                    clear hBq HR2 hT
                    obtain ⟨l', hl'⟩ : ∃ l', remT l id = l' := ⟨_, rfl⟩
                    rw [hl'] at HR HT
                    have HLK : Hid (l'.length ≤ k + 1) := by
                      show l'.length ≤ _
                      rw [← hl']
                      exact Nat.le_trans (remT_len _ _) (Nat.le_succ_of_le HLK0.out)
                    clear hl' HLK0
                    obtain ⟨Ar, cr, hlv⟩ := own_slT HR.out
                    subst hlv
                    have HTK := Lib.hid HT.out.at_.tok
                    have HLB : Hid (l'.length ≤ 1000) := by have := HLK.out; show l'.length ≤ _; omega
                    have hb := below1 wq (.cells #[] 3)
                    have hO0 := World.ownsRow_made (base := wq.heap.size) (e := 3) (size := 1) wq #[] 0 (Nat.le_refl _) (Nat.zero_le _) rfl
                    have HN0 : Hid (Nm (wq.alloc (.cells #[] 3)) (.slice (some ⟨wq.heap.size, 0, none⟩) 0 0) []) := own_Nm (L := []) hO0
                    clear hO0
                    have hB := Lib.hid (HB.out.trans (hb.mono HB.out.size))
                    have hR := Lib.hid (HR.out.on hb)
                    have hT := Lib.hid (HT.out.on hb)
                    clear hb HB HR HT 
                    have HB := hB
                    have HR := hR
                    have HT := hT
                    clear hB hR hT
                    go_upto_region 36 with (fail)
                    generalize (wq.alloc (.cells #[] 3)) = wt at HB HR HT HN0 ⊢
                    generalize hvo : Value.slice (some ⟨wq.heap.size, 0, none⟩) 0 0 = vo at HN0 ⊢
                    clear hvo
                    have HNO : Hid (Nm wt vo (ovS l' c)) := by show Nm _ _ _; rw [ovS_no HS2.out]; exact HN0.out
                    clear HN0
                    have hcall := len_c B l' _ wt HT.out.at_
                    have hneq : ((l'.length : Int) != (l'.length : Int)) = false := by simp
                    have h0 := ((HH.out.on HB.out).cell 0).trans rfl
                    have h1 := ((HH.out.on HB.out).cell 1).trans rfl
                    simp only [List.getElem?_toArray, List.getElem?_cons_succ, List.getElem?_cons_zero] at h0 h1
                    go_wp2_with fail
                    (with_reducible refine hcall.mono ?_)
                    rintro e0 w8 ⟨rfl, rfl⟩
                    clear hcall
                    have hcall := match_c hh hl B l' _ w8 (by have := HLB.out; omega) HT.out.at_
                    go_wp2_with fail
                    (with_reducible refine hcall.mono ?_)
                    rintro e0 w9 ⟨vm, rfl, hvm, hb⟩
                    have HNM := Lib.hid (own_Nm hvm)
                    have hN := Lib.hid (HNO.out.on hb)
                    clear HNO hvm h0 h1 hneq
                    have HNO := hN
                    clear hN
                    have hB := Lib.hid (HB.out.trans (hb.mono HB.out.size))
                    have hR := Lib.hid (HR.out.on hb)
                    have hT := Lib.hid (HT.out.on hb)
                    clear hb HB HR HT hcall
                    have HB := hB
                    have HR := hR
                    have HT := hT
                    clear hB hR hT
                    have hcall := meets_l _ s1 l' (oneC hh hl) w9 HLB.out HTK.out (oneC_snd hh hl) HS1.out HR.out.it
                    go_wp2_with fail
                    (with_reducible refine hcall.mono ?_)
                    rintro e0 w10 ⟨vn, rfl, hvn, hb⟩
                    have hN := Lib.hid (HNO.out.on hb)
                    have hN2 := Lib.hid (HNM.out.on hb)
                    have HNN := Lib.hid hvn
                    clear HNO HNM hvn
                    have HNO := hN
                    have HNM := hN2
                    clear hN hN2
                    have hB := Lib.hid (HB.out.trans (hb.mono HB.out.size))
                    have hR := Lib.hid (HR.out.on hb)
                    have hT := Lib.hid (HT.out.on hb)
                    clear hb HB HR HT hcall
                    have HB := hB
                    have HR := hR
                    have HT := hT
                    clear hB hR hT
                    have hcall := rint_same vm vn _ _ w10 (mtT_one HTK.out hh hl).symm (Nat.le_trans (mtT_le2 _ _ _) (by have := HLB.out; omega)) HNM.out HNN.out
                    go_wp2_with fail
                    (with_reducible refine hcall.mono ?_)
                    rintro e0 w11 ⟨rfl, hb⟩
                    have hN := Lib.hid (HNO.out.on hb)
                    clear HNO HNM HNN
                    have HNO := hN
                    clear hN
                    have hB := Lib.hid (HB.out.trans (hb.mono HB.out.size))
                    have hR := Lib.hid (HR.out.on hb)
                    have hT := Lib.hid (HT.out.on hb)
                    clear hb HB HR HT hcall
                    have HB := hB
                    have HR := hR
                    have HT := hT
                    clear hB hR hT
                    have hcall := ov_c c B l' _ w11 (by have := HLB.out; omega) HT.out.at_
                    have x0 := ((HC.out.on HB.out).cell 0).trans rfl
                    have x1 := ((HC.out.on HB.out).cell 1).trans rfl
                    have x2 := ((HC.out.on HB.out).cell 2).trans rfl
                    have x3 := ((HC.out.on HB.out).cell 3).trans rfl
                    simp only [List.getElem?_toArray, List.getElem?_cons_succ, List.getElem?_cons_zero] at x0 x1 x2 x3
                    go_wp2_with fail
                    (with_reducible refine hcall.mono ?_)
                    rintro e0 w12 ⟨vq, rfl, hvq, hb⟩
                    have HNQ := Lib.hid (own_Nm hvq)
                    have hN := Lib.hid (HNO.out.on hb)
                    clear HNO hvq x0 x1 x2 x3
                    have HNO := hN
                    clear hN
                    have hB := Lib.hid (HB.out.trans (hb.mono HB.out.size))
                    have hR := Lib.hid (HR.out.on hb)
                    have hT := Lib.hid (HT.out.on hb)
                    clear hb HB HR HT hcall
                    have HB := hB
                    have HR := hR
                    have HT := hT
                    clear hB hR hT
                    have hcall := rint_same vq vo _ _ w12 rfl (Nat.le_trans (ovS_len _ _) (by have := HLB.out; omega)) HNQ.out HNO.out
                    go_wp2_with fail
                    (with_reducible refine hcall.mono ?_)
                    rintro e0 w13 ⟨rfl, hb⟩
                    clear HNO HNQ
                    have hB := Lib.hid (HB.out.trans (hb.mono HB.out.size))
                    have hR := Lib.hid (HR.out.on hb)
                    have hT := Lib.hid (HT.out.on hb)
                    clear hb HB HR HT hcall
                    have HB := hB
                    have HR := hR
                    have HT := hT
                    clear hB hR hT
                    clear HTK HLB
                    go_wp2
                    go_roundg (40 - k)
                    case measure => omega
                    case rel => exact ⟨k + 1, _, _, _, by omega, by omega, rfl, by go_num, ⟨_, rfl⟩, ⟨_, rfl⟩, ⟨_, rfl⟩, ⟨_, rfl⟩, ⟨_, rfl⟩, ⟨_, rfl⟩, ⟨_, rfl⟩, HB, HR, HT, HLK⟩
                · have hw1b : (what == 1) = false := by simpa using hw1
                  clear hw0 hw1
                  have x0 := (HX.out.cell 0).trans rfl
                  have x1 := (HX.out.cell 1).trans rfl
                  have x2 := (HX.out.cell 2).trans rfl
                  have x3 := (HX.out.cell 3).trans rfl
                  have x4 := (HX.out.cell 4).trans rfl
                  have x5 := (HX.out.cell 5).trans rfl
                  simp only [List.getElem?_toArray, List.getElem?_cons_succ, List.getElem?_cons_zero] at x0 x1 x2 x3 x4 x5
                  obtain ⟨wp, hwp⟩ : ∃ wp, wp = w4 := ⟨_, rfl⟩
                  subst hwp
                  obtain ⟨l', hl'⟩ : ∃ l', l = l' := ⟨_, rfl⟩
                  rw [hl'] at HR HT HLK0
                  have HLK : Hid (l'.length ≤ k + 1) := Nat.le_succ_of_le HLK0.out
                  have HLJ : Hid (l'.length = j) := by rw [← hl']; exact HM.out
                  clear hl' HLK0
                  have HTK := Lib.hid HT.out.at_.tok
                  have HLB : Hid (l'.length ≤ 1000) := by have := HLK.out; show l'.length ≤ _; omega
                  have hb := below1 wp (.cells #[] 3)
                  have hO0 := World.ownsRow_made (base := wp.heap.size) (e := 3) (size := 1) wp #[] 0 (Nat.le_refl _) (Nat.zero_le _) rfl
                  have HN0 : Hid (Nm (wp.alloc (.cells #[] 3)) (.slice (some ⟨wp.heap.size, 0, none⟩) 0 0) []) := own_Nm (L := []) hO0
                  clear hO0
                  have hB := Lib.hid (HB.out.trans (hb.mono HB.out.size))
                  have hR := Lib.hid (HR.out.on hb)
                  have hT := Lib.hid (HT.out.on hb)
                  clear hb HB HR HT 
                  have HB := hB
                  have HR := hR
                  have HT := hT
                  clear hB hR hT
                  go_upto_region 36 with (fail)
                  generalize (wp.alloc (.cells #[] 3)) = wt at HB HR HT HN0 ⊢
                  generalize hvo : Value.slice (some ⟨wp.heap.size, 0, none⟩) 0 0 = vo at HN0 ⊢
                  clear hvo
                  have HNO : Hid (Nm wt vo (ovS l' c)) := by show Nm _ _ _; rw [ovS_no HS2.out]; exact HN0.out
                  clear HN0
                  have hcall := len_c B l' _ wt HT.out.at_
                  have hneq : ((l'.length : Int) != (j : Int)) = false := by rw [HLJ.out]; simp
                  have h0 := ((HH.out.on HB.out).cell 0).trans rfl
                  have h1 := ((HH.out.on HB.out).cell 1).trans rfl
                  simp only [List.getElem?_toArray, List.getElem?_cons_succ, List.getElem?_cons_zero] at h0 h1
                  go_wp2_with fail
                  (with_reducible refine hcall.mono ?_)
                  rintro e0 w8 ⟨rfl, rfl⟩
                  clear hcall
                  have hcall := match_c hh hl B l' _ w8 (by have := HLB.out; omega) HT.out.at_
                  go_wp2_with fail
                  (with_reducible refine hcall.mono ?_)
                  rintro e0 w9 ⟨vm, rfl, hvm, hb⟩
                  have HNM := Lib.hid (own_Nm hvm)
                  have hN := Lib.hid (HNO.out.on hb)
                  clear HNO hvm h0 h1 hneq
                  have HNO := hN
                  clear hN
                  have hB := Lib.hid (HB.out.trans (hb.mono HB.out.size))
                  have hR := Lib.hid (HR.out.on hb)
                  have hT := Lib.hid (HT.out.on hb)
                  clear hb HB HR HT hcall
                  have HB := hB
                  have HR := hR
                  have HT := hT
                  clear hB hR hT
                  have hcall := meets_l _ s1 l' (oneC hh hl) w9 HLB.out HTK.out (oneC_snd hh hl) HS1.out HR.out.it
                  go_wp2_with fail
                  (with_reducible refine hcall.mono ?_)
                  rintro e0 w10 ⟨vn, rfl, hvn, hb⟩
                  have hN := Lib.hid (HNO.out.on hb)
                  have hN2 := Lib.hid (HNM.out.on hb)
                  have HNN := Lib.hid hvn
                  clear HNO HNM hvn
                  have HNO := hN
                  have HNM := hN2
                  clear hN hN2
                  have hB := Lib.hid (HB.out.trans (hb.mono HB.out.size))
                  have hR := Lib.hid (HR.out.on hb)
                  have hT := Lib.hid (HT.out.on hb)
                  clear hb HB HR HT hcall
                  have HB := hB
                  have HR := hR
                  have HT := hT
                  clear hB hR hT
                  have hcall := rint_same vm vn _ _ w10 (mtT_one HTK.out hh hl).symm (Nat.le_trans (mtT_le2 _ _ _) (by have := HLB.out; omega)) HNM.out HNN.out
                  go_wp2_with fail
                  (with_reducible refine hcall.mono ?_)
                  rintro e0 w11 ⟨rfl, hb⟩
                  have hN := Lib.hid (HNO.out.on hb)
                  clear HNO HNM HNN
                  have HNO := hN
                  clear hN
                  have hB := Lib.hid (HB.out.trans (hb.mono HB.out.size))
                  have hR := Lib.hid (HR.out.on hb)
                  have hT := Lib.hid (HT.out.on hb)
                  clear hb HB HR HT hcall
                  have HB := hB
                  have HR := hR
                  have HT := hT
                  clear hB hR hT
                  have hcall := ov_c c B l' _ w11 (by have := HLB.out; omega) HT.out.at_
                  have x0 := ((HC.out.on HB.out).cell 0).trans rfl
                  have x1 := ((HC.out.on HB.out).cell 1).trans rfl
                  have x2 := ((HC.out.on HB.out).cell 2).trans rfl
                  have x3 := ((HC.out.on HB.out).cell 3).trans rfl
                  simp only [List.getElem?_toArray, List.getElem?_cons_succ, List.getElem?_cons_zero] at x0 x1 x2 x3
                  go_wp2_with fail
                  (with_reducible refine hcall.mono ?_)
                  rintro e0 w12 ⟨vq, rfl, hvq, hb⟩
                  have HNQ := Lib.hid (own_Nm hvq)
                  have hN := Lib.hid (HNO.out.on hb)
                  clear HNO hvq x0 x1 x2 x3
                  have HNO := hN
                  clear hN
                  have hB := Lib.hid (HB.out.trans (hb.mono HB.out.size))
                  have hR := Lib.hid (HR.out.on hb)
                  have hT := Lib.hid (HT.out.on hb)
                  clear hb HB HR HT hcall
                  have HB := hB
                  have HR := hR
                  have HT := hT
                  clear hB hR hT
                  have hcall := rint_same vq vo _ _ w12 rfl (Nat.le_trans (ovS_len _ _) (by have := HLB.out; omega)) HNQ.out HNO.out
                  go_wp2_with fail
                  (with_reducible refine hcall.mono ?_)
                  rintro e0 w13 ⟨rfl, hb⟩
                  clear HNO HNQ
                  have hB := Lib.hid (HB.out.trans (hb.mono HB.out.size))
                  have hR := Lib.hid (HR.out.on hb)
                  have hT := Lib.hid (HT.out.on hb)
                  clear hb HB HR HT hcall
                  have HB := hB
                  have HR := hR
                  have HT := hT
                  clear hB hR hT
                  clear HTK HLB
                  go_wp2
                  go_roundg (40 - k)
                  case measure => omega
                  case rel => exact ⟨k + 1, _, _, _, by omega, by omega, rfl, by go_num, ⟨_, rfl⟩, ⟨_, rfl⟩, ⟨_, rfl⟩, ⟨_, rfl⟩, ⟨_, rfl⟩, ⟨_, rfl⟩, ⟨_, rfl⟩, HB, HR, HT, HLK⟩
      · have h40z : ¬ (k : Int) < 40 := by omega
        go_wp2
        go_ret
        exact ⟨rfl, HBW.out.trans (HB.out.mono HBW.out.size)⟩
    · have hltz : ¬ (k : Int) < (n : Int) := by omega
      go_wp2
      go_ret
      exact ⟨rfl, HBW.out.trans (HB.out.mono HBW.out.size)⟩
end Go.Proofs
