/-
  The row of customhouselaw11.AtomsBack: for every input it returns true, and each argument reads as it did. No conditions.
  The walk of customhouselaw11.AtomsBack: it returns true. Conditions as each theorem lists them.
-/
import Derived.Test.YtpmgbofnikmhgaaGreatJ10
import Derived.Test.YtpmgbofnikmhgaaGreatRows
import Derived.Below
namespace Go.Proofs
open Go.RowKit Go.Proofs.Hd Go.Lib Go.Shelf
attribute [local go_sem] uv_nonneg
set_option maxHeartbeats 8000000 in
set_option maxRecDepth 100000 in
theorem aback_c (A : Option Addr) (cap : Nat) (cs0 : List Cb) (c : Cb) (gh gl hh hl : BitVec 64) (w : World) (hc : cs0.length ≤ cap) (hm : cap ≤ maxLen) (hv : Pl w (.slice A cs0.length cap) cs0) :
    Calls Tryz.prog 6 #[.slice A cs0.length cap, .agg #[.int .u64 (uv c.vh), .int .u64 (uv c.vl), .int .u64 (uv c.ch), .int .u64 (uv c.cl)], .agg #[.int .u64 (uv gh), .int .u64 (uv gl)], .agg #[.int .u64 (uv hh), .int .u64 (uv hl)]] w fun e w' => e = .returned (.bool true) ∧ Below w.heap.size w w' := by
  have b1 := below1 w (.cells #[.int .u64 (uv c.vh), .int .u64 (uv c.vl), .int .u64 (uv c.ch), .int .u64 (uv c.cl)] 53)
  have b2 := below1 (w.alloc (.cells #[.int .u64 (uv c.vh), .int .u64 (uv c.vl), .int .u64 (uv c.ch), .int .u64 (uv c.cl)] 53)) (.cells #[.int .u64 (uv gh), .int .u64 (uv gl)] 25)
  have b3 := below1 ((w.alloc (.cells #[.int .u64 (uv c.vh), .int .u64 (uv c.vl), .int .u64 (uv c.ch), .int .u64 (uv c.cl)] 53)).alloc (.cells #[.int .u64 (uv gh), .int .u64 (uv gl)] 25)) (.cells #[.int .u64 (uv hh), .int .u64 (uv hl)] 25)
  have x1 : Blk (w.alloc (.cells #[.int .u64 (uv c.vh), .int .u64 (uv c.vl), .int .u64 (uv c.ch), .int .u64 (uv c.cl)] 53)) w.heap.size 53 c.arr := Blk.new w _ _
  have x2 : Blk ((w.alloc (.cells #[.int .u64 (uv c.vh), .int .u64 (uv c.vl), .int .u64 (uv c.ch), .int .u64 (uv c.cl)] 53)).alloc (.cells #[.int .u64 (uv gh), .int .u64 (uv gl)] 25)) (w.heap.size + 1) 25 #[.int .u64 (uv gh), .int .u64 (uv gl)] := by have h := Blk.new (w.alloc (.cells #[.int .u64 (uv c.vh), .int .u64 (uv c.vl), .int .u64 (uv c.ch), .int .u64 (uv c.cl)] 53)) 25 #[.int .u64 (uv gh), .int .u64 (uv gl)]; rw [World.size_alloc] at h; exact h
  have x3 : Blk (((w.alloc (.cells #[.int .u64 (uv c.vh), .int .u64 (uv c.vl), .int .u64 (uv c.ch), .int .u64 (uv c.cl)] 53)).alloc (.cells #[.int .u64 (uv gh), .int .u64 (uv gl)] 25)).alloc (.cells #[.int .u64 (uv hh), .int .u64 (uv hl)] 25)) (w.heap.size + 1 + 1) 25 #[.int .u64 (uv hh), .int .u64 (uv hl)] := by have h := Blk.new ((w.alloc (.cells #[.int .u64 (uv c.vh), .int .u64 (uv c.vl), .int .u64 (uv c.ch), .int .u64 (uv c.cl)] 53)).alloc (.cells #[.int .u64 (uv gh), .int .u64 (uv gl)] 25)) 25 #[.int .u64 (uv hh), .int .u64 (uv hl)]; rw [World.size_alloc, World.size_alloc] at h; exact h
  have x1 := (x1.on b2).on b3
  have x2 := x2.on b3
  have bb := (b1.trans (b2.mono b1.size)).trans (b3.mono (b1.trans (b2.mono b1.size)).size)
  have hv1 := ((hv.on b1).on b2).on b3
  clear b1 b2 b3 hv
  go_enter Tryz.func6, Tryz.ntmps6
  go_upto_region 1 with (fail)
  generalize (((w.alloc (.cells #[.int .u64 (uv c.vh), .int .u64 (uv c.vl), .int .u64 (uv c.ch), .int .u64 (uv c.cl)] 53)).alloc (.cells #[.int .u64 (uv gh), .int .u64 (uv gl)] 25)).alloc (.cells #[.int .u64 (uv hh), .int .u64 (uv hl)] 25)) = w1 at x1 x2 x3 bb hv1 ⊢
  generalize w.heap.size + 1 + 1 = n3 at x3 ⊢
  generalize w.heap.size + 1 = n2 at x2 ⊢
  have hf := few_c A cap cs0 w1 hc hm
  have PV := Pl.take hv1 7
  have hlen : (cs0.take 7).length ≤ 7 := by rw [List.length_take]; omega
  generalize cs0.take 7 = cs at hf PV hlen
  clear hv1 hc hm
  go_wp2_with fail
  (with_reducible refine hf.mono ?_)
  rintro e w2 ⟨rfl, rfl⟩
  have B0 := Lib.hid bb
  have XC_0 := Lib.hid x1
  have XG_0 := Lib.hid x2
  have XH_0 := Lib.hid x3
  have HLN := Lib.hid hlen
  have HPV := Lib.hid PV
  clear hf bb x1 x2 x3 hlen PV
  have hcall := asplit_r _ cs w1 (by have := HLN.out; omega) HPV.out
  go_wp2_with fail
  (with_reducible refine hcall.mono ?_)
  rintro e w1 hr
  clear hcall
  have hcall := trivial
  cases hr with
  | form hs hb =>
    have B1 := Lib.hid (B0.out.trans (hb.mono B0.out.size))
    have XC_1 := Lib.hid (XC_0.out.on hb)
    have XG_1 := Lib.hid (XG_0.out.on hb)
    have XH_1 := Lib.hid (XH_0.out.on hb)
    clear hb hcall hs B0 XC_0 XG_0 XH_0
    obtain ⟨y0, y1, y2, y3⟩ : At4 w1 w.heap.size 0 c := ⟨XC_1.out.cell 0, XC_1.out.cell 1, XC_1.out.cell 2, XC_1.out.cell 3⟩
    have hcall := arefine_r (.slice none 0 0) [] 100 c w1 (by simp) (fun a ha => by cases ha) (At.nil w1)
    go_wp2_with fail
    (with_reducible refine hcall.mono ?_)
    rintro e w2 hr
    clear hcall
    have hcall := trivial
    cases hr with
    | err kk hk hb =>
      have B2 := Lib.hid (B1.out.trans (hb.mono B1.out.size))
      have XC_2 := Lib.hid (XC_1.out.on hb)
      have XG_2 := Lib.hid (XG_1.out.on hb)
      have XH_2 := Lib.hid (XH_1.out.on hb)
      clear hb hcall y0 y1 y2 y3 hk B1 XC_1 XG_1 XH_1
      have hcall := awake11_c w2
      go_wp2_with fail
      (with_reducible refine hcall.mono ?_)
      rintro e w3 ⟨rfl, hb⟩
      have B3 := Lib.hid (B2.out.trans (hb.mono B2.out.size))
      have XC_3 := Lib.hid (XC_2.out.on hb)
      have XG_3 := Lib.hid (XG_2.out.on hb)
      have XH_3 := Lib.hid (XH_2.out.on hb)
      clear hb hcall  B2 XC_2 XG_2 XH_2
      have hcall := awake11_c w3
      go_wp2_with fail
      (with_reducible refine hcall.mono ?_)
      rintro e w4 ⟨rfl, hb⟩
      have B4 := Lib.hid (B3.out.trans (hb.mono B3.out.size))
      have XC_4 := Lib.hid (XC_3.out.on hb)
      have XG_4 := Lib.hid (XG_3.out.on hb)
      have XH_4 := Lib.hid (XH_3.out.on hb)
      clear hb hcall  B3 XC_3 XG_3 XH_3
      go_wp2
      go_ret
      exact ⟨rfl, B4.out⟩
    | some v4 al h0 h1 h2 h3 hA hb =>
      have B2 := Lib.hid (B1.out.trans (hb.mono B1.out.size))
      have XC_2 := Lib.hid (XC_1.out.on hb)
      have XG_2 := Lib.hid (XG_1.out.on hb)
      have XH_2 := Lib.hid (XH_1.out.on hb)
      clear hb hcall y0 y1 y2 y3 h0 h1 h2 h3 hA B1 XC_1 XG_1 XH_1
      have hcall := awake11_c w2
      go_wp2_with fail
      (with_reducible refine hcall.mono ?_)
      rintro e w5 ⟨rfl, hb⟩
      have B5 := Lib.hid (B2.out.trans (hb.mono B2.out.size))
      have XC_5 := Lib.hid (XC_2.out.on hb)
      have XG_5 := Lib.hid (XG_2.out.on hb)
      have XH_5 := Lib.hid (XH_2.out.on hb)
      clear hb hcall  B2 XC_2 XG_2 XH_2
      have hcall := awake11_c w5
      go_wp2_with fail
      (with_reducible refine hcall.mono ?_)
      rintro e w6 ⟨rfl, hb⟩
      have B6 := Lib.hid (B5.out.trans (hb.mono B5.out.size))
      have XC_6 := Lib.hid (XC_5.out.on hb)
      have XG_6 := Lib.hid (XG_5.out.on hb)
      have XH_6 := Lib.hid (XH_5.out.on hb)
      clear hb hcall  B5 XC_5 XG_5 XH_5
      go_wp2
      go_ret
      exact ⟨rfl, B6.out⟩
  | many hs hb =>
    have B1 := Lib.hid (B0.out.trans (hb.mono B0.out.size))
    have XC_1 := Lib.hid (XC_0.out.on hb)
    have XG_1 := Lib.hid (XG_0.out.on hb)
    have XH_1 := Lib.hid (XH_0.out.on hb)
    clear hb hcall hs B0 XC_0 XG_0 XH_0
    obtain ⟨y0, y1, y2, y3⟩ : At4 w1 w.heap.size 0 c := ⟨XC_1.out.cell 0, XC_1.out.cell 1, XC_1.out.cell 2, XC_1.out.cell 3⟩
    have hcall := arefine_r (.slice none 0 0) [] 100 c w1 (by simp) (fun a ha => by cases ha) (At.nil w1)
    go_wp2_with fail
    (with_reducible refine hcall.mono ?_)
    rintro e w7 hr
    clear hcall
    have hcall := trivial
    cases hr with
    | err kk hk hb =>
      have B7 := Lib.hid (B1.out.trans (hb.mono B1.out.size))
      have XC_7 := Lib.hid (XC_1.out.on hb)
      have XG_7 := Lib.hid (XG_1.out.on hb)
      have XH_7 := Lib.hid (XH_1.out.on hb)
      clear hb hcall y0 y1 y2 y3 hk B1 XC_1 XG_1 XH_1
      have hcall := awake11_c w7
      go_wp2_with fail
      (with_reducible refine hcall.mono ?_)
      rintro e w8 ⟨rfl, hb⟩
      have B8 := Lib.hid (B7.out.trans (hb.mono B7.out.size))
      have XC_8 := Lib.hid (XC_7.out.on hb)
      have XG_8 := Lib.hid (XG_7.out.on hb)
      have XH_8 := Lib.hid (XH_7.out.on hb)
      clear hb hcall  B7 XC_7 XG_7 XH_7
      have hcall := awake11_c w8
      go_wp2_with fail
      (with_reducible refine hcall.mono ?_)
      rintro e w9 ⟨rfl, hb⟩
      have B9 := Lib.hid (B8.out.trans (hb.mono B8.out.size))
      have XC_9 := Lib.hid (XC_8.out.on hb)
      have XG_9 := Lib.hid (XG_8.out.on hb)
      have XH_9 := Lib.hid (XH_8.out.on hb)
      clear hb hcall  B8 XC_8 XG_8 XH_8
      go_wp2
      go_ret
      exact ⟨rfl, B9.out⟩
    | some v4 al h0 h1 h2 h3 hA hb =>
      have B7 := Lib.hid (B1.out.trans (hb.mono B1.out.size))
      have XC_7 := Lib.hid (XC_1.out.on hb)
      have XG_7 := Lib.hid (XG_1.out.on hb)
      have XH_7 := Lib.hid (XH_1.out.on hb)
      clear hb hcall y0 y1 y2 y3 h0 h1 h2 h3 hA B1 XC_1 XG_1 XH_1
      have hcall := awake11_c w7
      go_wp2_with fail
      (with_reducible refine hcall.mono ?_)
      rintro e w10 ⟨rfl, hb⟩
      have B10 := Lib.hid (B7.out.trans (hb.mono B7.out.size))
      have XC_10 := Lib.hid (XC_7.out.on hb)
      have XG_10 := Lib.hid (XG_7.out.on hb)
      have XH_10 := Lib.hid (XH_7.out.on hb)
      clear hb hcall  B7 XC_7 XG_7 XH_7
      have hcall := awake11_c w10
      go_wp2_with fail
      (with_reducible refine hcall.mono ?_)
      rintro e w11 ⟨rfl, hb⟩
      have B11 := Lib.hid (B10.out.trans (hb.mono B10.out.size))
      have XC_11 := Lib.hid (XC_10.out.on hb)
      have XG_11 := Lib.hid (XG_10.out.on hb)
      have XH_11 := Lib.hid (XH_10.out.on hb)
      clear hb hcall  B10 XC_10 XG_10 XH_10
      go_wp2
      go_ret
      exact ⟨rfl, B11.out⟩
  | some v3 bs hs hq hA hb =>
    have HK := Lib.hid (SpK.of hs hq)
    have AL_0 := Lib.hid hA
    obtain ⟨A3, c3, rfl, -, -⟩ := hA.form
    have B1 := Lib.hid (B0.out.trans (hb.mono B0.out.size))
    have XC_1 := Lib.hid (XC_0.out.on hb)
    have XG_1 := Lib.hid (XG_0.out.on hb)
    have XH_1 := Lib.hid (XH_0.out.on hb)
    clear hb hcall hs hq hA B0 XC_0 XG_0 XH_0
    have AL_1 := AL_0
    clear AL_0
    obtain ⟨y0, y1, y2, y3⟩ : At4 w1 w.heap.size 0 c := ⟨XC_1.out.cell 0, XC_1.out.cell 1, XC_1.out.cell 2, XC_1.out.cell 3⟩
    have hcall := arefine_r (.slice A3 bs.length c3) bs 100 c w1 (by have := HK.out.le HLN.out; omega) (fun a ha => by have := HK.out.few a ha; have := HLN.out; omega) AL_1.out
    go_wp2_with fail
    (with_reducible refine hcall.mono ?_)
    rintro e w12 hr
    clear hcall
    have hcall := trivial
    cases hr with
    | err kk hk hb =>
      have hd : (kk == 0) = false := by rcases hk with ⟨rfl, _⟩ | ⟨rfl, _⟩ | ⟨rfl, _⟩ | ⟨rfl, _⟩ <;> rfl
      have B12 := Lib.hid (B1.out.trans (hb.mono B1.out.size))
      have AL_12 := Lib.hid (AL_1.out.on hb)
      have XC_12 := Lib.hid (XC_1.out.on hb)
      have XG_12 := Lib.hid (XG_1.out.on hb)
      have XH_12 := Lib.hid (XH_1.out.on hb)
      clear hb hcall y0 y1 y2 y3 hk B1 AL_1 XC_1 XG_1 XH_1
      have hcall := awake11_c w12
      go_wp2_with fail
      (with_reducible refine hcall.mono ?_)
      rintro e w13 ⟨rfl, hb⟩
      have B13 := Lib.hid (B12.out.trans (hb.mono B12.out.size))
      have AL_13 := Lib.hid (AL_12.out.on hb)
      have XC_13 := Lib.hid (XC_12.out.on hb)
      have XG_13 := Lib.hid (XG_12.out.on hb)
      have XH_13 := Lib.hid (XH_12.out.on hb)
      clear hb hcall  B12 AL_12 XC_12 XG_12 XH_12
      have hcall := awake11_c w13
      go_wp2_with fail
      (with_reducible refine hcall.mono ?_)
      rintro e w14 ⟨rfl, hb⟩
      have B14 := Lib.hid (B13.out.trans (hb.mono B13.out.size))
      have AL_14 := Lib.hid (AL_13.out.on hb)
      have XC_14 := Lib.hid (XC_13.out.on hb)
      have XG_14 := Lib.hid (XG_13.out.on hb)
      have XH_14 := Lib.hid (XH_13.out.on hb)
      clear hb hcall  B13 AL_13 XC_13 XG_13 XH_13
      go_wp2
      go_ret
      exact ⟨rfl, B14.out⟩
    | some v4 al h0 h1 h2 h3 hA4 hb =>
      have hcs : c.snd = true := by revert h1; cases c.snd <;> simp
      have HR := Lib.hid (HK.out.ref HLN.out hcs h3)
      have HCS := Lib.hid hcs
      have AA := Lib.hid hA4
      obtain ⟨A4, c4, rfl, -, -⟩ := hA4.form
      have B12 := Lib.hid (B1.out.trans (hb.mono B1.out.size))
      have AL_12 := Lib.hid (AL_1.out.on hb)
      have XC_12 := Lib.hid (XC_1.out.on hb)
      have XG_12 := Lib.hid (XG_1.out.on hb)
      have XH_12 := Lib.hid (XH_1.out.on hb)
      clear hb hcall y0 y1 y2 y3 h0 h1 h2 h3 hA4 hcs B1 AL_1 XC_1 XG_1 XH_1
      have AA_12 := AA
      clear AA
      have hcall := awake11_c w12
      go_wp2_with fail
      (with_reducible refine hcall.mono ?_)
      rintro e w15 ⟨rfl, hb⟩
      have B15 := Lib.hid (B12.out.trans (hb.mono B12.out.size))
      have AA_15 := Lib.hid (AA_12.out.on hb)
      have AL_15 := Lib.hid (AL_12.out.on hb)
      have XC_15 := Lib.hid (XC_12.out.on hb)
      have XG_15 := Lib.hid (XG_12.out.on hb)
      have XH_15 := Lib.hid (XH_12.out.on hb)
      clear hb hcall  B12 AA_12 AL_12 XC_12 XG_12 XH_12
      have hcall := acoarsen_r (.slice A4 al.length c4) al 100 w15 (by have := HR.out.2.len; omega) (fun a ha => by have := HR.out.2.few a ha; have := HLN.out; omega) AA_15.out
      go_wp2_with fail
      (with_reducible refine hcall.mono ?_)
      rintro e w16 hr
      clear hcall
      have hcall := trivial
      cases hr with
      | err kk hk hb =>
        obtain rfl : kk = 10 := by
          rcases hk with ⟨_, h⟩ | ⟨h, _⟩
          · rw [good_sndA HR.out.2.good] at h; cases h
          · exact h
        have B16 := Lib.hid (B15.out.trans (hb.mono B15.out.size))
        have AA_16 := Lib.hid (AA_15.out.on hb)
        have AL_16 := Lib.hid (AL_15.out.on hb)
        have XC_16 := Lib.hid (XC_15.out.on hb)
        have XG_16 := Lib.hid (XG_15.out.on hb)
        have XH_16 := Lib.hid (XH_15.out.on hb)
        clear hb hcall  B15 AA_15 AL_15 XC_15 XG_15 XH_15
        go_wp2
        go_ret
        exact ⟨rfl, B16.out⟩
      | some v5 dl h4 h5 hA5 hb =>
        rw [crsG_inc HR.out.2.inc] at h5
        obtain ⟨hl1, hd2, hi2⟩ := spl_back HCS.out HK.out.inv.good HK.out.inv.dst HK.out.ids (fun x => inF_not (by have := HLN.out; omega)) HR.out.1 h5
        obtain ⟨x, y, u, v, e1, e2, e3, e4, hxy⟩ := fnd_two HK.out.inv.dst hd2 HK.out.ids hi2 (gh, gl) (hh, hl) Iff.rfl
        have AD := Lib.hid hA5
        obtain ⟨A5, c5, rfl, -, -⟩ := hA5.form
        have E1 := Lib.hid e1
        have E2 := Lib.hid e2
        have E3 := Lib.hid e3
        have E4 := Lib.hid e4
        have HXY := Lib.hid hxy
        have HL1 := Lib.hid hl1
        have HID := Lib.hid hi2
        have B16 := Lib.hid (B15.out.trans (hb.mono B15.out.size))
        have AA_16 := Lib.hid (AA_15.out.on hb)
        have AL_16 := Lib.hid (AL_15.out.on hb)
        have XC_16 := Lib.hid (XC_15.out.on hb)
        have XG_16 := Lib.hid (XG_15.out.on hb)
        have XH_16 := Lib.hid (XH_15.out.on hb)
        clear hb hcall h4 h5 hA5 e1 e2 e3 e4 hxy hl1 hi2 hd2 B15 AA_15 AL_15 XC_15 XG_15 XH_15
        have AD_16 := AD
        clear AD
        obtain ⟨y0, y1⟩ := XG_16.out.pair
        have hfd := afind_c _ bs gh gl w16 AL_16.out
        rw [E1.out] at hfd
        have hcall := hfd
        go_wp2_with fail
        (with_reducible refine hcall.mono ?_)
        rintro e w17 ⟨rfl, hb⟩
        have B17 := Lib.hid (B16.out.trans (hb.mono B16.out.size))
        have AD_17 := Lib.hid (AD_16.out.on hb)
        have AA_17 := Lib.hid (AA_16.out.on hb)
        have AL_17 := Lib.hid (AL_16.out.on hb)
        have XC_17 := Lib.hid (XC_16.out.on hb)
        have XG_17 := Lib.hid (XG_16.out.on hb)
        have XH_17 := Lib.hid (XH_16.out.on hb)
        clear hb hcall hfd y0 y1 B16 AD_16 AA_16 AL_16 XC_16 XG_16 XH_16
        obtain ⟨y0, y1⟩ := XH_17.out.pair
        have hfd := afind_c _ bs hh hl w17 AL_17.out
        rw [E2.out] at hfd
        have hcall := hfd
        go_wp2_with fail
        (with_reducible refine hcall.mono ?_)
        rintro e w18 ⟨rfl, hb⟩
        have B18 := Lib.hid (B17.out.trans (hb.mono B17.out.size))
        have AD_18 := Lib.hid (AD_17.out.on hb)
        have AA_18 := Lib.hid (AA_17.out.on hb)
        have AL_18 := Lib.hid (AL_17.out.on hb)
        have XC_18 := Lib.hid (XC_17.out.on hb)
        have XG_18 := Lib.hid (XG_17.out.on hb)
        have XH_18 := Lib.hid (XH_17.out.on hb)
        clear hb hcall hfd y0 y1 B17 AD_17 AA_17 AL_17 XC_17 XG_17 XH_17
        obtain ⟨y0, y1⟩ := XG_18.out.pair
        have hfd := afind_c _ dl gh gl w18 AD_18.out
        rw [E3.out] at hfd
        have hcall := hfd
        go_wp2_with fail
        (with_reducible refine hcall.mono ?_)
        rintro e w19 ⟨rfl, hb⟩
        have B19 := Lib.hid (B18.out.trans (hb.mono B18.out.size))
        have AD_19 := Lib.hid (AD_18.out.on hb)
        have AA_19 := Lib.hid (AA_18.out.on hb)
        have AL_19 := Lib.hid (AL_18.out.on hb)
        have XC_19 := Lib.hid (XC_18.out.on hb)
        have XG_19 := Lib.hid (XG_18.out.on hb)
        have XH_19 := Lib.hid (XH_18.out.on hb)
        clear hb hcall hfd y0 y1 B18 AD_18 AA_18 AL_18 XC_18 XG_18 XH_18
        obtain ⟨y0, y1⟩ := XH_19.out.pair
        have hfd := afind_c _ dl hh hl w19 AD_19.out
        rw [E4.out] at hfd
        have hcall := hfd
        go_wp2_with fail
        (with_reducible refine hcall.mono ?_)
        rintro e w20 ⟨rfl, hb⟩
        have B20 := Lib.hid (B19.out.trans (hb.mono B19.out.size))
        have AD_20 := Lib.hid (AD_19.out.on hb)
        have AA_20 := Lib.hid (AA_19.out.on hb)
        have AL_20 := Lib.hid (AL_19.out.on hb)
        have XC_20 := Lib.hid (XC_19.out.on hb)
        have XG_20 := Lib.hid (XG_19.out.on hb)
        have XH_20 := Lib.hid (XH_19.out.on hb)
        clear hb hcall hfd y0 y1 B19 AD_19 AA_19 AL_19 XC_19 XG_19 XH_19
        rw [HL1.out]
        by_cases hxy : x = y
        · have huv := HXY.out.1 hxy
          subst hxy huv
          go_wp2
          go_ret
          exact ⟨rfl, B20.out⟩
        · have huv : ¬ u = v := fun e => hxy (HXY.out.2 e)
          have d1 : ((x : Int) == (y : Int)) = false := by simp; omega
          have d2 : ((u : Int) == (v : Int)) = false := by simp; omega
          clear hxy huv
          go_wp2
          go_ret
          exact ⟨rfl, B20.out⟩
end Go.Proofs

namespace Go.Proofs.YtpmgbofnikmhgaaGreat
open Go.ChangeShapes Go.WideShapes Go.ChangeAt Go.RowKit Go.Joins Go.Proofs.Hd

theorem laidOut_abk : laidOutB Tryz.prog = true := by kernel_rfl
set_option maxRecDepth 100000 in
theorem abk_lifted (os : Os) (started : os.Started) (H : Type) (enc : TypeId × Value → H) :
    ReturnsInHanded {} Tryz.checked os 6 .any (Rows.atomsBackSpec.pre6 enc Tryz.prog Tryz.f6 Rows.atomsBackRow.domain false) (Rows.atomsBackSpec.post enc Tryz.prog Tryz.f6 false true false false) := by
  refine returnsInHanded_of_change (C := Tryz.checked) own started (by kernel_rfl) Tryz.func6
    (ChangeSpec.witness6 (enc := enc) (C := Tryz.checked) false ⟨#[], #[.slice none 0 0, .agg #[.int .u64 0, .int .u64 0, .int .u64 0, .int .u64 0], .agg #[.int .u64 0, .int .u64 0], .agg #[.int .u64 0, .int .u64 0]], []⟩ 8 (by kernel_rfl) (by kernel_rfl) (by kernel_rfl) (by kernel_rfl)) ?_
  intro W base args ds gs before hval0 hW hcnd _
  have hval : ∀ (j : Nat) t v, Tryz.f6.params[j]? = some t → args[j]? = some v → Value.okWide Tryz.prog W .any base t v := hval0
  have hW' := hW
  obtain ⟨p, q, hA0, hV, rfl, hfz, hnd⟩ := hW
  have hA : DataW.TrodAll enc Tryz.prog W 0 (fun _ => true) true Tryz.f6.params.toList args.toList ds p := hA0
  rw [Tryz.params6] at hA hval
  obtain ⟨v0, vs0, d0, ds0, p0, q0, hargs, rfl, rfl, h0, r0⟩ := trodAll_cons hA
  obtain ⟨v1, vs1, d1, ds1, p1, q1, rfl, rfl, rfl, h1, r1⟩ := trodAll_cons r0
  obtain ⟨v2, vs2, d2, ds2, p2, q2, rfl, rfl, rfl, h2, r2⟩ := trodAll_cons r1
  obtain ⟨v3, vs3, d3, ds3, p3, q3, rfl, rfl, rfl, h3, r3⟩ := trodAll_cons r2
  obtain ⟨rfl, rfl, rfl⟩ := trodAll_nil r3
  obtain rfl : args = #[v0, v1, v2, v3] := by cases args; simp_all
  obtain ⟨rfl, rfl⟩ := trodVars_none hV
  have k0 := h0
  have lt0 : ∀ x ∈ p0, x.block < W.heap.size := by obtain ⟨m, hm⟩ := k0; exact DataW.trod_lt m _ _ _ hm
  obtain ⟨pA, pc, pL, rfl, lp, mp, pp⟩ := open_pl (hval 0 22 v0 rfl rfl) h0
  obtain ⟨mvh, mvl, mch, mcl, rfl, rfl, rfl, s1⟩ := open_cube (hval 1 53 v1 rfl rfl) h1
  obtain ⟨gh, gl, rfl, rfl, rfl, s2⟩ := open_head (hval 2 25 v2 rfl rfl) h2
  obtain ⟨hh, hl, rfl, rfl, rfl, s3⟩ := open_head (hval 3 25 v3 rfl rfl) h3
  clear hA0 hval0
  refine (aback_c _ pc pL ⟨mvh, mvl, mch, mcl⟩ gh gl hh hl W lp mp pp).mono fun e W' ⟨he, hg⟩ => ?_
  subst he
  exact ⟨_, rfl, _, _, _, [], _, [], hW', trodAll_mk1 (shut_bool Tryz.underlying4 _), (trodAll_cons_mk (Below.trod laidOut_abk (by kernel_rfl) (of_decide_eq_true (by kernel_rfl)) k0 hg lt0) (trodAll_cons_mk (s1 _ _) (trodAll_cons_mk (s2 _ _) (trodAll_cons_mk (s3 _ _) trodAll_mk0)))), rfl, hg.frame _, (fun h => by cases h)⟩

theorem abk_holds : Rows.AtomsBackSaid :=
  OpenClaim.holds_of_wide 6 Tryz.f6 rfl rfl rfl rfl rfl rfl rfl ⟨rfl, rfl, rfl, rfl, rfl⟩ rfl rfl rfl rfl rfl (by kernel_rfl) Tryz.func6 (by kernel_rfl)
    (of_decide_eq_true (by kernel_rfl)) (by unfold Func.isWrapper; first | (rw [if_pos (by decide +kernel)]; kernel_rfl) | (rw [if_neg (by decide +kernel)]; exact ⟨rfl, rfl⟩))
    (fun os started H enc _ => abk_lifted os started H enc)
#print axioms abk_holds
end Go.Proofs.YtpmgbofnikmhgaaGreat
