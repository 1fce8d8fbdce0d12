/-
  The walk of customhouselaw11.AtomsTurn: it returns true. Conditions as each theorem lists them.
-/
import Derived.Test.YtpmgbofnikmhgaaGreatJ11Atomsturn
namespace Go.Proofs.Hd
open Go.RowKit
theorem mrg_len {jn : List Cb → List Cb → Option (List Cb)} : ∀ {al out r : List AtC}, mrgO jn out al = some r → r.length ≤ out.length + al.length
  | [], out, r, h => by
    rw [mrgO] at h
    injection h with h
    subst h
    simp
  | a :: al, out, r, h => by
    rw [mrgO] at h
    split at h
    · rename_i r' hr
      have h1 := mrg_len h
      have h2 : r'.length ≤ out.length + 1 := by
        rcases putO_cases hr with ⟨rfl, _⟩ | ⟨u, b, v, p, rfl, _, _, _, rfl⟩
        · simp
        · simp only [List.length_append, List.length_cons]; omega
      rw [List.length_cons]
      omega
    · cases h
/-- What is known of atoms with one number less. -/
structure CrK (cs : List Cb) (id : Int) (al : List AtC) : Prop where
  good : ∀ a ∈ al, GoodA a
  dst : Dst al
  ids : ∀ x, idsAt hasP al x = [(inF x 0 cs).filter fun n => decide (n ≠ id)]
  len : al.length ≤ 1000
  few : ∀ a ∈ al, a.ids.length ≤ 1000
theorem SpK.crs {cs : List Cb} {bs dl : List AtC} {id : Int} (h : SpK cs bs) (hl : cs.length ≤ 7) (hd : crsG id bs = some dl) : CrK cs id dl := by
  have hd2 := hd
  rw [crsG_inc h.inc] at hd2
  obtain ⟨h1, h2, h3⟩ := crs_right h.inv.good h.ids hd2
  refine ⟨h1, h2, h3, ?_, fun a ha => ?_⟩
  · have := mrg_len hd
    rw [List.length_map] at this
    have := h.le hl
    simp only [List.length_nil] at *
    omega
  · rw [ids_of h3 ha (h1 a ha).head]
    have h4 := List.length_filter_le (fun n => decide (n ≠ id)) (inF a.hd 0 cs)
    have h5 := inF_len a.hd 0 cs
    omega
theorem inF_one (x : Hx) (c : Cb) : inF x 0 [c] = if c.has x.1 x.2 = true then [0] else [] := by
  rw [inF, inF, List.append_nil]
  rfl
theorem fil_takeT {q : Int → Bool} {L : List Int} {k : Nat} {x : Int} (hx : L[k]? = some x) : (L.take (k + 1)).filter q = (L.take k).filter q ++ (if q x then [x] else []) := by
  rw [List.take_add_one, hx, List.filter_append]
  simp only [Option.toList, List.filter_cons, List.filter_nil]
end Go.Proofs.Hd
namespace Go.Proofs
open Go.RowKit Go.Proofs.Hd Go.Lib Go.Shelf
attribute [local go_sem] uv_nonneg
set_option maxHeartbeats 16000000 in
set_option maxRecDepth 100000 in
theorem aturn_c (A : Option Addr) (cap : Nat) (cs0 : List Cb) (c : Cb) (i : Int) (hh hl : BitVec 64) (w : World) (hc : cs0.length ≤ cap) (hm : cap ≤ maxLen) (hi1 : 0 ≤ i) (hv : Pl w (.slice A cs0.length cap) cs0) :
    Calls Tryz.prog 5 #[.slice A cs0.length cap, .agg #[.int .u64 (uv c.vh), .int .u64 (uv c.vl), .int .u64 (uv c.ch), .int .u64 (uv c.cl)], .int .u8 i, .agg #[.int .u64 (uv hh), .int .u64 (uv hl)]] w fun e w' => e = .returned (.bool true) ∧ Below w.heap.size w w' := by
  obtain ⟨ic, hic, hcz0, hcz1, hcz2⟩ := info_parts info_int
  have b1 := below1 w (.cells #[.int .u64 (uv c.vh), .int .u64 (uv c.vl), .int .u64 (uv c.ch), .int .u64 (uv c.cl)] 53)
  have b3 := below1 (w.alloc (.cells #[.int .u64 (uv c.vh), .int .u64 (uv c.vl), .int .u64 (uv c.ch), .int .u64 (uv c.cl)] 53)) (.cells #[.int .u64 (uv hh), .int .u64 (uv hl)] 25)
  have x1 : Blk (w.alloc (.cells #[.int .u64 (uv c.vh), .int .u64 (uv c.vl), .int .u64 (uv c.ch), .int .u64 (uv c.cl)] 53)) w.heap.size 53 c.arr := Blk.new w _ _
  have x3 : Blk ((w.alloc (.cells #[.int .u64 (uv c.vh), .int .u64 (uv c.vl), .int .u64 (uv c.ch), .int .u64 (uv c.cl)] 53)).alloc (.cells #[.int .u64 (uv hh), .int .u64 (uv hl)] 25)) (w.heap.size + 1) 25 #[.int .u64 (uv hh), .int .u64 (uv hl)] := by have h := Blk.new (w.alloc (.cells #[.int .u64 (uv c.vh), .int .u64 (uv c.vl), .int .u64 (uv c.ch), .int .u64 (uv c.cl)] 53)) 25 #[.int .u64 (uv hh), .int .u64 (uv hl)]; rw [World.size_alloc] at h; exact h
  have x1 := x1.on b3
  have bb := b1.trans (b3.mono b1.size)
  have hv1 := (hv.on b1).on b3
  obtain ⟨r, hr⟩ : ∃ r, i.tmod 9 = r := ⟨_, rfl⟩
  have hr0 : 0 ≤ r ∧ r < 9 := by rw [← hr, Int.tmod_eq_emod_of_nonneg hi1]; omega
  have hw1 : IntKind.u8.wrap r = r := by rw [IntKind.wrap_u8]; omega
  have hw2 : IntKind.i64.wrap r = r := by rw [IntKind.wrap_i64]; omega
  clear b1 b3 hv
  go_enter Tryz.func5, Tryz.ntmps5
  go_upto_region 1 with (fail)
  generalize ((w.alloc (.cells #[.int .u64 (uv c.vh), .int .u64 (uv c.vl), .int .u64 (uv c.ch), .int .u64 (uv c.cl)] 53)).alloc (.cells #[.int .u64 (uv hh), .int .u64 (uv hl)] 25)) = w1 at x1 x3 bb hv1 ⊢
  generalize w.heap.size + 1 = n3 at x3 ⊢
  have hf := few_c A cap cs0 w1 hc hm
  have PV := Pl.take hv1 7
  have hlen : (cs0.take 7).length ≤ 7 := by rw [List.length_take]; omega
  generalize cs0.take 7 = cs at hf PV hlen
  clear hv1 hc hm
  go_wp2_with fail
  (with_reducible refine hf.mono ?_)
  rintro e w2 ⟨rfl, rfl⟩
  have B0 := Lib.hid bb
  have XC_0 := Lib.hid x1
  have XH_0 := Lib.hid x3
  have HLN := Lib.hid hlen
  have PV_0 := Lib.hid PV
  clear hf bb x1 x3 hlen PV
  have hcall := asplit_r _ cs w1 (by have := HLN.out; omega) PV_0.out
  go_wp2_with fail
  (with_reducible refine hcall.mono ?_)
  rintro e w1 hr2
  clear hcall
  have hcall := trivial
  cases hr2 with
  | form hs hb =>
    have B1 := Lib.hid (B0.out.trans (hb.mono B0.out.size))
    have XC_1 := Lib.hid (XC_0.out.on hb)
    have XH_1 := Lib.hid (XH_0.out.on hb)
    have PV_1 := Lib.hid (PV_0.out.on hb)
    clear hb hcall hs hr hr0 hw1 hw2 B0 XC_0 XH_0 PV_0
    have hcall := awake11_c w1
    go_wp2_with fail
    (with_reducible refine hcall.mono ?_)
    rintro e w2 ⟨rfl, hb⟩
    have B2 := Lib.hid (B1.out.trans (hb.mono B1.out.size))
    have XC_2 := Lib.hid (XC_1.out.on hb)
    have XH_2 := Lib.hid (XH_1.out.on hb)
    have PV_2 := Lib.hid (PV_1.out.on hb)
    clear hb hcall  B1 XC_1 XH_1 PV_1
    have hcall := awake11_c w2
    go_wp2_with fail
    (with_reducible refine hcall.mono ?_)
    rintro e w3 ⟨rfl, hb⟩
    have B3 := Lib.hid (B2.out.trans (hb.mono B2.out.size))
    have XC_3 := Lib.hid (XC_2.out.on hb)
    have XH_3 := Lib.hid (XH_2.out.on hb)
    have PV_3 := Lib.hid (PV_2.out.on hb)
    clear hb hcall  B2 XC_2 XH_2 PV_2
    go_wp2
    go_ret
    exact ⟨rfl, B3.out⟩
  | many hs hb =>
    have B1 := Lib.hid (B0.out.trans (hb.mono B0.out.size))
    have XC_1 := Lib.hid (XC_0.out.on hb)
    have XH_1 := Lib.hid (XH_0.out.on hb)
    have PV_1 := Lib.hid (PV_0.out.on hb)
    clear hb hcall hs hr hr0 hw1 hw2 B0 XC_0 XH_0 PV_0
    have hcall := awake11_c w1
    go_wp2_with fail
    (with_reducible refine hcall.mono ?_)
    rintro e w4 ⟨rfl, hb⟩
    have B4 := Lib.hid (B1.out.trans (hb.mono B1.out.size))
    have XC_4 := Lib.hid (XC_1.out.on hb)
    have XH_4 := Lib.hid (XH_1.out.on hb)
    have PV_4 := Lib.hid (PV_1.out.on hb)
    clear hb hcall  B1 XC_1 XH_1 PV_1
    have hcall := awake11_c w4
    go_wp2_with fail
    (with_reducible refine hcall.mono ?_)
    rintro e w5 ⟨rfl, hb⟩
    have B5 := Lib.hid (B4.out.trans (hb.mono B4.out.size))
    have XC_5 := Lib.hid (XC_4.out.on hb)
    have XH_5 := Lib.hid (XH_4.out.on hb)
    have PV_5 := Lib.hid (PV_4.out.on hb)
    clear hb hcall  B4 XC_4 XH_4 PV_4
    go_wp2
    go_ret
    exact ⟨rfl, B5.out⟩
  | some v3 bs hs hq hA hb =>
    have HK := Lib.hid (SpK.of hs hq)
    have HSS := Lib.hid (all_of hs)
    have AL := Lib.hid hA
    obtain ⟨A3, c3, rfl, -, -⟩ := hA.form
    have B1 := Lib.hid (B0.out.trans (hb.mono B0.out.size))
    have XC_1 := Lib.hid (XC_0.out.on hb)
    have XH_1 := Lib.hid (XH_0.out.on hb)
    have PV_1 := Lib.hid (PV_0.out.on hb)
    clear hb hcall hs hq hA B0 XC_0 XH_0 PV_0
    have AL_1 := AL
    clear AL
    have hcall := awake11_c w1
    go_wp2_with fail
    (with_reducible refine hcall.mono ?_)
    rintro e w6 ⟨rfl, hb⟩
    have B6 := Lib.hid (B1.out.trans (hb.mono B1.out.size))
    have AL_6 := Lib.hid (AL_1.out.on hb)
    have XC_6 := Lib.hid (XC_1.out.on hb)
    have XH_6 := Lib.hid (XH_1.out.on hb)
    have PV_6 := Lib.hid (PV_1.out.on hb)
    clear hb hcall  B1 AL_1 XC_1 XH_1 PV_1
    cases hcs : c.snd with
    | false =>
      obtain ⟨y0, y1, y2, y3⟩ : At4 w6 w.heap.size 0 c := ⟨XC_6.out.cell 0, XC_6.out.cell 1, XC_6.out.cell 2, XC_6.out.cell 3⟩
      have hcall := text_no c w6 hcs
      go_wp2_with fail
      (with_reducible refine hcall.mono ?_)
      rintro e w7 ⟨rfl, hb⟩
      have B7 := Lib.hid (B6.out.trans (hb.mono B6.out.size))
      have AL_7 := Lib.hid (AL_6.out.on hb)
      have XC_7 := Lib.hid (XC_6.out.on hb)
      have XH_7 := Lib.hid (XH_6.out.on hb)
      have PV_7 := Lib.hid (PV_6.out.on hb)
      clear hb hcall y0 y1 y2 y3 B6 AL_6 XC_6 XH_6 PV_6
      obtain ⟨y0, y1, y2, y3⟩ : At4 w7 w.heap.size 0 c := ⟨XC_7.out.cell 0, XC_7.out.cell 1, XC_7.out.cell 2, XC_7.out.cell 3⟩
      have hcall := arefine_r (.slice A3 bs.length c3) bs 100 c w7 (by have := HK.out.le HLN.out; omega) (fun a ha => by have := HK.out.few a ha; have := HLN.out; omega) AL_7.out
      go_wp2_with fail
      (with_reducible refine hcall.mono ?_)
      rintro e w8 hr2
      clear hcall
      have hcall := trivial
      cases hr2 with
      | err kk hk hb =>
        obtain rfl : kk = 2 := by
          rcases hk with ⟨_, h0⟩ | ⟨h, _⟩ | ⟨_, _, h1, _⟩ | ⟨_, _, h1, _⟩
          · exact absurd h0 (by decide)
          · exact h
          · rw [hcs] at h1; simp at h1
          · rw [hcs] at h1; simp at h1
        have B8 := Lib.hid (B7.out.trans (hb.mono B7.out.size))
        have AL_8 := Lib.hid (AL_7.out.on hb)
        have XC_8 := Lib.hid (XC_7.out.on hb)
        have XH_8 := Lib.hid (XH_7.out.on hb)
        have PV_8 := Lib.hid (PV_7.out.on hb)
        clear hb hcall y0 y1 y2 y3 B7 AL_7 XC_7 XH_7 PV_7
        go_wp2
        go_ret
        exact ⟨rfl, B8.out⟩
      | some v4 al h0 h1 h2 h3 hA4 hb =>
        rw [hcs] at h1
        simp at h1
    | true =>
      obtain ⟨y0, y1, y2, y3⟩ : At4 w6 w.heap.size 0 c := ⟨XC_6.out.cell 0, XC_6.out.cell 1, XC_6.out.cell 2, XC_6.out.cell 3⟩
      have hcall := text_yes c w6 hcs
      go_wp2_with fail
      (with_reducible refine hcall.mono ?_)
      rintro e w9 ⟨rfl, hb⟩
      have B9 := Lib.hid (B6.out.trans (hb.mono B6.out.size))
      have AL_9 := Lib.hid (AL_6.out.on hb)
      have XC_9 := Lib.hid (XC_6.out.on hb)
      have XH_9 := Lib.hid (XH_6.out.on hb)
      have PV_9 := Lib.hid (PV_6.out.on hb)
      clear hb hcall y0 y1 y2 y3 B6 AL_6 XC_6 XH_6 PV_6
      obtain ⟨y0, y1, y2, y3⟩ : At4 w9 w.heap.size 0 c := ⟨XC_9.out.cell 0, XC_9.out.cell 1, XC_9.out.cell 2, XC_9.out.cell 3⟩
      have hcall := arefine_r (.slice A3 bs.length c3) bs 100 c w9 (by have := HK.out.le HLN.out; omega) (fun a ha => by have := HK.out.few a ha; have := HLN.out; omega) AL_9.out
      go_wp2_with fail
      (with_reducible refine hcall.mono ?_)
      rintro e w10 hr2
      clear hcall
      have hcall := trivial
      cases hr2 with
      | err kk hk hb =>
        obtain rfl : kk = 10 := by
          rcases hk with ⟨_, h0⟩ | ⟨_, _, h1⟩ | ⟨_, _, _, h2⟩ | ⟨h, _⟩
          · exact absurd h0 (by decide)
          · rw [hcs, good_sndA HK.out.inv.good] at h1; simp at h1
          · exact absurd (ofL_nil (fun a ha hi => by have := HK.out.low (by have := HLN.out; omega) a ha _ hi; omega) _ (Nat.le_refl _)) h2
          · exact h
        have B10 := Lib.hid (B9.out.trans (hb.mono B9.out.size))
        have AL_10 := Lib.hid (AL_9.out.on hb)
        have XC_10 := Lib.hid (XC_9.out.on hb)
        have XH_10 := Lib.hid (XH_9.out.on hb)
        have PV_10 := Lib.hid (PV_9.out.on hb)
        clear hb hcall y0 y1 y2 y3 B9 AL_9 XC_9 XH_9 PV_9
        obtain ⟨y0, y1⟩ := XH_10.out.pair
        have hcall := in_c _ cs hh hl w10 (by have := HLN.out; omega) HSS.out PV_10.out
        go_wp2_with fail
        (with_reducible refine hcall.mono ?_)
        rintro e w11 ⟨vw, rfl, hO, hb⟩
        have WT := Lib.hid (own_Nm hO)
        have WT2 := WT.out
        obtain ⟨Wa, Wc, rfl, -⟩ := WT2
        have B11 := Lib.hid (B10.out.trans (hb.mono B10.out.size))
        have AL_11 := Lib.hid (AL_10.out.on hb)
        have XC_11 := Lib.hid (XC_10.out.on hb)
        have XH_11 := Lib.hid (XH_10.out.on hb)
        have PV_11 := Lib.hid (PV_10.out.on hb)
        clear hb hcall y0 y1 hO B10 AL_10 XC_10 XH_10 PV_10
        have HJL := Lib.hid (inF_len (hh, hl) 0 cs)
        obtain ⟨J, hJ⟩ : ∃ J, inF (hh, hl) 0 cs = J := ⟨_, rfl⟩
        rw [hJ]
        have WTJ : Hid (Nm w11 (.slice Wa J.length Wc) J) := by show Nm _ _ _; rw [← hJ]; exact WT.out
        have HJ := Lib.hid hJ
        have hJz : (J.length : Int) ≤ 7 := by have h1 := HJL.out; have h2 := HLN.out; rw [hJ] at h1; omega
        clear hJ WT HJL
        have WT_11 := WTJ
        clear WTJ
        have hcall := acoarsen_r (.slice A3 bs.length c3) bs r w11 (by have := HK.out.le HLN.out; omega) (fun a ha => by have := HK.out.few a ha; have := HLN.out; omega) AL_11.out
        go_wp2_with fail
        (with_reducible refine hcall.mono ?_)
        rintro e w12 hr2
        clear hcall
        have hcall := trivial
        cases hr2 with
        | err kk hk hb =>
          obtain rfl : kk = 10 := by
            rcases hk with ⟨_, h⟩ | ⟨h, _⟩
            · rw [good_sndA HK.out.inv.good] at h; cases h
            · exact h
          have B12 := Lib.hid (B11.out.trans (hb.mono B11.out.size))
          have WT_12 := Lib.hid (WT_11.out.on hb)
          have AL_12 := Lib.hid (AL_11.out.on hb)
          have XC_12 := Lib.hid (XC_11.out.on hb)
          have XH_12 := Lib.hid (XH_11.out.on hb)
          have PV_12 := Lib.hid (PV_11.out.on hb)
          clear hb hcall  B11 WT_11 AL_11 XC_11 XH_11 PV_11
          have BQ := Lib.hid (below1 w12 (.cells #[] 3))
          have OR : Hid ((w12.alloc (.cells #[] 3)).ownsRow w12.heap.size 3 1 (.slice (some ⟨w12.heap.size, 0, none⟩) 0 0) 0 []) := World.ownsRow_made w12 #[] 0 (Nat.le_refl _) (Nat.zero_le _) rfl
          go_wp2
          go_loopg [22, 23] J.length (fun gk s22 s23 wz => ∃ j : Nat, j ≤ J.length ∧ gk = J.length - j ∧ s23 = .int .i64 j ∧ Hid (Below w12.heap.size w12 wz) ∧ Hid (wz.ownsRow w12.heap.size 3 1 s22 ((J.take j).filter fun n => decide (n ≠ r)).length (iv ((J.take j).filter fun n => decide (n ≠ r)))))
          case atStart => exact ⟨0, Nat.zero_le _, rfl, rfl, BQ, OR⟩
          case round =>
            clear BQ OR
            obtain ⟨j, hj, rfl, rfl, BQ, OR⟩ := hrel
            by_cases hlt : j < J.length
            · have hltz : (j : Int) < (J.length : Int) := by omega
              obtain ⟨y, hy⟩ : ∃ y, J[j]? = some y := ⟨_, List.getElem?_eq_getElem hlt⟩
              obtain ⟨b2, o2, rfl, hy2⟩ : ∃ b2 o2, Wa = some ⟨b2, o2, none⟩ ∧ wr.cell? ⟨b2, o2 + j, none⟩ = some (.int .i64 y) := by
                obtain ⟨A8, c8, e, -, -, h⟩ := WT_12.out.on BQ.out
                injection e with e1 e2 e3
                rcases h with h | ⟨b2, o2, e4, -, h⟩
                · rw [h] at hy; simp at hy
                · exact ⟨b2, o2, by rw [e1, e4], h j y hy⟩
              have HFT := Lib.hid (fil_takeT (q := fun n => decide (n ≠ r)) hy)
              have HFL := Lib.hid (Nat.le_trans (List.length_filter_le (fun n => decide (n ≠ r)) (J.take j)) (by rw [List.length_take]; omega : (J.take j).length ≤ J.length))
              clear hy
              by_cases hyr : y = r
              · have hd : (y == r) = true := by simpa using hyr
                have OR2 : Hid (wr.ownsRow w12.heap.size 3 1 u22 ((J.take (j + 1)).filter fun n => decide (n ≠ r)).length (iv ((J.take (j + 1)).filter fun n => decide (n ≠ r)))) := by
                  show World.ownsRow _ _ _ _ _ _ _
                  rw [HFT.out, if_neg (by simp [hyr]), List.append_nil]
                  exact OR.out
                clear OR HFT HFL
                go_wp2
                go_roundg (J.length - (j + 1))
                case measure => omega
                case rel => exact ⟨j + 1, by omega, rfl, by go_num, BQ, OR2⟩
              · have hd : (y == r) = false := by simpa using hyr
                have b5 := below1 wr (.cells #[.int .i64 y] 3)
                have N5 : Blk (wr.alloc (.cells #[.int .i64 y] 3)) wr.heap.size 3 #[.int .i64 y] := Blk.new wr _ _
                have B5 := BQ.out.trans (b5.mono BQ.out.size)
                have O5 := own_on OR.out b5
                have S5 := src_int N5
                have hz5 := B5.size
                have hfl := HFL.out
                have HFT2 : Hid (((J.take (j + 1)).filter fun n => decide (n ≠ r)) = ((J.take j).filter fun n => decide (n ≠ r)) ++ [y]) := by show _ = _; rw [HFT.out, if_pos (by simp [hyr])]
                generalize hFF : ((J.take j).filter fun n => decide (n ≠ r)) = F at O5 HFT2 hfl
                clear BQ OR b5 N5 HFT HFL
                go_wp2_with (at_builtin; refine wpList_app _ rfl (.tmp 116) (.tmp 121) 36 rfl w12.heap.size 3 ic _ 1 8 Tryz.underlying36 hic hcz0 hcz1 hcz2 rfl (by decide) _ F.length (iv F) rfl O5 _ 1 (iv [y]) rfl S5 (by unfold maxLen; omega) (by omega) hz5 ?_)
                intro v6 w6 O6 hg6
                have B6 := Lib.hid (B5.grown hg6 hz5 (fun j hj => (O5.lt j hj).1))
                have O7 : Hid (w6.ownsRow w12.heap.size 3 1 v6 ((J.take (j + 1)).filter fun n => decide (n ≠ r)).length (iv ((J.take (j + 1)).filter fun n => decide (n ≠ r)))) := by
                  show World.ownsRow _ _ _ _ _ _ _
                  rw [HFT2.out, ← iv_app, List.length_append]
                  exact O6
                clear O5 S5 hz5 hfl B5 O6 hg6 hFF HFT2 hy2
                go_wp2
                go_roundg (J.length - (j + 1))
                case measure => omega
                case rel => exact ⟨j + 1, by omega, rfl, by go_num, B6, O7⟩
            · have hltz : ¬ (j : Int) < (J.length : Int) := by omega
              have BF := Lib.hid (B12.out.trans (BQ.out.mono B12.out.size))
              go_wp2
              go_ret
              exact ⟨rfl, BF.out⟩
        | some v9 dl h8 h9 hA9 hb =>
          have HCR := Lib.hid (HK.out.crs HLN.out h9)
          have AD := Lib.hid hA9
          obtain ⟨A9, c9, rfl, -, -⟩ := hA9.form
          have B12 := Lib.hid (B11.out.trans (hb.mono B11.out.size))
          have WT_12 := Lib.hid (WT_11.out.on hb)
          have AL_12 := Lib.hid (AL_11.out.on hb)
          have XC_12 := Lib.hid (XC_11.out.on hb)
          have XH_12 := Lib.hid (XH_11.out.on hb)
          have PV_12 := Lib.hid (PV_11.out.on hb)
          clear hb hcall h8 h9 hA9 B11 WT_11 AL_11 XC_11 XH_11 PV_11
          have AD_12 := AD
          clear AD
          have BQ := Lib.hid (below1 w12 (.cells #[] 3))
          have OR : Hid ((w12.alloc (.cells #[] 3)).ownsRow w12.heap.size 3 1 (.slice (some ⟨w12.heap.size, 0, none⟩) 0 0) 0 []) := World.ownsRow_made w12 #[] 0 (Nat.le_refl _) (Nat.zero_le _) rfl
          go_wp2
          go_loopg [22, 23] J.length (fun gk s22 s23 wz => ∃ j : Nat, j ≤ J.length ∧ gk = J.length - j ∧ s23 = .int .i64 j ∧ Hid (Below w12.heap.size w12 wz) ∧ Hid (wz.ownsRow w12.heap.size 3 1 s22 ((J.take j).filter fun n => decide (n ≠ r)).length (iv ((J.take j).filter fun n => decide (n ≠ r)))))
          case atStart => exact ⟨0, Nat.zero_le _, rfl, rfl, BQ, OR⟩
          case round =>
            clear BQ OR
            obtain ⟨j, hj, rfl, rfl, BQ, OR⟩ := hrel
            by_cases hlt : j < J.length
            · have hltz : (j : Int) < (J.length : Int) := by omega
              obtain ⟨y, hy⟩ : ∃ y, J[j]? = some y := ⟨_, List.getElem?_eq_getElem hlt⟩
              obtain ⟨b2, o2, rfl, hy2⟩ : ∃ b2 o2, Wa = some ⟨b2, o2, none⟩ ∧ wr.cell? ⟨b2, o2 + j, none⟩ = some (.int .i64 y) := by
                obtain ⟨A8, c8, e, -, -, h⟩ := WT_12.out.on BQ.out
                injection e with e1 e2 e3
                rcases h with h | ⟨b2, o2, e4, -, h⟩
                · rw [h] at hy; simp at hy
                · exact ⟨b2, o2, by rw [e1, e4], h j y hy⟩
              have HFT := Lib.hid (fil_takeT (q := fun n => decide (n ≠ r)) hy)
              have HFL := Lib.hid (Nat.le_trans (List.length_filter_le (fun n => decide (n ≠ r)) (J.take j)) (by rw [List.length_take]; omega : (J.take j).length ≤ J.length))
              clear hy
              by_cases hyr : y = r
              · have hd : (y == r) = true := by simpa using hyr
                have OR2 : Hid (wr.ownsRow w12.heap.size 3 1 u22 ((J.take (j + 1)).filter fun n => decide (n ≠ r)).length (iv ((J.take (j + 1)).filter fun n => decide (n ≠ r)))) := by
                  show World.ownsRow _ _ _ _ _ _ _
                  rw [HFT.out, if_neg (by simp [hyr]), List.append_nil]
                  exact OR.out
                clear OR HFT HFL
                go_wp2
                go_roundg (J.length - (j + 1))
                case measure => omega
                case rel => exact ⟨j + 1, by omega, rfl, by go_num, BQ, OR2⟩
              · have hd : (y == r) = false := by simpa using hyr
                have b5 := below1 wr (.cells #[.int .i64 y] 3)
                have N5 : Blk (wr.alloc (.cells #[.int .i64 y] 3)) wr.heap.size 3 #[.int .i64 y] := Blk.new wr _ _
                have B5 := BQ.out.trans (b5.mono BQ.out.size)
                have O5 := own_on OR.out b5
                have S5 := src_int N5
                have hz5 := B5.size
                have hfl := HFL.out
                have HFT2 : Hid (((J.take (j + 1)).filter fun n => decide (n ≠ r)) = ((J.take j).filter fun n => decide (n ≠ r)) ++ [y]) := by show _ = _; rw [HFT.out, if_pos (by simp [hyr])]
                generalize hFF : ((J.take j).filter fun n => decide (n ≠ r)) = F at O5 HFT2 hfl
                clear BQ OR b5 N5 HFT HFL
                go_wp2_with (at_builtin; refine wpList_app _ rfl (.tmp 116) (.tmp 121) 36 rfl w12.heap.size 3 ic _ 1 8 Tryz.underlying36 hic hcz0 hcz1 hcz2 rfl (by decide) _ F.length (iv F) rfl O5 _ 1 (iv [y]) rfl S5 (by unfold maxLen; omega) (by omega) hz5 ?_)
                intro v6 w6 O6 hg6
                have B6 := Lib.hid (B5.grown hg6 hz5 (fun j hj => (O5.lt j hj).1))
                have O7 : Hid (w6.ownsRow w12.heap.size 3 1 v6 ((J.take (j + 1)).filter fun n => decide (n ≠ r)).length (iv ((J.take (j + 1)).filter fun n => decide (n ≠ r)))) := by
                  show World.ownsRow _ _ _ _ _ _ _
                  rw [HFT2.out, ← iv_app, List.length_append]
                  exact O6
                clear O5 S5 hz5 hfl B5 O6 hg6 hFF HFT2 hy2
                go_wp2
                go_roundg (J.length - (j + 1))
                case measure => omega
                case rel => exact ⟨j + 1, by omega, rfl, by go_num, B6, O7⟩
            · have hltz : ¬ (j : Int) < (J.length : Int) := by omega
              have BF := Lib.hid (B12.out.trans (BQ.out.mono B12.out.size))
              have NR : Hid (Nm wr u22 (J.filter fun n => decide (n ≠ r))) := by
                show Nm _ _ _
                have := own_Nm OR.out
                rw [List.take_of_length_le (by omega)] at this
                exact this
              have hFl : (J.filter fun n => decide (n ≠ r)).length ≤ 1000 := by have := List.length_filter_le (fun n => decide (n ≠ r)) J; have := hJz; omega
              have hids : idsAt hasP dl (hh, hl) = [J.filter fun n => decide (n ≠ r)] := by rw [HCR.out.ids, HJ.out]
              generalize (J.filter fun n => decide (n ≠ r)) = F at NR hFl hids
              have NR2 := NR.out
              obtain ⟨F1, F3, rfl, -⟩ := NR2
              obtain ⟨y0, y1⟩ := (XH_12.out.on BQ.out).pair
              have hcall := right_c _ _ dl hh hl F wr HCR.out.good HCR.out.dst hids HCR.out.len HCR.out.few hFl (AD_12.out.on BQ.out) NR.out
              clear hids hFl OR
              go_wp2_with fail
              (with_reducible refine hcall.mono ?_)
              rintro e wF ⟨rfl, hb⟩
              have BG := Lib.hid (BF.out.trans (hb.mono BF.out.size))
              clear hcall hb y0 y1 BF
              go_wp2
              go_ret
              exact ⟨rfl, BG.out⟩
      | some v4 al h0 h1 h2 h3 hA4 hb =>
        have HR := Lib.hid (HK.out.ref HLN.out hcs h3)
        have AA := Lib.hid hA4
        have HCS := Lib.hid hcs
        obtain ⟨A4, c4, rfl, -, -⟩ := hA4.form
        have B10 := Lib.hid (B9.out.trans (hb.mono B9.out.size))
        have AL_10 := Lib.hid (AL_9.out.on hb)
        have XC_10 := Lib.hid (XC_9.out.on hb)
        have XH_10 := Lib.hid (XH_9.out.on hb)
        have PV_10 := Lib.hid (PV_9.out.on hb)
        clear hb hcall y0 y1 y2 y3 h0 h1 h2 h3 hA4 B9 AL_9 XC_9 XH_9 PV_9
        have AA_10 := AA
        clear AA
        obtain ⟨y0, y1⟩ := XH_10.out.pair
        have hcall := in_c _ cs hh hl w10 (by have := HLN.out; omega) HSS.out PV_10.out
        go_wp2_with fail
        (with_reducible refine hcall.mono ?_)
        rintro e w13 ⟨vw, rfl, hO, hb⟩
        have WT := Lib.hid (own_Nm hO)
        have WT2 := WT.out
        obtain ⟨Wa, Wc, rfl, -⟩ := WT2
        have B13 := Lib.hid (B10.out.trans (hb.mono B10.out.size))
        have AA_13 := Lib.hid (AA_10.out.on hb)
        have AL_13 := Lib.hid (AL_10.out.on hb)
        have XC_13 := Lib.hid (XC_10.out.on hb)
        have XH_13 := Lib.hid (XH_10.out.on hb)
        have PV_13 := Lib.hid (PV_10.out.on hb)
        clear hb hcall y0 y1 hO B10 AA_10 AL_10 XC_10 XH_10 PV_10
        have HJL := Lib.hid (inF_len (hh, hl) 0 cs)
        obtain ⟨J, hJ⟩ : ∃ J, inF (hh, hl) 0 cs = J := ⟨_, rfl⟩
        rw [hJ]
        have WTJ : Hid (Nm w13 (.slice Wa J.length Wc) J) := by show Nm _ _ _; rw [← hJ]; exact WT.out
        have HJ := Lib.hid hJ
        have hJz : (J.length : Int) ≤ 7 := by have h1 := HJL.out; have h2 := HLN.out; rw [hJ] at h1; omega
        clear hJ WT HJL
        have WT_13 := WTJ
        clear WTJ
        have b0 := below1 w13 (.cells #[] 3)
        have O0 : (w13.alloc (.cells #[] 3)).ownsRow w13.heap.size 3 1 (.slice (some ⟨w13.heap.size, 0, none⟩) 0 0) 0 [] := World.ownsRow_made w13 #[] 0 (Nat.le_refl _) (Nat.zero_le _) rfl
        have S0 := (WT_13.out.on b0).src
        have hz0 := b0.size
        go_wp2_with (at_builtin; refine wpList_app _ rfl (.tmp 63) (.tmp 64) 36 rfl w13.heap.size 3 ic _ 1 8 Tryz.underlying36 hic hcz0 hcz1 hcz2 rfl (by decide) _ 0 [] rfl O0 _ J.length (iv J) rfl S0 (by unfold maxLen; omega) (by omega) hz0 ?_)
        intro v16 w16 O16 hg
        have BN := Lib.hid (b0.grown hg hz0 (fun j hj => (O0.lt j hj).1))
        have ON : Hid (w16.ownsRow w13.heap.size 3 1 v16 J.length (iv J)) := by
          show World.ownsRow _ _ _ _ _ _ _
          first | exact O16 | (simpa using O16)
        clear b0 O0 S0 hz0 O16 hg
        go_upto_region 12 with (fail)
        obtain ⟨y0, y1, y2, y3⟩ : At4 w16 w.heap.size 0 c := by have h := XC_13.out.on BN.out; exact ⟨h.cell 0, h.cell 1, h.cell 2, h.cell 3⟩
        have b5 := below1 w16 (.cells #[.int .u64 (uv c.vh), .int .u64 (uv c.vl), .int .u64 (uv c.ch), .int .u64 (uv c.cl)] 53)
        obtain ⟨z0, z1⟩ := ((XH_13.out.on BN.out).on b5).pair
        have N5 : Blk (w16.alloc (.cells #[.int .u64 (uv c.vh), .int .u64 (uv c.vl), .int .u64 (uv c.ch), .int .u64 (uv c.cl)] 53)) w16.heap.size 53 c.arr := Blk.new w16 _ _
        have hcall := in_c (.slice (some ⟨w16.heap.size, 0, none⟩) 1 1) [c] hh hl _ (by simp) (fun d hd => by rw [List.mem_singleton] at hd; subst hd; exact HCS.out) (pl_one N5)
        go_wp2_with fail
        (with_reducible refine hcall.mono ?_)
        rintro e w18 ⟨vi, rfl, hO, hb⟩
        have hb2 := b5.trans (hb.mono b5.size)
        have BN2 := Lib.hid (BN.out.trans (hb2.mono BN.out.size))
        have ON2 := Lib.hid (own_on ON.out hb2)
        have NI := own_Nm hO
        obtain ⟨Ia, Ic, rfl, -⟩ := NI
        rw [inF_one]
        clear hcall hb hO b5 N5 hb2 BN ON y0 y1 y2 y3 z0 z1
        have hcall := trivial
        cases hxc : c.has hh hl with
        | false =>
          rw [if_neg (by simp)]
          have BN3 := BN2
          have NN : Hid (Nm w18 v16 J) := own_Nm ON2.out
          have HNL : Hid (J.length ≤ 1000) := by show _ ≤ _; omega
          have HNX : Hid (idsAt hasP al (hh, hl) = [J]) := by show _ = _; rw [HR.out.2.ids, if_neg (by rw [show c.has (hh, hl).1 (hh, hl).2 = false from hxc]; simp), HJ.out]
          clear BN2 ON2 hxc
          obtain ⟨now, hnow⟩ : ∃ now, J = now := ⟨_, rfl⟩
          rw [hnow] at NN HNL HNX
          clear hnow
          have WT_14 := Lib.hid (WT_13.out.on BN3.out)
          have AA_14 := Lib.hid (AA_13.out.on BN3.out)
          have AL_14 := Lib.hid (AL_13.out.on BN3.out)
          have XC_14 := Lib.hid (XC_13.out.on BN3.out)
          have XH_14 := Lib.hid (XH_13.out.on BN3.out)
          have PV_14 := Lib.hid (PV_13.out.on BN3.out)
          have B14 := Lib.hid (B13.out.trans (BN3.out.mono B13.out.size))
          clear WT_13 AA_13 AL_13 XC_13 XH_13 PV_13 B13 BN3
          have NN2 := NN.out
          obtain ⟨F1, F3, rfl, -⟩ := NN2
          obtain ⟨y0, y1⟩ := XH_14.out.pair
          have hcall := right_c _ _ al hh hl now w18 HR.out.2.good HR.out.2.dst HNX.out (by have := HR.out.2.len; omega) (fun a ha => by have := HR.out.2.few a ha; have := HLN.out; omega) HNL.out AA_14.out NN.out
          go_wp2_with fail
          (with_reducible refine hcall.mono ?_)
          rintro e w15 ⟨rfl, hb⟩
          have B15 := Lib.hid (B14.out.trans (hb.mono B14.out.size))
          have WT_15 := Lib.hid (WT_14.out.on hb)
          have AA_15 := Lib.hid (AA_14.out.on hb)
          have AL_15 := Lib.hid (AL_14.out.on hb)
          have XC_15 := Lib.hid (XC_14.out.on hb)
          have XH_15 := Lib.hid (XH_14.out.on hb)
          have PV_15 := Lib.hid (PV_14.out.on hb)
          clear hb hcall y0 y1 NN HNL HNX B14 WT_14 AA_14 AL_14 XC_14 XH_14 PV_14
          obtain ⟨y0, y1, y2, y3⟩ : At4 w15 w.heap.size 0 c := ⟨XC_15.out.cell 0, XC_15.out.cell 1, XC_15.out.cell 2, XC_15.out.cell 3⟩
          have hcall := arefine_r (.slice A4 al.length c4) al 100 c w15 (by have := HR.out.2.len; omega) (fun a ha => by have := HR.out.2.few a ha; have := HLN.out; omega) AA_15.out
          go_wp2_with fail
          (with_reducible refine hcall.mono ?_)
          rintro e w16 hr2
          clear hcall
          have hcall := trivial
          cases hr2 with
          | err kk hk hb =>
            have hk2 : kk = 8 ∨ (kk = 10 ∧ ofL al 100 al.length = []) := by
              rcases hk with ⟨_, h0⟩ | ⟨_, _, h1⟩ | ⟨h, _⟩ | ⟨h, _, _, h2⟩
              · exact absurd h0 (by decide)
              · rw [HCS.out, good_sndA HR.out.2.good] at h1; simp at h1
              · exact .inl h
              · exact .inr ⟨h, h2⟩
            clear hk
            have B16 := Lib.hid (B15.out.trans (hb.mono B15.out.size))
            have WT_16 := Lib.hid (WT_15.out.on hb)
            have AA_16 := Lib.hid (AA_15.out.on hb)
            have AL_16 := Lib.hid (AL_15.out.on hb)
            have XC_16 := Lib.hid (XC_15.out.on hb)
            have XH_16 := Lib.hid (XH_15.out.on hb)
            have PV_16 := Lib.hid (PV_15.out.on hb)
            clear hb hcall y0 y1 y2 y3 B15 WT_15 AA_15 AL_15 XC_15 XH_15 PV_15
            rcases hk2 with rfl | ⟨rfl, hof⟩
            · skip
              have hcall := acoarsen_r (.slice A3 bs.length c3) bs r w16 (by have := HK.out.le HLN.out; omega) (fun a ha => by have := HK.out.few a ha; have := HLN.out; omega) AL_16.out
              go_wp2_with fail
              (with_reducible refine hcall.mono ?_)
              rintro e w17 hr2
              clear hcall
              have hcall := trivial
              cases hr2 with
              | err kk hk hb =>
                obtain rfl : kk = 10 := by
                  rcases hk with ⟨_, h⟩ | ⟨h, _⟩
                  · rw [good_sndA HK.out.inv.good] at h; cases h
                  · exact h
                have B17 := Lib.hid (B16.out.trans (hb.mono B16.out.size))
                have WT_17 := Lib.hid (WT_16.out.on hb)
                have AA_17 := Lib.hid (AA_16.out.on hb)
                have AL_17 := Lib.hid (AL_16.out.on hb)
                have XC_17 := Lib.hid (XC_16.out.on hb)
                have XH_17 := Lib.hid (XH_16.out.on hb)
                have PV_17 := Lib.hid (PV_16.out.on hb)
                clear hb hcall  B16 WT_16 AA_16 AL_16 XC_16 XH_16 PV_16
                have BQ := Lib.hid (below1 w17 (.cells #[] 3))
                have OR : Hid ((w17.alloc (.cells #[] 3)).ownsRow w17.heap.size 3 1 (.slice (some ⟨w17.heap.size, 0, none⟩) 0 0) 0 []) := World.ownsRow_made w17 #[] 0 (Nat.le_refl _) (Nat.zero_le _) rfl
                go_wp2
                go_loopg [22, 23] J.length (fun gk s22 s23 wz => ∃ j : Nat, j ≤ J.length ∧ gk = J.length - j ∧ s23 = .int .i64 j ∧ Hid (Below w17.heap.size w17 wz) ∧ Hid (wz.ownsRow w17.heap.size 3 1 s22 ((J.take j).filter fun n => decide (n ≠ r)).length (iv ((J.take j).filter fun n => decide (n ≠ r)))))
                case atStart => exact ⟨0, Nat.zero_le _, rfl, rfl, BQ, OR⟩
                case round =>
                  clear BQ OR
                  obtain ⟨j, hj, rfl, rfl, BQ, OR⟩ := hrel
                  by_cases hlt : j < J.length
                  · have hltz : (j : Int) < (J.length : Int) := by omega
                    obtain ⟨y, hy⟩ : ∃ y, J[j]? = some y := ⟨_, List.getElem?_eq_getElem hlt⟩
                    obtain ⟨b2, o2, rfl, hy2⟩ : ∃ b2 o2, Wa = some ⟨b2, o2, none⟩ ∧ wr.cell? ⟨b2, o2 + j, none⟩ = some (.int .i64 y) := by
                      obtain ⟨A8, c8, e, -, -, h⟩ := WT_17.out.on BQ.out
                      injection e with e1 e2 e3
                      rcases h with h | ⟨b2, o2, e4, -, h⟩
                      · rw [h] at hy; simp at hy
                      · exact ⟨b2, o2, by rw [e1, e4], h j y hy⟩
                    have HFT := Lib.hid (fil_takeT (q := fun n => decide (n ≠ r)) hy)
                    have HFL := Lib.hid (Nat.le_trans (List.length_filter_le (fun n => decide (n ≠ r)) (J.take j)) (by rw [List.length_take]; omega : (J.take j).length ≤ J.length))
                    clear hy
                    by_cases hyr : y = r
                    · have hd : (y == r) = true := by simpa using hyr
                      have OR2 : Hid (wr.ownsRow w17.heap.size 3 1 u22 ((J.take (j + 1)).filter fun n => decide (n ≠ r)).length (iv ((J.take (j + 1)).filter fun n => decide (n ≠ r)))) := by
                        show World.ownsRow _ _ _ _ _ _ _
                        rw [HFT.out, if_neg (by simp [hyr]), List.append_nil]
                        exact OR.out
                      clear OR HFT HFL
                      go_wp2
                      go_roundg (J.length - (j + 1))
                      case measure => omega
                      case rel => exact ⟨j + 1, by omega, rfl, by go_num, BQ, OR2⟩
                    · have hd : (y == r) = false := by simpa using hyr
                      have b5 := below1 wr (.cells #[.int .i64 y] 3)
                      have N5 : Blk (wr.alloc (.cells #[.int .i64 y] 3)) wr.heap.size 3 #[.int .i64 y] := Blk.new wr _ _
                      have B5 := BQ.out.trans (b5.mono BQ.out.size)
                      have O5 := own_on OR.out b5
                      have S5 := src_int N5
                      have hz5 := B5.size
                      have hfl := HFL.out
                      have HFT2 : Hid (((J.take (j + 1)).filter fun n => decide (n ≠ r)) = ((J.take j).filter fun n => decide (n ≠ r)) ++ [y]) := by show _ = _; rw [HFT.out, if_pos (by simp [hyr])]
                      generalize hFF : ((J.take j).filter fun n => decide (n ≠ r)) = F at O5 HFT2 hfl
                      clear BQ OR b5 N5 HFT HFL
                      go_wp2_with (at_builtin; refine wpList_app _ rfl (.tmp 116) (.tmp 121) 36 rfl w17.heap.size 3 ic _ 1 8 Tryz.underlying36 hic hcz0 hcz1 hcz2 rfl (by decide) _ F.length (iv F) rfl O5 _ 1 (iv [y]) rfl S5 (by unfold maxLen; omega) (by omega) hz5 ?_)
                      intro v6 w6 O6 hg6
                      have B6 := Lib.hid (B5.grown hg6 hz5 (fun j hj => (O5.lt j hj).1))
                      have O7 : Hid (w6.ownsRow w17.heap.size 3 1 v6 ((J.take (j + 1)).filter fun n => decide (n ≠ r)).length (iv ((J.take (j + 1)).filter fun n => decide (n ≠ r)))) := by
                        show World.ownsRow _ _ _ _ _ _ _
                        rw [HFT2.out, ← iv_app, List.length_append]
                        exact O6
                      clear O5 S5 hz5 hfl B5 O6 hg6 hFF HFT2 hy2
                      go_wp2
                      go_roundg (J.length - (j + 1))
                      case measure => omega
                      case rel => exact ⟨j + 1, by omega, rfl, by go_num, B6, O7⟩
                  · have hltz : ¬ (j : Int) < (J.length : Int) := by omega
                    have BF := Lib.hid (B17.out.trans (BQ.out.mono B17.out.size))
                    go_wp2
                    go_ret
                    exact ⟨rfl, BF.out⟩
              | some v9 dl h8 h9 hA9 hb =>
                have HCR := Lib.hid (HK.out.crs HLN.out h9)
                have AD := Lib.hid hA9
                obtain ⟨A9, c9, rfl, -, -⟩ := hA9.form
                have B17 := Lib.hid (B16.out.trans (hb.mono B16.out.size))
                have WT_17 := Lib.hid (WT_16.out.on hb)
                have AA_17 := Lib.hid (AA_16.out.on hb)
                have AL_17 := Lib.hid (AL_16.out.on hb)
                have XC_17 := Lib.hid (XC_16.out.on hb)
                have XH_17 := Lib.hid (XH_16.out.on hb)
                have PV_17 := Lib.hid (PV_16.out.on hb)
                clear hb hcall h8 h9 hA9 B16 WT_16 AA_16 AL_16 XC_16 XH_16 PV_16
                have AD_17 := AD
                clear AD
                have BQ := Lib.hid (below1 w17 (.cells #[] 3))
                have OR : Hid ((w17.alloc (.cells #[] 3)).ownsRow w17.heap.size 3 1 (.slice (some ⟨w17.heap.size, 0, none⟩) 0 0) 0 []) := World.ownsRow_made w17 #[] 0 (Nat.le_refl _) (Nat.zero_le _) rfl
                go_wp2
                go_loopg [22, 23] J.length (fun gk s22 s23 wz => ∃ j : Nat, j ≤ J.length ∧ gk = J.length - j ∧ s23 = .int .i64 j ∧ Hid (Below w17.heap.size w17 wz) ∧ Hid (wz.ownsRow w17.heap.size 3 1 s22 ((J.take j).filter fun n => decide (n ≠ r)).length (iv ((J.take j).filter fun n => decide (n ≠ r)))))
                case atStart => exact ⟨0, Nat.zero_le _, rfl, rfl, BQ, OR⟩
                case round =>
                  clear BQ OR
                  obtain ⟨j, hj, rfl, rfl, BQ, OR⟩ := hrel
                  by_cases hlt : j < J.length
                  · have hltz : (j : Int) < (J.length : Int) := by omega
                    obtain ⟨y, hy⟩ : ∃ y, J[j]? = some y := ⟨_, List.getElem?_eq_getElem hlt⟩
                    obtain ⟨b2, o2, rfl, hy2⟩ : ∃ b2 o2, Wa = some ⟨b2, o2, none⟩ ∧ wr.cell? ⟨b2, o2 + j, none⟩ = some (.int .i64 y) := by
                      obtain ⟨A8, c8, e, -, -, h⟩ := WT_17.out.on BQ.out
                      injection e with e1 e2 e3
                      rcases h with h | ⟨b2, o2, e4, -, h⟩
                      · rw [h] at hy; simp at hy
                      · exact ⟨b2, o2, by rw [e1, e4], h j y hy⟩
                    have HFT := Lib.hid (fil_takeT (q := fun n => decide (n ≠ r)) hy)
                    have HFL := Lib.hid (Nat.le_trans (List.length_filter_le (fun n => decide (n ≠ r)) (J.take j)) (by rw [List.length_take]; omega : (J.take j).length ≤ J.length))
                    clear hy
                    by_cases hyr : y = r
                    · have hd : (y == r) = true := by simpa using hyr
                      have OR2 : Hid (wr.ownsRow w17.heap.size 3 1 u22 ((J.take (j + 1)).filter fun n => decide (n ≠ r)).length (iv ((J.take (j + 1)).filter fun n => decide (n ≠ r)))) := by
                        show World.ownsRow _ _ _ _ _ _ _
                        rw [HFT.out, if_neg (by simp [hyr]), List.append_nil]
                        exact OR.out
                      clear OR HFT HFL
                      go_wp2
                      go_roundg (J.length - (j + 1))
                      case measure => omega
                      case rel => exact ⟨j + 1, by omega, rfl, by go_num, BQ, OR2⟩
                    · have hd : (y == r) = false := by simpa using hyr
                      have b5 := below1 wr (.cells #[.int .i64 y] 3)
                      have N5 : Blk (wr.alloc (.cells #[.int .i64 y] 3)) wr.heap.size 3 #[.int .i64 y] := Blk.new wr _ _
                      have B5 := BQ.out.trans (b5.mono BQ.out.size)
                      have O5 := own_on OR.out b5
                      have S5 := src_int N5
                      have hz5 := B5.size
                      have hfl := HFL.out
                      have HFT2 : Hid (((J.take (j + 1)).filter fun n => decide (n ≠ r)) = ((J.take j).filter fun n => decide (n ≠ r)) ++ [y]) := by show _ = _; rw [HFT.out, if_pos (by simp [hyr])]
                      generalize hFF : ((J.take j).filter fun n => decide (n ≠ r)) = F at O5 HFT2 hfl
                      clear BQ OR b5 N5 HFT HFL
                      go_wp2_with (at_builtin; refine wpList_app _ rfl (.tmp 116) (.tmp 121) 36 rfl w17.heap.size 3 ic _ 1 8 Tryz.underlying36 hic hcz0 hcz1 hcz2 rfl (by decide) _ F.length (iv F) rfl O5 _ 1 (iv [y]) rfl S5 (by unfold maxLen; omega) (by omega) hz5 ?_)
                      intro v6 w6 O6 hg6
                      have B6 := Lib.hid (B5.grown hg6 hz5 (fun j hj => (O5.lt j hj).1))
                      have O7 : Hid (w6.ownsRow w17.heap.size 3 1 v6 ((J.take (j + 1)).filter fun n => decide (n ≠ r)).length (iv ((J.take (j + 1)).filter fun n => decide (n ≠ r)))) := by
                        show World.ownsRow _ _ _ _ _ _ _
                        rw [HFT2.out, ← iv_app, List.length_append]
                        exact O6
                      clear O5 S5 hz5 hfl B5 O6 hg6 hFF HFT2 hy2
                      go_wp2
                      go_roundg (J.length - (j + 1))
                      case measure => omega
                      case rel => exact ⟨j + 1, by omega, rfl, by go_num, B6, O7⟩
                  · have hltz : ¬ (j : Int) < (J.length : Int) := by omega
                    have BF := Lib.hid (B17.out.trans (BQ.out.mono B17.out.size))
                    have NR : Hid (Nm wr u22 (J.filter fun n => decide (n ≠ r))) := by
                      show Nm _ _ _
                      have := own_Nm OR.out
                      rw [List.take_of_length_le (by omega)] at this
                      exact this
                    have hFl : (J.filter fun n => decide (n ≠ r)).length ≤ 1000 := by have := List.length_filter_le (fun n => decide (n ≠ r)) J; have := hJz; omega
                    have hids : idsAt hasP dl (hh, hl) = [J.filter fun n => decide (n ≠ r)] := by rw [HCR.out.ids, HJ.out]
                    generalize (J.filter fun n => decide (n ≠ r)) = F at NR hFl hids
                    have NR2 := NR.out
                    obtain ⟨F1, F3, rfl, -⟩ := NR2
                    obtain ⟨y0, y1⟩ := (XH_17.out.on BQ.out).pair
                    have hcall := right_c _ _ dl hh hl F wr HCR.out.good HCR.out.dst hids HCR.out.len HCR.out.few hFl (AD_17.out.on BQ.out) NR.out
                    clear hids hFl OR
                    go_wp2_with fail
                    (with_reducible refine hcall.mono ?_)
                    rintro e wF ⟨rfl, hb⟩
                    have BG := Lib.hid (BF.out.trans (hb.mono BF.out.size))
                    clear hcall hb y0 y1 BF
                    go_wp2
                    go_ret
                    exact ⟨rfl, BG.out⟩
            · skip
              have hcall := of_c (.slice A4 al.length c4) al 100 w16 (by have := HR.out.2.len; omega) (fun a ha => by have := HR.out.2.few a ha; have := HLN.out; omega) AA_16.out
              go_wp2_with fail
              (with_reducible refine hcall.mono ?_)
              rintro e w18 ⟨vo, rfl, hO, hb⟩
              rw [hof] at hO
              obtain ⟨Oa, Oc, rfl⟩ : ∃ Oa Oc, vo = .slice Oa 0 Oc := by
                rcases hO.2 with ⟨rfl, _⟩ | ⟨g9, cap9, cur9, rfl, _⟩
                · exact ⟨none, 0, rfl⟩
                · exact ⟨_, _, rfl⟩
              have B18 := Lib.hid (B16.out.trans (hb.mono B16.out.size))
              have WT_18 := Lib.hid (WT_16.out.on hb)
              have AA_18 := Lib.hid (AA_16.out.on hb)
              have AL_18 := Lib.hid (AL_16.out.on hb)
              have XC_18 := Lib.hid (XC_16.out.on hb)
              have XH_18 := Lib.hid (XH_16.out.on hb)
              have PV_18 := Lib.hid (PV_16.out.on hb)
              clear hb hcall hO hof B16 WT_16 AA_16 AL_16 XC_16 XH_16 PV_16
              have hcall := acoarsen_r (.slice A3 bs.length c3) bs r w18 (by have := HK.out.le HLN.out; omega) (fun a ha => by have := HK.out.few a ha; have := HLN.out; omega) AL_18.out
              go_wp2_with fail
              (with_reducible refine hcall.mono ?_)
              rintro e w19 hr2
              clear hcall
              have hcall := trivial
              cases hr2 with
              | err kk hk hb =>
                obtain rfl : kk = 10 := by
                  rcases hk with ⟨_, h⟩ | ⟨h, _⟩
                  · rw [good_sndA HK.out.inv.good] at h; cases h
                  · exact h
                have B19 := Lib.hid (B18.out.trans (hb.mono B18.out.size))
                have WT_19 := Lib.hid (WT_18.out.on hb)
                have AA_19 := Lib.hid (AA_18.out.on hb)
                have AL_19 := Lib.hid (AL_18.out.on hb)
                have XC_19 := Lib.hid (XC_18.out.on hb)
                have XH_19 := Lib.hid (XH_18.out.on hb)
                have PV_19 := Lib.hid (PV_18.out.on hb)
                clear hb hcall  B18 WT_18 AA_18 AL_18 XC_18 XH_18 PV_18
                have BQ := Lib.hid (below1 w19 (.cells #[] 3))
                have OR : Hid ((w19.alloc (.cells #[] 3)).ownsRow w19.heap.size 3 1 (.slice (some ⟨w19.heap.size, 0, none⟩) 0 0) 0 []) := World.ownsRow_made w19 #[] 0 (Nat.le_refl _) (Nat.zero_le _) rfl
                go_wp2
                go_loopg [22, 23] J.length (fun gk s22 s23 wz => ∃ j : Nat, j ≤ J.length ∧ gk = J.length - j ∧ s23 = .int .i64 j ∧ Hid (Below w19.heap.size w19 wz) ∧ Hid (wz.ownsRow w19.heap.size 3 1 s22 ((J.take j).filter fun n => decide (n ≠ r)).length (iv ((J.take j).filter fun n => decide (n ≠ r)))))
                case atStart => exact ⟨0, Nat.zero_le _, rfl, rfl, BQ, OR⟩
                case round =>
                  clear BQ OR
                  obtain ⟨j, hj, rfl, rfl, BQ, OR⟩ := hrel
                  by_cases hlt : j < J.length
                  · have hltz : (j : Int) < (J.length : Int) := by omega
                    obtain ⟨y, hy⟩ : ∃ y, J[j]? = some y := ⟨_, List.getElem?_eq_getElem hlt⟩
                    obtain ⟨b2, o2, rfl, hy2⟩ : ∃ b2 o2, Wa = some ⟨b2, o2, none⟩ ∧ wr.cell? ⟨b2, o2 + j, none⟩ = some (.int .i64 y) := by
                      obtain ⟨A8, c8, e, -, -, h⟩ := WT_19.out.on BQ.out
                      injection e with e1 e2 e3
                      rcases h with h | ⟨b2, o2, e4, -, h⟩
                      · rw [h] at hy; simp at hy
                      · exact ⟨b2, o2, by rw [e1, e4], h j y hy⟩
                    have HFT := Lib.hid (fil_takeT (q := fun n => decide (n ≠ r)) hy)
                    have HFL := Lib.hid (Nat.le_trans (List.length_filter_le (fun n => decide (n ≠ r)) (J.take j)) (by rw [List.length_take]; omega : (J.take j).length ≤ J.length))
                    clear hy
                    by_cases hyr : y = r
                    · have hd : (y == r) = true := by simpa using hyr
                      have OR2 : Hid (wr.ownsRow w19.heap.size 3 1 u22 ((J.take (j + 1)).filter fun n => decide (n ≠ r)).length (iv ((J.take (j + 1)).filter fun n => decide (n ≠ r)))) := by
                        show World.ownsRow _ _ _ _ _ _ _
                        rw [HFT.out, if_neg (by simp [hyr]), List.append_nil]
                        exact OR.out
                      clear OR HFT HFL
                      go_wp2
                      go_roundg (J.length - (j + 1))
                      case measure => omega
                      case rel => exact ⟨j + 1, by omega, rfl, by go_num, BQ, OR2⟩
                    · have hd : (y == r) = false := by simpa using hyr
                      have b5 := below1 wr (.cells #[.int .i64 y] 3)
                      have N5 : Blk (wr.alloc (.cells #[.int .i64 y] 3)) wr.heap.size 3 #[.int .i64 y] := Blk.new wr _ _
                      have B5 := BQ.out.trans (b5.mono BQ.out.size)
                      have O5 := own_on OR.out b5
                      have S5 := src_int N5
                      have hz5 := B5.size
                      have hfl := HFL.out
                      have HFT2 : Hid (((J.take (j + 1)).filter fun n => decide (n ≠ r)) = ((J.take j).filter fun n => decide (n ≠ r)) ++ [y]) := by show _ = _; rw [HFT.out, if_pos (by simp [hyr])]
                      generalize hFF : ((J.take j).filter fun n => decide (n ≠ r)) = F at O5 HFT2 hfl
                      clear BQ OR b5 N5 HFT HFL
                      go_wp2_with (at_builtin; refine wpList_app _ rfl (.tmp 116) (.tmp 121) 36 rfl w19.heap.size 3 ic _ 1 8 Tryz.underlying36 hic hcz0 hcz1 hcz2 rfl (by decide) _ F.length (iv F) rfl O5 _ 1 (iv [y]) rfl S5 (by unfold maxLen; omega) (by omega) hz5 ?_)
                      intro v6 w6 O6 hg6
                      have B6 := Lib.hid (B5.grown hg6 hz5 (fun j hj => (O5.lt j hj).1))
                      have O7 : Hid (w6.ownsRow w19.heap.size 3 1 v6 ((J.take (j + 1)).filter fun n => decide (n ≠ r)).length (iv ((J.take (j + 1)).filter fun n => decide (n ≠ r)))) := by
                        show World.ownsRow _ _ _ _ _ _ _
                        rw [HFT2.out, ← iv_app, List.length_append]
                        exact O6
                      clear O5 S5 hz5 hfl B5 O6 hg6 hFF HFT2 hy2
                      go_wp2
                      go_roundg (J.length - (j + 1))
                      case measure => omega
                      case rel => exact ⟨j + 1, by omega, rfl, by go_num, B6, O7⟩
                  · have hltz : ¬ (j : Int) < (J.length : Int) := by omega
                    have BF := Lib.hid (B19.out.trans (BQ.out.mono B19.out.size))
                    go_wp2
                    go_ret
                    exact ⟨rfl, BF.out⟩
              | some v9 dl h8 h9 hA9 hb =>
                have HCR := Lib.hid (HK.out.crs HLN.out h9)
                have AD := Lib.hid hA9
                obtain ⟨A9, c9, rfl, -, -⟩ := hA9.form
                have B19 := Lib.hid (B18.out.trans (hb.mono B18.out.size))
                have WT_19 := Lib.hid (WT_18.out.on hb)
                have AA_19 := Lib.hid (AA_18.out.on hb)
                have AL_19 := Lib.hid (AL_18.out.on hb)
                have XC_19 := Lib.hid (XC_18.out.on hb)
                have XH_19 := Lib.hid (XH_18.out.on hb)
                have PV_19 := Lib.hid (PV_18.out.on hb)
                clear hb hcall h8 h9 hA9 B18 WT_18 AA_18 AL_18 XC_18 XH_18 PV_18
                have AD_19 := AD
                clear AD
                have BQ := Lib.hid (below1 w19 (.cells #[] 3))
                have OR : Hid ((w19.alloc (.cells #[] 3)).ownsRow w19.heap.size 3 1 (.slice (some ⟨w19.heap.size, 0, none⟩) 0 0) 0 []) := World.ownsRow_made w19 #[] 0 (Nat.le_refl _) (Nat.zero_le _) rfl
                go_wp2
                go_loopg [22, 23] J.length (fun gk s22 s23 wz => ∃ j : Nat, j ≤ J.length ∧ gk = J.length - j ∧ s23 = .int .i64 j ∧ Hid (Below w19.heap.size w19 wz) ∧ Hid (wz.ownsRow w19.heap.size 3 1 s22 ((J.take j).filter fun n => decide (n ≠ r)).length (iv ((J.take j).filter fun n => decide (n ≠ r)))))
                case atStart => exact ⟨0, Nat.zero_le _, rfl, rfl, BQ, OR⟩
                case round =>
                  clear BQ OR
                  obtain ⟨j, hj, rfl, rfl, BQ, OR⟩ := hrel
                  by_cases hlt : j < J.length
                  · have hltz : (j : Int) < (J.length : Int) := by omega
                    obtain ⟨y, hy⟩ : ∃ y, J[j]? = some y := ⟨_, List.getElem?_eq_getElem hlt⟩
                    obtain ⟨b2, o2, rfl, hy2⟩ : ∃ b2 o2, Wa = some ⟨b2, o2, none⟩ ∧ wr.cell? ⟨b2, o2 + j, none⟩ = some (.int .i64 y) := by
                      obtain ⟨A8, c8, e, -, -, h⟩ := WT_19.out.on BQ.out
                      injection e with e1 e2 e3
                      rcases h with h | ⟨b2, o2, e4, -, h⟩
                      · rw [h] at hy; simp at hy
                      · exact ⟨b2, o2, by rw [e1, e4], h j y hy⟩
                    have HFT := Lib.hid (fil_takeT (q := fun n => decide (n ≠ r)) hy)
                    have HFL := Lib.hid (Nat.le_trans (List.length_filter_le (fun n => decide (n ≠ r)) (J.take j)) (by rw [List.length_take]; omega : (J.take j).length ≤ J.length))
                    clear hy
                    by_cases hyr : y = r
                    · have hd : (y == r) = true := by simpa using hyr
                      have OR2 : Hid (wr.ownsRow w19.heap.size 3 1 u22 ((J.take (j + 1)).filter fun n => decide (n ≠ r)).length (iv ((J.take (j + 1)).filter fun n => decide (n ≠ r)))) := by
                        show World.ownsRow _ _ _ _ _ _ _
                        rw [HFT.out, if_neg (by simp [hyr]), List.append_nil]
                        exact OR.out
                      clear OR HFT HFL
                      go_wp2
                      go_roundg (J.length - (j + 1))
                      case measure => omega
                      case rel => exact ⟨j + 1, by omega, rfl, by go_num, BQ, OR2⟩
                    · have hd : (y == r) = false := by simpa using hyr
                      have b5 := below1 wr (.cells #[.int .i64 y] 3)
                      have N5 : Blk (wr.alloc (.cells #[.int .i64 y] 3)) wr.heap.size 3 #[.int .i64 y] := Blk.new wr _ _
                      have B5 := BQ.out.trans (b5.mono BQ.out.size)
                      have O5 := own_on OR.out b5
                      have S5 := src_int N5
                      have hz5 := B5.size
                      have hfl := HFL.out
                      have HFT2 : Hid (((J.take (j + 1)).filter fun n => decide (n ≠ r)) = ((J.take j).filter fun n => decide (n ≠ r)) ++ [y]) := by show _ = _; rw [HFT.out, if_pos (by simp [hyr])]
                      generalize hFF : ((J.take j).filter fun n => decide (n ≠ r)) = F at O5 HFT2 hfl
                      clear BQ OR b5 N5 HFT HFL
                      go_wp2_with (at_builtin; refine wpList_app _ rfl (.tmp 116) (.tmp 121) 36 rfl w19.heap.size 3 ic _ 1 8 Tryz.underlying36 hic hcz0 hcz1 hcz2 rfl (by decide) _ F.length (iv F) rfl O5 _ 1 (iv [y]) rfl S5 (by unfold maxLen; omega) (by omega) hz5 ?_)
                      intro v6 w6 O6 hg6
                      have B6 := Lib.hid (B5.grown hg6 hz5 (fun j hj => (O5.lt j hj).1))
                      have O7 : Hid (w6.ownsRow w19.heap.size 3 1 v6 ((J.take (j + 1)).filter fun n => decide (n ≠ r)).length (iv ((J.take (j + 1)).filter fun n => decide (n ≠ r)))) := by
                        show World.ownsRow _ _ _ _ _ _ _
                        rw [HFT2.out, ← iv_app, List.length_append]
                        exact O6
                      clear O5 S5 hz5 hfl B5 O6 hg6 hFF HFT2 hy2
                      go_wp2
                      go_roundg (J.length - (j + 1))
                      case measure => omega
                      case rel => exact ⟨j + 1, by omega, rfl, by go_num, B6, O7⟩
                  · have hltz : ¬ (j : Int) < (J.length : Int) := by omega
                    have BF := Lib.hid (B19.out.trans (BQ.out.mono B19.out.size))
                    have NR : Hid (Nm wr u22 (J.filter fun n => decide (n ≠ r))) := by
                      show Nm _ _ _
                      have := own_Nm OR.out
                      rw [List.take_of_length_le (by omega)] at this
                      exact this
                    have hFl : (J.filter fun n => decide (n ≠ r)).length ≤ 1000 := by have := List.length_filter_le (fun n => decide (n ≠ r)) J; have := hJz; omega
                    have hids : idsAt hasP dl (hh, hl) = [J.filter fun n => decide (n ≠ r)] := by rw [HCR.out.ids, HJ.out]
                    generalize (J.filter fun n => decide (n ≠ r)) = F at NR hFl hids
                    have NR2 := NR.out
                    obtain ⟨F1, F3, rfl, -⟩ := NR2
                    obtain ⟨y0, y1⟩ := (XH_19.out.on BQ.out).pair
                    have hcall := right_c _ _ dl hh hl F wr HCR.out.good HCR.out.dst hids HCR.out.len HCR.out.few hFl (AD_19.out.on BQ.out) NR.out
                    clear hids hFl OR
                    go_wp2_with fail
                    (with_reducible refine hcall.mono ?_)
                    rintro e wF ⟨rfl, hb⟩
                    have BG := Lib.hid (BF.out.trans (hb.mono BF.out.size))
                    clear hcall hb y0 y1 BF
                    go_wp2
                    go_ret
                    exact ⟨rfl, BG.out⟩
          | some v5 al2 g0 g1 hof g3 hA5 hb =>
            have B16 := Lib.hid (B15.out.trans (hb.mono B15.out.size))
            have WT_16 := Lib.hid (WT_15.out.on hb)
            have AA_16 := Lib.hid (AA_15.out.on hb)
            have AL_16 := Lib.hid (AL_15.out.on hb)
            have XC_16 := Lib.hid (XC_15.out.on hb)
            have XH_16 := Lib.hid (XH_15.out.on hb)
            have PV_16 := Lib.hid (PV_15.out.on hb)
            clear hb hcall y0 y1 y2 y3 g0 g1 g3 hA5 B15 WT_15 AA_15 AL_15 XC_15 XH_15 PV_15
            have hcall := of_c (.slice A4 al.length c4) al 100 w16 (by have := HR.out.2.len; omega) (fun a ha => by have := HR.out.2.few a ha; have := HLN.out; omega) AA_16.out
            go_wp2_with fail
            (with_reducible refine hcall.mono ?_)
            rintro e w20 ⟨vo, rfl, hO, hb⟩
            rw [hof] at hO
            obtain ⟨Oa, Oc, rfl⟩ : ∃ Oa Oc, vo = .slice Oa 0 Oc := by
              rcases hO.2 with ⟨rfl, _⟩ | ⟨g9, cap9, cur9, rfl, _⟩
              · exact ⟨none, 0, rfl⟩
              · exact ⟨_, _, rfl⟩
            have B20 := Lib.hid (B16.out.trans (hb.mono B16.out.size))
            have WT_20 := Lib.hid (WT_16.out.on hb)
            have AA_20 := Lib.hid (AA_16.out.on hb)
            have AL_20 := Lib.hid (AL_16.out.on hb)
            have XC_20 := Lib.hid (XC_16.out.on hb)
            have XH_20 := Lib.hid (XH_16.out.on hb)
            have PV_20 := Lib.hid (PV_16.out.on hb)
            clear hb hcall hO hof B16 WT_16 AA_16 AL_16 XC_16 XH_16 PV_16
            have hcall := acoarsen_r (.slice A3 bs.length c3) bs r w20 (by have := HK.out.le HLN.out; omega) (fun a ha => by have := HK.out.few a ha; have := HLN.out; omega) AL_20.out
            go_wp2_with fail
            (with_reducible refine hcall.mono ?_)
            rintro e w21 hr2
            clear hcall
            have hcall := trivial
            cases hr2 with
            | err kk hk hb =>
              obtain rfl : kk = 10 := by
                rcases hk with ⟨_, h⟩ | ⟨h, _⟩
                · rw [good_sndA HK.out.inv.good] at h; cases h
                · exact h
              have B21 := Lib.hid (B20.out.trans (hb.mono B20.out.size))
              have WT_21 := Lib.hid (WT_20.out.on hb)
              have AA_21 := Lib.hid (AA_20.out.on hb)
              have AL_21 := Lib.hid (AL_20.out.on hb)
              have XC_21 := Lib.hid (XC_20.out.on hb)
              have XH_21 := Lib.hid (XH_20.out.on hb)
              have PV_21 := Lib.hid (PV_20.out.on hb)
              clear hb hcall  B20 WT_20 AA_20 AL_20 XC_20 XH_20 PV_20
              have BQ := Lib.hid (below1 w21 (.cells #[] 3))
              have OR : Hid ((w21.alloc (.cells #[] 3)).ownsRow w21.heap.size 3 1 (.slice (some ⟨w21.heap.size, 0, none⟩) 0 0) 0 []) := World.ownsRow_made w21 #[] 0 (Nat.le_refl _) (Nat.zero_le _) rfl
              go_wp2
              go_loopg [22, 23] J.length (fun gk s22 s23 wz => ∃ j : Nat, j ≤ J.length ∧ gk = J.length - j ∧ s23 = .int .i64 j ∧ Hid (Below w21.heap.size w21 wz) ∧ Hid (wz.ownsRow w21.heap.size 3 1 s22 ((J.take j).filter fun n => decide (n ≠ r)).length (iv ((J.take j).filter fun n => decide (n ≠ r)))))
              case atStart => exact ⟨0, Nat.zero_le _, rfl, rfl, BQ, OR⟩
              case round =>
                clear BQ OR
                obtain ⟨j, hj, rfl, rfl, BQ, OR⟩ := hrel
                by_cases hlt : j < J.length
                · have hltz : (j : Int) < (J.length : Int) := by omega
                  obtain ⟨y, hy⟩ : ∃ y, J[j]? = some y := ⟨_, List.getElem?_eq_getElem hlt⟩
                  obtain ⟨b2, o2, rfl, hy2⟩ : ∃ b2 o2, Wa = some ⟨b2, o2, none⟩ ∧ wr.cell? ⟨b2, o2 + j, none⟩ = some (.int .i64 y) := by
                    obtain ⟨A8, c8, e, -, -, h⟩ := WT_21.out.on BQ.out
                    injection e with e1 e2 e3
                    rcases h with h | ⟨b2, o2, e4, -, h⟩
                    · rw [h] at hy; simp at hy
                    · exact ⟨b2, o2, by rw [e1, e4], h j y hy⟩
                  have HFT := Lib.hid (fil_takeT (q := fun n => decide (n ≠ r)) hy)
                  have HFL := Lib.hid (Nat.le_trans (List.length_filter_le (fun n => decide (n ≠ r)) (J.take j)) (by rw [List.length_take]; omega : (J.take j).length ≤ J.length))
                  clear hy
                  by_cases hyr : y = r
                  · have hd : (y == r) = true := by simpa using hyr
                    have OR2 : Hid (wr.ownsRow w21.heap.size 3 1 u22 ((J.take (j + 1)).filter fun n => decide (n ≠ r)).length (iv ((J.take (j + 1)).filter fun n => decide (n ≠ r)))) := by
                      show World.ownsRow _ _ _ _ _ _ _
                      rw [HFT.out, if_neg (by simp [hyr]), List.append_nil]
                      exact OR.out
                    clear OR HFT HFL
                    go_wp2
                    go_roundg (J.length - (j + 1))
                    case measure => omega
                    case rel => exact ⟨j + 1, by omega, rfl, by go_num, BQ, OR2⟩
                  · have hd : (y == r) = false := by simpa using hyr
                    have b5 := below1 wr (.cells #[.int .i64 y] 3)
                    have N5 : Blk (wr.alloc (.cells #[.int .i64 y] 3)) wr.heap.size 3 #[.int .i64 y] := Blk.new wr _ _
                    have B5 := BQ.out.trans (b5.mono BQ.out.size)
                    have O5 := own_on OR.out b5
                    have S5 := src_int N5
                    have hz5 := B5.size
                    have hfl := HFL.out
                    have HFT2 : Hid (((J.take (j + 1)).filter fun n => decide (n ≠ r)) = ((J.take j).filter fun n => decide (n ≠ r)) ++ [y]) := by show _ = _; rw [HFT.out, if_pos (by simp [hyr])]
                    generalize hFF : ((J.take j).filter fun n => decide (n ≠ r)) = F at O5 HFT2 hfl
                    clear BQ OR b5 N5 HFT HFL
                    go_wp2_with (at_builtin; refine wpList_app _ rfl (.tmp 116) (.tmp 121) 36 rfl w21.heap.size 3 ic _ 1 8 Tryz.underlying36 hic hcz0 hcz1 hcz2 rfl (by decide) _ F.length (iv F) rfl O5 _ 1 (iv [y]) rfl S5 (by unfold maxLen; omega) (by omega) hz5 ?_)
                    intro v6 w6 O6 hg6
                    have B6 := Lib.hid (B5.grown hg6 hz5 (fun j hj => (O5.lt j hj).1))
                    have O7 : Hid (w6.ownsRow w21.heap.size 3 1 v6 ((J.take (j + 1)).filter fun n => decide (n ≠ r)).length (iv ((J.take (j + 1)).filter fun n => decide (n ≠ r)))) := by
                      show World.ownsRow _ _ _ _ _ _ _
                      rw [HFT2.out, ← iv_app, List.length_append]
                      exact O6
                    clear O5 S5 hz5 hfl B5 O6 hg6 hFF HFT2 hy2
                    go_wp2
                    go_roundg (J.length - (j + 1))
                    case measure => omega
                    case rel => exact ⟨j + 1, by omega, rfl, by go_num, B6, O7⟩
                · have hltz : ¬ (j : Int) < (J.length : Int) := by omega
                  have BF := Lib.hid (B21.out.trans (BQ.out.mono B21.out.size))
                  go_wp2
                  go_ret
                  exact ⟨rfl, BF.out⟩
            | some v9 dl h8 h9 hA9 hb =>
              have HCR := Lib.hid (HK.out.crs HLN.out h9)
              have AD := Lib.hid hA9
              obtain ⟨A9, c9, rfl, -, -⟩ := hA9.form
              have B21 := Lib.hid (B20.out.trans (hb.mono B20.out.size))
              have WT_21 := Lib.hid (WT_20.out.on hb)
              have AA_21 := Lib.hid (AA_20.out.on hb)
              have AL_21 := Lib.hid (AL_20.out.on hb)
              have XC_21 := Lib.hid (XC_20.out.on hb)
              have XH_21 := Lib.hid (XH_20.out.on hb)
              have PV_21 := Lib.hid (PV_20.out.on hb)
              clear hb hcall h8 h9 hA9 B20 WT_20 AA_20 AL_20 XC_20 XH_20 PV_20
              have AD_21 := AD
              clear AD
              have BQ := Lib.hid (below1 w21 (.cells #[] 3))
              have OR : Hid ((w21.alloc (.cells #[] 3)).ownsRow w21.heap.size 3 1 (.slice (some ⟨w21.heap.size, 0, none⟩) 0 0) 0 []) := World.ownsRow_made w21 #[] 0 (Nat.le_refl _) (Nat.zero_le _) rfl
              go_wp2
              go_loopg [22, 23] J.length (fun gk s22 s23 wz => ∃ j : Nat, j ≤ J.length ∧ gk = J.length - j ∧ s23 = .int .i64 j ∧ Hid (Below w21.heap.size w21 wz) ∧ Hid (wz.ownsRow w21.heap.size 3 1 s22 ((J.take j).filter fun n => decide (n ≠ r)).length (iv ((J.take j).filter fun n => decide (n ≠ r)))))
              case atStart => exact ⟨0, Nat.zero_le _, rfl, rfl, BQ, OR⟩
              case round =>
                clear BQ OR
                obtain ⟨j, hj, rfl, rfl, BQ, OR⟩ := hrel
                by_cases hlt : j < J.length
                · have hltz : (j : Int) < (J.length : Int) := by omega
                  obtain ⟨y, hy⟩ : ∃ y, J[j]? = some y := ⟨_, List.getElem?_eq_getElem hlt⟩
                  obtain ⟨b2, o2, rfl, hy2⟩ : ∃ b2 o2, Wa = some ⟨b2, o2, none⟩ ∧ wr.cell? ⟨b2, o2 + j, none⟩ = some (.int .i64 y) := by
                    obtain ⟨A8, c8, e, -, -, h⟩ := WT_21.out.on BQ.out
                    injection e with e1 e2 e3
                    rcases h with h | ⟨b2, o2, e4, -, h⟩
                    · rw [h] at hy; simp at hy
                    · exact ⟨b2, o2, by rw [e1, e4], h j y hy⟩
                  have HFT := Lib.hid (fil_takeT (q := fun n => decide (n ≠ r)) hy)
                  have HFL := Lib.hid (Nat.le_trans (List.length_filter_le (fun n => decide (n ≠ r)) (J.take j)) (by rw [List.length_take]; omega : (J.take j).length ≤ J.length))
                  clear hy
                  by_cases hyr : y = r
                  · have hd : (y == r) = true := by simpa using hyr
                    have OR2 : Hid (wr.ownsRow w21.heap.size 3 1 u22 ((J.take (j + 1)).filter fun n => decide (n ≠ r)).length (iv ((J.take (j + 1)).filter fun n => decide (n ≠ r)))) := by
                      show World.ownsRow _ _ _ _ _ _ _
                      rw [HFT.out, if_neg (by simp [hyr]), List.append_nil]
                      exact OR.out
                    clear OR HFT HFL
                    go_wp2
                    go_roundg (J.length - (j + 1))
                    case measure => omega
                    case rel => exact ⟨j + 1, by omega, rfl, by go_num, BQ, OR2⟩
                  · have hd : (y == r) = false := by simpa using hyr
                    have b5 := below1 wr (.cells #[.int .i64 y] 3)
                    have N5 : Blk (wr.alloc (.cells #[.int .i64 y] 3)) wr.heap.size 3 #[.int .i64 y] := Blk.new wr _ _
                    have B5 := BQ.out.trans (b5.mono BQ.out.size)
                    have O5 := own_on OR.out b5
                    have S5 := src_int N5
                    have hz5 := B5.size
                    have hfl := HFL.out
                    have HFT2 : Hid (((J.take (j + 1)).filter fun n => decide (n ≠ r)) = ((J.take j).filter fun n => decide (n ≠ r)) ++ [y]) := by show _ = _; rw [HFT.out, if_pos (by simp [hyr])]
                    generalize hFF : ((J.take j).filter fun n => decide (n ≠ r)) = F at O5 HFT2 hfl
                    clear BQ OR b5 N5 HFT HFL
                    go_wp2_with (at_builtin; refine wpList_app _ rfl (.tmp 116) (.tmp 121) 36 rfl w21.heap.size 3 ic _ 1 8 Tryz.underlying36 hic hcz0 hcz1 hcz2 rfl (by decide) _ F.length (iv F) rfl O5 _ 1 (iv [y]) rfl S5 (by unfold maxLen; omega) (by omega) hz5 ?_)
                    intro v6 w6 O6 hg6
                    have B6 := Lib.hid (B5.grown hg6 hz5 (fun j hj => (O5.lt j hj).1))
                    have O7 : Hid (w6.ownsRow w21.heap.size 3 1 v6 ((J.take (j + 1)).filter fun n => decide (n ≠ r)).length (iv ((J.take (j + 1)).filter fun n => decide (n ≠ r)))) := by
                      show World.ownsRow _ _ _ _ _ _ _
                      rw [HFT2.out, ← iv_app, List.length_append]
                      exact O6
                    clear O5 S5 hz5 hfl B5 O6 hg6 hFF HFT2 hy2
                    go_wp2
                    go_roundg (J.length - (j + 1))
                    case measure => omega
                    case rel => exact ⟨j + 1, by omega, rfl, by go_num, B6, O7⟩
                · have hltz : ¬ (j : Int) < (J.length : Int) := by omega
                  have BF := Lib.hid (B21.out.trans (BQ.out.mono B21.out.size))
                  have NR : Hid (Nm wr u22 (J.filter fun n => decide (n ≠ r))) := by
                    show Nm _ _ _
                    have := own_Nm OR.out
                    rw [List.take_of_length_le (by omega)] at this
                    exact this
                  have hFl : (J.filter fun n => decide (n ≠ r)).length ≤ 1000 := by have := List.length_filter_le (fun n => decide (n ≠ r)) J; have := hJz; omega
                  have hids : idsAt hasP dl (hh, hl) = [J.filter fun n => decide (n ≠ r)] := by rw [HCR.out.ids, HJ.out]
                  generalize (J.filter fun n => decide (n ≠ r)) = F at NR hFl hids
                  have NR2 := NR.out
                  obtain ⟨F1, F3, rfl, -⟩ := NR2
                  obtain ⟨y0, y1⟩ := (XH_21.out.on BQ.out).pair
                  have hcall := right_c _ _ dl hh hl F wr HCR.out.good HCR.out.dst hids HCR.out.len HCR.out.few hFl (AD_21.out.on BQ.out) NR.out
                  clear hids hFl OR
                  go_wp2_with fail
                  (with_reducible refine hcall.mono ?_)
                  rintro e wF ⟨rfl, hb⟩
                  have BG := Lib.hid (BF.out.trans (hb.mono BF.out.size))
                  clear hcall hb y0 y1 BF
                  go_wp2
                  go_ret
                  exact ⟨rfl, BG.out⟩
        | true =>
          rw [if_pos rfl]
          have b5 := below1 w18 (.cells #[.int .i64 100] 3)
          have N5 : Blk (w18.alloc (.cells #[.int .i64 100] 3)) w18.heap.size 3 #[.int .i64 100] := Blk.new w18 _ _
          have B5 := BN2.out.trans (b5.mono BN2.out.size)
          have O5 := own_on ON2.out b5
          have S5 := src_int N5
          have hz5 := B5.size
          clear b5 N5 BN2 ON2
          go_wp2_with (at_builtin; refine wpList_app _ rfl (.tmp 72) (.tmp 73) 36 rfl w13.heap.size 3 ic _ 1 8 Tryz.underlying36 hic hcz0 hcz1 hcz2 rfl (by decide) _ J.length (iv J) rfl O5 _ 1 (iv [100]) rfl S5 (by unfold maxLen; omega) (by omega) hz5 ?_)
          intro v6 w6 O6 hg6
          have BN3 := Lib.hid (B5.grown hg6 hz5 (fun j hj => (O5.lt j hj).1))
          have NN : Hid (Nm w6 v6 (J ++ [100])) := by
            show Nm _ _ _
            refine own_Nm (n := J.length + 1) (base := w13.heap.size) (e := 3) ?_
            rw [← iv_app]
            exact O6
          have HNL : Hid ((J ++ [100]).length ≤ 1000) := by show _ ≤ _; rw [List.length_append, List.length_cons, List.length_nil]; omega
          have HNX : Hid (idsAt hasP al (hh, hl) = [J ++ [100]]) := by show _ = _; rw [HR.out.2.ids, if_pos (show c.has (hh, hl).1 (hh, hl).2 = true from hxc), HJ.out]
          clear B5 O5 S5 hz5 O6 hg6 hxc
          generalize (J ++ [100]) = now at NN HNL HNX
          have WT_22 := Lib.hid (WT_13.out.on BN3.out)
          have AA_22 := Lib.hid (AA_13.out.on BN3.out)
          have AL_22 := Lib.hid (AL_13.out.on BN3.out)
          have XC_22 := Lib.hid (XC_13.out.on BN3.out)
          have XH_22 := Lib.hid (XH_13.out.on BN3.out)
          have PV_22 := Lib.hid (PV_13.out.on BN3.out)
          have B22 := Lib.hid (B13.out.trans (BN3.out.mono B13.out.size))
          clear WT_13 AA_13 AL_13 XC_13 XH_13 PV_13 B13 BN3
          have NN2 := NN.out
          obtain ⟨F1, F3, rfl, -⟩ := NN2
          obtain ⟨y0, y1⟩ := XH_22.out.pair
          have hcall := right_c _ _ al hh hl now w6 HR.out.2.good HR.out.2.dst HNX.out (by have := HR.out.2.len; omega) (fun a ha => by have := HR.out.2.few a ha; have := HLN.out; omega) HNL.out AA_22.out NN.out
          go_wp2_with fail
          (with_reducible refine hcall.mono ?_)
          rintro e w23 ⟨rfl, hb⟩
          have B23 := Lib.hid (B22.out.trans (hb.mono B22.out.size))
          have WT_23 := Lib.hid (WT_22.out.on hb)
          have AA_23 := Lib.hid (AA_22.out.on hb)
          have AL_23 := Lib.hid (AL_22.out.on hb)
          have XC_23 := Lib.hid (XC_22.out.on hb)
          have XH_23 := Lib.hid (XH_22.out.on hb)
          have PV_23 := Lib.hid (PV_22.out.on hb)
          clear hb hcall y0 y1 NN HNL HNX B22 WT_22 AA_22 AL_22 XC_22 XH_22 PV_22
          obtain ⟨y0, y1, y2, y3⟩ : At4 w23 w.heap.size 0 c := ⟨XC_23.out.cell 0, XC_23.out.cell 1, XC_23.out.cell 2, XC_23.out.cell 3⟩
          have hcall := arefine_r (.slice A4 al.length c4) al 100 c w23 (by have := HR.out.2.len; omega) (fun a ha => by have := HR.out.2.few a ha; have := HLN.out; omega) AA_23.out
          go_wp2_with fail
          (with_reducible refine hcall.mono ?_)
          rintro e w24 hr2
          clear hcall
          have hcall := trivial
          cases hr2 with
          | err kk hk hb =>
            have hk2 : kk = 8 ∨ (kk = 10 ∧ ofL al 100 al.length = []) := by
              rcases hk with ⟨_, h0⟩ | ⟨_, _, h1⟩ | ⟨h, _⟩ | ⟨h, _, _, h2⟩
              · exact absurd h0 (by decide)
              · rw [HCS.out, good_sndA HR.out.2.good] at h1; simp at h1
              · exact .inl h
              · exact .inr ⟨h, h2⟩
            clear hk
            have B24 := Lib.hid (B23.out.trans (hb.mono B23.out.size))
            have WT_24 := Lib.hid (WT_23.out.on hb)
            have AA_24 := Lib.hid (AA_23.out.on hb)
            have AL_24 := Lib.hid (AL_23.out.on hb)
            have XC_24 := Lib.hid (XC_23.out.on hb)
            have XH_24 := Lib.hid (XH_23.out.on hb)
            have PV_24 := Lib.hid (PV_23.out.on hb)
            clear hb hcall y0 y1 y2 y3 B23 WT_23 AA_23 AL_23 XC_23 XH_23 PV_23
            rcases hk2 with rfl | ⟨rfl, hof⟩
            · skip
              have hcall := acoarsen_r (.slice A3 bs.length c3) bs r w24 (by have := HK.out.le HLN.out; omega) (fun a ha => by have := HK.out.few a ha; have := HLN.out; omega) AL_24.out
              go_wp2_with fail
              (with_reducible refine hcall.mono ?_)
              rintro e w25 hr2
              clear hcall
              have hcall := trivial
              cases hr2 with
              | err kk hk hb =>
                obtain rfl : kk = 10 := by
                  rcases hk with ⟨_, h⟩ | ⟨h, _⟩
                  · rw [good_sndA HK.out.inv.good] at h; cases h
                  · exact h
                have B25 := Lib.hid (B24.out.trans (hb.mono B24.out.size))
                have WT_25 := Lib.hid (WT_24.out.on hb)
                have AA_25 := Lib.hid (AA_24.out.on hb)
                have AL_25 := Lib.hid (AL_24.out.on hb)
                have XC_25 := Lib.hid (XC_24.out.on hb)
                have XH_25 := Lib.hid (XH_24.out.on hb)
                have PV_25 := Lib.hid (PV_24.out.on hb)
                clear hb hcall  B24 WT_24 AA_24 AL_24 XC_24 XH_24 PV_24
                have BQ := Lib.hid (below1 w25 (.cells #[] 3))
                have OR : Hid ((w25.alloc (.cells #[] 3)).ownsRow w25.heap.size 3 1 (.slice (some ⟨w25.heap.size, 0, none⟩) 0 0) 0 []) := World.ownsRow_made w25 #[] 0 (Nat.le_refl _) (Nat.zero_le _) rfl
                go_wp2
                go_loopg [22, 23] J.length (fun gk s22 s23 wz => ∃ j : Nat, j ≤ J.length ∧ gk = J.length - j ∧ s23 = .int .i64 j ∧ Hid (Below w25.heap.size w25 wz) ∧ Hid (wz.ownsRow w25.heap.size 3 1 s22 ((J.take j).filter fun n => decide (n ≠ r)).length (iv ((J.take j).filter fun n => decide (n ≠ r)))))
                case atStart => exact ⟨0, Nat.zero_le _, rfl, rfl, BQ, OR⟩
                case round =>
                  clear BQ OR
                  obtain ⟨j, hj, rfl, rfl, BQ, OR⟩ := hrel
                  by_cases hlt : j < J.length
                  · have hltz : (j : Int) < (J.length : Int) := by omega
                    obtain ⟨y, hy⟩ : ∃ y, J[j]? = some y := ⟨_, List.getElem?_eq_getElem hlt⟩
                    obtain ⟨b2, o2, rfl, hy2⟩ : ∃ b2 o2, Wa = some ⟨b2, o2, none⟩ ∧ wr.cell? ⟨b2, o2 + j, none⟩ = some (.int .i64 y) := by
                      obtain ⟨A8, c8, e, -, -, h⟩ := WT_25.out.on BQ.out
                      injection e with e1 e2 e3
                      rcases h with h | ⟨b2, o2, e4, -, h⟩
                      · rw [h] at hy; simp at hy
                      · exact ⟨b2, o2, by rw [e1, e4], h j y hy⟩
                    have HFT := Lib.hid (fil_takeT (q := fun n => decide (n ≠ r)) hy)
                    have HFL := Lib.hid (Nat.le_trans (List.length_filter_le (fun n => decide (n ≠ r)) (J.take j)) (by rw [List.length_take]; omega : (J.take j).length ≤ J.length))
                    clear hy
                    by_cases hyr : y = r
                    · have hd : (y == r) = true := by simpa using hyr
                      have OR2 : Hid (wr.ownsRow w25.heap.size 3 1 u22 ((J.take (j + 1)).filter fun n => decide (n ≠ r)).length (iv ((J.take (j + 1)).filter fun n => decide (n ≠ r)))) := by
                        show World.ownsRow _ _ _ _ _ _ _
                        rw [HFT.out, if_neg (by simp [hyr]), List.append_nil]
                        exact OR.out
                      clear OR HFT HFL
                      go_wp2
                      go_roundg (J.length - (j + 1))
                      case measure => omega
                      case rel => exact ⟨j + 1, by omega, rfl, by go_num, BQ, OR2⟩
                    · have hd : (y == r) = false := by simpa using hyr
                      have b5 := below1 wr (.cells #[.int .i64 y] 3)
                      have N5 : Blk (wr.alloc (.cells #[.int .i64 y] 3)) wr.heap.size 3 #[.int .i64 y] := Blk.new wr _ _
                      have B5 := BQ.out.trans (b5.mono BQ.out.size)
                      have O5 := own_on OR.out b5
                      have S5 := src_int N5
                      have hz5 := B5.size
                      have hfl := HFL.out
                      have HFT2 : Hid (((J.take (j + 1)).filter fun n => decide (n ≠ r)) = ((J.take j).filter fun n => decide (n ≠ r)) ++ [y]) := by show _ = _; rw [HFT.out, if_pos (by simp [hyr])]
                      generalize hFF : ((J.take j).filter fun n => decide (n ≠ r)) = F at O5 HFT2 hfl
                      clear BQ OR b5 N5 HFT HFL
                      go_wp2_with (at_builtin; refine wpList_app _ rfl (.tmp 116) (.tmp 121) 36 rfl w25.heap.size 3 ic _ 1 8 Tryz.underlying36 hic hcz0 hcz1 hcz2 rfl (by decide) _ F.length (iv F) rfl O5 _ 1 (iv [y]) rfl S5 (by unfold maxLen; omega) (by omega) hz5 ?_)
                      intro v6 w6 O6 hg6
                      have B6 := Lib.hid (B5.grown hg6 hz5 (fun j hj => (O5.lt j hj).1))
                      have O7 : Hid (w6.ownsRow w25.heap.size 3 1 v6 ((J.take (j + 1)).filter fun n => decide (n ≠ r)).length (iv ((J.take (j + 1)).filter fun n => decide (n ≠ r)))) := by
                        show World.ownsRow _ _ _ _ _ _ _
                        rw [HFT2.out, ← iv_app, List.length_append]
                        exact O6
                      clear O5 S5 hz5 hfl B5 O6 hg6 hFF HFT2 hy2
                      go_wp2
                      go_roundg (J.length - (j + 1))
                      case measure => omega
                      case rel => exact ⟨j + 1, by omega, rfl, by go_num, B6, O7⟩
                  · have hltz : ¬ (j : Int) < (J.length : Int) := by omega
                    have BF := Lib.hid (B25.out.trans (BQ.out.mono B25.out.size))
                    go_wp2
                    go_ret
                    exact ⟨rfl, BF.out⟩
              | some v9 dl h8 h9 hA9 hb =>
                have HCR := Lib.hid (HK.out.crs HLN.out h9)
                have AD := Lib.hid hA9
                obtain ⟨A9, c9, rfl, -, -⟩ := hA9.form
                have B25 := Lib.hid (B24.out.trans (hb.mono B24.out.size))
                have WT_25 := Lib.hid (WT_24.out.on hb)
                have AA_25 := Lib.hid (AA_24.out.on hb)
                have AL_25 := Lib.hid (AL_24.out.on hb)
                have XC_25 := Lib.hid (XC_24.out.on hb)
                have XH_25 := Lib.hid (XH_24.out.on hb)
                have PV_25 := Lib.hid (PV_24.out.on hb)
                clear hb hcall h8 h9 hA9 B24 WT_24 AA_24 AL_24 XC_24 XH_24 PV_24
                have AD_25 := AD
                clear AD
                have BQ := Lib.hid (below1 w25 (.cells #[] 3))
                have OR : Hid ((w25.alloc (.cells #[] 3)).ownsRow w25.heap.size 3 1 (.slice (some ⟨w25.heap.size, 0, none⟩) 0 0) 0 []) := World.ownsRow_made w25 #[] 0 (Nat.le_refl _) (Nat.zero_le _) rfl
                go_wp2
                go_loopg [22, 23] J.length (fun gk s22 s23 wz => ∃ j : Nat, j ≤ J.length ∧ gk = J.length - j ∧ s23 = .int .i64 j ∧ Hid (Below w25.heap.size w25 wz) ∧ Hid (wz.ownsRow w25.heap.size 3 1 s22 ((J.take j).filter fun n => decide (n ≠ r)).length (iv ((J.take j).filter fun n => decide (n ≠ r)))))
                case atStart => exact ⟨0, Nat.zero_le _, rfl, rfl, BQ, OR⟩
                case round =>
                  clear BQ OR
                  obtain ⟨j, hj, rfl, rfl, BQ, OR⟩ := hrel
                  by_cases hlt : j < J.length
                  · have hltz : (j : Int) < (J.length : Int) := by omega
                    obtain ⟨y, hy⟩ : ∃ y, J[j]? = some y := ⟨_, List.getElem?_eq_getElem hlt⟩
                    obtain ⟨b2, o2, rfl, hy2⟩ : ∃ b2 o2, Wa = some ⟨b2, o2, none⟩ ∧ wr.cell? ⟨b2, o2 + j, none⟩ = some (.int .i64 y) := by
                      obtain ⟨A8, c8, e, -, -, h⟩ := WT_25.out.on BQ.out
                      injection e with e1 e2 e3
                      rcases h with h | ⟨b2, o2, e4, -, h⟩
                      · rw [h] at hy; simp at hy
                      · exact ⟨b2, o2, by rw [e1, e4], h j y hy⟩
                    have HFT := Lib.hid (fil_takeT (q := fun n => decide (n ≠ r)) hy)
                    have HFL := Lib.hid (Nat.le_trans (List.length_filter_le (fun n => decide (n ≠ r)) (J.take j)) (by rw [List.length_take]; omega : (J.take j).length ≤ J.length))
                    clear hy
                    by_cases hyr : y = r
                    · have hd : (y == r) = true := by simpa using hyr
                      have OR2 : Hid (wr.ownsRow w25.heap.size 3 1 u22 ((J.take (j + 1)).filter fun n => decide (n ≠ r)).length (iv ((J.take (j + 1)).filter fun n => decide (n ≠ r)))) := by
                        show World.ownsRow _ _ _ _ _ _ _
                        rw [HFT.out, if_neg (by simp [hyr]), List.append_nil]
                        exact OR.out
                      clear OR HFT HFL
                      go_wp2
                      go_roundg (J.length - (j + 1))
                      case measure => omega
                      case rel => exact ⟨j + 1, by omega, rfl, by go_num, BQ, OR2⟩
                    · have hd : (y == r) = false := by simpa using hyr
                      have b5 := below1 wr (.cells #[.int .i64 y] 3)
                      have N5 : Blk (wr.alloc (.cells #[.int .i64 y] 3)) wr.heap.size 3 #[.int .i64 y] := Blk.new wr _ _
                      have B5 := BQ.out.trans (b5.mono BQ.out.size)
                      have O5 := own_on OR.out b5
                      have S5 := src_int N5
                      have hz5 := B5.size
                      have hfl := HFL.out
                      have HFT2 : Hid (((J.take (j + 1)).filter fun n => decide (n ≠ r)) = ((J.take j).filter fun n => decide (n ≠ r)) ++ [y]) := by show _ = _; rw [HFT.out, if_pos (by simp [hyr])]
                      generalize hFF : ((J.take j).filter fun n => decide (n ≠ r)) = F at O5 HFT2 hfl
                      clear BQ OR b5 N5 HFT HFL
                      go_wp2_with (at_builtin; refine wpList_app _ rfl (.tmp 116) (.tmp 121) 36 rfl w25.heap.size 3 ic _ 1 8 Tryz.underlying36 hic hcz0 hcz1 hcz2 rfl (by decide) _ F.length (iv F) rfl O5 _ 1 (iv [y]) rfl S5 (by unfold maxLen; omega) (by omega) hz5 ?_)
                      intro v6 w6 O6 hg6
                      have B6 := Lib.hid (B5.grown hg6 hz5 (fun j hj => (O5.lt j hj).1))
                      have O7 : Hid (w6.ownsRow w25.heap.size 3 1 v6 ((J.take (j + 1)).filter fun n => decide (n ≠ r)).length (iv ((J.take (j + 1)).filter fun n => decide (n ≠ r)))) := by
                        show World.ownsRow _ _ _ _ _ _ _
                        rw [HFT2.out, ← iv_app, List.length_append]
                        exact O6
                      clear O5 S5 hz5 hfl B5 O6 hg6 hFF HFT2 hy2
                      go_wp2
                      go_roundg (J.length - (j + 1))
                      case measure => omega
                      case rel => exact ⟨j + 1, by omega, rfl, by go_num, B6, O7⟩
                  · have hltz : ¬ (j : Int) < (J.length : Int) := by omega
                    have BF := Lib.hid (B25.out.trans (BQ.out.mono B25.out.size))
                    have NR : Hid (Nm wr u22 (J.filter fun n => decide (n ≠ r))) := by
                      show Nm _ _ _
                      have := own_Nm OR.out
                      rw [List.take_of_length_le (by omega)] at this
                      exact this
                    have hFl : (J.filter fun n => decide (n ≠ r)).length ≤ 1000 := by have := List.length_filter_le (fun n => decide (n ≠ r)) J; have := hJz; omega
                    have hids : idsAt hasP dl (hh, hl) = [J.filter fun n => decide (n ≠ r)] := by rw [HCR.out.ids, HJ.out]
                    generalize (J.filter fun n => decide (n ≠ r)) = F at NR hFl hids
                    have NR2 := NR.out
                    obtain ⟨F1, F3, rfl, -⟩ := NR2
                    obtain ⟨y0, y1⟩ := (XH_25.out.on BQ.out).pair
                    have hcall := right_c _ _ dl hh hl F wr HCR.out.good HCR.out.dst hids HCR.out.len HCR.out.few hFl (AD_25.out.on BQ.out) NR.out
                    clear hids hFl OR
                    go_wp2_with fail
                    (with_reducible refine hcall.mono ?_)
                    rintro e wF ⟨rfl, hb⟩
                    have BG := Lib.hid (BF.out.trans (hb.mono BF.out.size))
                    clear hcall hb y0 y1 BF
                    go_wp2
                    go_ret
                    exact ⟨rfl, BG.out⟩
            · skip
              have hcall := of_c (.slice A4 al.length c4) al 100 w24 (by have := HR.out.2.len; omega) (fun a ha => by have := HR.out.2.few a ha; have := HLN.out; omega) AA_24.out
              go_wp2_with fail
              (with_reducible refine hcall.mono ?_)
              rintro e w26 ⟨vo, rfl, hO, hb⟩
              rw [hof] at hO
              obtain ⟨Oa, Oc, rfl⟩ : ∃ Oa Oc, vo = .slice Oa 0 Oc := by
                rcases hO.2 with ⟨rfl, _⟩ | ⟨g9, cap9, cur9, rfl, _⟩
                · exact ⟨none, 0, rfl⟩
                · exact ⟨_, _, rfl⟩
              have B26 := Lib.hid (B24.out.trans (hb.mono B24.out.size))
              have WT_26 := Lib.hid (WT_24.out.on hb)
              have AA_26 := Lib.hid (AA_24.out.on hb)
              have AL_26 := Lib.hid (AL_24.out.on hb)
              have XC_26 := Lib.hid (XC_24.out.on hb)
              have XH_26 := Lib.hid (XH_24.out.on hb)
              have PV_26 := Lib.hid (PV_24.out.on hb)
              clear hb hcall hO hof B24 WT_24 AA_24 AL_24 XC_24 XH_24 PV_24
              have hcall := acoarsen_r (.slice A3 bs.length c3) bs r w26 (by have := HK.out.le HLN.out; omega) (fun a ha => by have := HK.out.few a ha; have := HLN.out; omega) AL_26.out
              go_wp2_with fail
              (with_reducible refine hcall.mono ?_)
              rintro e w27 hr2
              clear hcall
              have hcall := trivial
              cases hr2 with
              | err kk hk hb =>
                obtain rfl : kk = 10 := by
                  rcases hk with ⟨_, h⟩ | ⟨h, _⟩
                  · rw [good_sndA HK.out.inv.good] at h; cases h
                  · exact h
                have B27 := Lib.hid (B26.out.trans (hb.mono B26.out.size))
                have WT_27 := Lib.hid (WT_26.out.on hb)
                have AA_27 := Lib.hid (AA_26.out.on hb)
                have AL_27 := Lib.hid (AL_26.out.on hb)
                have XC_27 := Lib.hid (XC_26.out.on hb)
                have XH_27 := Lib.hid (XH_26.out.on hb)
                have PV_27 := Lib.hid (PV_26.out.on hb)
                clear hb hcall  B26 WT_26 AA_26 AL_26 XC_26 XH_26 PV_26
                have BQ := Lib.hid (below1 w27 (.cells #[] 3))
                have OR : Hid ((w27.alloc (.cells #[] 3)).ownsRow w27.heap.size 3 1 (.slice (some ⟨w27.heap.size, 0, none⟩) 0 0) 0 []) := World.ownsRow_made w27 #[] 0 (Nat.le_refl _) (Nat.zero_le _) rfl
                go_wp2
                go_loopg [22, 23] J.length (fun gk s22 s23 wz => ∃ j : Nat, j ≤ J.length ∧ gk = J.length - j ∧ s23 = .int .i64 j ∧ Hid (Below w27.heap.size w27 wz) ∧ Hid (wz.ownsRow w27.heap.size 3 1 s22 ((J.take j).filter fun n => decide (n ≠ r)).length (iv ((J.take j).filter fun n => decide (n ≠ r)))))
                case atStart => exact ⟨0, Nat.zero_le _, rfl, rfl, BQ, OR⟩
                case round =>
                  clear BQ OR
                  obtain ⟨j, hj, rfl, rfl, BQ, OR⟩ := hrel
                  by_cases hlt : j < J.length
                  · have hltz : (j : Int) < (J.length : Int) := by omega
                    obtain ⟨y, hy⟩ : ∃ y, J[j]? = some y := ⟨_, List.getElem?_eq_getElem hlt⟩
                    obtain ⟨b2, o2, rfl, hy2⟩ : ∃ b2 o2, Wa = some ⟨b2, o2, none⟩ ∧ wr.cell? ⟨b2, o2 + j, none⟩ = some (.int .i64 y) := by
                      obtain ⟨A8, c8, e, -, -, h⟩ := WT_27.out.on BQ.out
                      injection e with e1 e2 e3
                      rcases h with h | ⟨b2, o2, e4, -, h⟩
                      · rw [h] at hy; simp at hy
                      · exact ⟨b2, o2, by rw [e1, e4], h j y hy⟩
                    have HFT := Lib.hid (fil_takeT (q := fun n => decide (n ≠ r)) hy)
                    have HFL := Lib.hid (Nat.le_trans (List.length_filter_le (fun n => decide (n ≠ r)) (J.take j)) (by rw [List.length_take]; omega : (J.take j).length ≤ J.length))
                    clear hy
                    by_cases hyr : y = r
                    · have hd : (y == r) = true := by simpa using hyr
                      have OR2 : Hid (wr.ownsRow w27.heap.size 3 1 u22 ((J.take (j + 1)).filter fun n => decide (n ≠ r)).length (iv ((J.take (j + 1)).filter fun n => decide (n ≠ r)))) := by
                        show World.ownsRow _ _ _ _ _ _ _
                        rw [HFT.out, if_neg (by simp [hyr]), List.append_nil]
                        exact OR.out
                      clear OR HFT HFL
                      go_wp2
                      go_roundg (J.length - (j + 1))
                      case measure => omega
                      case rel => exact ⟨j + 1, by omega, rfl, by go_num, BQ, OR2⟩
                    · have hd : (y == r) = false := by simpa using hyr
                      have b5 := below1 wr (.cells #[.int .i64 y] 3)
                      have N5 : Blk (wr.alloc (.cells #[.int .i64 y] 3)) wr.heap.size 3 #[.int .i64 y] := Blk.new wr _ _
                      have B5 := BQ.out.trans (b5.mono BQ.out.size)
                      have O5 := own_on OR.out b5
                      have S5 := src_int N5
                      have hz5 := B5.size
                      have hfl := HFL.out
                      have HFT2 : Hid (((J.take (j + 1)).filter fun n => decide (n ≠ r)) = ((J.take j).filter fun n => decide (n ≠ r)) ++ [y]) := by show _ = _; rw [HFT.out, if_pos (by simp [hyr])]
                      generalize hFF : ((J.take j).filter fun n => decide (n ≠ r)) = F at O5 HFT2 hfl
                      clear BQ OR b5 N5 HFT HFL
                      go_wp2_with (at_builtin; refine wpList_app _ rfl (.tmp 116) (.tmp 121) 36 rfl w27.heap.size 3 ic _ 1 8 Tryz.underlying36 hic hcz0 hcz1 hcz2 rfl (by decide) _ F.length (iv F) rfl O5 _ 1 (iv [y]) rfl S5 (by unfold maxLen; omega) (by omega) hz5 ?_)
                      intro v6 w6 O6 hg6
                      have B6 := Lib.hid (B5.grown hg6 hz5 (fun j hj => (O5.lt j hj).1))
                      have O7 : Hid (w6.ownsRow w27.heap.size 3 1 v6 ((J.take (j + 1)).filter fun n => decide (n ≠ r)).length (iv ((J.take (j + 1)).filter fun n => decide (n ≠ r)))) := by
                        show World.ownsRow _ _ _ _ _ _ _
                        rw [HFT2.out, ← iv_app, List.length_append]
                        exact O6
                      clear O5 S5 hz5 hfl B5 O6 hg6 hFF HFT2 hy2
                      go_wp2
                      go_roundg (J.length - (j + 1))
                      case measure => omega
                      case rel => exact ⟨j + 1, by omega, rfl, by go_num, B6, O7⟩
                  · have hltz : ¬ (j : Int) < (J.length : Int) := by omega
                    have BF := Lib.hid (B27.out.trans (BQ.out.mono B27.out.size))
                    go_wp2
                    go_ret
                    exact ⟨rfl, BF.out⟩
              | some v9 dl h8 h9 hA9 hb =>
                have HCR := Lib.hid (HK.out.crs HLN.out h9)
                have AD := Lib.hid hA9
                obtain ⟨A9, c9, rfl, -, -⟩ := hA9.form
                have B27 := Lib.hid (B26.out.trans (hb.mono B26.out.size))
                have WT_27 := Lib.hid (WT_26.out.on hb)
                have AA_27 := Lib.hid (AA_26.out.on hb)
                have AL_27 := Lib.hid (AL_26.out.on hb)
                have XC_27 := Lib.hid (XC_26.out.on hb)
                have XH_27 := Lib.hid (XH_26.out.on hb)
                have PV_27 := Lib.hid (PV_26.out.on hb)
                clear hb hcall h8 h9 hA9 B26 WT_26 AA_26 AL_26 XC_26 XH_26 PV_26
                have AD_27 := AD
                clear AD
                have BQ := Lib.hid (below1 w27 (.cells #[] 3))
                have OR : Hid ((w27.alloc (.cells #[] 3)).ownsRow w27.heap.size 3 1 (.slice (some ⟨w27.heap.size, 0, none⟩) 0 0) 0 []) := World.ownsRow_made w27 #[] 0 (Nat.le_refl _) (Nat.zero_le _) rfl
                go_wp2
                go_loopg [22, 23] J.length (fun gk s22 s23 wz => ∃ j : Nat, j ≤ J.length ∧ gk = J.length - j ∧ s23 = .int .i64 j ∧ Hid (Below w27.heap.size w27 wz) ∧ Hid (wz.ownsRow w27.heap.size 3 1 s22 ((J.take j).filter fun n => decide (n ≠ r)).length (iv ((J.take j).filter fun n => decide (n ≠ r)))))
                case atStart => exact ⟨0, Nat.zero_le _, rfl, rfl, BQ, OR⟩
                case round =>
                  clear BQ OR
                  obtain ⟨j, hj, rfl, rfl, BQ, OR⟩ := hrel
                  by_cases hlt : j < J.length
                  · have hltz : (j : Int) < (J.length : Int) := by omega
                    obtain ⟨y, hy⟩ : ∃ y, J[j]? = some y := ⟨_, List.getElem?_eq_getElem hlt⟩
                    obtain ⟨b2, o2, rfl, hy2⟩ : ∃ b2 o2, Wa = some ⟨b2, o2, none⟩ ∧ wr.cell? ⟨b2, o2 + j, none⟩ = some (.int .i64 y) := by
                      obtain ⟨A8, c8, e, -, -, h⟩ := WT_27.out.on BQ.out
                      injection e with e1 e2 e3
                      rcases h with h | ⟨b2, o2, e4, -, h⟩
                      · rw [h] at hy; simp at hy
                      · exact ⟨b2, o2, by rw [e1, e4], h j y hy⟩
                    have HFT := Lib.hid (fil_takeT (q := fun n => decide (n ≠ r)) hy)
                    have HFL := Lib.hid (Nat.le_trans (List.length_filter_le (fun n => decide (n ≠ r)) (J.take j)) (by rw [List.length_take]; omega : (J.take j).length ≤ J.length))
                    clear hy
                    by_cases hyr : y = r
                    · have hd : (y == r) = true := by simpa using hyr
                      have OR2 : Hid (wr.ownsRow w27.heap.size 3 1 u22 ((J.take (j + 1)).filter fun n => decide (n ≠ r)).length (iv ((J.take (j + 1)).filter fun n => decide (n ≠ r)))) := by
                        show World.ownsRow _ _ _ _ _ _ _
                        rw [HFT.out, if_neg (by simp [hyr]), List.append_nil]
                        exact OR.out
                      clear OR HFT HFL
                      go_wp2
                      go_roundg (J.length - (j + 1))
                      case measure => omega
                      case rel => exact ⟨j + 1, by omega, rfl, by go_num, BQ, OR2⟩
                    · have hd : (y == r) = false := by simpa using hyr
                      have b5 := below1 wr (.cells #[.int .i64 y] 3)
                      have N5 : Blk (wr.alloc (.cells #[.int .i64 y] 3)) wr.heap.size 3 #[.int .i64 y] := Blk.new wr _ _
                      have B5 := BQ.out.trans (b5.mono BQ.out.size)
                      have O5 := own_on OR.out b5
                      have S5 := src_int N5
                      have hz5 := B5.size
                      have hfl := HFL.out
                      have HFT2 : Hid (((J.take (j + 1)).filter fun n => decide (n ≠ r)) = ((J.take j).filter fun n => decide (n ≠ r)) ++ [y]) := by show _ = _; rw [HFT.out, if_pos (by simp [hyr])]
                      generalize hFF : ((J.take j).filter fun n => decide (n ≠ r)) = F at O5 HFT2 hfl
                      clear BQ OR b5 N5 HFT HFL
                      go_wp2_with (at_builtin; refine wpList_app _ rfl (.tmp 116) (.tmp 121) 36 rfl w27.heap.size 3 ic _ 1 8 Tryz.underlying36 hic hcz0 hcz1 hcz2 rfl (by decide) _ F.length (iv F) rfl O5 _ 1 (iv [y]) rfl S5 (by unfold maxLen; omega) (by omega) hz5 ?_)
                      intro v6 w6 O6 hg6
                      have B6 := Lib.hid (B5.grown hg6 hz5 (fun j hj => (O5.lt j hj).1))
                      have O7 : Hid (w6.ownsRow w27.heap.size 3 1 v6 ((J.take (j + 1)).filter fun n => decide (n ≠ r)).length (iv ((J.take (j + 1)).filter fun n => decide (n ≠ r)))) := by
                        show World.ownsRow _ _ _ _ _ _ _
                        rw [HFT2.out, ← iv_app, List.length_append]
                        exact O6
                      clear O5 S5 hz5 hfl B5 O6 hg6 hFF HFT2 hy2
                      go_wp2
                      go_roundg (J.length - (j + 1))
                      case measure => omega
                      case rel => exact ⟨j + 1, by omega, rfl, by go_num, B6, O7⟩
                  · have hltz : ¬ (j : Int) < (J.length : Int) := by omega
                    have BF := Lib.hid (B27.out.trans (BQ.out.mono B27.out.size))
                    have NR : Hid (Nm wr u22 (J.filter fun n => decide (n ≠ r))) := by
                      show Nm _ _ _
                      have := own_Nm OR.out
                      rw [List.take_of_length_le (by omega)] at this
                      exact this
                    have hFl : (J.filter fun n => decide (n ≠ r)).length ≤ 1000 := by have := List.length_filter_le (fun n => decide (n ≠ r)) J; have := hJz; omega
                    have hids : idsAt hasP dl (hh, hl) = [J.filter fun n => decide (n ≠ r)] := by rw [HCR.out.ids, HJ.out]
                    generalize (J.filter fun n => decide (n ≠ r)) = F at NR hFl hids
                    have NR2 := NR.out
                    obtain ⟨F1, F3, rfl, -⟩ := NR2
                    obtain ⟨y0, y1⟩ := (XH_27.out.on BQ.out).pair
                    have hcall := right_c _ _ dl hh hl F wr HCR.out.good HCR.out.dst hids HCR.out.len HCR.out.few hFl (AD_27.out.on BQ.out) NR.out
                    clear hids hFl OR
                    go_wp2_with fail
                    (with_reducible refine hcall.mono ?_)
                    rintro e wF ⟨rfl, hb⟩
                    have BG := Lib.hid (BF.out.trans (hb.mono BF.out.size))
                    clear hcall hb y0 y1 BF
                    go_wp2
                    go_ret
                    exact ⟨rfl, BG.out⟩
          | some v5 al2 g0 g1 hof g3 hA5 hb =>
            have B24 := Lib.hid (B23.out.trans (hb.mono B23.out.size))
            have WT_24 := Lib.hid (WT_23.out.on hb)
            have AA_24 := Lib.hid (AA_23.out.on hb)
            have AL_24 := Lib.hid (AL_23.out.on hb)
            have XC_24 := Lib.hid (XC_23.out.on hb)
            have XH_24 := Lib.hid (XH_23.out.on hb)
            have PV_24 := Lib.hid (PV_23.out.on hb)
            clear hb hcall y0 y1 y2 y3 g0 g1 g3 hA5 B23 WT_23 AA_23 AL_23 XC_23 XH_23 PV_23
            have hcall := of_c (.slice A4 al.length c4) al 100 w24 (by have := HR.out.2.len; omega) (fun a ha => by have := HR.out.2.few a ha; have := HLN.out; omega) AA_24.out
            go_wp2_with fail
            (with_reducible refine hcall.mono ?_)
            rintro e w28 ⟨vo, rfl, hO, hb⟩
            rw [hof] at hO
            obtain ⟨Oa, Oc, rfl⟩ : ∃ Oa Oc, vo = .slice Oa 0 Oc := by
              rcases hO.2 with ⟨rfl, _⟩ | ⟨g9, cap9, cur9, rfl, _⟩
              · exact ⟨none, 0, rfl⟩
              · exact ⟨_, _, rfl⟩
            have B28 := Lib.hid (B24.out.trans (hb.mono B24.out.size))
            have WT_28 := Lib.hid (WT_24.out.on hb)
            have AA_28 := Lib.hid (AA_24.out.on hb)
            have AL_28 := Lib.hid (AL_24.out.on hb)
            have XC_28 := Lib.hid (XC_24.out.on hb)
            have XH_28 := Lib.hid (XH_24.out.on hb)
            have PV_28 := Lib.hid (PV_24.out.on hb)
            clear hb hcall hO hof B24 WT_24 AA_24 AL_24 XC_24 XH_24 PV_24
            have hcall := acoarsen_r (.slice A3 bs.length c3) bs r w28 (by have := HK.out.le HLN.out; omega) (fun a ha => by have := HK.out.few a ha; have := HLN.out; omega) AL_28.out
            go_wp2_with fail
            (with_reducible refine hcall.mono ?_)
            rintro e w29 hr2
            clear hcall
            have hcall := trivial
            cases hr2 with
            | err kk hk hb =>
              obtain rfl : kk = 10 := by
                rcases hk with ⟨_, h⟩ | ⟨h, _⟩
                · rw [good_sndA HK.out.inv.good] at h; cases h
                · exact h
              have B29 := Lib.hid (B28.out.trans (hb.mono B28.out.size))
              have WT_29 := Lib.hid (WT_28.out.on hb)
              have AA_29 := Lib.hid (AA_28.out.on hb)
              have AL_29 := Lib.hid (AL_28.out.on hb)
              have XC_29 := Lib.hid (XC_28.out.on hb)
              have XH_29 := Lib.hid (XH_28.out.on hb)
              have PV_29 := Lib.hid (PV_28.out.on hb)
              clear hb hcall  B28 WT_28 AA_28 AL_28 XC_28 XH_28 PV_28
              have BQ := Lib.hid (below1 w29 (.cells #[] 3))
              have OR : Hid ((w29.alloc (.cells #[] 3)).ownsRow w29.heap.size 3 1 (.slice (some ⟨w29.heap.size, 0, none⟩) 0 0) 0 []) := World.ownsRow_made w29 #[] 0 (Nat.le_refl _) (Nat.zero_le _) rfl
              go_wp2
              go_loopg [22, 23] J.length (fun gk s22 s23 wz => ∃ j : Nat, j ≤ J.length ∧ gk = J.length - j ∧ s23 = .int .i64 j ∧ Hid (Below w29.heap.size w29 wz) ∧ Hid (wz.ownsRow w29.heap.size 3 1 s22 ((J.take j).filter fun n => decide (n ≠ r)).length (iv ((J.take j).filter fun n => decide (n ≠ r)))))
              case atStart => exact ⟨0, Nat.zero_le _, rfl, rfl, BQ, OR⟩
              case round =>
                clear BQ OR
                obtain ⟨j, hj, rfl, rfl, BQ, OR⟩ := hrel
                by_cases hlt : j < J.length
                · have hltz : (j : Int) < (J.length : Int) := by omega
                  obtain ⟨y, hy⟩ : ∃ y, J[j]? = some y := ⟨_, List.getElem?_eq_getElem hlt⟩
                  obtain ⟨b2, o2, rfl, hy2⟩ : ∃ b2 o2, Wa = some ⟨b2, o2, none⟩ ∧ wr.cell? ⟨b2, o2 + j, none⟩ = some (.int .i64 y) := by
                    obtain ⟨A8, c8, e, -, -, h⟩ := WT_29.out.on BQ.out
                    injection e with e1 e2 e3
                    rcases h with h | ⟨b2, o2, e4, -, h⟩
                    · rw [h] at hy; simp at hy
                    · exact ⟨b2, o2, by rw [e1, e4], h j y hy⟩
                  have HFT := Lib.hid (fil_takeT (q := fun n => decide (n ≠ r)) hy)
                  have HFL := Lib.hid (Nat.le_trans (List.length_filter_le (fun n => decide (n ≠ r)) (J.take j)) (by rw [List.length_take]; omega : (J.take j).length ≤ J.length))
                  clear hy
                  by_cases hyr : y = r
                  · have hd : (y == r) = true := by simpa using hyr
                    have OR2 : Hid (wr.ownsRow w29.heap.size 3 1 u22 ((J.take (j + 1)).filter fun n => decide (n ≠ r)).length (iv ((J.take (j + 1)).filter fun n => decide (n ≠ r)))) := by
                      show World.ownsRow _ _ _ _ _ _ _
                      rw [HFT.out, if_neg (by simp [hyr]), List.append_nil]
                      exact OR.out
                    clear OR HFT HFL
                    go_wp2
                    go_roundg (J.length - (j + 1))
                    case measure => omega
                    case rel => exact ⟨j + 1, by omega, rfl, by go_num, BQ, OR2⟩
                  · have hd : (y == r) = false := by simpa using hyr
                    have b5 := below1 wr (.cells #[.int .i64 y] 3)
                    have N5 : Blk (wr.alloc (.cells #[.int .i64 y] 3)) wr.heap.size 3 #[.int .i64 y] := Blk.new wr _ _
                    have B5 := BQ.out.trans (b5.mono BQ.out.size)
                    have O5 := own_on OR.out b5
                    have S5 := src_int N5
                    have hz5 := B5.size
                    have hfl := HFL.out
                    have HFT2 : Hid (((J.take (j + 1)).filter fun n => decide (n ≠ r)) = ((J.take j).filter fun n => decide (n ≠ r)) ++ [y]) := by show _ = _; rw [HFT.out, if_pos (by simp [hyr])]
                    generalize hFF : ((J.take j).filter fun n => decide (n ≠ r)) = F at O5 HFT2 hfl
                    clear BQ OR b5 N5 HFT HFL
                    go_wp2_with (at_builtin; refine wpList_app _ rfl (.tmp 116) (.tmp 121) 36 rfl w29.heap.size 3 ic _ 1 8 Tryz.underlying36 hic hcz0 hcz1 hcz2 rfl (by decide) _ F.length (iv F) rfl O5 _ 1 (iv [y]) rfl S5 (by unfold maxLen; omega) (by omega) hz5 ?_)
                    intro v6 w6 O6 hg6
                    have B6 := Lib.hid (B5.grown hg6 hz5 (fun j hj => (O5.lt j hj).1))
                    have O7 : Hid (w6.ownsRow w29.heap.size 3 1 v6 ((J.take (j + 1)).filter fun n => decide (n ≠ r)).length (iv ((J.take (j + 1)).filter fun n => decide (n ≠ r)))) := by
                      show World.ownsRow _ _ _ _ _ _ _
                      rw [HFT2.out, ← iv_app, List.length_append]
                      exact O6
                    clear O5 S5 hz5 hfl B5 O6 hg6 hFF HFT2 hy2
                    go_wp2
                    go_roundg (J.length - (j + 1))
                    case measure => omega
                    case rel => exact ⟨j + 1, by omega, rfl, by go_num, B6, O7⟩
                · have hltz : ¬ (j : Int) < (J.length : Int) := by omega
                  have BF := Lib.hid (B29.out.trans (BQ.out.mono B29.out.size))
                  go_wp2
                  go_ret
                  exact ⟨rfl, BF.out⟩
            | some v9 dl h8 h9 hA9 hb =>
              have HCR := Lib.hid (HK.out.crs HLN.out h9)
              have AD := Lib.hid hA9
              obtain ⟨A9, c9, rfl, -, -⟩ := hA9.form
              have B29 := Lib.hid (B28.out.trans (hb.mono B28.out.size))
              have WT_29 := Lib.hid (WT_28.out.on hb)
              have AA_29 := Lib.hid (AA_28.out.on hb)
              have AL_29 := Lib.hid (AL_28.out.on hb)
              have XC_29 := Lib.hid (XC_28.out.on hb)
              have XH_29 := Lib.hid (XH_28.out.on hb)
              have PV_29 := Lib.hid (PV_28.out.on hb)
              clear hb hcall h8 h9 hA9 B28 WT_28 AA_28 AL_28 XC_28 XH_28 PV_28
              have AD_29 := AD
              clear AD
              have BQ := Lib.hid (below1 w29 (.cells #[] 3))
              have OR : Hid ((w29.alloc (.cells #[] 3)).ownsRow w29.heap.size 3 1 (.slice (some ⟨w29.heap.size, 0, none⟩) 0 0) 0 []) := World.ownsRow_made w29 #[] 0 (Nat.le_refl _) (Nat.zero_le _) rfl
              go_wp2
              go_loopg [22, 23] J.length (fun gk s22 s23 wz => ∃ j : Nat, j ≤ J.length ∧ gk = J.length - j ∧ s23 = .int .i64 j ∧ Hid (Below w29.heap.size w29 wz) ∧ Hid (wz.ownsRow w29.heap.size 3 1 s22 ((J.take j).filter fun n => decide (n ≠ r)).length (iv ((J.take j).filter fun n => decide (n ≠ r)))))
              case atStart => exact ⟨0, Nat.zero_le _, rfl, rfl, BQ, OR⟩
              case round =>
                clear BQ OR
                obtain ⟨j, hj, rfl, rfl, BQ, OR⟩ := hrel
                by_cases hlt : j < J.length
                · have hltz : (j : Int) < (J.length : Int) := by omega
                  obtain ⟨y, hy⟩ : ∃ y, J[j]? = some y := ⟨_, List.getElem?_eq_getElem hlt⟩
                  obtain ⟨b2, o2, rfl, hy2⟩ : ∃ b2 o2, Wa = some ⟨b2, o2, none⟩ ∧ wr.cell? ⟨b2, o2 + j, none⟩ = some (.int .i64 y) := by
                    obtain ⟨A8, c8, e, -, -, h⟩ := WT_29.out.on BQ.out
                    injection e with e1 e2 e3
                    rcases h with h | ⟨b2, o2, e4, -, h⟩
                    · rw [h] at hy; simp at hy
                    · exact ⟨b2, o2, by rw [e1, e4], h j y hy⟩
                  have HFT := Lib.hid (fil_takeT (q := fun n => decide (n ≠ r)) hy)
                  have HFL := Lib.hid (Nat.le_trans (List.length_filter_le (fun n => decide (n ≠ r)) (J.take j)) (by rw [List.length_take]; omega : (J.take j).length ≤ J.length))
                  clear hy
                  by_cases hyr : y = r
                  · have hd : (y == r) = true := by simpa using hyr
                    have OR2 : Hid (wr.ownsRow w29.heap.size 3 1 u22 ((J.take (j + 1)).filter fun n => decide (n ≠ r)).length (iv ((J.take (j + 1)).filter fun n => decide (n ≠ r)))) := by
                      show World.ownsRow _ _ _ _ _ _ _
                      rw [HFT.out, if_neg (by simp [hyr]), List.append_nil]
                      exact OR.out
                    clear OR HFT HFL
                    go_wp2
                    go_roundg (J.length - (j + 1))
                    case measure => omega
                    case rel => exact ⟨j + 1, by omega, rfl, by go_num, BQ, OR2⟩
                  · have hd : (y == r) = false := by simpa using hyr
                    have b5 := below1 wr (.cells #[.int .i64 y] 3)
                    have N5 : Blk (wr.alloc (.cells #[.int .i64 y] 3)) wr.heap.size 3 #[.int .i64 y] := Blk.new wr _ _
                    have B5 := BQ.out.trans (b5.mono BQ.out.size)
                    have O5 := own_on OR.out b5
                    have S5 := src_int N5
                    have hz5 := B5.size
                    have hfl := HFL.out
                    have HFT2 : Hid (((J.take (j + 1)).filter fun n => decide (n ≠ r)) = ((J.take j).filter fun n => decide (n ≠ r)) ++ [y]) := by show _ = _; rw [HFT.out, if_pos (by simp [hyr])]
                    generalize hFF : ((J.take j).filter fun n => decide (n ≠ r)) = F at O5 HFT2 hfl
                    clear BQ OR b5 N5 HFT HFL
                    go_wp2_with (at_builtin; refine wpList_app _ rfl (.tmp 116) (.tmp 121) 36 rfl w29.heap.size 3 ic _ 1 8 Tryz.underlying36 hic hcz0 hcz1 hcz2 rfl (by decide) _ F.length (iv F) rfl O5 _ 1 (iv [y]) rfl S5 (by unfold maxLen; omega) (by omega) hz5 ?_)
                    intro v6 w6 O6 hg6
                    have B6 := Lib.hid (B5.grown hg6 hz5 (fun j hj => (O5.lt j hj).1))
                    have O7 : Hid (w6.ownsRow w29.heap.size 3 1 v6 ((J.take (j + 1)).filter fun n => decide (n ≠ r)).length (iv ((J.take (j + 1)).filter fun n => decide (n ≠ r)))) := by
                      show World.ownsRow _ _ _ _ _ _ _
                      rw [HFT2.out, ← iv_app, List.length_append]
                      exact O6
                    clear O5 S5 hz5 hfl B5 O6 hg6 hFF HFT2 hy2
                    go_wp2
                    go_roundg (J.length - (j + 1))
                    case measure => omega
                    case rel => exact ⟨j + 1, by omega, rfl, by go_num, B6, O7⟩
                · have hltz : ¬ (j : Int) < (J.length : Int) := by omega
                  have BF := Lib.hid (B29.out.trans (BQ.out.mono B29.out.size))
                  have NR : Hid (Nm wr u22 (J.filter fun n => decide (n ≠ r))) := by
                    show Nm _ _ _
                    have := own_Nm OR.out
                    rw [List.take_of_length_le (by omega)] at this
                    exact this
                  have hFl : (J.filter fun n => decide (n ≠ r)).length ≤ 1000 := by have := List.length_filter_le (fun n => decide (n ≠ r)) J; have := hJz; omega
                  have hids : idsAt hasP dl (hh, hl) = [J.filter fun n => decide (n ≠ r)] := by rw [HCR.out.ids, HJ.out]
                  generalize (J.filter fun n => decide (n ≠ r)) = F at NR hFl hids
                  have NR2 := NR.out
                  obtain ⟨F1, F3, rfl, -⟩ := NR2
                  obtain ⟨y0, y1⟩ := (XH_29.out.on BQ.out).pair
                  have hcall := right_c _ _ dl hh hl F wr HCR.out.good HCR.out.dst hids HCR.out.len HCR.out.few hFl (AD_29.out.on BQ.out) NR.out
                  clear hids hFl OR
                  go_wp2_with fail
                  (with_reducible refine hcall.mono ?_)
                  rintro e wF ⟨rfl, hb⟩
                  have BG := Lib.hid (BF.out.trans (hb.mono BF.out.size))
                  clear hcall hb y0 y1 BF
                  go_wp2
                  go_ret
                  exact ⟨rfl, BG.out⟩
end Go.Proofs
