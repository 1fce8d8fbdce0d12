/-
  The row of customhouselaw11.AtomsOrder: for every input it returns true, and each argument reads as it did. No conditions.
  The walk of customhouselaw11.AtomsOrder: it returns true. Conditions as each theorem lists them.
-/
import Derived.Test.YtpmgbofnikmhgaaGreatJ10
import Derived.Test.YtpmgbofnikmhgaaGreatRows
import Derived.Below
namespace Go.Proofs.Hd
open Go.RowKit
theorem rev_step {cs : List Cb} {m : Nat} {c : Cb} (h : cs[m]? = some c) : (cs.drop m).reverse = (cs.drop (m + 1)).reverse ++ [c] := by
  obtain ⟨hm, rfl⟩ := List.getElem?_eq_some_iff.1 h
  rw [List.drop_eq_getElem_cons hm, List.reverse_cons]
theorem turned_mem (cs : List Cb) (c : Cb) (h : cs[0]? = some c) (d : Cb) : d ∈ cs ↔ d ∈ cs.reverse ++ [c] := by
  rw [List.mem_append, List.mem_reverse, List.mem_singleton]
  constructor
  · exact fun h => .inl h
  · rintro (h2 | rfl)
    · exact h2
    · exact List.mem_of_getElem? h
theorem all_mem {cs ts : List Cb} (h : ∀ c, c ∈ cs ↔ c ∈ ts) (hs : cs.all Cb.snd = true) : ts.all Cb.snd = true := by
  rw [List.all_eq_true] at *
  exact fun c hc => hs c ((h c).2 hc)
end Go.Proofs.Hd
namespace Go.Proofs
open Go.RowKit Go.Proofs.Hd Go.Lib Go.Shelf
attribute [local go_sem] uv_nonneg
set_option maxHeartbeats 8000000 in
set_option maxRecDepth 100000 in
theorem aorder_c (A : Option Addr) (cap : Nat) (cs0 : List Cb) (gh gl hh hl : BitVec 64) (w : World) (hc : cs0.length ≤ cap) (hm : cap ≤ maxLen) (hv : Pl w (.slice A cs0.length cap) cs0) :
    Calls Tryz.prog 8 #[.slice A cs0.length cap, .agg #[.int .u64 (uv gh), .int .u64 (uv gl)], .agg #[.int .u64 (uv hh), .int .u64 (uv hl)]] w fun e w' => e = .returned (.bool true) ∧ Below w.heap.size w w' := by
  obtain ⟨ic, hic, hcz0, hcz1, hcz2⟩ := info_parts infoCube
  have b2 := below1 w (.cells #[.int .u64 (uv gh), .int .u64 (uv gl)] 25)
  have b3 := below1 (w.alloc (.cells #[.int .u64 (uv gh), .int .u64 (uv gl)] 25)) (.cells #[.int .u64 (uv hh), .int .u64 (uv hl)] 25)
  have x2 : Blk (w.alloc (.cells #[.int .u64 (uv gh), .int .u64 (uv gl)] 25)) w.heap.size 25 #[.int .u64 (uv gh), .int .u64 (uv gl)] := Blk.new w _ _
  have x3 : Blk ((w.alloc (.cells #[.int .u64 (uv gh), .int .u64 (uv gl)] 25)).alloc (.cells #[.int .u64 (uv hh), .int .u64 (uv hl)] 25)) (w.heap.size + 1) 25 #[.int .u64 (uv hh), .int .u64 (uv hl)] := by have h := Blk.new (w.alloc (.cells #[.int .u64 (uv gh), .int .u64 (uv gl)] 25)) 25 #[.int .u64 (uv hh), .int .u64 (uv hl)]; rw [World.size_alloc] at h; exact h
  have x2 := x2.on b3
  have bb := b2.trans (b3.mono b2.size)
  have hv1 := (hv.on b2).on b3
  clear b2 b3 hv
  go_enter Tryz.func8, Tryz.ntmps8
  go_upto_region 1 with (fail)
  generalize ((w.alloc (.cells #[.int .u64 (uv gh), .int .u64 (uv gl)] 25)).alloc (.cells #[.int .u64 (uv hh), .int .u64 (uv hl)] 25)) = w1 at x2 x3 bb hv1 ⊢
  generalize w.heap.size + 1 = n3 at x3 ⊢
  have hf := few_c A cap cs0 w1 hc hm
  have PV := Pl.take hv1 7
  have hlen : (cs0.take 7).length ≤ 7 := by rw [List.length_take]; omega
  generalize cs0.take 7 = cs at hf PV hlen
  clear hv1 hc hm
  go_wp2_with fail
  (with_reducible refine hf.mono ?_)
  rintro e w2 ⟨rfl, rfl⟩
  have hlz : (cs.length : Int) ≤ 7 := by omega
  have b4 := below1 w1 (.cells #[] 53)
  have O4 := World.ownsRow_made (base := w1.heap.size) (e := 53) (size := 4) w1 #[] 0 (Nat.le_refl _) (Nat.zero_le _) rfl
  have BA := Lib.hid (bb.trans (b4.mono bb.size))
  have XG := Lib.hid x2
  have XH := Lib.hid x3
  have HPV := Lib.hid PV
  have HLN := Lib.hid hlen
  have OT := Lib.hid O4
  have HW1 := Lib.hid bb.size
  have hwz : IntKind.i64.wrap ((cs.length : Int) - 1) = (cs.length : Int) - 1 := by rw [IntKind.wrap_i64]; omega
  obtain ⟨A1, c1, e1, -, hA⟩ := PV.form
  injection e1 with e1 e2 e3
  subst e1 e3
  have HA := Lib.hid hA
  have BW := Lib.hid b4
  clear hf bb x2 x3 hlen PV O4 b4 hA e2
  go_wp2
  go_loopg [7, 8] cs.length (fun gk s7 s8 wr => ∃ (j : Nat) (z : Int), j ≤ cs.length ∧ gk = j ∧ s8 = .int .i64 z ∧ Hid (z = (j : Int) - 1) ∧ Hid (Below w.heap.size w wr) ∧ Hid (Below w1.heap.size w1 wr) ∧ Hid (wr.ownsRow w1.heap.size 53 4 s7 (cs.drop j).reverse.length (flat (cs.drop j).reverse)))
  case atStart => exact ⟨cs.length, (cs.length : Int) - 1, Nat.le_refl _, rfl, by first | rfl | rw [hwz], rfl, BA, BW, by rw [List.drop_length]; exact OT⟩
  case round =>
    clear OT BA BW
    obtain ⟨j, z, hj, hgk, rfl, HZ, B0, B1, OT⟩ := hrel
    rcases Nat.eq_zero_or_pos j with hj0 | hj0
    · have hz1 : z = -1 := by have := HZ.out; omega
      subst hj0 hz1
      have PT0 : Hid (Pl wr u7 cs.reverse) := by
        have := own_Pl OT.out
        rw [List.drop_zero] at this
        exact this
      have OT2 : Hid (wr.ownsRow w1.heap.size 53 4 u7 cs.length (flat cs.reverse)) := by
        have := OT.out
        rw [List.drop_zero, List.length_reverse] at this
        exact this
      have XG0 := XG
      clear OT HZ
      by_cases hne : cs = []
      · subst hne
        have HMEM : Hid (∀ c : Cb, c ∈ ([] : List Cb) ↔ c ∈ ([] : List Cb)) := fun c => Iff.rfl
        have HTL : Hid (([] : List Cb).length ≤ 8) := Nat.zero_le _
        have XG_0 := Lib.hid (XG.out.on B1.out)
        have XH_0 := Lib.hid (XH.out.on B1.out)
        have PA_0 := Lib.hid (HPV.out.on B1.out)
        have PT_0 : Hid (Pl wr u7 []) := PT0.out
        clear XG0 PT0 OT2 B1
        have hcall := trivial
        obtain ⟨T1, T3, rfl, -, -⟩ := PT_0.out.form
        replace PA_0 : Hid (Pl wr (.slice A 0 cap) []) := PA_0
        replace PT_0 : Hid (Pl wr (.slice T1 0 T3) []) := PT_0
        have hcall := asplit_r _ ([] : List Cb) wr (by have := HLN.out; omega) PA_0.out
        go_wp2_with fail
        (with_reducible refine hcall.mono ?_)
        rintro e w1 hr
        clear hcall
        have hcall := trivial
        cases hr with
        | form hs hb =>
          have B1 := Lib.hid (B0.out.trans (hb.mono B0.out.size))
          have XG_1 := Lib.hid (XG_0.out.on hb)
          have XH_1 := Lib.hid (XH_0.out.on hb)
          have PA_1 := Lib.hid (PA_0.out.on hb)
          have PT_1 := Lib.hid (PT_0.out.on hb)
          clear hb hcall hs B0 XG_0 XH_0 PA_0 PT_0
          have hcall := asplit_r _ ([] : List Cb) w1 HTL.out PT_1.out
          go_wp2_with fail
          (with_reducible refine hcall.mono ?_)
          rintro e w2 hr
          clear hcall
          have hcall := trivial
          cases hr with
          | form hs hb =>
            have B2 := Lib.hid (B1.out.trans (hb.mono B1.out.size))
            have XG_2 := Lib.hid (XG_1.out.on hb)
            have XH_2 := Lib.hid (XH_1.out.on hb)
            have PA_2 := Lib.hid (PA_1.out.on hb)
            have PT_2 := Lib.hid (PT_1.out.on hb)
            clear hb hcall hs B1 XG_1 XH_1 PA_1 PT_1
            have hcall := awake11_c w2
            go_wp2_with fail
            (with_reducible refine hcall.mono ?_)
            rintro e w3 ⟨rfl, hb⟩
            have B3 := Lib.hid (B2.out.trans (hb.mono B2.out.size))
            have XG_3 := Lib.hid (XG_2.out.on hb)
            have XH_3 := Lib.hid (XH_2.out.on hb)
            have PA_3 := Lib.hid (PA_2.out.on hb)
            have PT_3 := Lib.hid (PT_2.out.on hb)
            clear hb hcall  B2 XG_2 XH_2 PA_2 PT_2
            have hcall := awake11_c w3
            go_wp2_with fail
            (with_reducible refine hcall.mono ?_)
            rintro e w4 ⟨rfl, hb⟩
            have B4 := Lib.hid (B3.out.trans (hb.mono B3.out.size))
            have XG_4 := Lib.hid (XG_3.out.on hb)
            have XH_4 := Lib.hid (XH_3.out.on hb)
            have PA_4 := Lib.hid (PA_3.out.on hb)
            have PT_4 := Lib.hid (PT_3.out.on hb)
            clear hb hcall  B3 XG_3 XH_3 PA_3 PT_3
            go_wp2
            go_ret
            exact ⟨rfl, B4.out⟩
          | many hs hb =>
            have B2 := Lib.hid (B1.out.trans (hb.mono B1.out.size))
            have XG_2 := Lib.hid (XG_1.out.on hb)
            have XH_2 := Lib.hid (XH_1.out.on hb)
            have PA_2 := Lib.hid (PA_1.out.on hb)
            have PT_2 := Lib.hid (PT_1.out.on hb)
            clear hb hcall hs B1 XG_1 XH_1 PA_1 PT_1
            have hcall := awake11_c w2
            go_wp2_with fail
            (with_reducible refine hcall.mono ?_)
            rintro e w5 ⟨rfl, hb⟩
            have B5 := Lib.hid (B2.out.trans (hb.mono B2.out.size))
            have XG_5 := Lib.hid (XG_2.out.on hb)
            have XH_5 := Lib.hid (XH_2.out.on hb)
            have PA_5 := Lib.hid (PA_2.out.on hb)
            have PT_5 := Lib.hid (PT_2.out.on hb)
            clear hb hcall  B2 XG_2 XH_2 PA_2 PT_2
            have hcall := awake11_c w5
            go_wp2_with fail
            (with_reducible refine hcall.mono ?_)
            rintro e w6 ⟨rfl, hb⟩
            have B6 := Lib.hid (B5.out.trans (hb.mono B5.out.size))
            have XG_6 := Lib.hid (XG_5.out.on hb)
            have XH_6 := Lib.hid (XH_5.out.on hb)
            have PA_6 := Lib.hid (PA_5.out.on hb)
            have PT_6 := Lib.hid (PT_5.out.on hb)
            clear hb hcall  B5 XG_5 XH_5 PA_5 PT_5
            go_wp2
            go_ret
            exact ⟨rfl, B6.out⟩
          | some v4 bt hs hq hA hb =>
            have B2 := Lib.hid (B1.out.trans (hb.mono B1.out.size))
            have XG_2 := Lib.hid (XG_1.out.on hb)
            have XH_2 := Lib.hid (XH_1.out.on hb)
            have PA_2 := Lib.hid (PA_1.out.on hb)
            have PT_2 := Lib.hid (PT_1.out.on hb)
            clear hb hcall hs hq hA B1 XG_1 XH_1 PA_1 PT_1
            have hcall := awake11_c w2
            go_wp2_with fail
            (with_reducible refine hcall.mono ?_)
            rintro e w7 ⟨rfl, hb⟩
            have B7 := Lib.hid (B2.out.trans (hb.mono B2.out.size))
            have XG_7 := Lib.hid (XG_2.out.on hb)
            have XH_7 := Lib.hid (XH_2.out.on hb)
            have PA_7 := Lib.hid (PA_2.out.on hb)
            have PT_7 := Lib.hid (PT_2.out.on hb)
            clear hb hcall  B2 XG_2 XH_2 PA_2 PT_2
            have hcall := awake11_c w7
            go_wp2_with fail
            (with_reducible refine hcall.mono ?_)
            rintro e w8 ⟨rfl, hb⟩
            have B8 := Lib.hid (B7.out.trans (hb.mono B7.out.size))
            have XG_8 := Lib.hid (XG_7.out.on hb)
            have XH_8 := Lib.hid (XH_7.out.on hb)
            have PA_8 := Lib.hid (PA_7.out.on hb)
            have PT_8 := Lib.hid (PT_7.out.on hb)
            clear hb hcall  B7 XG_7 XH_7 PA_7 PT_7
            go_wp2
            go_ret
            exact ⟨rfl, B8.out⟩
        | many hs hb =>
          have B1 := Lib.hid (B0.out.trans (hb.mono B0.out.size))
          have XG_1 := Lib.hid (XG_0.out.on hb)
          have XH_1 := Lib.hid (XH_0.out.on hb)
          have PA_1 := Lib.hid (PA_0.out.on hb)
          have PT_1 := Lib.hid (PT_0.out.on hb)
          clear hb hcall hs B0 XG_0 XH_0 PA_0 PT_0
          have hcall := asplit_r _ ([] : List Cb) w1 HTL.out PT_1.out
          go_wp2_with fail
          (with_reducible refine hcall.mono ?_)
          rintro e w9 hr
          clear hcall
          have hcall := trivial
          cases hr with
          | form hs hb =>
            have B9 := Lib.hid (B1.out.trans (hb.mono B1.out.size))
            have XG_9 := Lib.hid (XG_1.out.on hb)
            have XH_9 := Lib.hid (XH_1.out.on hb)
            have PA_9 := Lib.hid (PA_1.out.on hb)
            have PT_9 := Lib.hid (PT_1.out.on hb)
            clear hb hcall hs B1 XG_1 XH_1 PA_1 PT_1
            have hcall := awake11_c w9
            go_wp2_with fail
            (with_reducible refine hcall.mono ?_)
            rintro e w10 ⟨rfl, hb⟩
            have B10 := Lib.hid (B9.out.trans (hb.mono B9.out.size))
            have XG_10 := Lib.hid (XG_9.out.on hb)
            have XH_10 := Lib.hid (XH_9.out.on hb)
            have PA_10 := Lib.hid (PA_9.out.on hb)
            have PT_10 := Lib.hid (PT_9.out.on hb)
            clear hb hcall  B9 XG_9 XH_9 PA_9 PT_9
            have hcall := awake11_c w10
            go_wp2_with fail
            (with_reducible refine hcall.mono ?_)
            rintro e w11 ⟨rfl, hb⟩
            have B11 := Lib.hid (B10.out.trans (hb.mono B10.out.size))
            have XG_11 := Lib.hid (XG_10.out.on hb)
            have XH_11 := Lib.hid (XH_10.out.on hb)
            have PA_11 := Lib.hid (PA_10.out.on hb)
            have PT_11 := Lib.hid (PT_10.out.on hb)
            clear hb hcall  B10 XG_10 XH_10 PA_10 PT_10
            go_wp2
            go_ret
            exact ⟨rfl, B11.out⟩
          | many hs hb =>
            have B9 := Lib.hid (B1.out.trans (hb.mono B1.out.size))
            have XG_9 := Lib.hid (XG_1.out.on hb)
            have XH_9 := Lib.hid (XH_1.out.on hb)
            have PA_9 := Lib.hid (PA_1.out.on hb)
            have PT_9 := Lib.hid (PT_1.out.on hb)
            clear hb hcall hs B1 XG_1 XH_1 PA_1 PT_1
            have hcall := awake11_c w9
            go_wp2_with fail
            (with_reducible refine hcall.mono ?_)
            rintro e w12 ⟨rfl, hb⟩
            have B12 := Lib.hid (B9.out.trans (hb.mono B9.out.size))
            have XG_12 := Lib.hid (XG_9.out.on hb)
            have XH_12 := Lib.hid (XH_9.out.on hb)
            have PA_12 := Lib.hid (PA_9.out.on hb)
            have PT_12 := Lib.hid (PT_9.out.on hb)
            clear hb hcall  B9 XG_9 XH_9 PA_9 PT_9
            have hcall := awake11_c w12
            go_wp2_with fail
            (with_reducible refine hcall.mono ?_)
            rintro e w13 ⟨rfl, hb⟩
            have B13 := Lib.hid (B12.out.trans (hb.mono B12.out.size))
            have XG_13 := Lib.hid (XG_12.out.on hb)
            have XH_13 := Lib.hid (XH_12.out.on hb)
            have PA_13 := Lib.hid (PA_12.out.on hb)
            have PT_13 := Lib.hid (PT_12.out.on hb)
            clear hb hcall  B12 XG_12 XH_12 PA_12 PT_12
            go_wp2
            go_ret
            exact ⟨rfl, B13.out⟩
          | some v4 bt hs hq hA hb =>
            have B9 := Lib.hid (B1.out.trans (hb.mono B1.out.size))
            have XG_9 := Lib.hid (XG_1.out.on hb)
            have XH_9 := Lib.hid (XH_1.out.on hb)
            have PA_9 := Lib.hid (PA_1.out.on hb)
            have PT_9 := Lib.hid (PT_1.out.on hb)
            clear hb hcall hs hq hA B1 XG_1 XH_1 PA_1 PT_1
            have hcall := awake11_c w9
            go_wp2_with fail
            (with_reducible refine hcall.mono ?_)
            rintro e w14 ⟨rfl, hb⟩
            have B14 := Lib.hid (B9.out.trans (hb.mono B9.out.size))
            have XG_14 := Lib.hid (XG_9.out.on hb)
            have XH_14 := Lib.hid (XH_9.out.on hb)
            have PA_14 := Lib.hid (PA_9.out.on hb)
            have PT_14 := Lib.hid (PT_9.out.on hb)
            clear hb hcall  B9 XG_9 XH_9 PA_9 PT_9
            have hcall := awake11_c w14
            go_wp2_with fail
            (with_reducible refine hcall.mono ?_)
            rintro e w15 ⟨rfl, hb⟩
            have B15 := Lib.hid (B14.out.trans (hb.mono B14.out.size))
            have XG_15 := Lib.hid (XG_14.out.on hb)
            have XH_15 := Lib.hid (XH_14.out.on hb)
            have PA_15 := Lib.hid (PA_14.out.on hb)
            have PT_15 := Lib.hid (PT_14.out.on hb)
            clear hb hcall  B14 XG_14 XH_14 PA_14 PT_14
            go_wp2
            go_ret
            exact ⟨rfl, B15.out⟩
        | some v3 ba hs hq hA hb =>
          have KA := Lib.hid (SpK.of hs hq)
          have HQA := Lib.hid hq
          have HSS := Lib.hid hs
          have AA := Lib.hid hA
          obtain ⟨A3, c3, rfl, -, -⟩ := hA.form
          have B1 := Lib.hid (B0.out.trans (hb.mono B0.out.size))
          have XG_1 := Lib.hid (XG_0.out.on hb)
          have XH_1 := Lib.hid (XH_0.out.on hb)
          have PA_1 := Lib.hid (PA_0.out.on hb)
          have PT_1 := Lib.hid (PT_0.out.on hb)
          clear hb hcall hs hq hA B0 XG_0 XH_0 PA_0 PT_0
          have AA_1 := AA
          clear AA
          have hcall := asplit_r _ ([] : List Cb) w1 HTL.out PT_1.out
          go_wp2_with fail
          (with_reducible refine hcall.mono ?_)
          rintro e w16 hr
          clear hcall
          have hcall := trivial
          cases hr with
          | form hs hb =>
            have B16 := Lib.hid (B1.out.trans (hb.mono B1.out.size))
            have AA_16 := Lib.hid (AA_1.out.on hb)
            have XG_16 := Lib.hid (XG_1.out.on hb)
            have XH_16 := Lib.hid (XH_1.out.on hb)
            have PA_16 := Lib.hid (PA_1.out.on hb)
            have PT_16 := Lib.hid (PT_1.out.on hb)
            clear hb hcall hs B1 AA_1 XG_1 XH_1 PA_1 PT_1
            have hcall := awake11_c w16
            go_wp2_with fail
            (with_reducible refine hcall.mono ?_)
            rintro e w17 ⟨rfl, hb⟩
            have B17 := Lib.hid (B16.out.trans (hb.mono B16.out.size))
            have AA_17 := Lib.hid (AA_16.out.on hb)
            have XG_17 := Lib.hid (XG_16.out.on hb)
            have XH_17 := Lib.hid (XH_16.out.on hb)
            have PA_17 := Lib.hid (PA_16.out.on hb)
            have PT_17 := Lib.hid (PT_16.out.on hb)
            clear hb hcall  B16 AA_16 XG_16 XH_16 PA_16 PT_16
            have hcall := awake11_c w17
            go_wp2_with fail
            (with_reducible refine hcall.mono ?_)
            rintro e w18 ⟨rfl, hb⟩
            have B18 := Lib.hid (B17.out.trans (hb.mono B17.out.size))
            have AA_18 := Lib.hid (AA_17.out.on hb)
            have XG_18 := Lib.hid (XG_17.out.on hb)
            have XH_18 := Lib.hid (XH_17.out.on hb)
            have PA_18 := Lib.hid (PA_17.out.on hb)
            have PT_18 := Lib.hid (PT_17.out.on hb)
            clear hb hcall  B17 AA_17 XG_17 XH_17 PA_17 PT_17
            go_wp2
            go_ret
            exact ⟨rfl, B18.out⟩
          | many hs hb =>
            have B16 := Lib.hid (B1.out.trans (hb.mono B1.out.size))
            have AA_16 := Lib.hid (AA_1.out.on hb)
            have XG_16 := Lib.hid (XG_1.out.on hb)
            have XH_16 := Lib.hid (XH_1.out.on hb)
            have PA_16 := Lib.hid (PA_1.out.on hb)
            have PT_16 := Lib.hid (PT_1.out.on hb)
            clear hb hcall hs B1 AA_1 XG_1 XH_1 PA_1 PT_1
            have hcall := awake11_c w16
            go_wp2_with fail
            (with_reducible refine hcall.mono ?_)
            rintro e w19 ⟨rfl, hb⟩
            have B19 := Lib.hid (B16.out.trans (hb.mono B16.out.size))
            have AA_19 := Lib.hid (AA_16.out.on hb)
            have XG_19 := Lib.hid (XG_16.out.on hb)
            have XH_19 := Lib.hid (XH_16.out.on hb)
            have PA_19 := Lib.hid (PA_16.out.on hb)
            have PT_19 := Lib.hid (PT_16.out.on hb)
            clear hb hcall  B16 AA_16 XG_16 XH_16 PA_16 PT_16
            have hcall := awake11_c w19
            go_wp2_with fail
            (with_reducible refine hcall.mono ?_)
            rintro e w20 ⟨rfl, hb⟩
            have B20 := Lib.hid (B19.out.trans (hb.mono B19.out.size))
            have AA_20 := Lib.hid (AA_19.out.on hb)
            have XG_20 := Lib.hid (XG_19.out.on hb)
            have XH_20 := Lib.hid (XH_19.out.on hb)
            have PA_20 := Lib.hid (PA_19.out.on hb)
            have PT_20 := Lib.hid (PT_19.out.on hb)
            clear hb hcall  B19 AA_19 XG_19 XH_19 PA_19 PT_19
            go_wp2
            go_ret
            exact ⟨rfl, B20.out⟩
          | some v4 bt hs hq hA hb =>
            have KT := Lib.hid (SpK.of hs hq)
            have HQT := Lib.hid hq
            have AT := Lib.hid hA
            obtain ⟨A4, c4, rfl, -, -⟩ := hA.form
            have B16 := Lib.hid (B1.out.trans (hb.mono B1.out.size))
            have AA_16 := Lib.hid (AA_1.out.on hb)
            have XG_16 := Lib.hid (XG_1.out.on hb)
            have XH_16 := Lib.hid (XH_1.out.on hb)
            have PA_16 := Lib.hid (PA_1.out.on hb)
            have PT_16 := Lib.hid (PT_1.out.on hb)
            clear hb hcall hs hq hA B1 AA_1 XG_1 XH_1 PA_1 PT_1
            have AT_16 := AT
            clear AT
            have hcall := awake11_c w16
            go_wp2_with fail
            (with_reducible refine hcall.mono ?_)
            rintro e w21 ⟨rfl, hb⟩
            have B21 := Lib.hid (B16.out.trans (hb.mono B16.out.size))
            have AT_21 := Lib.hid (AT_16.out.on hb)
            have AA_21 := Lib.hid (AA_16.out.on hb)
            have XG_21 := Lib.hid (XG_16.out.on hb)
            have XH_21 := Lib.hid (XH_16.out.on hb)
            have PA_21 := Lib.hid (PA_16.out.on hb)
            have PT_21 := Lib.hid (PT_16.out.on hb)
            clear hb hcall  B16 AT_16 AA_16 XG_16 XH_16 PA_16 PT_16
            have HBL := Lib.hid (sps_order (all_of HSS.out) (show ∀ c, c ∈ ([] : List Cb) ↔ c ∈ ([] : List Cb) from (fun c => Iff.rfl)) HQA.out HQT.out)
            obtain ⟨x, y, u, v, e1, e2, e3, e4, hxy⟩ := fnd_two KA.out.inv.dst KT.out.inv.dst KA.out.ids KT.out.ids (gh, gl) (hh, hl) (same_cubes (show ∀ c, c ∈ ([] : List Cb) ↔ c ∈ ([] : List Cb) from (fun c => Iff.rfl)) (gh, gl) (hh, hl))
            have E1 := Lib.hid e1
            have E2 := Lib.hid e2
            have E3 := Lib.hid e3
            have E4 := Lib.hid e4
            have HXY := Lib.hid hxy
            clear e1 e2 e3 e4 hxy
            obtain ⟨y0, y1⟩ := XG_21.out.pair
            have hfd := afind_c _ ba gh gl w21 AA_21.out
            rw [E1.out] at hfd
            have hcall := hfd
            go_wp2_with fail
            (with_reducible refine hcall.mono ?_)
            rintro e w22 ⟨rfl, hb⟩
            have B22 := Lib.hid (B21.out.trans (hb.mono B21.out.size))
            have AT_22 := Lib.hid (AT_21.out.on hb)
            have AA_22 := Lib.hid (AA_21.out.on hb)
            have XG_22 := Lib.hid (XG_21.out.on hb)
            have XH_22 := Lib.hid (XH_21.out.on hb)
            have PA_22 := Lib.hid (PA_21.out.on hb)
            have PT_22 := Lib.hid (PT_21.out.on hb)
            clear hb hcall hfd y0 y1 B21 AT_21 AA_21 XG_21 XH_21 PA_21 PT_21
            obtain ⟨y0, y1⟩ := XH_22.out.pair
            have hfd := afind_c _ ba hh hl w22 AA_22.out
            rw [E2.out] at hfd
            have hcall := hfd
            go_wp2_with fail
            (with_reducible refine hcall.mono ?_)
            rintro e w23 ⟨rfl, hb⟩
            have B23 := Lib.hid (B22.out.trans (hb.mono B22.out.size))
            have AT_23 := Lib.hid (AT_22.out.on hb)
            have AA_23 := Lib.hid (AA_22.out.on hb)
            have XG_23 := Lib.hid (XG_22.out.on hb)
            have XH_23 := Lib.hid (XH_22.out.on hb)
            have PA_23 := Lib.hid (PA_22.out.on hb)
            have PT_23 := Lib.hid (PT_22.out.on hb)
            clear hb hcall hfd y0 y1 B22 AT_22 AA_22 XG_22 XH_22 PA_22 PT_22
            obtain ⟨y0, y1⟩ := XG_23.out.pair
            have hfd := afind_c _ bt gh gl w23 AT_23.out
            rw [E3.out] at hfd
            have hcall := hfd
            go_wp2_with fail
            (with_reducible refine hcall.mono ?_)
            rintro e w24 ⟨rfl, hb⟩
            have B24 := Lib.hid (B23.out.trans (hb.mono B23.out.size))
            have AT_24 := Lib.hid (AT_23.out.on hb)
            have AA_24 := Lib.hid (AA_23.out.on hb)
            have XG_24 := Lib.hid (XG_23.out.on hb)
            have XH_24 := Lib.hid (XH_23.out.on hb)
            have PA_24 := Lib.hid (PA_23.out.on hb)
            have PT_24 := Lib.hid (PT_23.out.on hb)
            clear hb hcall hfd y0 y1 B23 AT_23 AA_23 XG_23 XH_23 PA_23 PT_23
            obtain ⟨y0, y1⟩ := XH_24.out.pair
            have hfd := afind_c _ bt hh hl w24 AT_24.out
            rw [E4.out] at hfd
            have hcall := hfd
            go_wp2_with fail
            (with_reducible refine hcall.mono ?_)
            rintro e w25 ⟨rfl, hb⟩
            have B25 := Lib.hid (B24.out.trans (hb.mono B24.out.size))
            have AT_25 := Lib.hid (AT_24.out.on hb)
            have AA_25 := Lib.hid (AA_24.out.on hb)
            have XG_25 := Lib.hid (XG_24.out.on hb)
            have XH_25 := Lib.hid (XH_24.out.on hb)
            have PA_25 := Lib.hid (PA_24.out.on hb)
            have PT_25 := Lib.hid (PT_24.out.on hb)
            clear hb hcall hfd y0 y1 B24 AT_24 AA_24 XG_24 XH_24 PA_24 PT_24
            rw [HBL.out]
            by_cases hxy : x = y
            · have huv := HXY.out.1 hxy
              subst hxy huv
              go_wp2
              go_ret
              exact ⟨rfl, B25.out⟩
            · have huv : ¬ u = v := fun e => hxy (HXY.out.2 e)
              have d1 : ((x : Int) == (y : Int)) = false := by simp; omega
              have d2 : ((u : Int) == (v : Int)) = false := by simp; omega
              clear hxy huv
              go_wp2
              go_ret
              exact ⟨rfl, B25.out⟩
      · obtain ⟨d0, hd0⟩ : ∃ d, cs[0]? = some d := ⟨_, List.getElem?_eq_getElem (List.length_pos_iff.2 hne)⟩
        have hpz : (0 : Int) < (cs.length : Int) := by have := List.length_pos_iff.2 hne; omega
        obtain ⟨b, off, rfl, hb, hpc⟩ := HA.out hne
        obtain ⟨c0, c1, c2, c3⟩ := (hpc 0 d0 hd0).on B1.out
        rw [Nat.zero_mul, Nat.add_zero] at c0 c1 c2 c3
        have b5 := below1 wr (.cells #[.int .u64 (uv d0.vh), .int .u64 (uv d0.vl), .int .u64 (uv d0.ch), .int .u64 (uv d0.cl)] 53)
        have N5 : Blk (wr.alloc (.cells #[.int .u64 (uv d0.vh), .int .u64 (uv d0.vl), .int .u64 (uv d0.ch), .int .u64 (uv d0.cl)] 53)) wr.heap.size 53 d0.arr := Blk.new wr _ _
        have B5 := B0.out.trans (b5.mono B0.out.size)
        have O5 := own_on OT2.out b5
        have S5 := (pl_one (cap := 1) N5).src
        have hz5 := (B1.out.trans (b5.mono B1.out.size)).size
        have hln := HLN.out
        have BWR5 := B1.out.trans (b5.mono B1.out.size)
        have HMEM := Lib.hid (turned_mem cs d0 hd0)
        clear hpc hd0 hne b5 N5 PT0 OT2 XG0
        go_wp2_with (at_builtin; refine wpList_app _ rfl (.tmp 41) (.tmp 45) 22 rfl w1.heap.size 53 ic _ 4 32 Tryz.underlying22 hic hcz0 hcz1 hcz2 rfl (by decide) _ _ _ rfl O5 _ 1 (flat [d0]) rfl S5 (by unfold maxLen; omega) (by omega) hz5 ?_)
        intro v6 w6 O6 hg6
        have B6 := Lib.hid (B5.grown hg6 (by have := HW1.out; have := B5.size; omega) (fun j hj => by have := (O5.lt j hj).1; have := HW1.out; omega))
        have PT_0 : Hid (Pl w6 v6 (cs.reverse ++ [d0])) := by
          show Pl _ _ _
          refine own_Pl (base := w1.heap.size) ?_
          rw [flat_append, List.length_append, List.length_reverse]
          exact O6
        have HTL : Hid ((cs.reverse ++ [d0]).length ≤ 8) := by show _ ≤ _; rw [List.length_append, List.length_reverse, List.length_cons, List.length_nil]; omega
        generalize cs.reverse ++ [d0] = ts at PT_0 HTL HMEM
        have BW6 := BWR5.grown hg6 hz5 (fun j hj => (O5.lt j hj).1)
        have XG_0 := Lib.hid (XG.out.on BW6)
        have XH_0 := Lib.hid (XH.out.on BW6)
        have PA_0 := Lib.hid (HPV.out.on BW6)
        clear c0 c1 c2 c3 B5 O5 S5 hz5 BWR5 O6 hg6 BW6 B0 B1 hln
        have hcall := trivial
        obtain ⟨T1, T3, rfl, -, -⟩ := PT_0.out.form
        have hcall := asplit_r _ cs w6 (by have := HLN.out; omega) PA_0.out
        go_wp2_with fail
        (with_reducible refine hcall.mono ?_)
        rintro e w26 hr
        clear hcall
        have hcall := trivial
        cases hr with
        | form hs hb =>
          have B26 := Lib.hid (B6.out.trans (hb.mono B6.out.size))
          have XG_26 := Lib.hid (XG_0.out.on hb)
          have XH_26 := Lib.hid (XH_0.out.on hb)
          have PA_26 := Lib.hid (PA_0.out.on hb)
          have PT_26 := Lib.hid (PT_0.out.on hb)
          clear hb hcall hs B6 XG_0 XH_0 PA_0 PT_0
          have hcall := asplit_r _ ts w26 HTL.out PT_26.out
          go_wp2_with fail
          (with_reducible refine hcall.mono ?_)
          rintro e w27 hr
          clear hcall
          have hcall := trivial
          cases hr with
          | form hs hb =>
            have B27 := Lib.hid (B26.out.trans (hb.mono B26.out.size))
            have XG_27 := Lib.hid (XG_26.out.on hb)
            have XH_27 := Lib.hid (XH_26.out.on hb)
            have PA_27 := Lib.hid (PA_26.out.on hb)
            have PT_27 := Lib.hid (PT_26.out.on hb)
            clear hb hcall hs B26 XG_26 XH_26 PA_26 PT_26
            have hcall := awake11_c w27
            go_wp2_with fail
            (with_reducible refine hcall.mono ?_)
            rintro e w28 ⟨rfl, hb⟩
            have B28 := Lib.hid (B27.out.trans (hb.mono B27.out.size))
            have XG_28 := Lib.hid (XG_27.out.on hb)
            have XH_28 := Lib.hid (XH_27.out.on hb)
            have PA_28 := Lib.hid (PA_27.out.on hb)
            have PT_28 := Lib.hid (PT_27.out.on hb)
            clear hb hcall  B27 XG_27 XH_27 PA_27 PT_27
            have hcall := awake11_c w28
            go_wp2_with fail
            (with_reducible refine hcall.mono ?_)
            rintro e w29 ⟨rfl, hb⟩
            have B29 := Lib.hid (B28.out.trans (hb.mono B28.out.size))
            have XG_29 := Lib.hid (XG_28.out.on hb)
            have XH_29 := Lib.hid (XH_28.out.on hb)
            have PA_29 := Lib.hid (PA_28.out.on hb)
            have PT_29 := Lib.hid (PT_28.out.on hb)
            clear hb hcall  B28 XG_28 XH_28 PA_28 PT_28
            go_wp2
            go_ret
            exact ⟨rfl, B29.out⟩
          | many hs hb =>
            have B27 := Lib.hid (B26.out.trans (hb.mono B26.out.size))
            have XG_27 := Lib.hid (XG_26.out.on hb)
            have XH_27 := Lib.hid (XH_26.out.on hb)
            have PA_27 := Lib.hid (PA_26.out.on hb)
            have PT_27 := Lib.hid (PT_26.out.on hb)
            clear hb hcall hs B26 XG_26 XH_26 PA_26 PT_26
            have hcall := awake11_c w27
            go_wp2_with fail
            (with_reducible refine hcall.mono ?_)
            rintro e w30 ⟨rfl, hb⟩
            have B30 := Lib.hid (B27.out.trans (hb.mono B27.out.size))
            have XG_30 := Lib.hid (XG_27.out.on hb)
            have XH_30 := Lib.hid (XH_27.out.on hb)
            have PA_30 := Lib.hid (PA_27.out.on hb)
            have PT_30 := Lib.hid (PT_27.out.on hb)
            clear hb hcall  B27 XG_27 XH_27 PA_27 PT_27
            have hcall := awake11_c w30
            go_wp2_with fail
            (with_reducible refine hcall.mono ?_)
            rintro e w31 ⟨rfl, hb⟩
            have B31 := Lib.hid (B30.out.trans (hb.mono B30.out.size))
            have XG_31 := Lib.hid (XG_30.out.on hb)
            have XH_31 := Lib.hid (XH_30.out.on hb)
            have PA_31 := Lib.hid (PA_30.out.on hb)
            have PT_31 := Lib.hid (PT_30.out.on hb)
            clear hb hcall  B30 XG_30 XH_30 PA_30 PT_30
            go_wp2
            go_ret
            exact ⟨rfl, B31.out⟩
          | some v4 bt hs hq hA hb =>
            have B27 := Lib.hid (B26.out.trans (hb.mono B26.out.size))
            have XG_27 := Lib.hid (XG_26.out.on hb)
            have XH_27 := Lib.hid (XH_26.out.on hb)
            have PA_27 := Lib.hid (PA_26.out.on hb)
            have PT_27 := Lib.hid (PT_26.out.on hb)
            clear hb hcall hs hq hA B26 XG_26 XH_26 PA_26 PT_26
            have hcall := awake11_c w27
            go_wp2_with fail
            (with_reducible refine hcall.mono ?_)
            rintro e w32 ⟨rfl, hb⟩
            have B32 := Lib.hid (B27.out.trans (hb.mono B27.out.size))
            have XG_32 := Lib.hid (XG_27.out.on hb)
            have XH_32 := Lib.hid (XH_27.out.on hb)
            have PA_32 := Lib.hid (PA_27.out.on hb)
            have PT_32 := Lib.hid (PT_27.out.on hb)
            clear hb hcall  B27 XG_27 XH_27 PA_27 PT_27
            have hcall := awake11_c w32
            go_wp2_with fail
            (with_reducible refine hcall.mono ?_)
            rintro e w33 ⟨rfl, hb⟩
            have B33 := Lib.hid (B32.out.trans (hb.mono B32.out.size))
            have XG_33 := Lib.hid (XG_32.out.on hb)
            have XH_33 := Lib.hid (XH_32.out.on hb)
            have PA_33 := Lib.hid (PA_32.out.on hb)
            have PT_33 := Lib.hid (PT_32.out.on hb)
            clear hb hcall  B32 XG_32 XH_32 PA_32 PT_32
            go_wp2
            go_ret
            exact ⟨rfl, B33.out⟩
        | many hs hb =>
          have B26 := Lib.hid (B6.out.trans (hb.mono B6.out.size))
          have XG_26 := Lib.hid (XG_0.out.on hb)
          have XH_26 := Lib.hid (XH_0.out.on hb)
          have PA_26 := Lib.hid (PA_0.out.on hb)
          have PT_26 := Lib.hid (PT_0.out.on hb)
          clear hb hcall hs B6 XG_0 XH_0 PA_0 PT_0
          have hcall := asplit_r _ ts w26 HTL.out PT_26.out
          go_wp2_with fail
          (with_reducible refine hcall.mono ?_)
          rintro e w34 hr
          clear hcall
          have hcall := trivial
          cases hr with
          | form hs hb =>
            have B34 := Lib.hid (B26.out.trans (hb.mono B26.out.size))
            have XG_34 := Lib.hid (XG_26.out.on hb)
            have XH_34 := Lib.hid (XH_26.out.on hb)
            have PA_34 := Lib.hid (PA_26.out.on hb)
            have PT_34 := Lib.hid (PT_26.out.on hb)
            clear hb hcall hs B26 XG_26 XH_26 PA_26 PT_26
            have hcall := awake11_c w34
            go_wp2_with fail
            (with_reducible refine hcall.mono ?_)
            rintro e w35 ⟨rfl, hb⟩
            have B35 := Lib.hid (B34.out.trans (hb.mono B34.out.size))
            have XG_35 := Lib.hid (XG_34.out.on hb)
            have XH_35 := Lib.hid (XH_34.out.on hb)
            have PA_35 := Lib.hid (PA_34.out.on hb)
            have PT_35 := Lib.hid (PT_34.out.on hb)
            clear hb hcall  B34 XG_34 XH_34 PA_34 PT_34
            have hcall := awake11_c w35
            go_wp2_with fail
            (with_reducible refine hcall.mono ?_)
            rintro e w36 ⟨rfl, hb⟩
            have B36 := Lib.hid (B35.out.trans (hb.mono B35.out.size))
            have XG_36 := Lib.hid (XG_35.out.on hb)
            have XH_36 := Lib.hid (XH_35.out.on hb)
            have PA_36 := Lib.hid (PA_35.out.on hb)
            have PT_36 := Lib.hid (PT_35.out.on hb)
            clear hb hcall  B35 XG_35 XH_35 PA_35 PT_35
            go_wp2
            go_ret
            exact ⟨rfl, B36.out⟩
          | many hs hb =>
            have B34 := Lib.hid (B26.out.trans (hb.mono B26.out.size))
            have XG_34 := Lib.hid (XG_26.out.on hb)
            have XH_34 := Lib.hid (XH_26.out.on hb)
            have PA_34 := Lib.hid (PA_26.out.on hb)
            have PT_34 := Lib.hid (PT_26.out.on hb)
            clear hb hcall hs B26 XG_26 XH_26 PA_26 PT_26
            have hcall := awake11_c w34
            go_wp2_with fail
            (with_reducible refine hcall.mono ?_)
            rintro e w37 ⟨rfl, hb⟩
            have B37 := Lib.hid (B34.out.trans (hb.mono B34.out.size))
            have XG_37 := Lib.hid (XG_34.out.on hb)
            have XH_37 := Lib.hid (XH_34.out.on hb)
            have PA_37 := Lib.hid (PA_34.out.on hb)
            have PT_37 := Lib.hid (PT_34.out.on hb)
            clear hb hcall  B34 XG_34 XH_34 PA_34 PT_34
            have hcall := awake11_c w37
            go_wp2_with fail
            (with_reducible refine hcall.mono ?_)
            rintro e w38 ⟨rfl, hb⟩
            have B38 := Lib.hid (B37.out.trans (hb.mono B37.out.size))
            have XG_38 := Lib.hid (XG_37.out.on hb)
            have XH_38 := Lib.hid (XH_37.out.on hb)
            have PA_38 := Lib.hid (PA_37.out.on hb)
            have PT_38 := Lib.hid (PT_37.out.on hb)
            clear hb hcall  B37 XG_37 XH_37 PA_37 PT_37
            go_wp2
            go_ret
            exact ⟨rfl, B38.out⟩
          | some v4 bt hs hq hA hb =>
            have B34 := Lib.hid (B26.out.trans (hb.mono B26.out.size))
            have XG_34 := Lib.hid (XG_26.out.on hb)
            have XH_34 := Lib.hid (XH_26.out.on hb)
            have PA_34 := Lib.hid (PA_26.out.on hb)
            have PT_34 := Lib.hid (PT_26.out.on hb)
            clear hb hcall hs hq hA B26 XG_26 XH_26 PA_26 PT_26
            have hcall := awake11_c w34
            go_wp2_with fail
            (with_reducible refine hcall.mono ?_)
            rintro e w39 ⟨rfl, hb⟩
            have B39 := Lib.hid (B34.out.trans (hb.mono B34.out.size))
            have XG_39 := Lib.hid (XG_34.out.on hb)
            have XH_39 := Lib.hid (XH_34.out.on hb)
            have PA_39 := Lib.hid (PA_34.out.on hb)
            have PT_39 := Lib.hid (PT_34.out.on hb)
            clear hb hcall  B34 XG_34 XH_34 PA_34 PT_34
            have hcall := awake11_c w39
            go_wp2_with fail
            (with_reducible refine hcall.mono ?_)
            rintro e w40 ⟨rfl, hb⟩
            have B40 := Lib.hid (B39.out.trans (hb.mono B39.out.size))
            have XG_40 := Lib.hid (XG_39.out.on hb)
            have XH_40 := Lib.hid (XH_39.out.on hb)
            have PA_40 := Lib.hid (PA_39.out.on hb)
            have PT_40 := Lib.hid (PT_39.out.on hb)
            clear hb hcall  B39 XG_39 XH_39 PA_39 PT_39
            go_wp2
            go_ret
            exact ⟨rfl, B40.out⟩
        | some v3 ba hs hq hA hb =>
          have KA := Lib.hid (SpK.of hs hq)
          have HQA := Lib.hid hq
          have HSS := Lib.hid hs
          have AA := Lib.hid hA
          obtain ⟨A3, c3, rfl, -, -⟩ := hA.form
          have B26 := Lib.hid (B6.out.trans (hb.mono B6.out.size))
          have XG_26 := Lib.hid (XG_0.out.on hb)
          have XH_26 := Lib.hid (XH_0.out.on hb)
          have PA_26 := Lib.hid (PA_0.out.on hb)
          have PT_26 := Lib.hid (PT_0.out.on hb)
          clear hb hcall hs hq hA B6 XG_0 XH_0 PA_0 PT_0
          have AA_26 := AA
          clear AA
          have hcall := asplit_r _ ts w26 HTL.out PT_26.out
          go_wp2_with fail
          (with_reducible refine hcall.mono ?_)
          rintro e w41 hr
          clear hcall
          have hcall := trivial
          cases hr with
          | form hs hb =>
            have B41 := Lib.hid (B26.out.trans (hb.mono B26.out.size))
            have AA_41 := Lib.hid (AA_26.out.on hb)
            have XG_41 := Lib.hid (XG_26.out.on hb)
            have XH_41 := Lib.hid (XH_26.out.on hb)
            have PA_41 := Lib.hid (PA_26.out.on hb)
            have PT_41 := Lib.hid (PT_26.out.on hb)
            clear hb hcall hs B26 AA_26 XG_26 XH_26 PA_26 PT_26
            have hcall := awake11_c w41
            go_wp2_with fail
            (with_reducible refine hcall.mono ?_)
            rintro e w42 ⟨rfl, hb⟩
            have B42 := Lib.hid (B41.out.trans (hb.mono B41.out.size))
            have AA_42 := Lib.hid (AA_41.out.on hb)
            have XG_42 := Lib.hid (XG_41.out.on hb)
            have XH_42 := Lib.hid (XH_41.out.on hb)
            have PA_42 := Lib.hid (PA_41.out.on hb)
            have PT_42 := Lib.hid (PT_41.out.on hb)
            clear hb hcall  B41 AA_41 XG_41 XH_41 PA_41 PT_41
            have hcall := awake11_c w42
            go_wp2_with fail
            (with_reducible refine hcall.mono ?_)
            rintro e w43 ⟨rfl, hb⟩
            have B43 := Lib.hid (B42.out.trans (hb.mono B42.out.size))
            have AA_43 := Lib.hid (AA_42.out.on hb)
            have XG_43 := Lib.hid (XG_42.out.on hb)
            have XH_43 := Lib.hid (XH_42.out.on hb)
            have PA_43 := Lib.hid (PA_42.out.on hb)
            have PT_43 := Lib.hid (PT_42.out.on hb)
            clear hb hcall  B42 AA_42 XG_42 XH_42 PA_42 PT_42
            go_wp2
            go_ret
            exact ⟨rfl, B43.out⟩
          | many hs hb =>
            have B41 := Lib.hid (B26.out.trans (hb.mono B26.out.size))
            have AA_41 := Lib.hid (AA_26.out.on hb)
            have XG_41 := Lib.hid (XG_26.out.on hb)
            have XH_41 := Lib.hid (XH_26.out.on hb)
            have PA_41 := Lib.hid (PA_26.out.on hb)
            have PT_41 := Lib.hid (PT_26.out.on hb)
            clear hb hcall hs B26 AA_26 XG_26 XH_26 PA_26 PT_26
            have hcall := awake11_c w41
            go_wp2_with fail
            (with_reducible refine hcall.mono ?_)
            rintro e w44 ⟨rfl, hb⟩
            have B44 := Lib.hid (B41.out.trans (hb.mono B41.out.size))
            have AA_44 := Lib.hid (AA_41.out.on hb)
            have XG_44 := Lib.hid (XG_41.out.on hb)
            have XH_44 := Lib.hid (XH_41.out.on hb)
            have PA_44 := Lib.hid (PA_41.out.on hb)
            have PT_44 := Lib.hid (PT_41.out.on hb)
            clear hb hcall  B41 AA_41 XG_41 XH_41 PA_41 PT_41
            have hcall := awake11_c w44
            go_wp2_with fail
            (with_reducible refine hcall.mono ?_)
            rintro e w45 ⟨rfl, hb⟩
            have B45 := Lib.hid (B44.out.trans (hb.mono B44.out.size))
            have AA_45 := Lib.hid (AA_44.out.on hb)
            have XG_45 := Lib.hid (XG_44.out.on hb)
            have XH_45 := Lib.hid (XH_44.out.on hb)
            have PA_45 := Lib.hid (PA_44.out.on hb)
            have PT_45 := Lib.hid (PT_44.out.on hb)
            clear hb hcall  B44 AA_44 XG_44 XH_44 PA_44 PT_44
            go_wp2
            go_ret
            exact ⟨rfl, B45.out⟩
          | some v4 bt hs hq hA hb =>
            have KT := Lib.hid (SpK.of hs hq)
            have HQT := Lib.hid hq
            have AT := Lib.hid hA
            obtain ⟨A4, c4, rfl, -, -⟩ := hA.form
            have B41 := Lib.hid (B26.out.trans (hb.mono B26.out.size))
            have AA_41 := Lib.hid (AA_26.out.on hb)
            have XG_41 := Lib.hid (XG_26.out.on hb)
            have XH_41 := Lib.hid (XH_26.out.on hb)
            have PA_41 := Lib.hid (PA_26.out.on hb)
            have PT_41 := Lib.hid (PT_26.out.on hb)
            clear hb hcall hs hq hA B26 AA_26 XG_26 XH_26 PA_26 PT_26
            have AT_41 := AT
            clear AT
            have hcall := awake11_c w41
            go_wp2_with fail
            (with_reducible refine hcall.mono ?_)
            rintro e w46 ⟨rfl, hb⟩
            have B46 := Lib.hid (B41.out.trans (hb.mono B41.out.size))
            have AT_46 := Lib.hid (AT_41.out.on hb)
            have AA_46 := Lib.hid (AA_41.out.on hb)
            have XG_46 := Lib.hid (XG_41.out.on hb)
            have XH_46 := Lib.hid (XH_41.out.on hb)
            have PA_46 := Lib.hid (PA_41.out.on hb)
            have PT_46 := Lib.hid (PT_41.out.on hb)
            clear hb hcall  B41 AT_41 AA_41 XG_41 XH_41 PA_41 PT_41
            have HBL := Lib.hid (sps_order (all_of HSS.out) (show ∀ c, c ∈ cs ↔ c ∈ ts from HMEM.out) HQA.out HQT.out)
            obtain ⟨x, y, u, v, e1, e2, e3, e4, hxy⟩ := fnd_two KA.out.inv.dst KT.out.inv.dst KA.out.ids KT.out.ids (gh, gl) (hh, hl) (same_cubes (show ∀ c, c ∈ cs ↔ c ∈ ts from HMEM.out) (gh, gl) (hh, hl))
            have E1 := Lib.hid e1
            have E2 := Lib.hid e2
            have E3 := Lib.hid e3
            have E4 := Lib.hid e4
            have HXY := Lib.hid hxy
            clear e1 e2 e3 e4 hxy
            obtain ⟨y0, y1⟩ := XG_46.out.pair
            have hfd := afind_c _ ba gh gl w46 AA_46.out
            rw [E1.out] at hfd
            have hcall := hfd
            go_wp2_with fail
            (with_reducible refine hcall.mono ?_)
            rintro e w47 ⟨rfl, hb⟩
            have B47 := Lib.hid (B46.out.trans (hb.mono B46.out.size))
            have AT_47 := Lib.hid (AT_46.out.on hb)
            have AA_47 := Lib.hid (AA_46.out.on hb)
            have XG_47 := Lib.hid (XG_46.out.on hb)
            have XH_47 := Lib.hid (XH_46.out.on hb)
            have PA_47 := Lib.hid (PA_46.out.on hb)
            have PT_47 := Lib.hid (PT_46.out.on hb)
            clear hb hcall hfd y0 y1 B46 AT_46 AA_46 XG_46 XH_46 PA_46 PT_46
            obtain ⟨y0, y1⟩ := XH_47.out.pair
            have hfd := afind_c _ ba hh hl w47 AA_47.out
            rw [E2.out] at hfd
            have hcall := hfd
            go_wp2_with fail
            (with_reducible refine hcall.mono ?_)
            rintro e w48 ⟨rfl, hb⟩
            have B48 := Lib.hid (B47.out.trans (hb.mono B47.out.size))
            have AT_48 := Lib.hid (AT_47.out.on hb)
            have AA_48 := Lib.hid (AA_47.out.on hb)
            have XG_48 := Lib.hid (XG_47.out.on hb)
            have XH_48 := Lib.hid (XH_47.out.on hb)
            have PA_48 := Lib.hid (PA_47.out.on hb)
            have PT_48 := Lib.hid (PT_47.out.on hb)
            clear hb hcall hfd y0 y1 B47 AT_47 AA_47 XG_47 XH_47 PA_47 PT_47
            obtain ⟨y0, y1⟩ := XG_48.out.pair
            have hfd := afind_c _ bt gh gl w48 AT_48.out
            rw [E3.out] at hfd
            have hcall := hfd
            go_wp2_with fail
            (with_reducible refine hcall.mono ?_)
            rintro e w49 ⟨rfl, hb⟩
            have B49 := Lib.hid (B48.out.trans (hb.mono B48.out.size))
            have AT_49 := Lib.hid (AT_48.out.on hb)
            have AA_49 := Lib.hid (AA_48.out.on hb)
            have XG_49 := Lib.hid (XG_48.out.on hb)
            have XH_49 := Lib.hid (XH_48.out.on hb)
            have PA_49 := Lib.hid (PA_48.out.on hb)
            have PT_49 := Lib.hid (PT_48.out.on hb)
            clear hb hcall hfd y0 y1 B48 AT_48 AA_48 XG_48 XH_48 PA_48 PT_48
            obtain ⟨y0, y1⟩ := XH_49.out.pair
            have hfd := afind_c _ bt hh hl w49 AT_49.out
            rw [E4.out] at hfd
            have hcall := hfd
            go_wp2_with fail
            (with_reducible refine hcall.mono ?_)
            rintro e w50 ⟨rfl, hb⟩
            have B50 := Lib.hid (B49.out.trans (hb.mono B49.out.size))
            have AT_50 := Lib.hid (AT_49.out.on hb)
            have AA_50 := Lib.hid (AA_49.out.on hb)
            have XG_50 := Lib.hid (XG_49.out.on hb)
            have XH_50 := Lib.hid (XH_49.out.on hb)
            have PA_50 := Lib.hid (PA_49.out.on hb)
            have PT_50 := Lib.hid (PT_49.out.on hb)
            clear hb hcall hfd y0 y1 B49 AT_49 AA_49 XG_49 XH_49 PA_49 PT_49
            rw [HBL.out]
            by_cases hxy : x = y
            · have huv := HXY.out.1 hxy
              subst hxy huv
              go_wp2
              go_ret
              exact ⟨rfl, B50.out⟩
            · have huv : ¬ u = v := fun e => hxy (HXY.out.2 e)
              have d1 : ((x : Int) == (y : Int)) = false := by simp; omega
              have d2 : ((u : Int) == (v : Int)) = false := by simp; omega
              clear hxy huv
              go_wp2
              go_ret
              exact ⟨rfl, B50.out⟩
    · obtain ⟨m, hm⟩ : ∃ m, m + 1 = j := ⟨j - 1, by omega⟩
      have hzm : z = (m : Int) := by have := HZ.out; omega
      subst hzm
      have hml : m < cs.length := by omega
      have hmz : (m : Int) < (cs.length : Int) := by omega
      obtain ⟨c, hc⟩ : ∃ c, cs[m]? = some c := ⟨_, List.getElem?_eq_getElem hml⟩
      obtain ⟨b, off, rfl, hb, hpc⟩ := HA.out (ne_nil_of hc)
      obtain ⟨c0, c1, c2, c3⟩ := (hpc m c hc).on B1.out
      have q1 : IntKind.i64.wrap ((m : Int) - 1) = (m : Int) - 1 := by rw [IntKind.wrap_i64]; omega
      have b5 := below1 wr (.cells #[.int .u64 (uv c.vh), .int .u64 (uv c.vl), .int .u64 (uv c.ch), .int .u64 (uv c.cl)] 53)
      have N5 : Blk (wr.alloc (.cells #[.int .u64 (uv c.vh), .int .u64 (uv c.vl), .int .u64 (uv c.ch), .int .u64 (uv c.cl)] 53)) wr.heap.size 53 c.arr := Blk.new wr _ _
      have BB5 := B0.out.trans (b5.mono B0.out.size)
      have BW5 := B1.out.trans (b5.mono B1.out.size)
      have O5 := own_on OT.out b5
      have S5 := (pl_one (cap := 1) N5).src
      have hz5 := BW5.size
      have hrl : (cs.drop j).reverse.length ≤ 7 := by rw [List.length_reverse, List.length_drop]; omega
      have HRS := Lib.hid (rev_step hc)
      have HM := Lib.hid hm
      clear hpc hc b5 N5 OT HZ B0 B1 hm
      go_wp2_with (at_builtin; refine wpList_app _ rfl (.tmp 31) (.tmp 36) 22 rfl w1.heap.size 53 ic _ 4 32 Tryz.underlying22 hic hcz0 hcz1 hcz2 rfl (by decide) _ _ _ rfl O5 _ 1 (flat [c]) rfl S5 (by unfold maxLen; omega) (by omega) hz5 ?_)
      intro v6 w6 O6 hg6
      have BW6 := Lib.hid (BW5.grown hg6 hz5 (fun j hj => (O5.lt j hj).1))
      have BB6 := Lib.hid (BB5.grown hg6 BB5.size (fun j hj => by have := (O5.lt j hj).1; have := HW1.out; omega))
      have O7 : Hid (w6.ownsRow w1.heap.size 53 4 v6 (cs.drop m).reverse.length (flat (cs.drop m).reverse)) := by
        show World.ownsRow _ _ _ _ _ _ _
        rw [HRS.out, HM.out, flat_append, List.length_append, List.length_reverse, List.length_drop]
        exact O6
      clear O5 S5 hz5 hrl BW5 BB5 O6 hg6 c0 c1 c2 c3 HRS
      go_wp2
      go_roundg m
      case measure => have := HM.out; omega
      case rel => exact ⟨m, (m : Int) - 1, by omega, rfl, by first | rfl | rw [q1], rfl, BB6, BW6, O7⟩
end Go.Proofs

namespace Go.Proofs.YtpmgbofnikmhgaaGreat
open Go.ChangeShapes Go.WideShapes Go.ChangeAt Go.RowKit Go.Joins Go.Proofs.Hd

theorem laidOut_aor : laidOutB Tryz.prog = true := by kernel_rfl
set_option maxRecDepth 100000 in
theorem aor_lifted (os : Os) (started : os.Started) (H : Type) (enc : TypeId × Value → H) :
    ReturnsInHanded {} Tryz.checked os 8 .any (Rows.atomsOrderSpec.pre6 enc Tryz.prog Tryz.f8 Rows.atomsOrderRow.domain false) (Rows.atomsOrderSpec.post enc Tryz.prog Tryz.f8 false true false false) := by
  refine returnsInHanded_of_change (C := Tryz.checked) own started (by kernel_rfl) Tryz.func8
    (ChangeSpec.witness6 (enc := enc) (C := Tryz.checked) false ⟨#[], #[.slice none 0 0, .agg #[.int .u64 0, .int .u64 0], .agg #[.int .u64 0, .int .u64 0]], []⟩ 8 (by kernel_rfl) (by kernel_rfl) (by kernel_rfl) (by kernel_rfl)) ?_
  intro W base args ds gs before hval0 hW hcnd _
  have hval : ∀ (j : Nat) t v, Tryz.f8.params[j]? = some t → args[j]? = some v → Value.okWide Tryz.prog W .any base t v := hval0
  have hW' := hW
  obtain ⟨p, q, hA0, hV, rfl, hfz, hnd⟩ := hW
  have hA : DataW.TrodAll enc Tryz.prog W 0 (fun _ => true) true Tryz.f8.params.toList args.toList ds p := hA0
  rw [Tryz.params8] at hA hval
  obtain ⟨v0, vs0, d0, ds0, p0, q0, hargs, rfl, rfl, h0, r0⟩ := trodAll_cons hA
  obtain ⟨v1, vs1, d1, ds1, p1, q1, rfl, rfl, rfl, h1, r1⟩ := trodAll_cons r0
  obtain ⟨v2, vs2, d2, ds2, p2, q2, rfl, rfl, rfl, h2, r2⟩ := trodAll_cons r1
  obtain ⟨rfl, rfl, rfl⟩ := trodAll_nil r2
  obtain rfl : args = #[v0, v1, v2] := by cases args; simp_all
  obtain ⟨rfl, rfl⟩ := trodVars_none hV
  have k0 := h0
  have lt0 : ∀ x ∈ p0, x.block < W.heap.size := by obtain ⟨m, hm⟩ := k0; exact DataW.trod_lt m _ _ _ hm
  obtain ⟨pA, pc, pL, rfl, lp, mp, pp⟩ := open_pl (hval 0 22 v0 rfl rfl) h0
  obtain ⟨gh, gl, rfl, rfl, rfl, s1⟩ := open_head (hval 1 25 v1 rfl rfl) h1
  obtain ⟨hh, hl, rfl, rfl, rfl, s2⟩ := open_head (hval 2 25 v2 rfl rfl) h2
  clear hA0 hval0
  refine (aorder_c _ pc pL gh gl hh hl W lp mp pp).mono fun e W' ⟨he, hg⟩ => ?_
  subst he
  exact ⟨_, rfl, _, _, _, [], _, [], hW', trodAll_mk1 (shut_bool Tryz.underlying4 _), (trodAll_cons_mk (Below.trod laidOut_aor (by kernel_rfl) (of_decide_eq_true (by kernel_rfl)) k0 hg lt0) (trodAll_cons_mk (s1 _ _) (trodAll_cons_mk (s2 _ _) trodAll_mk0))), rfl, hg.frame _, (fun h => by cases h)⟩

theorem aor_holds : Rows.AtomsOrderSaid :=
  OpenClaim.holds_of_wide 8 Tryz.f8 rfl rfl rfl rfl rfl rfl rfl ⟨rfl, rfl, rfl, rfl, rfl⟩ rfl rfl rfl rfl rfl (by kernel_rfl) Tryz.func8 (by kernel_rfl)
    (of_decide_eq_true (by kernel_rfl)) (by unfold Func.isWrapper; first | (rw [if_pos (by decide +kernel)]; kernel_rfl) | (rw [if_neg (by decide +kernel)]; exact ⟨rfl, rfl⟩))
    (fun os started H enc _ => aor_lifted os started H enc)
#print axioms aor_holds
end Go.Proofs.YtpmgbofnikmhgaaGreat
