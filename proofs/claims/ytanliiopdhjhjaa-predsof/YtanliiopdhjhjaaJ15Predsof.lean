/-
  customhouselaw13.PredsOf returns true for every input within the sizes of memory, and each argument reads behind the call as before. No conditions.
  The walk of customhouselaw13.PredsSets: it returns true. Conditions as the theorem lists them.
  The walk of customhouselaw13.PredsOf: it returns true. Conditions as the theorem lists them.
-/
import Derived.Test.YtanliiopdhjhjaaJ14
import Derived.BigQuiet
import Derived.OrdersHeld
import Derived.Test.YtanliiopdhjhjaaRows
import Derived.Below
import Derived.SizedLaws
namespace Go.Proofs.Hd
open Go.RowKit
theorem wrgZ_zero {y ver : Int} (h : wrgZ y ver = 0) : y = 0 ∧ 0 ≤ ver ∧ ver ≤ 255 := by
  unfold wrgZ at h
  by_cases h0 : y = 0
  · rw [if_pos h0] at h
    by_cases h1 : 0 ≤ ver ∧ ver ≤ 255
    · exact ⟨h0, h1.1, h1.2⟩
    · rw [if_neg h1] at h
      exact absurd h (by decide)
  · rw [if_neg h0] at h
    exact absurd h h0
end Go.Proofs.Hd
namespace Go.Proofs
open Go.RowKit Go.Proofs.Hd Go.Lib
attribute [local go_sem] uv_nonneg
attribute [local go_sem high] run_eq4
end Go.Proofs

namespace Go.Proofs.Hd
open Go Go.RowKit Go.Proofs
/-- What Of answers for a sound configuration, in one form. -/
theorem OfR.one {w : World} {L : List Cb} {e : Ending} {w' : World} (h : OfR w L e w') : ∃ (lv : Value) (ez : Int), e = .returned (.tuple #[lv, .int .i64 ez]) ∧ (L.length ≤ 500 → ez = 0 ∧ Pl w' lv (toldL keyC 129 L)) ∧ (500 < L.length → ez = 10 ∧ lv = .slice none 0 0) ∧ Below w.heap.size w w' := by
  obtain ⟨h1, h2, h3⟩ := h
  by_cases h5 : L.length ≤ 500
  · obtain ⟨v, rfl, hp⟩ := h1 h5
    exact ⟨v, 0, rfl, fun _ => ⟨rfl, hp⟩, fun h => absurd h (by omega), h3⟩
  · have := h2 (by omega)
    subst this
    exact ⟨_, 10, rfl, fun h => absurd h h5, fun _ => ⟨rfl, rfl⟩, h3⟩
end Go.Proofs.Hd
namespace Go.Proofs
open Go.RowKit Go.Proofs.Hd Go.Lib
attribute [local go_sem] uv_nonneg
attribute [local go_sem high] run_eq4
set_option maxHeartbeats 16000000 in
set_option maxRecDepth 100000 in
theorem psof_c (tv pv wv bv : Value) (T : List (List Pt)) (ten : Int) (P : List (Int × Int)) (Q : List Wa) (BB : List (List (List Rl))) (ver : Int) (w : World) (hT : PsT w tv T) (hP : Pe w pv P) (hQ : Wy w wv Q) (hB : RuQ w bv BB) (hz : Szd T P Q BB) : Calls Try.prog 4 #[.agg #[tv, .int .i64 ten, pv, wv, bv], .int .i64 ver] w fun e w' => e = .returned (.bool true) ∧ Below w.heap.size w w' := by
  have HT := Lib.hid hT
  have HP := Lib.hid hP
  have HQ := Lib.hid hQ
  have HBQ := Lib.hid hB
  have HR5 := Lib.hid hz.r
  obtain ⟨A, cap, rfl, -, -⟩ := hT
  obtain ⟨pA, pc, rfl, -, -⟩ := hP
  obtain ⟨wA, wc, rfl, -, -⟩ := hQ
  obtain ⟨bA, bc, rfl, -, -⟩ := hB
  have B0 := Lib.hid (below1 w (.cells #[.slice A T.length cap, .int .i64 ten, .slice pA P.length pc, .slice wA Q.length wc, .slice bA BB.length bc] 31))
  have N0 : Hid (Blk (w.alloc (.cells #[.slice A T.length cap, .int .i64 ten, .slice pA P.length pc, .slice wA Q.length wc, .slice bA BB.length bc] 31)) w.heap.size 31 #[.slice A T.length cap, .int .i64 ten, .slice pA P.length pc, .slice wA Q.length wc, .slice bA BB.length bc]) := Blk.new w _ _
  obtain ⟨z, hwz⟩ : ∃ z, wrgZ (cfgT T ten P Q BB) ver = z := ⟨_, rfl⟩
  have HWZ := Lib.hid hwz
  clear hz hwz
  go_enter Try.func4, Try.ntmps4
  go_upto_region 1 with (fail)
  generalize (w.alloc (.cells #[.slice A T.length cap, .int .i64 ten, .slice pA P.length pc, .slice wA Q.length wc, .slice bA BB.length bc] 31)) = w1 at B0 N0 ⊢
  obtain ⟨d0, d1, d2, d3, d4⟩ := N0.out.five
  by_cases hz0 : z = 0
  · subst hz0
    obtain ⟨hc0, hv0, hv1⟩ := wrgZ_zero HWZ.out
    obtain ⟨m, rfl⟩ : ∃ m : Nat, ver = m := ⟨ver.toNat, by omega⟩
    have HC0 := Lib.hid hc0
    have hm : m ≤ 255 := by omega
    obtain ⟨L, hL⟩ : ∃ L, cloC bfC (allS T BB m) 500 501 0 (mtcL BB) = L := ⟨_, rfl⟩
    have HL := Lib.hid hL
    have H576 := Lib.hid (rul_len hc0 HR5.out)
    clear hc0 hv0 hv1
    go_wp2_with fail
    (with_reducible refine (pof_ok _ _ _ _ T ten P Q BB m L _ (HT.out.on B0.out) (HP.out.on B0.out) (HQ.out.on B0.out) (HBQ.out.on B0.out) HC0.out hm HR5.out hL).mono ?_)
    rintro e w2 hof
    obtain ⟨lv, ez, rfl, hfs, hfb, hb2⟩ := hof.one
    have HFS2 := Lib.hid hfs
    have HFB := Lib.hid hfb
    have B2 := Lib.hid (B0.out.trans (hb2.mono B0.out.size))
    have N2 := Lib.hid (N0.out.on hb2)
    clear hof hfs hfb hb2 hL B0 N0 d0 d1 d2 d3 d4
    obtain ⟨d0, d1, d2, d3, d4⟩ := N2.out.five
    go_wp2_with fail
    (with_reducible refine (wrong_r _ _ _ _ T ten P Q BB m 0 _ (HT.out.on B2.out) (HP.out.on B2.out) (HQ.out.on B2.out) (HBQ.out.on B2.out) HWZ.out).mono ?_)
    rintro e w3 ⟨rfl, hb3⟩
    have B3 := Lib.hid (B2.out.trans (hb3.mono B2.out.size))
    have B23 := Lib.hid hb3
    have N3 := Lib.hid (N2.out.on hb3)
    clear hb3 B2 N2 d0 d1 d2 d3 d4
    have O3 : Hid (Pl (w3.alloc (.cells #[] 43)) (.slice (some ⟨w3.heap.size, 0, none⟩) 0 0) (addsC [] (((rulL BB).take 0).map Rl.m))) := .inl ⟨rfl, _, _, rfl⟩
    have hbx := below1 w3 (.cells #[] 43)
    have B4 := Lib.hid (B3.out.trans (hbx.mono B3.out.size))
    have B24 := Lib.hid (B23.out.trans (hbx.mono B23.out.size))
    have N4 := Lib.hid (N3.out.on hbx)
    go_upto_region 6 with (fail)
    generalize w3.alloc (.cells #[] 43) = w4 at O3 B4 B24 N4 ⊢
    clear hbx B3 B23 N3
    obtain ⟨d0, d1, d2, d3, d4⟩ := N4.out.five
    go_wp2_with fail
    (with_reducible refine (rules_r _ _ _ _ T ten P Q BB _ (HT.out.on B4.out) (HP.out.on B4.out) (HQ.out.on B4.out) (HBQ.out.on B4.out) H576.out).mono ?_)
    rintro e w5 ⟨⟨rv, rfl, hR⟩, hb5⟩
    obtain ⟨rA, rc, rfl, hRA⟩ := hR.form
    obtain ⟨R, hRR⟩ : ∃ R, rulL BB = R := ⟨_, rfl⟩
    rw [hRR] at hRA ⊢
    have HRR := Lib.hid hRR
    have HR := Lib.hid hRA
    have hr5 : R.length ≤ 576 := by rw [← hRR]; exact H576.out
    have B5 := Lib.hid (B4.out.trans (hb5.mono B4.out.size))
    have B25 := Lib.hid (B24.out.trans (hb5.mono B24.out.size))
    have N5 := Lib.hid (N4.out.on hb5)
    have O5 := Lib.hid (O3.out.on hb5)
    clear hb5 hRA hR B4 B24 N4 O3 d0 d1 d2 d3 d4
    rw [hRR] at O5
    clear hRR
    go_wp2
    go_loopg [8, 10] R.length (fun gk s8 s10 wr => ∃ (k : Nat) (v : Value), k ≤ R.length ∧ gk = R.length - k ∧ v = s8 ∧ s10 = .int .i64 k ∧ Hid (Pl wr v (addsC [] ((R.take k).map Rl.m))) ∧ Hid (Below w5.heap.size w5 wr))
    case atStart => exact ⟨0, _, Nat.zero_le _, rfl, rfl, by go_num, O5, Below.refl _ _⟩
    case round =>
      clear O5
      obtain ⟨k, v, hk, rfl, rfl, rfl, HO, HBW⟩ := hrel
      by_cases hlt : k < R.length
      · have hltz : (k : Int) < (R.length : Int) := by omega
        obtain ⟨r, hr⟩ : ∃ r, R[k]? = some r := ⟨_, List.getElem?_eq_getElem hlt⟩
        obtain ⟨b, o, rfl, _, hc⟩ := HR.out (by intro h; rw [h] at hlt; simp at hlt)
        obtain ⟨-, c1, c2, c3, c4, -, -, -, -, -, -, -⟩ := ((hc k r hr).on HBW.out).out
        have HNX : Hid (addsC [] ((R.take (k + 1)).map Rl.m) = addC (addsC [] ((R.take k).map Rl.m)) r.m) := by
          show _ = _
          rw [List.take_add_one, hr, List.map_append]
          exact addsC_snoc _ _ _
        have HLN : Hid ((addsC [] ((R.take k).map Rl.m)).length ≤ 1000000) := by
          show _ ≤ _
          have h1 := addsC_len ((R.take k).map Rl.m) []
          rw [List.length_map, List.length_take] at h1
          simp only [List.length_nil] at h1
          omega
        clear hr hc
        go_wp2_with fail
        (with_reducible refine (ladd_r _ _ r.m _ HLN.out HO.out).mono ?_)
        rintro e w8 ⟨⟨v8, rfl, hp8⟩, hb8⟩
        rw [← HNX.out] at hp8
        have HP8 := Lib.hid hp8
        have HB8 := Lib.hid (HBW.out.trans (hb8.mono HBW.out.size))
        clear hp8 hb8 HO HBW c1 c2 c3 c4 HNX HLN
        go_wp2
        go_roundg (R.length - (k + 1))
        case measure => omega
        case rel => exact ⟨k + 1, v8, by omega, rfl, rfl, by go_num, HP8, HB8⟩
      · have hltz : ¬ (k : Int) < (R.length : Int) := by omega
        obtain rfl : k = R.length := by omega
        have HMT : Hid (addsC [] ((R.take R.length).map Rl.m) = mtcL BB) := by show _ = _; rw [List.take_length, ← HRR.out]; rfl
        rw [HMT.out] at HO
        have BR := Lib.hid (B5.out.trans (HBW.out.mono B5.out.size))
        have BR2 := Lib.hid (B25.out.trans (HBW.out.mono B25.out.size))
        have NR := Lib.hid (N5.out.on HBW.out)
        have HMS := Lib.hid (fun c (h : c ∈ mtcL BB) => mtcL_snd HC0.out h)
        have HML := Lib.hid (mtcL_len HC0.out HR5.out)
        obtain ⟨d0, d1, d2, d3, d4⟩ := NR.out.five
        clear HMT HBW HRR HR hr5 B5 B25 N5
        go_wp2_with fail
        (with_reducible refine (lsets_r _ _ _ _ T ten P Q BB m _ (HT.out.on BR.out) (HP.out.on BR.out) (HQ.out.on BR.out) (HBQ.out.on BR.out) HC0.out hm HR5.out).mono ?_)
        rintro e w6 ⟨⟨sv, rfl, hS⟩, hb6⟩
        have HSS := Lib.hid (fun c (h : c ∈ allS T BB m) => allS_snd HC0.out h)
        have hS6 := allS_len HC0.out HR5.out m
        obtain ⟨S, hSE⟩ : ∃ S, allS T BB m = S := ⟨_, rfl⟩
        rw [hSE] at hS HSS hS6 HL
        obtain ⟨sA, sc, rfl, -, hSA⟩ := hS.form
        have HSA := Lib.hid hSA
        have B6 := Lib.hid (BR.out.trans (hb6.mono BR.out.size))
        have B26 := Lib.hid (BR2.out.trans (hb6.mono BR2.out.size))
        have O6 := Lib.hid (HO.out.on hb6)
        have hml : (mtcL BB).length ≤ 1112 := by have := HML.out; omega
        have HC1 : Hid (cloC bfC S 500 501 0 (mtcL BB) = L) := HL.out
        have HFS : Hid (L.length ≤ 500 → ez = 0 ∧ Pl w6 lv (toldL keyC 129 L)) := fun h => ⟨(HFS2.out h).1, (HFS2.out h).2.on B26.out⟩
        clear hb6 hS hSA hSE BR BR2 NR d0 d1 d2 d3 d4 HO HL HML HFS2 HT HP HQ HBQ HR5 HC0 HWZ H576 B26
        have B26 := Lib.hid (Below.refl w6.heap.size w6)
        go_wp2
        go_loopg [8, 12] 501 (fun gk s8 s12 wr => ∃ (n : Nat) (u : Value) (l : List Cb), n + gk = 501 ∧ u = s8 ∧ s12 = .int .i64 n ∧ l.length ≤ 1112 ∧ Hid (∀ x, x ∈ l → x.snd = true) ∧ Hid (cloC bfC S 500 gk n l = L) ∧ Hid (Pl wr u l) ∧ Hid (Below w6.heap.size w6 wr))
        case atStart => exact ⟨0, _, mtcL BB, rfl, rfl, by go_num, hml, HMS, HC1, O6, Below.refl _ _⟩
        case round =>
          clear HC1 O6 hml HMS
          obtain ⟨n, u, l, hn, rfl, rfl, hl, HSN, HCL, HP2, HBW⟩ := hrel
          obtain ⟨lA, lc, rfl, -, hlA⟩ := HP2.out.form
          by_cases hlt : n < l.length
          · have hnz : (n : Int) < (l.length : Int) := by omega
            by_cases h5 : l.length ≤ 500
            · have h5z : (l.length : Int) ≤ 500 := by omega
              obtain ⟨gj, rfl⟩ : ∃ gj, gk = gj + 1 := ⟨gk - 1, by omega⟩
              obtain ⟨c, hc⟩ : ∃ c, l[n]? = some c := ⟨_, List.getElem?_eq_getElem hlt⟩
              have HC2 : Hid (cloC bfC S 500 gj (n + 1) (askS bfC S c l) = L) := (cloC_step hc h5).symm.trans HCL.out
              have HCN := Lib.hid hc
              have HCS := Lib.hid (HSN.out c (List.mem_of_getElem? hc))
              have HSN2 : Hid (∀ x, x ∈ askS bfC S c l → x.snd = true) := askS_ok bfC S c (fun _ _ _ h => bfC_snd h) l HSN.out
              clear hc hlA HCL
              go_wp2
              go_loopg [8, 13] S.length (fun gi s8 s13 wr => ∃ (k : Nat) (u : Value), k ≤ S.length ∧ gi = S.length - k ∧ u = s8 ∧ s13 = .int .i64 k ∧ Hid (Pl wr u (askS bfC (S.take k) c l)) ∧ Hid (Below w6.heap.size w6 wr))
              case atStart => exact ⟨0, _, Nat.zero_le _, rfl, rfl, by go_num, HP2, HBW⟩
              case round =>
                clear HP2 HBW
                obtain ⟨k, u, hk, rfl, rfl, rfl, HP2, HBW⟩ := hrel
                by_cases hil : k < S.length
                · have hilz : (k : Int) < (S.length : Int) := by omega
                  obtain ⟨s, hs⟩ : ∃ s, S[k]? = some s := ⟨_, List.getElem?_eq_getElem hil⟩
                  obtain ⟨bs, os, rfl, _, hsc⟩ := HSA.out (by rintro rfl; simp at hs)
                  obtain ⟨y0, y1, y2, y3⟩ := hsc k s hs
                  have HSK := Lib.hid (askS_take (bf := bfC) (c := c) (l := l) hs)
                  have HSD := Lib.hid (HSS.out s (List.mem_of_getElem? hs))
                  have hpre := askS_pre bfC (S.take k) c l
                  have hlen := askS_len bfC (S.take k) c l
                  rw [List.length_take] at hlen
                  obtain ⟨l2, hl2⟩ : ∃ l2, askS bfC (S.take k) c l = l2 := ⟨_, rfl⟩
                  rw [hl2] at HP2 HSK hpre hlen
                  have hc2 : l2[n]? = some c := by
                    obtain ⟨t, ht⟩ := hpre
                    rw [← ht, List.getElem?_append_left hlt]
                    exact HCN.out
                  have hn2 : n < l2.length := (List.getElem?_eq_some_iff.1 hc2).1
                  have hn2z : (n : Int) < (l2.length : Int) := by omega
                  obtain ⟨lA2, lc2, rfl, -, hA2⟩ := HP2.out.form
                  obtain ⟨b2, o2, rfl, _, hcc⟩ := hA2 (by rintro rfl; simp at hc2)
                  obtain ⟨x0, x1, x2, x3⟩ := hcc n c hc2
                  obtain ⟨x, hx⟩ : ∃ x, c.agr s = x := ⟨_, rfl⟩
                  obtain ⟨p, hp1, hp0⟩ : ∃ p, (x = true → p = Cb.bef c s) ∧ (x = false → p = Cb.zero) := by
                    cases x
                    · exact ⟨Cb.zero, ⟨fun h => (by cases h), fun _ => rfl⟩⟩
                    · exact ⟨Cb.bef c s, ⟨fun _ => rfl, fun h => (by cases h)⟩⟩
                  have HCT : Hid (∀ W : World, Calls Try.prog 14 #[.agg #[.int .u64 (uv c.vh), .int .u64 (uv c.vl), .int .u64 (uv c.ch), .int .u64 (uv c.cl)], .agg #[.int .u64 (uv s.vh), .int .u64 (uv s.vl), .int .u64 (uv s.ch), .int .u64 (uv s.cl)]] W fun e w' => e = .returned (.tuple #[.agg #[.int .u64 (uv p.vh), .int .u64 (uv p.vl), .int .u64 (uv p.ch), .int .u64 (uv p.cl)], .bool x]) ∧ Below W.heap.size W w') := fun W => lbef_r c s x p W HCS.out HSD.out hx hp1 hp0
                  have HTK : Hid (askS bfC (S.take (k + 1)) c l = if x = true then addC l2 p else l2) := by
                    show _ = _
                    rw [HSK.out]
                    cases x
                    · rw [bfC_none (fun h => by rw [h.2] at hx; cases hx), if_neg (by decide)]
                      rfl
                    · rw [bfC_some HCS.out hx, if_pos rfl, hp1 rfl]
                      rfl
                  obtain ⟨w9, rfl⟩ : ∃ W : World, W = wr := ⟨_, rfl⟩
                  replace y0 := on_some HBW.out y0
                  replace y1 := on_some HBW.out y1
                  replace y2 := on_some HBW.out y2
                  replace y3 := on_some HBW.out y3
                  have KP : ∀ W, Below w9.heap.size w9 W → (Below w9.heap.size w9 W ∧ W.cell? ⟨b2, o2 + n * 4, none⟩ = some (.int .u64 (uv c.vh)) ∧ W.cell? ⟨b2, o2 + n * 4 + 1, none⟩ = some (.int .u64 (uv c.vl)) ∧ W.cell? ⟨b2, o2 + n * 4 + 2, none⟩ = some (.int .u64 (uv c.ch)) ∧ W.cell? ⟨b2, o2 + n * 4 + 3, none⟩ = some (.int .u64 (uv c.cl)) ∧ W.cell? ⟨bs, os + k * 4, none⟩ = some (.int .u64 (uv s.vh)) ∧ W.cell? ⟨bs, os + k * 4 + 1, none⟩ = some (.int .u64 (uv s.vl)) ∧ W.cell? ⟨bs, os + k * 4 + 2, none⟩ = some (.int .u64 (uv s.ch)) ∧ W.cell? ⟨bs, os + k * 4 + 3, none⟩ = some (.int .u64 (uv s.cl))) := fun W hb => ⟨hb, on_some hb x0, on_some hb x1, on_some hb x2, on_some hb x3, on_some hb y0, on_some hb y1, on_some hb y2, on_some hb y3⟩
                  have HKP := Lib.hid KP
                  clear KP hs hsc y0 y1 y2 y3 hl2 hpre hc2 hA2 hcc x0 x1 x2 x3 hx hp1 hp0 HSK
                  go_upto_region 18 with (fail)
                  refine wp_region_held_drew (S := fun w' => Below w9.heap.size w9 w' ∧ w'.cell? ⟨b2, o2 + n * 4, none⟩ = some (.int .u64 (uv c.vh)) ∧ w'.cell? ⟨b2, o2 + n * 4 + 1, none⟩ = some (.int .u64 (uv c.vl)) ∧ w'.cell? ⟨b2, o2 + n * 4 + 2, none⟩ = some (.int .u64 (uv c.ch)) ∧ w'.cell? ⟨b2, o2 + n * 4 + 3, none⟩ = some (.int .u64 (uv c.cl)) ∧ w'.cell? ⟨bs, os + k * 4, none⟩ = some (.int .u64 (uv s.vh)) ∧ w'.cell? ⟨bs, os + k * 4 + 1, none⟩ = some (.int .u64 (uv s.vl)) ∧ w'.cell? ⟨bs, os + k * 4 + 2, none⟩ = some (.int .u64 (uv s.ch)) ∧ w'.cell? ⟨bs, os + k * 4 + 3, none⟩ = some (.int .u64 (uv s.cl))) (by kernel_rfl) (HKP.out _ (Below.refl _ w9).drew) (fun hHeld => ?_)
                  have hB : Below w9.heap.size w9 w9.drew := (Below.refl _ w9).drew
                  generalize w9.drew = u0 at hHeld hB ⊢
                  refine wpAnyH_take (i := 0) (oi := ⟨some 76, _, _, _, _, _⟩) (v := ?vs0_1) rfl (by kernel_rfl) (by kernel_rfl) (by kernel_rfl) (fun _ _ _ h => h) (Or.inl ⟨by rfl, ?ys0_1⟩) hHeld ?rs0_1
                  case ys0_1 => (intro w' hSw; (try dsimp only at hSw); go_simp; try (with_reducible rfl))
                  simp only [Act.put, List.setIfInBounds_toArray, List.set_cons_zero, List.set_cons_succ]
                  refine wpAnyH_take (i := 1) (oi := ⟨some 77, _, _, _, _, _⟩) (v := ?vs1_2) rfl (by kernel_rfl) (by kernel_rfl) (by kernel_rfl) (fun _ _ _ h => h) (Or.inl ⟨by rfl, ?ys1_2⟩) hHeld ?rs1_2
                  case ys1_2 => (intro w' hSw; (try dsimp only at hSw); go_simp; try (with_reducible rfl))
                  simp only [Act.put, List.setIfInBounds_toArray, List.set_cons_zero, List.set_cons_succ]
                  refine wpAnyH_take (i := 2) (oi := ⟨some 78, _, _, _, _, _⟩) (v := ?vs2_3) rfl (by kernel_rfl) (by kernel_rfl) (by kernel_rfl) (fun _ _ _ h => h) (Or.inl ⟨by rfl, ?ys2_3⟩) hHeld ?rs2_3
                  case ys2_3 => (intro w' hSw; (try dsimp only at hSw); go_simp; try (with_reducible rfl))
                  simp only [Act.put, List.setIfInBounds_toArray, List.set_cons_zero, List.set_cons_succ]
                  refine wpAnyH_take (i := 3) (oi := ⟨some 79, _, _, _, _, _⟩) (v := ?vs3_4) rfl (by kernel_rfl) (by kernel_rfl) (by kernel_rfl) (fun _ _ _ h => h) (Or.inl ⟨by rfl, ?ys3_4⟩) hHeld ?rs3_4
                  case ys3_4 => (intro w' hSw; (try dsimp only at hSw); go_simp; try (with_reducible rfl))
                  simp only [Act.put, List.setIfInBounds_toArray, List.set_cons_zero, List.set_cons_succ]
                  refine wpAnyH_take (i := 4) (oi := ⟨some 80, _, _, _, _, _⟩) (v := ?vs4_5) rfl (by kernel_rfl) (by kernel_rfl) (by kernel_rfl) (fun _ _ _ h => h) (Or.inl ⟨by rfl, ?ys4_5⟩) hHeld ?rs4_5
                  case ys4_5 => (intro w' hSw; (try dsimp only at hSw); go_simp; try (with_reducible rfl))
                  simp only [Act.put, List.setIfInBounds_toArray, List.set_cons_zero, List.set_cons_succ]
                  refine wpAnyH_take (i := 5) (oi := ⟨some 81, _, _, _, _, _⟩) (v := ?vs5_6) rfl (by kernel_rfl) (by kernel_rfl) (by kernel_rfl) (fun _ _ _ h => h) (Or.inl ⟨by rfl, ?ys5_6⟩) hHeld ?rs5_6
                  case ys5_6 => (intro w' hSw; (try dsimp only at hSw); go_simp; try (with_reducible rfl))
                  simp only [Act.put, List.setIfInBounds_toArray, List.set_cons_zero, List.set_cons_succ]
                  refine wpAnyH_take (i := 6) (oi := ⟨some 82, _, _, _, _, _⟩) (v := ?vs6_7) rfl (by kernel_rfl) (by kernel_rfl) (by kernel_rfl) (fun _ _ _ h => h) (Or.inl ⟨by rfl, ?ys6_7⟩) hHeld ?rs6_7
                  case ys6_7 => (intro w' hSw; (try dsimp only at hSw); go_simp; try (with_reducible rfl))
                  simp only [Act.put, List.setIfInBounds_toArray, List.set_cons_zero, List.set_cons_succ]
                  refine wpAnyH_take (i := 7) (oi := ⟨some 83, _, _, _, _, _⟩) (v := ?vs7_8) rfl (by kernel_rfl) (by kernel_rfl) (by kernel_rfl) (fun _ _ _ h => h) (Or.inl ⟨by rfl, ?ys7_8⟩) hHeld ?rs7_8
                  case ys7_8 => (intro w' hSw; (try dsimp only at hSw); go_simp; try (with_reducible rfl))
                  simp only [Act.put, List.setIfInBounds_toArray, List.set_cons_zero, List.set_cons_succ]
                  refine wpAnyH_ready (rs := [8, 12]) (by kernel_rfl) (by simp) ?_
                  refine AllReadyH.cons (o := ⟨some 84, _, _, _, _, _⟩) rfl (fun K hK => ?_) ?_
                  · go_simp
                    (with_reducible refine (HCT.out u0).mono ?_)
                    rintro e u1 ⟨rfl, hb⟩
                    (try dsimp only)
                    have hB2 := hB.trans (hb.mono hB.size)
                    refine hK.out _ _ (HKP.out _ hB2) (fun hNext => ?_)
                    clear hK K hHeld
                    have hHeld := hNext
                    clear hNext
                    clear hB
                    have hB := hB2
                    clear hB2
                    clear hb
                    try simp only [Act.put, List.setIfInBounds_toArray, List.set_cons_zero, List.set_cons_succ]
                    refine wpAnyH_take (i := 9) (oi := ⟨some 75, _, _, _, _, _⟩) (v := ?vs9_9) rfl (by kernel_rfl) (by kernel_rfl) (by kernel_rfl) (fun _ _ _ h => h) (Or.inl ⟨by rfl, ?ys9_9⟩) hHeld ?rs9_9
                    case ys9_9 => (intro w' hSw; (try dsimp only at hSw); go_simp; try (with_reducible rfl))
                    simp only [Act.put, List.setIfInBounds_toArray, List.set_cons_zero, List.set_cons_succ]
                    refine wpAnyH_take (i := 10) (oi := ⟨some 85, _, _, _, _, _⟩) (v := ?vs10_10) rfl (by kernel_rfl) (by kernel_rfl) (by kernel_rfl) (fun _ _ _ h => h) (Or.inl ⟨by rfl, ?ys10_10⟩) hHeld ?rs10_10
                    case ys10_10 => (intro w' hSw; (try dsimp only at hSw); go_simp; try (with_reducible rfl))
                    simp only [Act.put, List.setIfInBounds_toArray, List.set_cons_zero, List.set_cons_succ]
                    refine wpAnyH_take (i := 11) (oi := ⟨some 86, _, _, _, _, _⟩) (v := ?vs11_11) rfl (by kernel_rfl) (by kernel_rfl) (by kernel_rfl) (fun _ _ _ h => h) (Or.inl ⟨by rfl, ?ys11_11⟩) hHeld ?rs11_11
                    case ys11_11 => (intro w' hSw; (try dsimp only at hSw); go_simp; try (with_reducible rfl))
                    simp only [Act.put, List.setIfInBounds_toArray, List.set_cons_zero, List.set_cons_succ]
                    refine wpAnyH_ready (rs := [12]) (by kernel_rfl) (by simp) ?_
                    refine AllReadyH.cons (o := ⟨some 14, _, _, _, _, _⟩) rfl (fun K hK => ?_) AllReadyH.nil
                    go_simp
                    have hb := below1 u1 (.cells #[.int .u64 0, .int .u64 0, .int .u64 0, .int .u64 0] 43)
                    have hB2 := hB.trans (hb.mono hB.size)
                    refine hK.out _ _ (HKP.out _ hB2) (fun hNext => ?_)
                    have t_p : Nb w9.heap.size (u1.alloc (.cells #[.int .u64 0, .int .u64 0, .int .u64 0, .int .u64 0] 43)) u1.heap.size 43 #[.int .u64 0, .int .u64 0, .int .u64 0, .int .u64 0] := Nb.top u1 hB.size
                    clear hK K hHeld
                    have hHeld := hNext
                    clear hNext
                    clear hB
                    have hB := hB2
                    clear hB2
                    clear hb
                    generalize hgen : (u1.alloc (.cells #[.int .u64 0, .int .u64 0, .int .u64 0, .int .u64 0] 43)) = u2 at hHeld hB  t_p ⊢
                    clear hgen
                    generalize hgen : u1.heap.size = b_p at t_p  ⊢
                    clear hgen
                    try simp only [Act.put, List.setIfInBounds_toArray, List.set_cons_zero, List.set_cons_succ]
                    refine wpAnyH_ready (rs := [13]) (by kernel_rfl) (by simp) ?_
                    refine AllReadyH.cons (o := ⟨none, _, _, _, _, _⟩) rfl (fun K hK => ?_) AllReadyH.nil
                    rw [if_pos (by rfl)]
                    refine wp_store_mid 43 _ _ rfl b_p 0 #[.int .u64 (uv p.vh), .int .u64 (uv p.vl), .int .u64 (uv p.ch), .int .u64 (uv p.cl)] rfl rfl t_p.there infoCubeS (by simp [Value.oneCell']) ?_
                    (try dsimp only)
                    have hB2 := (Below.setCells [.int .u64 (uv p.vh), .int .u64 (uv p.vl), .int .u64 (uv p.ch), .int .u64 (uv p.cl)] 0 _ hB t_p.2)
                    refine hK.out _ _ (HKP.out _ hB2) (fun hNext => ?_)
                    clear hK K hHeld
                    have hHeld := hNext
                    clear hNext
                    clear hB
                    have hB := hB2
                    clear hB2
                    replace t_p := t_p.put [.int .u64 (uv p.vh), .int .u64 (uv p.vl), .int .u64 (uv p.ch), .int .u64 (uv p.cl)] rfl
                    generalize hgen : (World.setCells u2 b_p 0 [.int .u64 (uv p.vh), .int .u64 (uv p.vl), .int .u64 (uv p.ch), .int .u64 (uv p.cl)]) = u3 at hHeld hB t_p ⊢
                    clear hgen
                    try simp only [Act.put]
                    refine wpAnyH_take (i := 14) (oi := ⟨some 15, _, _, _, _, _⟩) (v := ?vs14_12) rfl (by kernel_rfl) (by kernel_rfl) (by kernel_rfl) (fun _ _ _ h => h) (Or.inl ⟨by rfl, ?ys14_12⟩) hHeld ?rs14_12
                    case ys14_12 => (intro w' hSw; (try dsimp only at hSw); go_simp; try (with_reducible rfl))
                    simp only [Act.put, List.setIfInBounds_toArray, List.set_cons_zero, List.set_cons_succ]
                    refine wpAnyH_done (by kernel_rfl) ?_ _
                    have HB5 := Lib.hid hB
                    have HP5 := Lib.hid (HP2.out.on hB)
                    obtain ⟨f0, f1, f2, f3⟩ := quad t_p.1
                    clear hHeld hB HKP
                    cases x
                    · have HTF := HTK.out
                      simp only [Bool.false_eq_true, if_false] at HTF
                      have HTG := Lib.hid HTF
                      clear f0 f1 f2 f3 t_p HTF
                      go_wp2
                      go_roundg (S.length - (k + 1))
                      case measure => omega
                      case rel => exact ⟨k + 1, _, by omega, rfl, rfl, by go_num, (by show Pl _ _ _; rw [HTG.out]; exact HP5.out), HBW.out.trans (HB5.out.mono HBW.out.size)⟩
                    · have HTF := HTK.out
                      simp only [if_true] at HTF
                      have HTG := Lib.hid HTF
                      clear HTF
                      go_wp2_with fail
                      (with_reducible refine (ladd_r _ l2 p _ (by omega) HP5.out).mono ?_)
                      rintro e w8 ⟨⟨v8, rfl, hp8⟩, hb8⟩
                      rw [← HTG.out] at hp8
                      have HP8 := Lib.hid hp8
                      have HB8 := Lib.hid (HB5.out.trans (hb8.mono HB5.out.size))
                      clear f0 f1 f2 f3 t_p hp8 hb8 HP5 HB5
                      go_wp2
                      go_roundg (S.length - (k + 1))
                      case measure => omega
                      case rel => exact ⟨k + 1, v8, by omega, rfl, rfl, by go_num, HP8, HBW.out.trans (HB8.out.mono HBW.out.size)⟩
                  refine AllReadyH.cons (o := ⟨some 14, _, _, _, _, _⟩) rfl (fun K hK => ?_) AllReadyH.nil
                  go_simp
                  have hb := below1 u0 (.cells #[.int .u64 0, .int .u64 0, .int .u64 0, .int .u64 0] 43)
                  have hB2 := hB.trans (hb.mono hB.size)
                  refine hK.out _ _ (HKP.out _ hB2) (fun hNext => ?_)
                  have t_p : Nb w9.heap.size (u0.alloc (.cells #[.int .u64 0, .int .u64 0, .int .u64 0, .int .u64 0] 43)) u0.heap.size 43 #[.int .u64 0, .int .u64 0, .int .u64 0, .int .u64 0] := Nb.top u0 hB.size
                  clear hK K hHeld
                  have hHeld := hNext
                  clear hNext
                  clear hB
                  have hB := hB2
                  clear hB2
                  clear hb
                  generalize hgen : (u0.alloc (.cells #[.int .u64 0, .int .u64 0, .int .u64 0, .int .u64 0] 43)) = u4 at hHeld hB  t_p ⊢
                  clear hgen
                  generalize hgen : u0.heap.size = b_p at t_p  ⊢
                  clear hgen
                  try simp only [Act.put, List.setIfInBounds_toArray, List.set_cons_zero, List.set_cons_succ]
                  refine wpAnyH_ready (rs := [8]) (by kernel_rfl) (by simp) ?_
                  refine AllReadyH.cons (o := ⟨some 84, _, _, _, _, _⟩) rfl (fun K hK => ?_) AllReadyH.nil
                  go_simp
                  (with_reducible refine (HCT.out u4).mono ?_)
                  rintro e u5 ⟨rfl, hb⟩
                  (try dsimp only)
                  have hB2 := hB.trans (hb.mono hB.size)
                  refine hK.out _ _ (HKP.out _ hB2) (fun hNext => ?_)
                  clear hK K hHeld
                  have hHeld := hNext
                  clear hNext
                  clear hB
                  have hB := hB2
                  clear hB2
                  replace t_p := t_p.on hb
                  clear hb
                  try simp only [Act.put, List.setIfInBounds_toArray, List.set_cons_zero, List.set_cons_succ]
                  refine wpAnyH_take (i := 9) (oi := ⟨some 75, _, _, _, _, _⟩) (v := ?vs9_13) rfl (by kernel_rfl) (by kernel_rfl) (by kernel_rfl) (fun _ _ _ h => h) (Or.inl ⟨by rfl, ?ys9_13⟩) hHeld ?rs9_13
                  case ys9_13 => (intro w' hSw; (try dsimp only at hSw); go_simp; try (with_reducible rfl))
                  simp only [Act.put, List.setIfInBounds_toArray, List.set_cons_zero, List.set_cons_succ]
                  refine wpAnyH_take (i := 10) (oi := ⟨some 85, _, _, _, _, _⟩) (v := ?vs10_14) rfl (by kernel_rfl) (by kernel_rfl) (by kernel_rfl) (fun _ _ _ h => h) (Or.inl ⟨by rfl, ?ys10_14⟩) hHeld ?rs10_14
                  case ys10_14 => (intro w' hSw; (try dsimp only at hSw); go_simp; try (with_reducible rfl))
                  simp only [Act.put, List.setIfInBounds_toArray, List.set_cons_zero, List.set_cons_succ]
                  refine wpAnyH_take (i := 11) (oi := ⟨some 86, _, _, _, _, _⟩) (v := ?vs11_15) rfl (by kernel_rfl) (by kernel_rfl) (by kernel_rfl) (fun _ _ _ h => h) (Or.inl ⟨by rfl, ?ys11_15⟩) hHeld ?rs11_15
                  case ys11_15 => (intro w' hSw; (try dsimp only at hSw); go_simp; try (with_reducible rfl))
                  simp only [Act.put, List.setIfInBounds_toArray, List.set_cons_zero, List.set_cons_succ]
                  refine wpAnyH_ready (rs := [13]) (by kernel_rfl) (by simp) ?_
                  refine AllReadyH.cons (o := ⟨none, _, _, _, _, _⟩) rfl (fun K hK => ?_) AllReadyH.nil
                  rw [if_pos (by rfl)]
                  refine wp_store_mid 43 _ _ rfl b_p 0 #[.int .u64 (uv p.vh), .int .u64 (uv p.vl), .int .u64 (uv p.ch), .int .u64 (uv p.cl)] rfl rfl t_p.there infoCubeS (by simp [Value.oneCell']) ?_
                  (try dsimp only)
                  have hB2 := (Below.setCells [.int .u64 (uv p.vh), .int .u64 (uv p.vl), .int .u64 (uv p.ch), .int .u64 (uv p.cl)] 0 _ hB t_p.2)
                  refine hK.out _ _ (HKP.out _ hB2) (fun hNext => ?_)
                  clear hK K hHeld
                  have hHeld := hNext
                  clear hNext
                  clear hB
                  have hB := hB2
                  clear hB2
                  replace t_p := t_p.put [.int .u64 (uv p.vh), .int .u64 (uv p.vl), .int .u64 (uv p.ch), .int .u64 (uv p.cl)] rfl
                  generalize hgen : (World.setCells u5 b_p 0 [.int .u64 (uv p.vh), .int .u64 (uv p.vl), .int .u64 (uv p.ch), .int .u64 (uv p.cl)]) = u6 at hHeld hB t_p ⊢
                  clear hgen
                  try simp only [Act.put]
                  refine wpAnyH_take (i := 14) (oi := ⟨some 15, _, _, _, _, _⟩) (v := ?vs14_16) rfl (by kernel_rfl) (by kernel_rfl) (by kernel_rfl) (fun _ _ _ h => h) (Or.inl ⟨by rfl, ?ys14_16⟩) hHeld ?rs14_16
                  case ys14_16 => (intro w' hSw; (try dsimp only at hSw); go_simp; try (with_reducible rfl))
                  simp only [Act.put, List.setIfInBounds_toArray, List.set_cons_zero, List.set_cons_succ]
                  refine wpAnyH_done (by kernel_rfl) ?_ _
                  have HB5 := Lib.hid hB
                  have HP5 := Lib.hid (HP2.out.on hB)
                  obtain ⟨f0, f1, f2, f3⟩ := quad t_p.1
                  clear hHeld hB HKP
                  cases x
                  · have HTF := HTK.out
                    simp only [Bool.false_eq_true, if_false] at HTF
                    have HTG := Lib.hid HTF
                    clear f0 f1 f2 f3 t_p HTF
                    go_wp2
                    go_roundg (S.length - (k + 1))
                    case measure => omega
                    case rel => exact ⟨k + 1, _, by omega, rfl, rfl, by go_num, (by show Pl _ _ _; rw [HTG.out]; exact HP5.out), HBW.out.trans (HB5.out.mono HBW.out.size)⟩
                  · have HTF := HTK.out
                    simp only [if_true] at HTF
                    have HTG := Lib.hid HTF
                    clear HTF
                    go_wp2_with fail
                    (with_reducible refine (ladd_r _ l2 p _ (by omega) HP5.out).mono ?_)
                    rintro e w8 ⟨⟨v8, rfl, hp8⟩, hb8⟩
                    rw [← HTG.out] at hp8
                    have HP8 := Lib.hid hp8
                    have HB8 := Lib.hid (HB5.out.trans (hb8.mono HB5.out.size))
                    clear f0 f1 f2 f3 t_p hp8 hb8 HP5 HB5
                    go_wp2
                    go_roundg (S.length - (k + 1))
                    case measure => omega
                    case rel => exact ⟨k + 1, v8, by omega, rfl, rfl, by go_num, HP8, HBW.out.trans (HB8.out.mono HBW.out.size)⟩
                · have hilz : ¬ (k : Int) < (S.length : Int) := by omega
                  obtain rfl : k = S.length := by omega
                  rw [List.take_length] at HP2
                  go_wp2
                  go_roundg gj
                  case measure => omega
                  case rel =>
                    have hlen := askS_len bfC S c l
                    exact ⟨n + 1, _, askS bfC S c l, by omega, rfl, by go_num, by omega, HSN2, HC2, HP2, HBW⟩
            · have h5z : ¬ (l.length : Int) ≤ 500 := by omega
              have h5y : (500 : Int) < (l.length : Int) := by omega
              have hLl : l = L := by rw [← HCL.out]; exact (cloC_big bfC S 500 gk n l (by omega)).symm
              subst hLl
              clear HCL hlA
              obtain ⟨he10, hnil⟩ := HFB.out (by omega)
              subst he10 hnil
              have HBX := Lib.hid (B6.out.trans (HBW.out.mono B6.out.size))
              go_wp2_with fail
              (with_reducible refine (awake13_c _).mono ?_)
              rintro e w7 ⟨rfl, hb7⟩
              have B7 := HBX.out.trans (hb7.mono HBX.out.size)
              clear hb7 HBX HBW
              go_wp2
              go_ret
              exact ⟨rfl, B7⟩
          · have hnz : ¬ (n : Int) < (l.length : Int) := by omega
            have hLl : l = L := by rw [← HCL.out]; exact (cloC_end bfC S 500 gk n l (by omega)).symm
            subst hLl
            clear HCL hlA
            by_cases h5 : l.length ≤ 500
            · have h5z : ¬ (500 : Int) < (l.length : Int) := by omega
              obtain ⟨he0, hpl⟩ := HFS.out h5
              subst he0
              obtain ⟨LL, hLL⟩ : ∃ LL, toldL keyC 129 l = LL := ⟨_, rfl⟩
              rw [hLL] at hpl
              obtain ⟨lA, lc, rfl, hlm, hlA⟩ := hpl.form
              have HLA := Lib.hid hlA
              have HLN := Lib.hid hlm
              have HLE := Lib.hid hLL
              have HBX := Lib.hid (B6.out.trans (HBW.out.mono B6.out.size))
              have HBY := Lib.hid (B26.out.trans (HBW.out.mono B26.out.size))
              clear hpl hlA hlm hLL
              go_wp2_with fail
              (with_reducible refine (told_r _ l _ (by omega) HSN.out HP2.out).mono ?_)
              rintro e w7 ⟨⟨tv7, rfl, hp7⟩, hb7⟩
              rw [HLE.out] at hp7
              obtain ⟨tA, tc, rfl, -, htA⟩ := hp7.form
              have HTA := Lib.hid htA
              have B7 := Lib.hid (HBX.out.trans (hb7.mono HBX.out.size))
              have B27 := Lib.hid (HBY.out.trans (hb7.mono HBY.out.size))
              have hne : ((LL.length : Int) != (LL.length : Int)) = false := by simp
              have hLz : (LL.length : Int) ≤ 9223372036854775807 := by have := HLN.out; unfold maxLen at this; omega
              clear hp7 htA hb7 HBX HBY HBW HP2 HSN HLN
              go_wp2
              clear hne
              go_loopg [16] LL.length (fun gk s16 wr => ∃ k : Nat, k ≤ LL.length ∧ gk = LL.length - k ∧ s16 = .int .i64 k ∧ Hid (Below w7.heap.size w7 wr))
              case atStart => exact ⟨0, Nat.zero_le _, rfl, by go_num, Below.refl _ _⟩
              case round =>
                obtain ⟨k, hk, rfl, rfl, HB⟩ := hrel
                by_cases hlt : k < LL.length
                · have hltz : (k : Int) < (LL.length : Int) := by omega
                  obtain ⟨d, hd⟩ : ∃ d, LL[k]? = some d := ⟨_, List.getElem?_eq_getElem hlt⟩
                  obtain ⟨b, o, rfl, _, hpc⟩ := HLA.out (by rintro rfl; simp at hd)
                  obtain ⟨b2, o2, rfl, _, hpc2⟩ := HTA.out (by rintro rfl; simp at hd)
                  obtain ⟨x0, x1, x2, x3⟩ := hpc k d hd
                  obtain ⟨y0, y1, y2, y3⟩ := hpc2 k d hd
                  have hBK := B27.out.trans (HB.out.mono B27.out.size)
                  replace x0 := on_some hBK x0
                  replace x1 := on_some hBK x1
                  replace x2 := on_some hBK x2
                  replace x3 := on_some hBK x3
                  replace y0 := on_some HB.out y0
                  replace y1 := on_some HB.out y1
                  replace y2 := on_some HB.out y2
                  replace y3 := on_some HB.out y3
                  have he := eq4_self (uv d.vh) (uv d.vl) (uv d.ch) (uv d.cl)
                  clear hd hpc hpc2 hBK
                  go_wp2_with fail
                  go_quiet (fail)
                  have HB2 := Lib.hid (bldrewN HB.out nq)
                  clear HB x0 x1 x2 x3 y0 y1 y2 y3 he
                  generalize wr.drewN nq = w6b at HB2 ⊢
                  clear nq
                  go_wp2
                  go_roundg (LL.length - (k + 1))
                  case measure => omega
                  case rel => exact ⟨k + 1, by omega, rfl, by go_num, HB2⟩
                · have hltz : ¬ (k : Int) < (LL.length : Int) := by omega
                  go_wp2_with fail
                  (with_reducible refine (awake13_c _).mono ?_)
                  rintro e w8 ⟨rfl, hb8⟩
                  have B8 := B7.out.trans ((HB.out.trans (hb8.mono HB.out.size)).mono B7.out.size)
                  clear hb8 HB
                  go_wp2
                  go_ret
                  exact ⟨rfl, B8⟩
            · have h5y : (500 : Int) < (l.length : Int) := by omega
              obtain ⟨he10, hnil⟩ := HFB.out (by omega)
              subst he10 hnil
              have HBX := Lib.hid (B6.out.trans (HBW.out.mono B6.out.size))
              go_wp2_with fail
              (with_reducible refine (awake13_c _).mono ?_)
              rintro e w7 ⟨rfl, hb7⟩
              have B7 := HBX.out.trans (hb7.mono HBX.out.size)
              clear hb7 HBX HBW
              go_wp2
              go_ret
              exact ⟨rfl, B7⟩
  · have hzb : (z == z) = true := by simp
    go_wp2_with fail
    (with_reducible refine (pof_bad _ _ _ _ T ten P Q BB ver z _ (HT.out.on B0.out) (HP.out.on B0.out) (HQ.out.on B0.out) (HBQ.out.on B0.out) HWZ.out hz0).mono ?_)
    rintro e w2 ⟨rfl, hb2⟩
    have B2 := Lib.hid (B0.out.trans (hb2.mono B0.out.size))
    have N2 := Lib.hid (N0.out.on hb2)
    clear hb2 B0 N0 d0 d1 d2 d3 d4
    obtain ⟨d0, d1, d2, d3, d4⟩ := N2.out.five
    go_wp2_with fail
    (with_reducible refine (wrong_r _ _ _ _ T ten P Q BB ver z _ (HT.out.on B2.out) (HP.out.on B2.out) (HQ.out.on B2.out) (HBQ.out.on B2.out) HWZ.out).mono ?_)
    rintro e w3 ⟨rfl, hb3⟩
    have B3 := Lib.hid (B2.out.trans (hb3.mono B2.out.size))
    clear hb3 B2 N2 d0 d1 d2 d3 d4
    go_wp2_with fail
    (with_reducible refine (awake13_c _).mono ?_)
    rintro e w4 ⟨rfl, hb4⟩
    have B4 := B3.out.trans (hb4.mono B3.out.size)
    clear hb4
    go_wp2
    go_ret
    exact ⟨rfl, B4⟩
end Go.Proofs

namespace Go.Proofs.Ytanliiopdhjhjaa
open Go.ChangeShapes Go.WideShapes Go.ChangeAt Go.RowKit Go.Joins Go.Proofs.Hd

theorem laidOut_pso : laidOutB Try.prog = true := by kernel_rfl
set_option maxRecDepth 100000 in
theorem pso_lifted (os : Os) (started : os.Started) (H : Type) (enc : TypeId × Value → H) :
    ReturnsInHanded {} Try.checked os 4 .any (Rows.predsOfSpec.pre6 enc Try.prog Try.f4 Rows.predsOfRow.domain false) (Rows.predsOfSpec.post enc Try.prog Try.f4 false true false false) := by
  refine returnsInHanded_of_change_sized (C := Try.checked) own started (by kernel_rfl) Try.func4
    (ChangeSpec.witness6 (enc := enc) (C := Try.checked) false ⟨#[], #[.agg #[.slice none 0 0, .int .i64 0, .slice none 0 0, .slice none 0 0, .slice none 0 0], .int .i64 0], []⟩ 8 (by kernel_rfl) (by kernel_rfl) (by kernel_rfl) (by kernel_rfl)) ?_
  intro W base args ds gs before hval0 hW hcnd hsz _
  have hval : ∀ (j : Nat) t v, Try.f4.params[j]? = some t → args[j]? = some v → Value.okWide Try.prog W .any base t v := hval0
  have hW' := hW
  obtain ⟨p, q, hA0, hV, rfl, hfz, hnd⟩ := hW
  have hA : DataW.TrodAll enc Try.prog W 0 (fun _ => true) true Try.f4.params.toList args.toList ds p := hA0
  rw [Try.params4] at hA hval
  obtain ⟨v0, vs0, d0, ds0, p0, q0, hargs, rfl, rfl, h0, r0⟩ := trodAll_cons hA
  obtain ⟨v1, vs1, d1, ds1, p1, q1, rfl, rfl, rfl, h1, r1⟩ := trodAll_cons r0
  obtain ⟨rfl, rfl, rfl⟩ := trodAll_nil r1
  obtain rfl : args = #[v0, v1] := by cases args; simp_all
  obtain ⟨rfl, rfl⟩ := trodVars_none hV
  have k0 := h0
  have lt0 : ∀ x ∈ p0, x.block < W.heap.size := by obtain ⟨m, hm⟩ := k0; exact DataW.trod_lt m _ _ _ hm
  obtain ⟨ctv, cT, cn, cpv, cP, cwv, cQ, cbv, cB, rfl, chT, chP, chQ, chB, cz⟩ := open_cfg (hval 0 31 v0 rfl rfl) h0
  have cs := cz fun m hm => by simpa using List.all_eq_true.1 hsz m (DataW.weights_mem_each (j := 0) (t := 31) (by rw [Try.params4]; rfl) rfl m hm)
  obtain ⟨n, rfl, rfl, rfl, wf1⟩ := open_int Try.underlying3 (hval 1 3 v1 rfl rfl) h1
  clear hA0 hval0
  obtain ⟨bn1, bn2⟩ := bounds_i64 wf1
  refine (psof_c ctv cpv cwv cbv cT cn cP cQ cB n W chT chP chQ chB cs).mono fun e W' ⟨he, hg⟩ => ?_
  subst he
  exact ⟨_, rfl, _, _, _, [], _, [], hW', trodAll_mk1 (shut_bool Try.underlying4 _), (trodAll_cons_mk (Below.trod laidOut_pso (by kernel_rfl) (of_decide_eq_true (by kernel_rfl)) k0 hg lt0) (trodAll_cons_mk (shut_int Try.underlying3 wf1) trodAll_mk0)), rfl, hg.frame _, (fun h => by cases h)⟩

theorem pso_holds : Rows.PredsOfSaid :=
  OpenClaim.holds_of_wide 4 Try.f4 rfl rfl rfl rfl rfl rfl rfl ⟨rfl, rfl, rfl, rfl, rfl⟩ rfl rfl rfl rfl rfl (by kernel_rfl) Try.func4 (by kernel_rfl)
    (of_decide_eq_true (by kernel_rfl)) (by unfold Func.isWrapper; first | (rw [if_pos (by decide +kernel)]; kernel_rfl) | (rw [if_neg (by decide +kernel)]; exact ⟨rfl, rfl⟩))
    (fun os started H enc _ => pso_lifted os started H enc)
#print axioms pso_holds
end Go.Proofs.Ytanliiopdhjhjaa
