/-
  customhouselaw13.PredsClosed returns true for every input within the sizes of memory, and each argument reads behind the call as before. No conditions.
  The walk of customhouselaw13.PredsSets: it returns true. Conditions as the theorem lists them.
  The walk of customhouselaw13.PredsOf: it returns true. Conditions as the theorem lists them.
  The walk of customhouselaw13.PredsClosed: it returns true. Conditions as the theorem lists them.
-/
import Derived.Test.YtanliiopdhjhjaaJ14
import Derived.BigQuiet
import Derived.OrdersHeld
import Derived.Test.YtanliiopdhjhjaaRows
import Derived.Below
import Derived.SizedLaws
namespace Go.Proofs.Hd
open Go.RowKit
end Go.Proofs.Hd
namespace Go.Proofs
open Go.RowKit Go.Proofs.Hd Go.Lib
attribute [local go_sem] uv_nonneg
attribute [local go_sem high] run_eq4
end Go.Proofs

namespace Go.Proofs.Hd
open Go Go.RowKit Go.Proofs
/-- What Of answers for a sound configuration, in one form. -/
theorem OfR.one {w : World} {L : List Cb} {e : Ending} {w' : World} (h : OfR w L e w') : ∃ (lv : Value) (ez : Int), e = .returned (.tuple #[lv, .int .i64 ez]) ∧ (L.length ≤ 500 → ez = 0 ∧ Pl w' lv (toldL keyC 129 L)) ∧ (500 < L.length → ez = 10 ∧ lv = .slice none 0 0) ∧ Below w.heap.size w w' := by
  obtain ⟨h1, h2, h3⟩ := h
  by_cases h5 : L.length ≤ 500
  · obtain ⟨v, rfl, hp⟩ := h1 h5
    exact ⟨v, 0, rfl, fun _ => ⟨rfl, hp⟩, fun h => absurd h (by omega), h3⟩
  · have := h2 (by omega)
    subst this
    exact ⟨_, 10, rfl, fun h => absurd h h5, fun _ => ⟨rfl, rfl⟩, h3⟩
end Go.Proofs.Hd
namespace Go.Proofs
open Go.RowKit Go.Proofs.Hd Go.Lib
attribute [local go_sem] uv_nonneg
attribute [local go_sem high] run_eq4
end Go.Proofs

namespace Go.Proofs.Hd
open Go Go.RowKit Go.Proofs
theorem told_key {α : Type} {key : α → Nat} {l : List α} {x : α} : ∀ {N : Nat}, x ∈ toldL key N l → key x < N
  | 0, h => by cases h
  | N + 1, h => by
    rw [toldL_snoc] at h
    rcases List.mem_append.1 h with h | h
    · exact Nat.lt_succ_of_lt (told_key h)
    · have := (List.mem_filter.1 h).2
      simp only [decide_eq_true_eq] at this
      omega
theorem told_nodup {α : Type} {key : α → Nat} {l : List α} (h : l.Nodup) : ∀ N : Nat, (toldL key N l).Nodup
  | 0 => List.nodup_nil
  | N + 1 => by
    rw [toldL_snoc]
    refine List.nodup_append.2 ⟨told_nodup h N, h.filter _, fun a ha b hb e => ?_⟩
    subst e
    have h1 := told_key ha
    have h2 := (List.mem_filter.1 hb).2
    simp only [decide_eq_true_eq] at h2
    omega
theorem eq4_neq {d c : Cb} (h : d ≠ c) : eq4 (uv d.vh) (uv d.vl) (uv d.ch) (uv d.cl) (uv c.vh) (uv c.vl) (uv c.ch) (uv c.cl) = false := by
  cases he : eq4 (uv d.vh) (uv d.vl) (uv d.ch) (uv d.cl) (uv c.vh) (uv c.vl) (uv c.ch) (uv c.cl)
  · rfl
  · exact absurd (eq4_eq he) h
/-- What holds of all that is asked, as it is told: each once, sound, closed under what is set. -/
theorem told_facts {T : List (List Pt)} {ten : Int} {P : List (Int × Int)} {Q : List Wa} {BB : List (List (List Rl))} {m : Nat} {L : List Cb} (hc : cfgT T ten P Q BB = 0) (hL : cloC bfC (allS T BB m) 500 501 0 (mtcL BB) = L) (h5 : L.length ≤ 500) :
    (toldL keyC 129 L).Nodup ∧ (∀ x, x ∈ toldL keyC 129 L → x.snd = true) ∧ (∀ c s p, c ∈ toldL keyC 129 L → s ∈ allS T BB m → bfC c s = some p → p ∈ toldL keyC 129 L) ∧ (∀ x, x ∈ mtcL BB → x ∈ toldL keyC 129 L) := by
  have hk : ∀ x, x ∈ L → keyC x < 129 := fun x _ => keyC_lt x
  have hnd : L.Nodup := by
    rw [← hL]
    exact cloC_nodup bfC _ _ _ _ _ (addsC_nodup List.nodup_nil)
  have hs : ∀ x, x ∈ L → x.snd = true := by
    rw [← hL]
    exact cloC_ok bfC _ _ (fun _ _ _ _ _ h => bfC_snd h) _ _ _ (fun x hx => mtcL_snd hc hx)
  have hcl : ∀ c s p, c ∈ L → s ∈ allS T BB m → bfC c s = some p → p ∈ L := by
    have := cloC_closed bfC (allS T BB m) 500 501 0 (mtcL BB) (by omega) (fun j c s p hj => absurd hj (Nat.not_lt_zero _))
    rw [hL] at this
    exact fun c s p h1 h2 h3 => this h5 c s p h1 h2 h3
  have hp : ∀ x, x ∈ mtcL BB → x ∈ L := fun x hx => by
    have := cloC_pre bfC (allS T BB m) 500 501 0 (mtcL BB)
    rw [hL] at this
    exact this.subset hx
  refine ⟨told_nodup hnd 129, fun x hx => hs x ((toldL_mem hk).1 hx), fun c s p h1 h2 h3 => (toldL_mem hk).2 (hcl c s p ((toldL_mem hk).1 h1) h2 h3), fun x hx => (toldL_mem hk).2 (hp x hx)⟩
end Go.Proofs.Hd
namespace Go.Proofs
open Go.RowKit Go.Proofs.Hd Go.Lib
attribute [local go_sem] uv_nonneg
attribute [local go_sem high] run_eq4
set_option maxHeartbeats 16000000 in
set_option maxRecDepth 100000 in
theorem pscl_c (tv pv wv bv : Value) (T : List (List Pt)) (ten : Int) (P : List (Int × Int)) (Q : List Wa) (BB : List (List (List Rl))) (m : Nat) (w : World) (hT : PsT w tv T) (hP : Pe w pv P) (hQ : Wy w wv Q) (hB : RuQ w bv BB) (hz : Szd T P Q BB) (hm : m ≤ 255) : Calls Try.prog 6 #[.agg #[tv, .int .i64 ten, pv, wv, bv], .int .u8 (m : Int)] w fun e w' => e = .returned (.bool true) ∧ Below w.heap.size w w' := by
  have HT := Lib.hid hT
  have HP := Lib.hid hP
  have HQ := Lib.hid hQ
  have HBQ := Lib.hid hB
  have HR5 := Lib.hid hz.r
  obtain ⟨A, cap, rfl, -, -⟩ := hT
  obtain ⟨pA, pc, rfl, -, -⟩ := hP
  obtain ⟨wA, wc, rfl, -, -⟩ := hQ
  obtain ⟨bA, bc, rfl, -, -⟩ := hB
  have B0 := Lib.hid (below1 w (.cells #[.slice A T.length cap, .int .i64 ten, .slice pA P.length pc, .slice wA Q.length wc, .slice bA BB.length bc] 31))
  have N0 : Hid (Blk (w.alloc (.cells #[.slice A T.length cap, .int .i64 ten, .slice pA P.length pc, .slice wA Q.length wc, .slice bA BB.length bc] 31)) w.heap.size 31 #[.slice A T.length cap, .int .i64 ten, .slice pA P.length pc, .slice wA Q.length wc, .slice bA BB.length bc]) := Blk.new w _ _
  obtain ⟨y, hwy⟩ : ∃ y, cfgT T ten P Q BB = y := ⟨_, rfl⟩
  have HWY := Lib.hid hwy
  have hmz : (m : Int) ≤ 255 := by omega
  clear hz hwy
  go_enter Try.func6, Try.ntmps6
  go_upto_region 1 with (fail)
  generalize (w.alloc (.cells #[.slice A T.length cap, .int .i64 ten, .slice pA P.length pc, .slice wA Q.length wc, .slice bA BB.length bc] 31)) = w1 at B0 N0 ⊢
  obtain ⟨d0, d1, d2, d3, d4⟩ := N0.out.five
  by_cases hy0 : y = 0
  · subst hy0
    obtain ⟨L, hL⟩ : ∃ L, cloC bfC (allS T BB m) 500 501 0 (mtcL BB) = L := ⟨_, rfl⟩
    have HL := Lib.hid hL
    go_wp2_with fail
    (with_reducible refine (pof_ok _ _ _ _ T ten P Q BB m L _ (HT.out.on B0.out) (HP.out.on B0.out) (HQ.out.on B0.out) (HBQ.out.on B0.out) HWY.out hm HR5.out hL).mono ?_)
    rintro e w2 hof
    obtain ⟨lv, ez, rfl, hfs, hfb, hb2⟩ := hof.one
    have HFS := Lib.hid hfs
    have HFB := Lib.hid hfb
    have B2 := Lib.hid (B0.out.trans (hb2.mono B0.out.size))
    have N2 := Lib.hid (N0.out.on hb2)
    clear hof hfs hfb hb2 hL B0 N0 d0 d1 d2 d3 d4
    obtain ⟨d0, d1, d2, d3, d4⟩ := N2.out.five
    go_wp2_with fail
    (with_reducible refine (psets_ok _ _ _ _ T ten P Q BB m _ (HT.out.on B2.out) (HP.out.on B2.out) (HQ.out.on B2.out) (HBQ.out.on B2.out) HWY.out hm HR5.out).mono ?_)
    rintro e w3 ⟨sv, rfl, OS, hb3⟩
    have HSS := Lib.hid (fun c (h : c ∈ allS T BB m) => allS_snd HWY.out h)
    have hS6 := allS_len HWY.out HR5.out m
    have HTF := Lib.hid (told_facts HWY.out HL.out)
    obtain ⟨S, hSE⟩ : ∃ S, allS T BB m = S := ⟨_, rfl⟩
    rw [hSE] at OS HSS hS6 HTF
    obtain ⟨sA, sc, rfl, -, hSA⟩ := (own_Pl OS).form
    have HSA := Lib.hid hSA
    have B3 := Lib.hid (B2.out.trans (hb3.mono B2.out.size))
    have HFS3 : Hid (L.length ≤ 500 → ez = 0 ∧ Pl w3 lv (toldL keyC 129 L)) := fun h => ⟨(HFS.out h).1, (HFS.out h).2.on hb3⟩
    clear OS hSA hSE hb3 B2 N2 d0 d1 d2 d3 d4 HL HFS HT HP HQ HBQ HR5 HWY
    by_cases h5 : L.length ≤ 500
    · obtain ⟨he0, hpl⟩ := HFS3.out h5
      subst he0
      obtain ⟨hnd, hsn, hcl, -⟩ := HTF.out h5
      have hlen : (toldL keyC 129 L).length ≤ 1000000 := by
        have h1 := told_len keyC L 129
        have h2 : 129 * L.length ≤ 129 * 500 := Nat.mul_le_mul (Nat.le_refl _) h5
        omega
      obtain ⟨LL, hLL⟩ : ∃ LL, toldL keyC 129 L = LL := ⟨_, rfl⟩
      rw [hLL] at hpl hnd hsn hcl hlen
      obtain ⟨lA, lc, rfl, -, hlA⟩ := hpl.form
      have HLA3 := Lib.hid hlA
      have HPL3 := Lib.hid hpl
      have HND := Lib.hid hnd
      have HSN := Lib.hid hsn
      have HCL := Lib.hid hcl
      have HLN := Lib.hid hlen
      clear hpl hnd hsn hcl hlA hLL HTF HFS3 HFB h5
      go_wp2_with fail
      (with_reducible refine (awake13_c _).mono ?_)
      rintro e w4 ⟨rfl, hb4⟩
      have B4 := Lib.hid (B3.out.trans (hb4.mono B3.out.size))
      have HPL4 := Lib.hid (HPL3.out.on hb4)
      have HLA4 : Hid (LL ≠ [] → ∃ b off, lA = some ⟨b, off, none⟩ ∧ ∀ (k : Nat) (c : Cb), LL[k]? = some c → At4 w4 b (off + k * 4) c) := fun h => by obtain ⟨b, off, e, _, h2⟩ := HLA3.out h; exact ⟨b, off, e, fun k c hk => by obtain ⟨x0, x1, x2, x3⟩ := h2 k c hk; exact ⟨on_some hb4 x0, on_some hb4 x1, on_some hb4 x2, on_some hb4 x3⟩⟩
      have HSA4 : Hid (S ≠ [] → ∃ b off, sA = some ⟨b, off, none⟩ ∧ ∀ (k : Nat) (c : Cb), S[k]? = some c → At4 w4 b (off + k * 4) c) := fun h => by obtain ⟨b, off, e, _, h2⟩ := HSA.out h; exact ⟨b, off, e, fun k c hk => by obtain ⟨x0, x1, x2, x3⟩ := h2 k c hk; exact ⟨on_some hb4 x0, on_some hb4 x1, on_some hb4 x2, on_some hb4 x3⟩⟩
      clear hb4 B3 HPL3 HLA3 HSA
      go_wp2
      go_loopg [9] LL.length (fun gk s9 wr => ∃ i : Nat, i ≤ LL.length ∧ gk = LL.length - i ∧ s9 = .int .i64 i ∧ Hid (Below w4.heap.size w4 wr))
      case atStart => exact ⟨0, Nat.zero_le _, rfl, by go_num, Below.refl _ _⟩
      case round =>
        obtain ⟨i, hi, rfl, rfl, HBW⟩ := hrel
        have hLz : (LL.length : Int) ≤ 1000000 := by have := HLN.out; omega
        by_cases hlt : i < LL.length
        · have hltz : (i : Int) < (LL.length : Int) := by omega
          obtain ⟨c, hc⟩ : ∃ c, LL[i]? = some c := ⟨_, List.getElem?_eq_getElem hlt⟩
          obtain ⟨b, o, rfl, hpc⟩ := HLA4.out (by rintro rfl; simp at hc)
          have HC := Lib.hid hc
          have HPC := Lib.hid hpc
          clear hc hpc
          go_wp2
          go_loopg [10] i (fun gk s10 wr => ∃ k : Nat, k ≤ i ∧ gk = i - k ∧ s10 = .int .i64 k ∧ Hid (Below w4.heap.size w4 wr))
          case atStart => exact ⟨0, Nat.zero_le _, rfl, by go_num, HBW⟩
          case round =>
            clear HBW
            obtain ⟨k, hk, rfl, rfl, HBW⟩ := hrel
            by_cases hki : k < i
            · have hkiz : (k : Int) < (i : Int) := by omega
              have hklz : (k : Int) < (LL.length : Int) := by omega
              obtain ⟨d, hd⟩ : ∃ d, LL[k]? = some d := ⟨_, List.getElem?_eq_getElem (by omega)⟩
              obtain ⟨x0, x1, x2, x3⟩ := HPC.out i c HC.out
              obtain ⟨y0, y1, y2, y3⟩ := HPC.out k d hd
              replace x0 := on_some HBW.out x0
              replace x1 := on_some HBW.out x1
              replace x2 := on_some HBW.out x2
              replace x3 := on_some HBW.out x3
              replace y0 := on_some HBW.out y0
              replace y1 := on_some HBW.out y1
              replace y2 := on_some HBW.out y2
              replace y3 := on_some HBW.out y3
              have hcd : c ≠ d := by
                have h1 := List.pairwise_iff_getElem.1 HND.out k i (by omega) (by omega) hki
                have h2 := (List.getElem?_eq_some_iff.1 HC.out).2
                have h3 := (List.getElem?_eq_some_iff.1 hd).2
                rw [h2, h3] at h1
                exact fun e => h1 e.symm
              have he := eq4_neq hcd
              clear hd hcd
              go_wp2_with fail
              go_quiet (fail)
              have HB2 := Lib.hid (bldrewN HBW.out nq)
              clear HBW x0 x1 x2 x3 y0 y1 y2 y3 he
              generalize wr.drewN nq = w6 at HB2 ⊢
              clear nq
              go_wp2
              go_roundg (i - (k + 1))
              case measure => omega
              case rel => exact ⟨k + 1, by omega, rfl, by go_num, HB2⟩
            · have hkiz : ¬ (k : Int) < (i : Int) := by omega
              clear hk hki
              go_wp2
              go_loopg [11] S.length (fun gk s11 wr => ∃ k : Nat, k ≤ S.length ∧ gk = S.length - k ∧ s11 = .int .i64 k ∧ Hid (Below w4.heap.size w4 wr))
              case atStart => exact ⟨0, Nat.zero_le _, rfl, by go_num, HBW⟩
              case round =>
                clear HBW hkiz
                obtain ⟨k, hk, rfl, rfl, HBW⟩ := hrel
                by_cases hil : k < S.length
                · have hilz : (k : Int) < (S.length : Int) := by omega
                  obtain ⟨s, hs⟩ : ∃ s, S[k]? = some s := ⟨_, List.getElem?_eq_getElem hil⟩
                  obtain ⟨bs, os, rfl, hsc⟩ := HSA4.out (by rintro rfl; simp at hs)
                  obtain ⟨y0, y1, y2, y3⟩ := hsc k s hs
                  obtain ⟨x0, x1, x2, x3⟩ := HPC.out i c HC.out
                  have HSD := Lib.hid (HSS.out s (List.mem_of_getElem? hs))
                  have HCS := Lib.hid (HSN.out c (List.mem_of_getElem? HC.out))
                  obtain ⟨x, hx⟩ : ∃ x, c.agr s = x := ⟨_, rfl⟩
                  obtain ⟨p, hp1, hp0⟩ : ∃ p, (x = true → p = Cb.bef c s) ∧ (x = false → p = Cb.zero) := by
                    cases x
                    · exact ⟨Cb.zero, ⟨fun h => (by cases h), fun _ => rfl⟩⟩
                    · exact ⟨Cb.bef c s, ⟨fun _ => rfl, fun h => (by cases h)⟩⟩
                  have HCT : Hid (∀ W : World, Calls Try.prog 14 #[.agg #[.int .u64 (uv c.vh), .int .u64 (uv c.vl), .int .u64 (uv c.ch), .int .u64 (uv c.cl)], .agg #[.int .u64 (uv s.vh), .int .u64 (uv s.vl), .int .u64 (uv s.ch), .int .u64 (uv s.cl)]] W fun e w' => e = .returned (.tuple #[.agg #[.int .u64 (uv p.vh), .int .u64 (uv p.vl), .int .u64 (uv p.ch), .int .u64 (uv p.cl)], .bool x]) ∧ Below W.heap.size W w') := fun W => lbef_r c s x p W HCS.out HSD.out hx hp1 hp0
                  have HIN : Hid (x = true → p ∈ LL) := fun h => by
                    subst h
                    rw [hp1 rfl]
                    exact HCL.out c s _ (List.mem_of_getElem? HC.out) (List.mem_of_getElem? hs) (bfC_some HCS.out hx)
                  have HPL := HPL4
                  obtain ⟨w9, rfl⟩ : ∃ W : World, W = wr := ⟨_, rfl⟩
                  replace y0 := on_some HBW.out y0
                  replace y1 := on_some HBW.out y1
                  replace y2 := on_some HBW.out y2
                  replace y3 := on_some HBW.out y3
                  replace x0 := on_some HBW.out x0
                  replace x1 := on_some HBW.out x1
                  replace x2 := on_some HBW.out x2
                  replace x3 := on_some HBW.out x3
                  have KP : ∀ W, Below w9.heap.size w9 W → (Below w9.heap.size w9 W ∧ W.cell? ⟨b, o + i * 4, none⟩ = some (.int .u64 (uv c.vh)) ∧ W.cell? ⟨b, o + i * 4 + 1, none⟩ = some (.int .u64 (uv c.vl)) ∧ W.cell? ⟨b, o + i * 4 + 2, none⟩ = some (.int .u64 (uv c.ch)) ∧ W.cell? ⟨b, o + i * 4 + 3, none⟩ = some (.int .u64 (uv c.cl)) ∧ W.cell? ⟨bs, os + k * 4, none⟩ = some (.int .u64 (uv s.vh)) ∧ W.cell? ⟨bs, os + k * 4 + 1, none⟩ = some (.int .u64 (uv s.vl)) ∧ W.cell? ⟨bs, os + k * 4 + 2, none⟩ = some (.int .u64 (uv s.ch)) ∧ W.cell? ⟨bs, os + k * 4 + 3, none⟩ = some (.int .u64 (uv s.cl))) := fun W hb => ⟨hb, on_some hb x0, on_some hb x1, on_some hb x2, on_some hb x3, on_some hb y0, on_some hb y1, on_some hb y2, on_some hb y3⟩
                  have HKP := Lib.hid KP
                  clear KP hs hsc y0 y1 y2 y3 x0 x1 x2 x3 hx hp1 hp0
                  go_upto_region 16 with (fail)
                  refine wp_region_held_drew (S := fun w' => Below w9.heap.size w9 w' ∧ w'.cell? ⟨b, o + i * 4, none⟩ = some (.int .u64 (uv c.vh)) ∧ w'.cell? ⟨b, o + i * 4 + 1, none⟩ = some (.int .u64 (uv c.vl)) ∧ w'.cell? ⟨b, o + i * 4 + 2, none⟩ = some (.int .u64 (uv c.ch)) ∧ w'.cell? ⟨b, o + i * 4 + 3, none⟩ = some (.int .u64 (uv c.cl)) ∧ w'.cell? ⟨bs, os + k * 4, none⟩ = some (.int .u64 (uv s.vh)) ∧ w'.cell? ⟨bs, os + k * 4 + 1, none⟩ = some (.int .u64 (uv s.vl)) ∧ w'.cell? ⟨bs, os + k * 4 + 2, none⟩ = some (.int .u64 (uv s.ch)) ∧ w'.cell? ⟨bs, os + k * 4 + 3, none⟩ = some (.int .u64 (uv s.cl))) (by kernel_rfl) (HKP.out _ (Below.refl _ w9).drew) (fun hHeld => ?_)
                  have hB : Below w9.heap.size w9 w9.drew := (Below.refl _ w9).drew
                  generalize w9.drew = u0 at hHeld hB ⊢
                  refine wpAnyH_take (i := 0) (oi := ⟨some 66, _, _, _, _, _⟩) (v := ?vs0_1) rfl (by kernel_rfl) (by kernel_rfl) (by kernel_rfl) (fun _ _ _ h => h) (Or.inl ⟨by rfl, ?ys0_1⟩) hHeld ?rs0_1
                  case ys0_1 => (intro w' hSw; (try dsimp only at hSw); go_simp; try (with_reducible rfl))
                  simp only [Act.put, List.setIfInBounds_toArray, List.set_cons_zero, List.set_cons_succ]
                  refine wpAnyH_take (i := 1) (oi := ⟨some 67, _, _, _, _, _⟩) (v := ?vs1_2) rfl (by kernel_rfl) (by kernel_rfl) (by kernel_rfl) (fun _ _ _ h => h) (Or.inl ⟨by rfl, ?ys1_2⟩) hHeld ?rs1_2
                  case ys1_2 => (intro w' hSw; (try dsimp only at hSw); go_simp; try (with_reducible rfl))
                  simp only [Act.put, List.setIfInBounds_toArray, List.set_cons_zero, List.set_cons_succ]
                  refine wpAnyH_take (i := 2) (oi := ⟨some 68, _, _, _, _, _⟩) (v := ?vs2_3) rfl (by kernel_rfl) (by kernel_rfl) (by kernel_rfl) (fun _ _ _ h => h) (Or.inl ⟨by rfl, ?ys2_3⟩) hHeld ?rs2_3
                  case ys2_3 => (intro w' hSw; (try dsimp only at hSw); go_simp; try (with_reducible rfl))
                  simp only [Act.put, List.setIfInBounds_toArray, List.set_cons_zero, List.set_cons_succ]
                  refine wpAnyH_take (i := 3) (oi := ⟨some 69, _, _, _, _, _⟩) (v := ?vs3_4) rfl (by kernel_rfl) (by kernel_rfl) (by kernel_rfl) (fun _ _ _ h => h) (Or.inl ⟨by rfl, ?ys3_4⟩) hHeld ?rs3_4
                  case ys3_4 => (intro w' hSw; (try dsimp only at hSw); go_simp; try (with_reducible rfl))
                  simp only [Act.put, List.setIfInBounds_toArray, List.set_cons_zero, List.set_cons_succ]
                  refine wpAnyH_take (i := 4) (oi := ⟨some 70, _, _, _, _, _⟩) (v := ?vs4_5) rfl (by kernel_rfl) (by kernel_rfl) (by kernel_rfl) (fun _ _ _ h => h) (Or.inl ⟨by rfl, ?ys4_5⟩) hHeld ?rs4_5
                  case ys4_5 => (intro w' hSw; (try dsimp only at hSw); go_simp; try (with_reducible rfl))
                  simp only [Act.put, List.setIfInBounds_toArray, List.set_cons_zero, List.set_cons_succ]
                  refine wpAnyH_take (i := 5) (oi := ⟨some 71, _, _, _, _, _⟩) (v := ?vs5_6) rfl (by kernel_rfl) (by kernel_rfl) (by kernel_rfl) (fun _ _ _ h => h) (Or.inl ⟨by rfl, ?ys5_6⟩) hHeld ?rs5_6
                  case ys5_6 => (intro w' hSw; (try dsimp only at hSw); go_simp; try (with_reducible rfl))
                  simp only [Act.put, List.setIfInBounds_toArray, List.set_cons_zero, List.set_cons_succ]
                  refine wpAnyH_take (i := 6) (oi := ⟨some 72, _, _, _, _, _⟩) (v := ?vs6_7) rfl (by kernel_rfl) (by kernel_rfl) (by kernel_rfl) (fun _ _ _ h => h) (Or.inl ⟨by rfl, ?ys6_7⟩) hHeld ?rs6_7
                  case ys6_7 => (intro w' hSw; (try dsimp only at hSw); go_simp; try (with_reducible rfl))
                  simp only [Act.put, List.setIfInBounds_toArray, List.set_cons_zero, List.set_cons_succ]
                  refine wpAnyH_take (i := 7) (oi := ⟨some 73, _, _, _, _, _⟩) (v := ?vs7_8) rfl (by kernel_rfl) (by kernel_rfl) (by kernel_rfl) (fun _ _ _ h => h) (Or.inl ⟨by rfl, ?ys7_8⟩) hHeld ?rs7_8
                  case ys7_8 => (intro w' hSw; (try dsimp only at hSw); go_simp; try (with_reducible rfl))
                  simp only [Act.put, List.setIfInBounds_toArray, List.set_cons_zero, List.set_cons_succ]
                  refine wpAnyH_ready (rs := [8, 12]) (by kernel_rfl) (by simp) ?_
                  refine AllReadyH.cons (o := ⟨some 74, _, _, _, _, _⟩) rfl (fun K hK => ?_) ?_
                  · go_simp
                    (with_reducible refine (HCT.out u0).mono ?_)
                    rintro e u1 ⟨rfl, hb⟩
                    (try dsimp only)
                    have hB2 := hB.trans (hb.mono hB.size)
                    refine hK.out _ _ (HKP.out _ hB2) (fun hNext => ?_)
                    clear hK K hHeld
                    have hHeld := hNext
                    clear hNext
                    clear hB
                    have hB := hB2
                    clear hB2
                    clear hb
                    try simp only [Act.put, List.setIfInBounds_toArray, List.set_cons_zero, List.set_cons_succ]
                    refine wpAnyH_take (i := 9) (oi := ⟨some 65, _, _, _, _, _⟩) (v := ?vs9_9) rfl (by kernel_rfl) (by kernel_rfl) (by kernel_rfl) (fun _ _ _ h => h) (Or.inl ⟨by rfl, ?ys9_9⟩) hHeld ?rs9_9
                    case ys9_9 => (intro w' hSw; (try dsimp only at hSw); go_simp; try (with_reducible rfl))
                    simp only [Act.put, List.setIfInBounds_toArray, List.set_cons_zero, List.set_cons_succ]
                    refine wpAnyH_take (i := 10) (oi := ⟨some 75, _, _, _, _, _⟩) (v := ?vs10_10) rfl (by kernel_rfl) (by kernel_rfl) (by kernel_rfl) (fun _ _ _ h => h) (Or.inl ⟨by rfl, ?ys10_10⟩) hHeld ?rs10_10
                    case ys10_10 => (intro w' hSw; (try dsimp only at hSw); go_simp; try (with_reducible rfl))
                    simp only [Act.put, List.setIfInBounds_toArray, List.set_cons_zero, List.set_cons_succ]
                    refine wpAnyH_take (i := 11) (oi := ⟨some 76, _, _, _, _, _⟩) (v := ?vs11_11) rfl (by kernel_rfl) (by kernel_rfl) (by kernel_rfl) (fun _ _ _ h => h) (Or.inl ⟨by rfl, ?ys11_11⟩) hHeld ?rs11_11
                    case ys11_11 => (intro w' hSw; (try dsimp only at hSw); go_simp; try (with_reducible rfl))
                    simp only [Act.put, List.setIfInBounds_toArray, List.set_cons_zero, List.set_cons_succ]
                    refine wpAnyH_ready (rs := [12]) (by kernel_rfl) (by simp) ?_
                    refine AllReadyH.cons (o := ⟨some 12, _, _, _, _, _⟩) rfl (fun K hK => ?_) AllReadyH.nil
                    go_simp
                    have hb := below1 u1 (.cells #[.int .u64 0, .int .u64 0, .int .u64 0, .int .u64 0] 43)
                    have hB2 := hB.trans (hb.mono hB.size)
                    refine hK.out _ _ (HKP.out _ hB2) (fun hNext => ?_)
                    have t_p : Nb w9.heap.size (u1.alloc (.cells #[.int .u64 0, .int .u64 0, .int .u64 0, .int .u64 0] 43)) u1.heap.size 43 #[.int .u64 0, .int .u64 0, .int .u64 0, .int .u64 0] := Nb.top u1 hB.size
                    clear hK K hHeld
                    have hHeld := hNext
                    clear hNext
                    clear hB
                    have hB := hB2
                    clear hB2
                    clear hb
                    generalize hgen : (u1.alloc (.cells #[.int .u64 0, .int .u64 0, .int .u64 0, .int .u64 0] 43)) = u2 at hHeld hB  t_p ⊢
                    clear hgen
                    generalize hgen : u1.heap.size = b_p at t_p  ⊢
                    clear hgen
                    try simp only [Act.put, List.setIfInBounds_toArray, List.set_cons_zero, List.set_cons_succ]
                    refine wpAnyH_ready (rs := [13]) (by kernel_rfl) (by simp) ?_
                    refine AllReadyH.cons (o := ⟨none, _, _, _, _, _⟩) rfl (fun K hK => ?_) AllReadyH.nil
                    rw [if_pos (by rfl)]
                    refine wp_store_mid 43 _ _ rfl b_p 0 #[.int .u64 (uv p.vh), .int .u64 (uv p.vl), .int .u64 (uv p.ch), .int .u64 (uv p.cl)] rfl rfl t_p.there infoCubeS (by simp [Value.oneCell']) ?_
                    (try dsimp only)
                    have hB2 := (Below.setCells [.int .u64 (uv p.vh), .int .u64 (uv p.vl), .int .u64 (uv p.ch), .int .u64 (uv p.cl)] 0 _ hB t_p.2)
                    refine hK.out _ _ (HKP.out _ hB2) (fun hNext => ?_)
                    clear hK K hHeld
                    have hHeld := hNext
                    clear hNext
                    clear hB
                    have hB := hB2
                    clear hB2
                    replace t_p := t_p.put [.int .u64 (uv p.vh), .int .u64 (uv p.vl), .int .u64 (uv p.ch), .int .u64 (uv p.cl)] rfl
                    generalize hgen : (World.setCells u2 b_p 0 [.int .u64 (uv p.vh), .int .u64 (uv p.vl), .int .u64 (uv p.ch), .int .u64 (uv p.cl)]) = u3 at hHeld hB t_p ⊢
                    clear hgen
                    try simp only [Act.put]
                    refine wpAnyH_take (i := 14) (oi := ⟨some 13, _, _, _, _, _⟩) (v := ?vs14_12) rfl (by kernel_rfl) (by kernel_rfl) (by kernel_rfl) (fun _ _ _ h => h) (Or.inl ⟨by rfl, ?ys14_12⟩) hHeld ?rs14_12
                    case ys14_12 => (intro w' hSw; (try dsimp only at hSw); go_simp; try (with_reducible rfl))
                    simp only [Act.put, List.setIfInBounds_toArray, List.set_cons_zero, List.set_cons_succ]
                    refine wpAnyH_done (by kernel_rfl) ?_ _
                    have HB5 := Lib.hid hB
                    have HP5 := Lib.hid (HPL.out.on (HBW.out.trans (hB.mono HBW.out.size)))
                    obtain ⟨f0, f1, f2, f3⟩ := quad t_p.1
                    clear hHeld hB HKP
                    cases x
                    · clear f0 f1 f2 f3 t_p
                      go_wp2
                      go_roundg (S.length - (k + 1))
                      case measure => omega
                      case rel => exact ⟨k + 1, by omega, rfl, by go_num, HBW.out.trans (HB5.out.mono HBW.out.size)⟩
                    · have HIN2 := Lib.hid (HIN.out rfl)
                      go_wp2_with fail
                      (with_reducible refine (ladd_r _ LL p _ HLN.out HP5.out).mono ?_)
                      rintro e w8 ⟨⟨v8, rfl, hp8⟩, hb8⟩
                      rw [addC_in HIN2.out] at hp8
                      obtain ⟨A8, c8, rfl, -, -⟩ := hp8.form
                      have HB8 := Lib.hid (HB5.out.trans (hb8.mono HB5.out.size))
                      have hne : ((LL.length : Int) != (LL.length : Int)) = false := by simp
                      clear f0 f1 f2 f3 t_p hp8 hb8 HP5 HB5
                      go_wp2
                      clear hne
                      go_roundg (S.length - (k + 1))
                      case measure => omega
                      case rel => exact ⟨k + 1, by omega, rfl, by go_num, HBW.out.trans (HB8.out.mono HBW.out.size)⟩
                  refine AllReadyH.cons (o := ⟨some 12, _, _, _, _, _⟩) rfl (fun K hK => ?_) AllReadyH.nil
                  go_simp
                  have hb := below1 u0 (.cells #[.int .u64 0, .int .u64 0, .int .u64 0, .int .u64 0] 43)
                  have hB2 := hB.trans (hb.mono hB.size)
                  refine hK.out _ _ (HKP.out _ hB2) (fun hNext => ?_)
                  have t_p : Nb w9.heap.size (u0.alloc (.cells #[.int .u64 0, .int .u64 0, .int .u64 0, .int .u64 0] 43)) u0.heap.size 43 #[.int .u64 0, .int .u64 0, .int .u64 0, .int .u64 0] := Nb.top u0 hB.size
                  clear hK K hHeld
                  have hHeld := hNext
                  clear hNext
                  clear hB
                  have hB := hB2
                  clear hB2
                  clear hb
                  generalize hgen : (u0.alloc (.cells #[.int .u64 0, .int .u64 0, .int .u64 0, .int .u64 0] 43)) = u4 at hHeld hB  t_p ⊢
                  clear hgen
                  generalize hgen : u0.heap.size = b_p at t_p  ⊢
                  clear hgen
                  try simp only [Act.put, List.setIfInBounds_toArray, List.set_cons_zero, List.set_cons_succ]
                  refine wpAnyH_ready (rs := [8]) (by kernel_rfl) (by simp) ?_
                  refine AllReadyH.cons (o := ⟨some 74, _, _, _, _, _⟩) rfl (fun K hK => ?_) AllReadyH.nil
                  go_simp
                  (with_reducible refine (HCT.out u4).mono ?_)
                  rintro e u5 ⟨rfl, hb⟩
                  (try dsimp only)
                  have hB2 := hB.trans (hb.mono hB.size)
                  refine hK.out _ _ (HKP.out _ hB2) (fun hNext => ?_)
                  clear hK K hHeld
                  have hHeld := hNext
                  clear hNext
                  clear hB
                  have hB := hB2
                  clear hB2
                  replace t_p := t_p.on hb
                  clear hb
                  try simp only [Act.put, List.setIfInBounds_toArray, List.set_cons_zero, List.set_cons_succ]
                  refine wpAnyH_take (i := 9) (oi := ⟨some 65, _, _, _, _, _⟩) (v := ?vs9_13) rfl (by kernel_rfl) (by kernel_rfl) (by kernel_rfl) (fun _ _ _ h => h) (Or.inl ⟨by rfl, ?ys9_13⟩) hHeld ?rs9_13
                  case ys9_13 => (intro w' hSw; (try dsimp only at hSw); go_simp; try (with_reducible rfl))
                  simp only [Act.put, List.setIfInBounds_toArray, List.set_cons_zero, List.set_cons_succ]
                  refine wpAnyH_take (i := 10) (oi := ⟨some 75, _, _, _, _, _⟩) (v := ?vs10_14) rfl (by kernel_rfl) (by kernel_rfl) (by kernel_rfl) (fun _ _ _ h => h) (Or.inl ⟨by rfl, ?ys10_14⟩) hHeld ?rs10_14
                  case ys10_14 => (intro w' hSw; (try dsimp only at hSw); go_simp; try (with_reducible rfl))
                  simp only [Act.put, List.setIfInBounds_toArray, List.set_cons_zero, List.set_cons_succ]
                  refine wpAnyH_take (i := 11) (oi := ⟨some 76, _, _, _, _, _⟩) (v := ?vs11_15) rfl (by kernel_rfl) (by kernel_rfl) (by kernel_rfl) (fun _ _ _ h => h) (Or.inl ⟨by rfl, ?ys11_15⟩) hHeld ?rs11_15
                  case ys11_15 => (intro w' hSw; (try dsimp only at hSw); go_simp; try (with_reducible rfl))
                  simp only [Act.put, List.setIfInBounds_toArray, List.set_cons_zero, List.set_cons_succ]
                  refine wpAnyH_ready (rs := [13]) (by kernel_rfl) (by simp) ?_
                  refine AllReadyH.cons (o := ⟨none, _, _, _, _, _⟩) rfl (fun K hK => ?_) AllReadyH.nil
                  rw [if_pos (by rfl)]
                  refine wp_store_mid 43 _ _ rfl b_p 0 #[.int .u64 (uv p.vh), .int .u64 (uv p.vl), .int .u64 (uv p.ch), .int .u64 (uv p.cl)] rfl rfl t_p.there infoCubeS (by simp [Value.oneCell']) ?_
                  (try dsimp only)
                  have hB2 := (Below.setCells [.int .u64 (uv p.vh), .int .u64 (uv p.vl), .int .u64 (uv p.ch), .int .u64 (uv p.cl)] 0 _ hB t_p.2)
                  refine hK.out _ _ (HKP.out _ hB2) (fun hNext => ?_)
                  clear hK K hHeld
                  have hHeld := hNext
                  clear hNext
                  clear hB
                  have hB := hB2
                  clear hB2
                  replace t_p := t_p.put [.int .u64 (uv p.vh), .int .u64 (uv p.vl), .int .u64 (uv p.ch), .int .u64 (uv p.cl)] rfl
                  generalize hgen : (World.setCells u5 b_p 0 [.int .u64 (uv p.vh), .int .u64 (uv p.vl), .int .u64 (uv p.ch), .int .u64 (uv p.cl)]) = u6 at hHeld hB t_p ⊢
                  clear hgen
                  try simp only [Act.put]
                  refine wpAnyH_take (i := 14) (oi := ⟨some 13, _, _, _, _, _⟩) (v := ?vs14_16) rfl (by kernel_rfl) (by kernel_rfl) (by kernel_rfl) (fun _ _ _ h => h) (Or.inl ⟨by rfl, ?ys14_16⟩) hHeld ?rs14_16
                  case ys14_16 => (intro w' hSw; (try dsimp only at hSw); go_simp; try (with_reducible rfl))
                  simp only [Act.put, List.setIfInBounds_toArray, List.set_cons_zero, List.set_cons_succ]
                  refine wpAnyH_done (by kernel_rfl) ?_ _
                  have HB5 := Lib.hid hB
                  have HP5 := Lib.hid (HPL.out.on (HBW.out.trans (hB.mono HBW.out.size)))
                  obtain ⟨f0, f1, f2, f3⟩ := quad t_p.1
                  clear hHeld hB HKP
                  cases x
                  · clear f0 f1 f2 f3 t_p
                    go_wp2
                    go_roundg (S.length - (k + 1))
                    case measure => omega
                    case rel => exact ⟨k + 1, by omega, rfl, by go_num, HBW.out.trans (HB5.out.mono HBW.out.size)⟩
                  · have HIN2 := Lib.hid (HIN.out rfl)
                    go_wp2_with fail
                    (with_reducible refine (ladd_r _ LL p _ HLN.out HP5.out).mono ?_)
                    rintro e w8 ⟨⟨v8, rfl, hp8⟩, hb8⟩
                    rw [addC_in HIN2.out] at hp8
                    obtain ⟨A8, c8, rfl, -, -⟩ := hp8.form
                    have HB8 := Lib.hid (HB5.out.trans (hb8.mono HB5.out.size))
                    have hne : ((LL.length : Int) != (LL.length : Int)) = false := by simp
                    clear f0 f1 f2 f3 t_p hp8 hb8 HP5 HB5
                    go_wp2
                    clear hne
                    go_roundg (S.length - (k + 1))
                    case measure => omega
                    case rel => exact ⟨k + 1, by omega, rfl, by go_num, HBW.out.trans (HB8.out.mono HBW.out.size)⟩
                · have hilz : ¬ (k : Int) < (S.length : Int) := by omega
                  go_wp2
                  go_roundg (LL.length - (i + 1))
                  case measure => omega
                  case rel => exact ⟨i + 1, by omega, rfl, by go_num, HBW⟩
        · have hltz : ¬ (i : Int) < (LL.length : Int) := by omega
          have B9 := B4.out.trans (HBW.out.mono B4.out.size)
          clear HBW
          go_wp2
          go_ret
          exact ⟨rfl, B9⟩
    · obtain ⟨he10, hnil⟩ := HFB.out (by omega)
      subst he10 hnil
      clear HFB HFS3 HTF HSA HSS
      go_wp2_with fail
      (with_reducible refine (awake13_c _).mono ?_)
      rintro e w4 ⟨rfl, hb4⟩
      have B4 := Lib.hid (B3.out.trans (hb4.mono B3.out.size))
      clear hb4 B3
      go_wp2_with fail
      (with_reducible refine (awake13_c _).mono ?_)
      rintro e w5 ⟨rfl, hb5⟩
      have B5 := B4.out.trans (hb5.mono B4.out.size)
      clear hb5
      go_wp2
      go_ret
      exact ⟨rfl, B5⟩
  · have hyy : y ≠ 0 := hy0
    have hyz : (y != 0) = true := by simp [hy0]
    have hwz : wrgZ (cfgT T ten P Q BB) m = y := by
      rw [HWY.out]
      unfold wrgZ
      rw [if_neg hy0]
    have HWZ := Lib.hid hwz
    clear hwz
    go_wp2_with fail
    (with_reducible refine (pof_bad _ _ _ _ T ten P Q BB m y _ (HT.out.on B0.out) (HP.out.on B0.out) (HQ.out.on B0.out) (HBQ.out.on B0.out) HWZ.out hyy).mono ?_)
    rintro e w2 ⟨rfl, hb2⟩
    have B2 := Lib.hid (B0.out.trans (hb2.mono B0.out.size))
    have N2 := Lib.hid (N0.out.on hb2)
    clear hb2 B0 N0 d0 d1 d2 d3 d4
    obtain ⟨d0, d1, d2, d3, d4⟩ := N2.out.five
    go_wp2_with fail
    (with_reducible refine (psets_bad _ _ _ _ T ten P Q BB m y _ (HT.out.on B2.out) (HP.out.on B2.out) (HQ.out.on B2.out) (HBQ.out.on B2.out) HWZ.out hyy).mono ?_)
    rintro e w3 ⟨rfl, hb3⟩
    have B3 := Lib.hid (B2.out.trans (hb3.mono B2.out.size))
    clear hb3 B2 N2 d0 d1 d2 d3 d4
    go_wp2_with fail
    (with_reducible refine (awake13_c _).mono ?_)
    rintro e w4 ⟨rfl, hb4⟩
    have B4 := Lib.hid (B3.out.trans (hb4.mono B3.out.size))
    clear hb4 B3
    go_wp2_with fail
    (with_reducible refine (awake13_c _).mono ?_)
    rintro e w5 ⟨rfl, hb5⟩
    have B5 := B4.out.trans (hb5.mono B4.out.size)
    clear hb5
    go_wp2
    go_ret
    exact ⟨rfl, B5⟩
theorem pscl_z (tv pv wv bv : Value) (T : List (List Pt)) (ten : Int) (P : List (Int × Int)) (Q : List Wa) (BB : List (List (List Rl))) (n : Int) (w : World) (hT : PsT w tv T) (hP : Pe w pv P) (hQ : Wy w wv Q) (hB : RuQ w bv BB) (hz : Szd T P Q BB) (h0 : 0 ≤ n) (h1 : n ≤ 255) : Calls Try.prog 6 #[.agg #[tv, .int .i64 ten, pv, wv, bv], .int .u8 n] w fun e w' => e = .returned (.bool true) ∧ Below w.heap.size w w' := by
  obtain ⟨m, rfl⟩ : ∃ m : Nat, n = m := ⟨n.toNat, by omega⟩
  exact pscl_c tv pv wv bv T ten P Q BB m w hT hP hQ hB hz (by omega)
end Go.Proofs

namespace Go.Proofs.Ytanliiopdhjhjaa
open Go.ChangeShapes Go.WideShapes Go.ChangeAt Go.RowKit Go.Joins Go.Proofs.Hd

theorem laidOut_psc : laidOutB Try.prog = true := by kernel_rfl
set_option maxRecDepth 100000 in
theorem psc_lifted (os : Os) (started : os.Started) (H : Type) (enc : TypeId × Value → H) :
    ReturnsInHanded {} Try.checked os 6 .any (Rows.predsClosedSpec.pre6 enc Try.prog Try.f6 Rows.predsClosedRow.domain false) (Rows.predsClosedSpec.post enc Try.prog Try.f6 false true false false) := by
  refine returnsInHanded_of_change_sized (C := Try.checked) own started (by kernel_rfl) Try.func6
    (ChangeSpec.witness6 (enc := enc) (C := Try.checked) false ⟨#[], #[.agg #[.slice none 0 0, .int .i64 0, .slice none 0 0, .slice none 0 0, .slice none 0 0], .int .u8 0], []⟩ 8 (by kernel_rfl) (by kernel_rfl) (by kernel_rfl) (by kernel_rfl)) ?_
  intro W base args ds gs before hval0 hW hcnd hsz _
  have hval : ∀ (j : Nat) t v, Try.f6.params[j]? = some t → args[j]? = some v → Value.okWide Try.prog W .any base t v := hval0
  have hW' := hW
  obtain ⟨p, q, hA0, hV, rfl, hfz, hnd⟩ := hW
  have hA : DataW.TrodAll enc Try.prog W 0 (fun _ => true) true Try.f6.params.toList args.toList ds p := hA0
  rw [Try.params6] at hA hval
  obtain ⟨v0, vs0, d0, ds0, p0, q0, hargs, rfl, rfl, h0, r0⟩ := trodAll_cons hA
  obtain ⟨v1, vs1, d1, ds1, p1, q1, rfl, rfl, rfl, h1, r1⟩ := trodAll_cons r0
  obtain ⟨rfl, rfl, rfl⟩ := trodAll_nil r1
  obtain rfl : args = #[v0, v1] := by cases args; simp_all
  obtain ⟨rfl, rfl⟩ := trodVars_none hV
  have k0 := h0
  have lt0 : ∀ x ∈ p0, x.block < W.heap.size := by obtain ⟨m, hm⟩ := k0; exact DataW.trod_lt m _ _ _ hm
  obtain ⟨ctv, cT, cn, cpv, cP, cwv, cQ, cbv, cB, rfl, chT, chP, chQ, chB, cz⟩ := open_cfg (hval 0 31 v0 rfl rfl) h0
  have cs := cz fun m hm => by simpa using List.all_eq_true.1 hsz m (DataW.weights_mem_each (j := 0) (t := 31) (by rw [Try.params6]; rfl) rfl m hm)
  obtain ⟨n, rfl, rfl, rfl, wf1⟩ := open_int Try.underlying5 (hval 1 5 v1 rfl rfl) h1
  clear hA0 hval0
  obtain ⟨bn1, bn2⟩ := bounds_u8 wf1
  refine (pscl_z ctv cpv cwv cbv cT cn cP cQ cB n W chT chP chQ chB cs bn1 bn2).mono fun e W' ⟨he, hg⟩ => ?_
  subst he
  exact ⟨_, rfl, _, _, _, [], _, [], hW', trodAll_mk1 (shut_bool Try.underlying4 _), (trodAll_cons_mk (Below.trod laidOut_psc (by kernel_rfl) (of_decide_eq_true (by kernel_rfl)) k0 hg lt0) (trodAll_cons_mk (shut_int Try.underlying5 wf1) trodAll_mk0)), rfl, hg.frame _, (fun h => by cases h)⟩

theorem psc_holds : Rows.PredsClosedSaid :=
  OpenClaim.holds_of_wide 6 Try.f6 rfl rfl rfl rfl rfl rfl rfl ⟨rfl, rfl, rfl, rfl, rfl⟩ rfl rfl rfl rfl rfl (by kernel_rfl) Try.func6 (by kernel_rfl)
    (of_decide_eq_true (by kernel_rfl)) (by unfold Func.isWrapper; first | (rw [if_pos (by decide +kernel)]; kernel_rfl) | (rw [if_neg (by decide +kernel)]; exact ⟨rfl, rfl⟩))
    (fun os started H enc _ => psc_lifted os started H enc)
#print axioms psc_holds
end Go.Proofs.Ytanliiopdhjhjaa
