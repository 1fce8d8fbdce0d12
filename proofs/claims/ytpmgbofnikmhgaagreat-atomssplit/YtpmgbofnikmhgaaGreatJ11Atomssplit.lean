/-
  The row of customhouselaw11.AtomsSplit: for every input it returns true, and each argument reads as it did. No conditions.
  Contract of the law's right: of good atoms, of which a header is in just one, it returns true. Conditions as each theorem lists them.
  The walk of customhouselaw11.AtomsSplit: it returns true. Conditions as each theorem lists them.
-/
import Derived.Test.YtpmgbofnikmhgaaGreatJ10
import Derived.BigFrame
import Derived.Test.YtpmgbofnikmhgaaGreatRows
import Derived.Below
namespace Go.Proofs.Hd
open Go.RowKit
theorem ids_one {al : List AtC} {x : Hx} {I : List Int} (h : idsAt hasP al x = [I]) {a : AtC} (ha : a ∈ al) (hx : hasP a.pl x = true) : a.ids = I := by
  have h1 : a.ids ∈ idsAt hasP al x := List.mem_map.2 ⟨a, List.mem_filter.2 ⟨ha, hx⟩, rfl⟩
  rw [h, List.mem_singleton] at h1
  exact h1
theorem cnt_step {al : List AtC} {x : Hx} {k : Nat} {a : AtC} (h : al[k]? = some a) : (idsAt hasP (al.take (k + 1)) x).length = (idsAt hasP (al.take k) x).length + (if hasP a.pl x = true then 1 else 0) := by
  rw [List.take_add_one, h, idsAt_app, List.length_append]
  congr 1
  show (idsAt hasP [a] x).length = _
  rw [idsAt_cons, idsAt_nil, List.append_nil]
  split <;> rfl
theorem cnt_leA {al : List AtC} {x : Hx} {I : List Int} (h : idsAt hasP al x = [I]) (k : Nat) : (idsAt hasP (al.take k) x).length ≤ 1 := by
  have h1 : idsAt hasP al x = idsAt hasP (al.take k) x ++ idsAt hasP (al.drop k) x := by rw [← idsAt_app, List.take_append_drop]
  have h2 := congrArg List.length h1
  rw [h, List.length_append] at h2
  simp only [List.length_cons, List.length_nil] at h2
  omega
theorem dst_at {al : List AtC} (hd : Dst al) {i k : Nat} {a b : AtC} (hi : al[i]? = some a) (hk : al[k]? = some b) (hlt : k < i) : a.ids ≠ b.ids := by
  obtain ⟨h1, e1⟩ := List.getElem?_eq_some_iff.1 hi
  obtain ⟨h2, e2⟩ := List.getElem?_eq_some_iff.1 hk
  have := List.pairwise_iff_getElem.1 hd k i h2 h1 hlt
  rw [e1, e2] at this
  exact fun e => this e.symm
theorem good_form {a : AtC} (h : GoodA a) : ∃ (c : Cb) (p : List Cb), a = ⟨a.ids, (c.vh, c.vl), c :: p⟩ ∧ c.snd = true := by
  obtain ⟨ids, hd, pl⟩ := a
  have h1 := h.ne
  have h2 := h.snd
  have h3 := h.top
  cases pl with
  | nil => exact absurd rfl h1
  | cons c p => exact ⟨c, p, by rw [show hd = (c.vh, c.vl) from h3], h2 c (List.mem_cons_self ..)⟩
theorem pl_first {w : World} {A : Option Addr} {n cap : Nat} {c : Cb} {p : List Cb} (h : Pl w (.slice A n cap) (c :: p)) : ∃ b o, A = some ⟨b, o, none⟩ ∧ At4 w b o c := by
  rcases h with ⟨h, _⟩ | ⟨b, o, cap', e, _, _, hc⟩
  · cases h
  · injection e with e1 _ _
    refine ⟨b, o, e1, ?_⟩
    have := hc 0 c rfl
    rw [Nat.zero_mul, Nat.add_zero] at this
    exact this
end Go.Proofs.Hd
namespace Go.Proofs
open Go.RowKit Go.Proofs.Hd Go.Lib Go.Shelf
attribute [local go_sem] uv_nonneg
attribute [local go_sem high] run_eq2
set_option maxHeartbeats 16000000 in
set_option maxRecDepth 100000 in
theorem right_c (v u : Value) (al : List AtC) (hh hl : BitVec 64) (I : List Int) (w : World) (hg : ∀ a ∈ al, GoodA a) (hd : Dst al) (hi : idsAt hasP al (hh, hl) = [I]) (hlen : al.length ≤ 1000) (hb : ∀ a ∈ al, a.ids.length ≤ 1000) (hIl : I.length ≤ 1000) (hv : At w v al) (hu : Nm w u I) :
    Calls Tryz.prog 13 #[v, .agg #[.int .u64 (uv hh), .int .u64 (uv hl)], u] w fun e w' => e = .returned (.bool true) ∧ Below w.heap.size w w' := by
  obtain ⟨A, cap, rfl, hm, hA⟩ := hv.form
  have hlz : (al.length : Int) ≤ 1000 := by omega
  have hu2 := hu
  obtain ⟨U1, U3, rfl, -⟩ := hu2
  have b0 := below1 w (.cells #[.int .u64 (uv hh), .int .u64 (uv hl)] 25)
  have x0 : Blk (w.alloc (.cells #[.int .u64 (uv hh), .int .u64 (uv hl)] 25)) w.heap.size 25 #[.int .u64 (uv hh), .int .u64 (uv hl)] := Blk.new w _ _
  have BB := Lib.hid b0
  have XX := Lib.hid x0
  have HG := Lib.hid hg
  have HD := Lib.hid hd
  have HI := Lib.hid hi
  have HBL := Lib.hid hb
  have HIL := Lib.hid hIl
  have HU := Lib.hid hu
  have HA := Lib.hid hA
  have HLEN := Lib.hid hlen
  clear hg hd hi hb hIl hu hA hm b0 x0 hv hlen
  go_enter Tryz.func13, Tryz.ntmps13
  go_wp2
  go_loopg [7, 8, 9, 10, 11] al.length (fun gk s7 s8 _ _ _ wr => ∃ (k m : Nat), k ≤ al.length ∧ gk = al.length - k ∧ s7 = .int .i64 m ∧ s8 = .int .i64 k ∧ m ≤ 1 ∧ Hid (Below w.heap.size w wr) ∧ Hid (Blk wr w.heap.size 25 #[.int .u64 (uv hh), .int .u64 (uv hl)]) ∧ Hid (m = (idsAt hasP (al.take k) (hh, hl)).length))
  case atStart => exact ⟨0, 0, Nat.zero_le _, rfl, rfl, rfl, Nat.zero_le _, BB, XX, rfl⟩
  case round =>
    clear BB XX
    obtain ⟨k, m, hk, rfl, rfl, rfl, hm1, B0, X0, HM⟩ := hrel
    by_cases hlt : k < al.length
    · have hltz : (k : Int) < (al.length : Int) := by omega
      obtain ⟨a0, ha0⟩ : ∃ a, al[k]? = some a := ⟨_, List.getElem?_eq_getElem hlt⟩
      have hga := HG.out a0 (List.mem_of_getElem? ha0)
      obtain ⟨c, p, hform, hcs⟩ := good_form hga
      obtain ⟨b, off, rfl, hbl, hcc⟩ := HA.out (ne_nil_of ha0)
      have hidl := HBL.out a0 (List.mem_of_getElem? ha0)
      obtain ⟨ids, hd0, pl0⟩ := a0
      injection hform with hf1 hf2 hf3
      subst hf2 hf3
      obtain ⟨I1, I2, I3, P1, P2, P3, ⟨c0, c1, c2, c3⟩, hN, hP, hI2, hP2⟩ := (hcc k _ ha0).cells
      dsimp only at c0 c1 c2 c3 hN hP hI2 hP2 hidl
      subst hI2
      obtain ⟨pb, po, rfl, hp4⟩ := pl_first hP
      have hpl : (c :: p).length ≤ 200 := hga.len
      have hPn : P2 = (c :: p).length := hP2
      have hPp : 0 < P2 := by rw [hPn]; exact Nat.succ_pos _
      have hPz : ((P2 : Int) == 0) = false := beq_eq_false_iff_ne.2 (by omega)
      have hP0 : (0 : Int) < (P2 : Int) := by omega
      have HAK := Lib.hid ha0
      have HC0 := Lib.hid c0
      have HC1 := Lib.hid c1
      have HC2 := Lib.hid c2
      have HC3 := Lib.hid c3
      have HNI := Lib.hid hN
      have HPI := Lib.hid hP
      have H4 := Lib.hid hp4
      have HCS := Lib.hid hcs
      have HPL := Lib.hid hpl
      have HID := Lib.hid hidl
      have HAC := Lib.hid hcc
      clear ha0 hga hcc hN hP hP2 hPn c0 c1 c2 c3 hp4 hcs hpl hidl hf1
      go_upto_region 5 with (fail)
      have HKP : Hid (∀ W, Below wr.heap.size wr W → (W.cell? ⟨b, off + k * 4 + 1, none⟩ = some (.int .u64 (uv c.vh)) ∧ W.cell? ⟨b, off + k * 4 + 2, none⟩ = some (.int .u64 (uv c.vl)) ∧ W.cell? ⟨b, off + k * 4 + 3, none⟩ = some (.slice (some ⟨pb, po, none⟩) P2 P3))) := fun W hb => ⟨on_some (B0.out.trans (hb.mono B0.out.size)) HC1.out, on_some (B0.out.trans (hb.mono B0.out.size)) HC2.out, on_some (B0.out.trans (hb.mono B0.out.size)) HC3.out⟩
      refine wp_region_held_drew (S := fun w' => w'.cell? ⟨b, off + k * 4 + 1, none⟩ = some (.int .u64 (uv c.vh)) ∧ w'.cell? ⟨b, off + k * 4 + 2, none⟩ = some (.int .u64 (uv c.vl)) ∧ w'.cell? ⟨b, off + k * 4 + 3, none⟩ = some (.slice (some ⟨pb, po, none⟩) P2 P3)) (by kernel_rfl) (HKP.out _ (Below.refl _ wr).drew) (fun hHeld => ?_)
      have hB := (Below.refl wr.heap.size wr).drew
      generalize wr.drew = u0 at hHeld hB ⊢
      refine wpAnyH_take (i := 0) (oi := ⟨some 18, _, _, _, _, _⟩) (v := ?vr10_1) rfl (by kernel_rfl) (by kernel_rfl) (by kernel_rfl) (fun _ _ _ h => h) (Or.inl ⟨by rfl, ?yr10_1⟩) hHeld ?rr10_1
      case yr10_1 => (intro w' hSw; (try dsimp only at hSw); go_simp; try (with_reducible rfl))
      simp only [Act.put, List.setIfInBounds_toArray, List.set_cons_zero, List.set_cons_succ]
      refine wpAnyH_take (i := 1) (oi := ⟨some 19, _, _, _, _, _⟩) (v := ?vr11_2) rfl (by kernel_rfl) (by kernel_rfl) (by kernel_rfl) (fun _ _ _ h => h) (Or.inl ⟨by rfl, ?yr11_2⟩) hHeld ?rr11_2
      case yr11_2 => (intro w' hSw; (try dsimp only at hSw); go_simp; try (with_reducible rfl))
      simp only [Act.put, List.setIfInBounds_toArray, List.set_cons_zero, List.set_cons_succ]
      refine wpAnyH_take (i := 2) (oi := ⟨some 20, _, _, _, _, _⟩) (v := ?vr12_3) rfl (by kernel_rfl) (by kernel_rfl) (by kernel_rfl) (fun _ _ _ h => h) (Or.inl ⟨by rfl, ?yr12_3⟩) hHeld ?rr12_3
      case yr12_3 => (intro w' hSw; (try dsimp only at hSw); go_simp; try (with_reducible rfl))
      simp only [Act.put, List.setIfInBounds_toArray, List.set_cons_zero, List.set_cons_succ]
      refine wpAnyH_take (i := 3) (oi := ⟨some 21, _, _, _, _, _⟩) (v := ?vr13_4) rfl (by kernel_rfl) (by kernel_rfl) (by kernel_rfl) (fun _ _ _ h => h) (Or.inl ⟨by rfl, ?yr13_4⟩) hHeld ?rr13_4
      case yr13_4 => (intro w' hSw; (try dsimp only at hSw); go_simp; try (with_reducible rfl))
      simp only [Act.put, List.setIfInBounds_toArray, List.set_cons_zero, List.set_cons_succ]
      refine wpAnyH_take (i := 4) (oi := ⟨some 22, _, _, _, _, _⟩) (v := ?vr14_5) rfl (by kernel_rfl) (by kernel_rfl) (by kernel_rfl) (fun _ _ _ h => h) (Or.inl ⟨by rfl, ?yr14_5⟩) hHeld ?rr14_5
      case yr14_5 => (intro w' hSw; (try dsimp only at hSw); go_simp; try (with_reducible rfl))
      simp only [Act.put, List.setIfInBounds_toArray, List.set_cons_zero, List.set_cons_succ]
      refine wpAnyH_take (i := 5) (oi := ⟨some 23, _, _, _, _, _⟩) (v := ?vr15_6) rfl (by kernel_rfl) (by kernel_rfl) (by kernel_rfl) (fun _ _ _ h => h) (Or.inl ⟨by rfl, ?yr15_6⟩) hHeld ?rr15_6
      case yr15_6 => (intro w' hSw; (try dsimp only at hSw); go_simp; try (with_reducible rfl))
      simp only [Act.put, List.setIfInBounds_toArray, List.set_cons_zero, List.set_cons_succ]
      refine wpAnyH_take (i := 6) (oi := ⟨some 24, _, _, _, _, _⟩) (v := ?vr16_7) rfl (by kernel_rfl) (by kernel_rfl) (by kernel_rfl) (fun _ _ _ h => h) (Or.inl ⟨by rfl, ?yr16_7⟩) hHeld ?rr16_7
      case yr16_7 => (intro w' hSw; (try dsimp only at hSw); go_simp; try (with_reducible rfl))
      simp only [Act.put, List.setIfInBounds_toArray, List.set_cons_zero, List.set_cons_succ]
      refine wpAnyH_take (i := 7) (oi := ⟨some 25, _, _, _, _, _⟩) (v := ?vr17_8) rfl (by kernel_rfl) (by kernel_rfl) (by kernel_rfl) (fun _ _ _ h => h) (Or.inl ⟨by rfl, ?yr17_8⟩) hHeld ?rr17_8
      case yr17_8 => (intro w' hSw; (try dsimp only at hSw); go_simp; try (with_reducible rfl))
      simp only [Act.put, List.setIfInBounds_toArray, List.set_cons_zero, List.set_cons_succ]
      refine wpAnyH_take (i := 8) (oi := ⟨some 26, _, _, _, _, _⟩) (v := ?vr18_9) rfl (by kernel_rfl) (by kernel_rfl) (by kernel_rfl) (fun _ _ _ h => h) (Or.inl ⟨by rfl, ?yr18_9⟩) hHeld ?rr18_9
      case yr18_9 => (intro w' hSw; (try dsimp only at hSw); go_simp; try (with_reducible rfl))
      simp only [Act.put, List.setIfInBounds_toArray, List.set_cons_zero, List.set_cons_succ]
      refine wpAnyH_take (i := 9) (oi := ⟨some 27, _, _, _, _, _⟩) (v := ?vr19_10) rfl (by kernel_rfl) (by kernel_rfl) (by kernel_rfl) (fun _ _ _ h => h) (Or.inl ⟨by rfl, ?yr19_10⟩) hHeld ?rr19_10
      case yr19_10 => (intro w' hSw; (try dsimp only at hSw); go_simp; try (with_reducible rfl))
      simp only [Act.put, List.setIfInBounds_toArray, List.set_cons_zero, List.set_cons_succ]
      refine wpAnyH_ready (rs := [10]) (by kernel_rfl) (by simp) ?_
      refine AllReadyH.cons (o := ⟨some 28, _, _, _, _, _⟩) rfl (fun K hK => ?_) AllReadyH.nil
      go_simp
      (with_reducible refine (rhas3_c true _ (c :: p) c.vh c.vl u0 (by have := HPL.out; omega) (by unfold anyHas; rw [List.any_cons, has_value HCS.out, Bool.true_or]) (HPI.out.on (B0.out.trans (hB.mono B0.out.size)))).mono ?_)
      rintro e u1 ⟨rfl, hb⟩
      (try dsimp only)
      have hB2 := hB.trans (hb.mono hB.size)
      refine hK.out _ _ (HKP.out _ hB2) (fun hNext => ?_)
      clear hK K hHeld
      have hHeld := hNext
      clear hNext
      clear hB
      have hB := hB2
      clear hB2
      clear hb
      try simp only [Act.put, List.setIfInBounds_toArray, List.set_cons_zero, List.set_cons_succ]
      refine wpAnyH_take (i := 11) (oi := ⟨some 29, _, _, _, _, _⟩) (v := ?vr111_11) rfl (by kernel_rfl) (by kernel_rfl) (by kernel_rfl) (fun _ _ _ h => h) (Or.inl ⟨by rfl, ?yr111_11⟩) hHeld ?rr111_11
      case yr111_11 => (intro w' hSw; (try dsimp only at hSw); go_simp; try (with_reducible rfl))
      simp only [Act.put, List.setIfInBounds_toArray, List.set_cons_zero, List.set_cons_succ]
      refine wpAnyH_take (i := 12) (oi := ⟨some 30, _, _, _, _, _⟩) (v := ?vr112_12) rfl (by kernel_rfl) (by kernel_rfl) (by kernel_rfl) (fun _ _ _ h => h) (Or.inl ⟨by rfl, ?yr112_12⟩) hHeld ?rr112_12
      case yr112_12 => (intro w' hSw; (try dsimp only at hSw); go_simp; try (with_reducible rfl))
      simp only [Act.put, List.setIfInBounds_toArray, List.set_cons_zero, List.set_cons_succ]
      refine wpAnyH_take (i := 13) (oi := ⟨some 31, _, _, _, _, _⟩) (v := ?vr113_13) rfl (by kernel_rfl) (by kernel_rfl) (by kernel_rfl) (fun _ _ _ h => h) (Or.inl ⟨by rfl, ?yr113_13⟩) hHeld ?rr113_13
      case yr113_13 => (intro w' hSw; (try dsimp only at hSw); go_simp; try (with_reducible rfl))
      simp only [Act.put, List.setIfInBounds_toArray, List.set_cons_zero, List.set_cons_succ]
      refine wpAnyH_take (i := 14) (oi := ⟨some 32, _, _, _, _, _⟩) (v := ?vr114_14) rfl (by kernel_rfl) (by kernel_rfl) (by kernel_rfl) (fun _ _ _ h => h) (Or.inl ⟨by rfl, ?yr114_14⟩) hHeld ?rr114_14
      case yr114_14 => (intro w' hSw; (try dsimp only at hSw); go_simp; try (with_reducible rfl))
      simp only [Act.put, List.setIfInBounds_toArray, List.set_cons_zero, List.set_cons_succ]
      refine wpAnyH_take (i := 15) (oi := ⟨some 33, _, _, _, _, _⟩) (v := ?vr115_15) rfl (by kernel_rfl) (by kernel_rfl) (by kernel_rfl) (fun _ _ _ h => h) (Or.inl ⟨by rfl, ?yr115_15⟩) hHeld ?rr115_15
      case yr115_15 => (intro w' hSw; (try dsimp only at hSw); go_simp; try (with_reducible rfl))
      simp only [Act.put, List.setIfInBounds_toArray, List.set_cons_zero, List.set_cons_succ]
      refine wpAnyH_take (i := 16) (oi := ⟨some 34, _, _, _, _, _⟩) (v := ?vr116_16) rfl (by kernel_rfl) (by kernel_rfl) (by kernel_rfl) (fun _ _ _ h => h) (Or.inl ⟨by rfl, ?yr116_16⟩) hHeld ?rr116_16
      case yr116_16 => (intro w' hSw; (try dsimp only at hSw); go_simp; try (with_reducible rfl))
      simp only [Act.put, List.setIfInBounds_toArray, List.set_cons_zero, List.set_cons_succ]
      refine wpAnyH_take (i := 17) (oi := ⟨some 35, _, _, _, _, _⟩) (v := ?vr117_17) rfl (by kernel_rfl) (by kernel_rfl) (by kernel_rfl) (fun _ _ _ h => h) (Or.inl ⟨by rfl, ?yr117_17⟩) hHeld ?rr117_17
      case yr117_17 => (intro w' hSw; (try dsimp only at hSw); go_simp; try (with_reducible rfl))
      simp only [Act.put, List.setIfInBounds_toArray, List.set_cons_zero, List.set_cons_succ]
      refine wpAnyH_take (i := 18) (oi := ⟨some 36, _, _, _, _, _⟩) (v := ?vr118_18) rfl (by kernel_rfl) (by kernel_rfl) (by kernel_rfl) (fun _ _ _ h => h) (Or.inl ⟨by rfl, ?yr118_18⟩) hHeld ?rr118_18
      case yr118_18 => (intro w' hSw; (try dsimp only at hSw); go_simp; try (with_reducible rfl))
      simp only [Act.put, List.setIfInBounds_toArray, List.set_cons_zero, List.set_cons_succ]
      refine wpAnyH_take (i := 19) (oi := ⟨some 37, _, _, _, _, _⟩) (v := ?vr119_19) rfl (by kernel_rfl) (by kernel_rfl) (by kernel_rfl) (fun _ _ _ h => h) (Or.inl ⟨by rfl, ?yr119_19⟩) hHeld ?rr119_19
      case yr119_19 => (intro w' hSw; (try dsimp only at hSw); go_simp; try (with_reducible rfl))
      simp only [Act.put, List.setIfInBounds_toArray, List.set_cons_zero, List.set_cons_succ]
      refine wpAnyH_take (i := 20) (oi := ⟨some 38, _, _, _, _, _⟩) (v := ?vr120_20) rfl (by kernel_rfl) (by kernel_rfl) (by kernel_rfl) (fun _ _ _ h => h) (Or.inl ⟨by rfl, ?yr120_20⟩) hHeld ?rr120_20
      case yr120_20 => (intro w' hSw; (try dsimp only at hSw); go_simp; try (with_reducible rfl))
      simp only [Act.put, List.setIfInBounds_toArray, List.set_cons_zero, List.set_cons_succ]
      refine wpAnyH_done (by kernel_rfl) ?_ _
      have B1 := Lib.hid (B0.out.trans (hB.mono B0.out.size))
      have X1 := Lib.hid (X0.out.on hB)
      clear hHeld hB HKP B0 X0
      generalize u1 = w1 at B1 X1 ⊢
      have c3 := on_some B1.out HC3.out
      obtain ⟨z0, z1, z2, z3⟩ := H4.out.on B1.out
      have hcall := text_yes c w1 HCS.out
      go_wp2_with fail
      (with_reducible refine hcall.mono ?_)
      rintro e w2 ⟨rfl, hb⟩
      have B2 := Lib.hid (B1.out.trans (hb.mono B1.out.size))
      have X2 := Lib.hid (X1.out.on hb)
      clear hcall hb c3 z0 z1 z2 z3 B1 X1
      obtain ⟨s, hs⟩ : ∃ s, txt c = s := ⟨_, rfl⟩
      rw [hs]
      have HTX := Lib.hid hs
      clear hs
      have heq : eq2 (uv c.vh) (uv c.vl) (uv c.vh) (uv c.vl) = true := eq2_self _ _
      have HRH : Hid (∀ W, Calls Tryz.prog 32 #[.string s, .agg #[.int .u64 (uv c.vh), .int .u64 (uv c.vl)]] W fun e w' => e = .returned (.bool true) ∧ Below W.heap.size W w') := fun W => by
        have h := rhas_s s c c.vh c.vl W HCS.out HTX.out
        rw [has_value HCS.out] at h
        exact h
      go_upto_region 8 with (fail)
      have HKP : Hid (∀ W, Below w2.heap.size w2 W → (W.cell? ⟨b, off + k * 4 + 1, none⟩ = some (.int .u64 (uv c.vh)) ∧ W.cell? ⟨b, off + k * 4 + 2, none⟩ = some (.int .u64 (uv c.vl)) ∧ W.cell? ⟨b, off + k * 4 + 3, none⟩ = some (.slice (some ⟨pb, po, none⟩) P2 P3) ∧ W.cell? ⟨pb, po, none⟩ = some (.int .u64 (uv c.vh)) ∧ W.cell? ⟨pb, po + 1, none⟩ = some (.int .u64 (uv c.vl)))) := fun W hb => ⟨on_some (B2.out.trans (hb.mono B2.out.size)) HC1.out, on_some (B2.out.trans (hb.mono B2.out.size)) HC2.out, on_some (B2.out.trans (hb.mono B2.out.size)) HC3.out, on_some (B2.out.trans (hb.mono B2.out.size)) (Lib.hid H4.out.1).out, on_some (B2.out.trans (hb.mono B2.out.size)) (Lib.hid H4.out.2.1).out⟩
      refine wp_region_held_drew (S := fun w' => w'.cell? ⟨b, off + k * 4 + 1, none⟩ = some (.int .u64 (uv c.vh)) ∧ w'.cell? ⟨b, off + k * 4 + 2, none⟩ = some (.int .u64 (uv c.vl)) ∧ w'.cell? ⟨b, off + k * 4 + 3, none⟩ = some (.slice (some ⟨pb, po, none⟩) P2 P3) ∧ w'.cell? ⟨pb, po, none⟩ = some (.int .u64 (uv c.vh)) ∧ w'.cell? ⟨pb, po + 1, none⟩ = some (.int .u64 (uv c.vl))) (by kernel_rfl) (HKP.out _ (Below.refl _ w2).drew) (fun hHeld => ?_)
      have hB := (Below.refl w2.heap.size w2).drew
      generalize w2.drew = u0 at hHeld hB ⊢
      refine wpAnyH_take (i := 0) (oi := ⟨some 50, _, _, _, _, _⟩) (v := ?vr20_1) rfl (by kernel_rfl) (by kernel_rfl) (by kernel_rfl) (fun _ _ _ h => h) (Or.inl ⟨by rfl, ?yr20_1⟩) hHeld ?rr20_1
      case yr20_1 => (intro w' hSw; (try dsimp only at hSw); go_simp; try (with_reducible rfl))
      simp only [Act.put, List.setIfInBounds_toArray, List.set_cons_zero, List.set_cons_succ]
      refine wpAnyH_take (i := 1) (oi := ⟨some 51, _, _, _, _, _⟩) (v := ?vr21_2) rfl (by kernel_rfl) (by kernel_rfl) (by kernel_rfl) (fun _ _ _ h => h) (Or.inl ⟨by rfl, ?yr21_2⟩) hHeld ?rr21_2
      case yr21_2 => (intro w' hSw; (try dsimp only at hSw); go_simp; try (with_reducible rfl))
      simp only [Act.put, List.setIfInBounds_toArray, List.set_cons_zero, List.set_cons_succ]
      refine wpAnyH_take (i := 2) (oi := ⟨some 52, _, _, _, _, _⟩) (v := ?vr22_3) rfl (by kernel_rfl) (by kernel_rfl) (by kernel_rfl) (fun _ _ _ h => h) (Or.inl ⟨by rfl, ?yr22_3⟩) hHeld ?rr22_3
      case yr22_3 => (intro w' hSw; (try dsimp only at hSw); go_simp; try (with_reducible rfl))
      simp only [Act.put, List.setIfInBounds_toArray, List.set_cons_zero, List.set_cons_succ]
      refine wpAnyH_take (i := 3) (oi := ⟨some 53, _, _, _, _, _⟩) (v := ?vr23_4) rfl (by kernel_rfl) (by kernel_rfl) (by kernel_rfl) (fun _ _ _ h => h) (Or.inl ⟨by rfl, ?yr23_4⟩) hHeld ?rr23_4
      case yr23_4 => (intro w' hSw; (try dsimp only at hSw); go_simp; try (with_reducible rfl))
      simp only [Act.put, List.setIfInBounds_toArray, List.set_cons_zero, List.set_cons_succ]
      refine wpAnyH_take (i := 4) (oi := ⟨some 54, _, _, _, _, _⟩) (v := ?vr24_5) rfl (by kernel_rfl) (by kernel_rfl) (by kernel_rfl) (fun _ _ _ h => h) (Or.inl ⟨by rfl, ?yr24_5⟩) hHeld ?rr24_5
      case yr24_5 => (intro w' hSw; (try dsimp only at hSw); go_simp; try (with_reducible rfl))
      simp only [Act.put, List.setIfInBounds_toArray, List.set_cons_zero, List.set_cons_succ]
      refine wpAnyH_take (i := 5) (oi := ⟨some 55, _, _, _, _, _⟩) (v := ?vr25_6) rfl (by kernel_rfl) (by kernel_rfl) (by kernel_rfl) (fun _ _ _ h => h) (Or.inl ⟨by rfl, ?yr25_6⟩) hHeld ?rr25_6
      case yr25_6 => (intro w' hSw; (try dsimp only at hSw); go_simp; try (with_reducible rfl))
      simp only [Act.put, List.setIfInBounds_toArray, List.set_cons_zero, List.set_cons_succ]
      refine wpAnyH_take (i := 6) (oi := ⟨some 56, _, _, _, _, _⟩) (v := ?vr26_7) rfl (by kernel_rfl) (by kernel_rfl) (by kernel_rfl) (fun _ _ _ h => h) (Or.inl ⟨by rfl, ?yr26_7⟩) hHeld ?rr26_7
      case yr26_7 => (intro w' hSw; (try dsimp only at hSw); go_simp; try (with_reducible rfl))
      simp only [Act.put, List.setIfInBounds_toArray, List.set_cons_zero, List.set_cons_succ]
      refine wpAnyH_take (i := 7) (oi := ⟨some 57, _, _, _, _, _⟩) (v := ?vr27_8) rfl (by kernel_rfl) (by kernel_rfl) (by kernel_rfl) (fun _ _ _ h => h) (Or.inl ⟨by rfl, ?yr27_8⟩) hHeld ?rr27_8
      case yr27_8 => (intro w' hSw; (try dsimp only at hSw); go_simp; try (with_reducible rfl))
      simp only [Act.put, List.setIfInBounds_toArray, List.set_cons_zero, List.set_cons_succ]
      refine wpAnyH_take (i := 8) (oi := ⟨some 58, _, _, _, _, _⟩) (v := ?vr28_9) rfl (by kernel_rfl) (by kernel_rfl) (by kernel_rfl) (fun _ _ _ h => h) (Or.inl ⟨by rfl, ?yr28_9⟩) hHeld ?rr28_9
      case yr28_9 => (intro w' hSw; (try dsimp only at hSw); go_simp; try (with_reducible rfl))
      simp only [Act.put, List.setIfInBounds_toArray, List.set_cons_zero, List.set_cons_succ]
      refine wpAnyH_ready (rs := [9]) (by kernel_rfl) (by simp) ?_
      refine AllReadyH.cons (o := ⟨some 59, _, _, _, _, _⟩) rfl (fun K hK => ?_) AllReadyH.nil
      go_simp
      (with_reducible refine (HRH.out u0).mono ?_)
      rintro e u1 ⟨rfl, hb⟩
      (try dsimp only)
      have hB2 := hB.trans (hb.mono hB.size)
      refine hK.out _ _ (HKP.out _ hB2) (fun hNext => ?_)
      clear hK K hHeld
      have hHeld := hNext
      clear hNext
      clear hB
      have hB := hB2
      clear hB2
      clear hb
      try simp only [Act.put, List.setIfInBounds_toArray, List.set_cons_zero, List.set_cons_succ]
      refine wpAnyH_take (i := 10) (oi := ⟨some 60, _, _, _, _, _⟩) (v := ?vr210_10) rfl (by kernel_rfl) (by kernel_rfl) (by kernel_rfl) (fun _ _ _ h => h) (Or.inl ⟨by rfl, ?yr210_10⟩) hHeld ?rr210_10
      case yr210_10 => (intro w' hSw; (try dsimp only at hSw); go_simp; try (with_reducible rfl))
      simp only [Act.put, List.setIfInBounds_toArray, List.set_cons_zero, List.set_cons_succ]
      refine wpAnyH_take (i := 11) (oi := ⟨some 61, _, _, _, _, _⟩) (v := ?vr211_11) rfl (by kernel_rfl) (by kernel_rfl) (by kernel_rfl) (fun _ _ _ h => h) (Or.inl ⟨by rfl, ?yr211_11⟩) hHeld ?rr211_11
      case yr211_11 => (intro w' hSw; (try dsimp only at hSw); go_simp; try (with_reducible rfl))
      simp only [Act.put, List.setIfInBounds_toArray, List.set_cons_zero, List.set_cons_succ]
      refine wpAnyH_take (i := 12) (oi := ⟨some 62, _, _, _, _, _⟩) (v := ?vr212_12) rfl (by kernel_rfl) (by kernel_rfl) (by kernel_rfl) (fun _ _ _ h => h) (Or.inl ⟨by rfl, ?yr212_12⟩) hHeld ?rr212_12
      case yr212_12 => (intro w' hSw; (try dsimp only at hSw); go_simp; try (with_reducible rfl))
      simp only [Act.put, List.setIfInBounds_toArray, List.set_cons_zero, List.set_cons_succ]
      refine wpAnyH_take (i := 13) (oi := ⟨some 63, _, _, _, _, _⟩) (v := ?vr213_13) rfl (by kernel_rfl) (by kernel_rfl) (by kernel_rfl) (fun _ _ _ h => h) (Or.inl ⟨by rfl, ?yr213_13⟩) hHeld ?rr213_13
      case yr213_13 => (intro w' hSw; (try dsimp only at hSw); go_simp; try (with_reducible rfl))
      simp only [Act.put, List.setIfInBounds_toArray, List.set_cons_zero, List.set_cons_succ]
      refine wpAnyH_take (i := 14) (oi := ⟨some 64, _, _, _, _, _⟩) (v := ?vr214_14) rfl (by kernel_rfl) (by kernel_rfl) (by kernel_rfl) (fun _ _ _ h => h) (Or.inl ⟨by rfl, ?yr214_14⟩) hHeld ?rr214_14
      case yr214_14 => (intro w' hSw; (try dsimp only at hSw); go_simp; try (with_reducible rfl))
      simp only [Act.put, List.setIfInBounds_toArray, List.set_cons_zero, List.set_cons_succ]
      refine wpAnyH_take (i := 15) (oi := ⟨some 65, _, _, _, _, _⟩) (v := ?vr215_15) rfl (by kernel_rfl) (by kernel_rfl) (by kernel_rfl) (fun _ _ _ h => h) (Or.inl ⟨by rfl, ?yr215_15⟩) hHeld ?rr215_15
      case yr215_15 => (intro w' hSw; (try dsimp only at hSw); go_simp; try (with_reducible rfl))
      simp only [Act.put, List.setIfInBounds_toArray, List.set_cons_zero, List.set_cons_succ]
      refine wpAnyH_take (i := 16) (oi := ⟨some 66, _, _, _, _, _⟩) (v := ?vr216_16) rfl (by kernel_rfl) (by kernel_rfl) (by kernel_rfl) (fun _ _ _ h => h) (Or.inl ⟨by rfl, ?yr216_16⟩) hHeld ?rr216_16
      case yr216_16 => (intro w' hSw; (try dsimp only at hSw); go_simp; try (with_reducible rfl))
      simp only [Act.put, List.setIfInBounds_toArray, List.set_cons_zero, List.set_cons_succ]
      refine wpAnyH_take (i := 17) (oi := ⟨some 67, _, _, _, _, _⟩) (v := ?vr217_17) rfl (by kernel_rfl) (by kernel_rfl) (by kernel_rfl) (fun _ _ _ h => h) (Or.inl ⟨by rfl, ?yr217_17⟩) hHeld ?rr217_17
      case yr217_17 => (intro w' hSw; (try dsimp only at hSw); go_simp; try (with_reducible rfl))
      simp only [Act.put, List.setIfInBounds_toArray, List.set_cons_zero, List.set_cons_succ]
      refine wpAnyH_take (i := 18) (oi := ⟨some 68, _, _, _, _, _⟩) (v := ?vr218_18) rfl (by kernel_rfl) (by kernel_rfl) (by kernel_rfl) (fun _ _ _ h => h) (Or.inl ⟨by rfl, ?yr218_18⟩) hHeld ?rr218_18
      case yr218_18 => (intro w' hSw; (try dsimp only at hSw); go_simp; try (with_reducible rfl))
      simp only [Act.put, List.setIfInBounds_toArray, List.set_cons_zero, List.set_cons_succ]
      refine wpAnyH_take (i := 19) (oi := ⟨some 69, _, _, _, _, _⟩) (v := ?vr219_19) rfl (by kernel_rfl) (by kernel_rfl) (by kernel_rfl) (fun _ _ _ h => h) (Or.inl ⟨by rfl, ?yr219_19⟩) hHeld ?rr219_19
      case yr219_19 => (intro w' hSw; (try dsimp only at hSw); go_simp; try (with_reducible rfl))
      simp only [Act.put, List.setIfInBounds_toArray, List.set_cons_zero, List.set_cons_succ]
      refine wpAnyH_take (i := 20) (oi := ⟨some 70, _, _, _, _, _⟩) (v := ?vr220_20) rfl (by kernel_rfl) (by kernel_rfl) (by kernel_rfl) (fun _ _ _ h => h) (Or.inl ⟨by rfl, ?yr220_20⟩) hHeld ?rr220_20
      case yr220_20 => (intro w' hSw; (try dsimp only at hSw); go_simp; try (with_reducible rfl))
      simp only [Act.put, List.setIfInBounds_toArray, List.set_cons_zero, List.set_cons_succ]
      refine wpAnyH_take (i := 21) (oi := ⟨some 71, _, _, _, _, _⟩) (v := ?vr221_21) rfl (by kernel_rfl) (by kernel_rfl) (by kernel_rfl) (fun _ _ _ h => h) (Or.inl ⟨by rfl, ?yr221_21⟩) hHeld ?rr221_21
      case yr221_21 => (intro w' hSw; (try dsimp only at hSw); go_simp; try (with_reducible rfl))
      simp only [Act.put, List.setIfInBounds_toArray, List.set_cons_zero, List.set_cons_succ]
      refine wpAnyH_take (i := 22) (oi := ⟨some 72, _, _, _, _, _⟩) (v := ?vr222_22) rfl (by kernel_rfl) (by kernel_rfl) (by kernel_rfl) (fun _ _ _ h => h) (Or.inl ⟨by rfl, ?yr222_22⟩) hHeld ?rr222_22
      case yr222_22 => (intro w' hSw; (try dsimp only at hSw); go_simp; try (with_reducible rfl))
      simp only [Act.put, List.setIfInBounds_toArray, List.set_cons_zero, List.set_cons_succ]
      refine wpAnyH_take (i := 23) (oi := ⟨some 73, _, _, _, _, _⟩) (v := ?vr223_23) rfl (by kernel_rfl) (by kernel_rfl) (by kernel_rfl) (fun _ _ _ h => h) (Or.inl ⟨by rfl, ?yr223_23⟩) hHeld ?rr223_23
      case yr223_23 => (intro w' hSw; (try dsimp only at hSw); go_simp; try (with_reducible rfl))
      simp only [Act.put, List.setIfInBounds_toArray, List.set_cons_zero, List.set_cons_succ]
      refine wpAnyH_take (i := 24) (oi := ⟨some 74, _, _, _, _, _⟩) (v := ?vr224_24) rfl (by kernel_rfl) (by kernel_rfl) (by kernel_rfl) (fun _ _ _ h => h) (Or.inl ⟨by rfl, ?yr224_24⟩) hHeld ?rr224_24
      case yr224_24 => (intro w' hSw; (try dsimp only at hSw); go_simp; try (with_reducible rfl))
      simp only [Act.put, List.setIfInBounds_toArray, List.set_cons_zero, List.set_cons_succ]
      refine wpAnyH_take (i := 25) (oi := ⟨some 75, _, _, _, _, _⟩) (v := ?vr225_25) rfl (by kernel_rfl) (by kernel_rfl) (by kernel_rfl) (fun _ _ _ h => h) (Or.inl ⟨by rfl, ?yr225_25⟩) hHeld ?rr225_25
      case yr225_25 => (intro w' hSw; (try dsimp only at hSw); go_simp; try (with_reducible rfl))
      simp only [Act.put, List.setIfInBounds_toArray, List.set_cons_zero, List.set_cons_succ]
      refine wpAnyH_take (i := 26) (oi := ⟨some 76, _, _, _, _, _⟩) (v := ?vr226_26) rfl (by kernel_rfl) (by kernel_rfl) (by kernel_rfl) (fun _ _ _ h => h) (Or.inl ⟨by rfl, ?yr226_26⟩) hHeld ?rr226_26
      case yr226_26 => (intro w' hSw; (try dsimp only at hSw); go_simp; try (with_reducible rfl))
      simp only [Act.put, List.setIfInBounds_toArray, List.set_cons_zero, List.set_cons_succ]
      refine wpAnyH_take (i := 27) (oi := ⟨some 77, _, _, _, _, _⟩) (v := ?vr227_27) rfl (by kernel_rfl) (by kernel_rfl) (by kernel_rfl) (fun _ _ _ h => h) (Or.inl ⟨by rfl, ?yr227_27⟩) hHeld ?rr227_27
      case yr227_27 => (intro w' hSw; (try dsimp only at hSw); go_simp; try (with_reducible rfl))
      simp only [Act.put, List.setIfInBounds_toArray, List.set_cons_zero, List.set_cons_succ]
      refine wpAnyH_done (by kernel_rfl) ?_ _
      have B3 := Lib.hid (B2.out.trans (hB.mono B2.out.size))
      have X3 := Lib.hid (X2.out.on hB)
      clear hHeld hB HKP B2 X2
      generalize u1 = w3 at B3 X3 ⊢
      cases hx : hasP (c :: p) (hh, hl) with
      | true =>
        go_upto_region 10 with (fail)
        have HKP : Hid (∀ W, Below w3.heap.size w3 W → (W.cell? ⟨b, off + k * 4 + 3, none⟩ = some (.slice (some ⟨pb, po, none⟩) P2 P3) ∧ W.cell? ⟨w.heap.size, 0, none⟩ = some (.int .u64 (uv hh)) ∧ W.cell? ⟨w.heap.size, 1, none⟩ = some (.int .u64 (uv hl)))) := fun W hb => ⟨on_some (B3.out.trans (hb.mono B3.out.size)) HC3.out, ((X3.out.on hb).cell 0).trans rfl, ((X3.out.on hb).cell 1).trans rfl⟩
        refine wp_region_held_drew (S := fun w' => w'.cell? ⟨b, off + k * 4 + 3, none⟩ = some (.slice (some ⟨pb, po, none⟩) P2 P3) ∧ w'.cell? ⟨w.heap.size, 0, none⟩ = some (.int .u64 (uv hh)) ∧ w'.cell? ⟨w.heap.size, 1, none⟩ = some (.int .u64 (uv hl))) (by kernel_rfl) (HKP.out _ (Below.refl _ w3).drew) (fun hHeld => ?_)
        have hB := (Below.refl w3.heap.size w3).drew
        generalize w3.drew = u0 at hHeld hB ⊢
        refine wpAnyH_take (i := 0) (oi := ⟨some 78, _, _, _, _, _⟩) (v := ?vr30_1) rfl (by kernel_rfl) (by kernel_rfl) (by kernel_rfl) (fun _ _ _ h => h) (Or.inl ⟨by rfl, ?yr30_1⟩) hHeld ?rr30_1
        case yr30_1 => (intro w' hSw; (try dsimp only at hSw); go_simp; try (with_reducible rfl))
        simp only [Act.put, List.setIfInBounds_toArray, List.set_cons_zero, List.set_cons_succ]
        refine wpAnyH_take (i := 1) (oi := ⟨some 79, _, _, _, _, _⟩) (v := ?vr31_2) rfl (by kernel_rfl) (by kernel_rfl) (by kernel_rfl) (fun _ _ _ h => h) (Or.inl ⟨by rfl, ?yr31_2⟩) hHeld ?rr31_2
        case yr31_2 => (intro w' hSw; (try dsimp only at hSw); go_simp; try (with_reducible rfl))
        simp only [Act.put, List.setIfInBounds_toArray, List.set_cons_zero, List.set_cons_succ]
        refine wpAnyH_take (i := 2) (oi := ⟨some 80, _, _, _, _, _⟩) (v := ?vr32_3) rfl (by kernel_rfl) (by kernel_rfl) (by kernel_rfl) (fun _ _ _ h => h) (Or.inl ⟨by rfl, ?yr32_3⟩) hHeld ?rr32_3
        case yr32_3 => (intro w' hSw; (try dsimp only at hSw); go_simp; try (with_reducible rfl))
        simp only [Act.put, List.setIfInBounds_toArray, List.set_cons_zero, List.set_cons_succ]
        refine wpAnyH_take (i := 3) (oi := ⟨some 81, _, _, _, _, _⟩) (v := ?vr33_4) rfl (by kernel_rfl) (by kernel_rfl) (by kernel_rfl) (fun _ _ _ h => h) (Or.inl ⟨by rfl, ?yr33_4⟩) hHeld ?rr33_4
        case yr33_4 => (intro w' hSw; (try dsimp only at hSw); go_simp; try (with_reducible rfl))
        simp only [Act.put, List.setIfInBounds_toArray, List.set_cons_zero, List.set_cons_succ]
        refine wpAnyH_take (i := 4) (oi := ⟨some 82, _, _, _, _, _⟩) (v := ?vr34_5) rfl (by kernel_rfl) (by kernel_rfl) (by kernel_rfl) (fun _ _ _ h => h) (Or.inl ⟨by rfl, ?yr34_5⟩) hHeld ?rr34_5
        case yr34_5 => (intro w' hSw; (try dsimp only at hSw); go_simp; try (with_reducible rfl))
        simp only [Act.put, List.setIfInBounds_toArray, List.set_cons_zero, List.set_cons_succ]
        refine wpAnyH_take (i := 5) (oi := ⟨some 83, _, _, _, _, _⟩) (v := ?vr35_6) rfl (by kernel_rfl) (by kernel_rfl) (by kernel_rfl) (fun _ _ _ h => h) (Or.inl ⟨by rfl, ?yr35_6⟩) hHeld ?rr35_6
        case yr35_6 => (intro w' hSw; (try dsimp only at hSw); go_simp; try (with_reducible rfl))
        simp only [Act.put, List.setIfInBounds_toArray, List.set_cons_zero, List.set_cons_succ]
        refine wpAnyH_ready (rs := [6]) (by kernel_rfl) (by simp) ?_
        refine AllReadyH.cons (o := ⟨some 84, _, _, _, _, _⟩) rfl (fun K hK => ?_) AllReadyH.nil
        go_simp
        (with_reducible refine (rhas3_c true _ (c :: p) hh hl u0 (by have := HPL.out; omega) (by have h := hx; unfold hasP at h; exact h) (HPI.out.on (B3.out.trans (hB.mono B3.out.size)))).mono ?_)
        rintro e u1 ⟨rfl, hb⟩
        (try dsimp only)
        have hB2 := hB.trans (hb.mono hB.size)
        refine hK.out _ _ (HKP.out _ hB2) (fun hNext => ?_)
        clear hK K hHeld
        have hHeld := hNext
        clear hNext
        clear hB
        have hB := hB2
        clear hB2
        clear hb
        try simp only [Act.put, List.setIfInBounds_toArray, List.set_cons_zero, List.set_cons_succ]
        refine wpAnyH_done (by kernel_rfl) ?_ _
        have B4 := Lib.hid (B3.out.trans (hB.mono B3.out.size))
        have X4 := Lib.hid (X3.out.on hB)
        clear hHeld hB HKP B3 X3
        generalize u1 = w4 at B4 X4 ⊢
        have hmo : m = 0 := by
          have h1 := cnt_step (x := (hh, hl)) HAK.out
          have h2 := cnt_leA HI.out (k + 1)
          rw [if_pos (show hasP (c :: p) (hh, hl) = true from hx)] at h1
          have := HM.out
          omega
        subst hmo
        have HMS : Hid (1 = (idsAt hasP (al.take (k + 1)) (hh, hl)).length) := by
          show _ = _
          rw [cnt_step HAK.out, if_pos (show hasP (c :: p) (hh, hl) = true from hx), ← HM.out]
        have heI : ids = I := ids_one HI.out (List.mem_of_getElem? HAK.out) hx
        have heq2 : decide (ids = I) = true := decide_eq_true heI
        have c0 := on_some B4.out HC0.out
        have hcall := rintg_c _ _ ids I w4 (by have := HID.out; omega) (by have := HIL.out; omega) (HNI.out.on B4.out) (HU.out.on B4.out)
        rw [heq2] at hcall
        clear heI
        go_wp2_with fail
        (with_reducible refine hcall.mono ?_)
        rintro e w5 ⟨rfl, hb⟩
        have B5 := Lib.hid (B4.out.trans (hb.mono B4.out.size))
        have X5 := Lib.hid (X4.out.on hb)
        clear hcall hb c0 heq2 B4 X4
        go_wp2
        go_loopg [11] k (fun gj s11 wz => ∃ j : Nat, j ≤ k ∧ gj = k - j ∧ s11 = .int .i64 j ∧ Hid (Below w.heap.size w wz) ∧ Hid (Blk wz w.heap.size 25 #[.int .u64 (uv hh), .int .u64 (uv hl)]))
        case atStart => exact ⟨0, Nat.zero_le _, rfl, rfl, B5, X5⟩
        case round =>
          clear B5 X5
          obtain ⟨j, hj, rfl, rfl, BZ, XZ⟩ := hrel
          by_cases hjk : j < k
          · have hjz : (j : Int) < (k : Int) := by omega
            have hjlz : (j : Int) < (al.length : Int) := by omega
            obtain ⟨a2, ha2⟩ : ∃ a, al[j]? = some a := ⟨_, List.getElem?_eq_getElem (by omega)⟩
            obtain ⟨K1, K2, K3, R1, R2, R3, ⟨e0, -, -, -⟩, hN2, -, hK2, -⟩ := (HAC.out j a2 ha2).cells
            subst hK2
            have HE0 := Lib.hid e0
            have HN2 := Lib.hid hN2
            have hne : decide (ids = a2.ids) = false := decide_eq_false (dst_at HD.out HAK.out ha2 hjk)
            have hl2 := HBL.out a2 (List.mem_of_getElem? ha2)
            have HRI : Hid (∀ W, Below w.heap.size w W → Calls Tryz.prog 17 #[.slice I1 ids.length I3, .slice K1 a2.ids.length K3] W fun e w' => e = .returned (.bool false) ∧ Below W.heap.size W w') := fun W hb => by
              have h := rintg_c _ _ ids a2.ids W (by have := HID.out; omega) (by omega) (HNI.out.on hb) (HN2.out.on hb)
              rw [hne] at h
              exact h
            clear e0 hN2 ha2
            go_upto_region 17 with (fail)
            have HKP : Hid (∀ W, Below wr.heap.size wr W → (W.cell? ⟨b, off + k * 4, none⟩ = some (.slice I1 ids.length I3) ∧ W.cell? ⟨b, off + j * 4, none⟩ = some (.slice K1 a2.ids.length K3))) := fun W hb => ⟨on_some (BZ.out.trans (hb.mono BZ.out.size)) HC0.out, on_some (BZ.out.trans (hb.mono BZ.out.size)) HE0.out⟩
            refine wp_region_held_drew (S := fun w' => w'.cell? ⟨b, off + k * 4, none⟩ = some (.slice I1 ids.length I3) ∧ w'.cell? ⟨b, off + j * 4, none⟩ = some (.slice K1 a2.ids.length K3)) (by kernel_rfl) (HKP.out _ (Below.refl _ wr).drew) (fun hHeld => ?_)
            have hB := (Below.refl wr.heap.size wr).drew
            generalize wr.drew = u0 at hHeld hB ⊢
            refine wpAnyH_take (i := 0) (oi := ⟨some 100, _, _, _, _, _⟩) (v := ?vr40_1) rfl (by kernel_rfl) (by kernel_rfl) (by kernel_rfl) (fun _ _ _ h => h) (Or.inl ⟨by rfl, ?yr40_1⟩) hHeld ?rr40_1
            case yr40_1 => (intro w' hSw; (try dsimp only at hSw); go_simp; try (with_reducible rfl))
            simp only [Act.put, List.setIfInBounds_toArray, List.set_cons_zero, List.set_cons_succ]
            refine wpAnyH_take (i := 1) (oi := ⟨some 101, _, _, _, _, _⟩) (v := ?vr41_2) rfl (by kernel_rfl) (by kernel_rfl) (by kernel_rfl) (fun _ _ _ h => h) (Or.inl ⟨by rfl, ?yr41_2⟩) hHeld ?rr41_2
            case yr41_2 => (intro w' hSw; (try dsimp only at hSw); go_simp; try (with_reducible rfl))
            simp only [Act.put, List.setIfInBounds_toArray, List.set_cons_zero, List.set_cons_succ]
            refine wpAnyH_take (i := 2) (oi := ⟨some 102, _, _, _, _, _⟩) (v := ?vr42_3) rfl (by kernel_rfl) (by kernel_rfl) (by kernel_rfl) (fun _ _ _ h => h) (Or.inl ⟨by rfl, ?yr42_3⟩) hHeld ?rr42_3
            case yr42_3 => (intro w' hSw; (try dsimp only at hSw); go_simp; try (with_reducible rfl))
            simp only [Act.put, List.setIfInBounds_toArray, List.set_cons_zero, List.set_cons_succ]
            refine wpAnyH_take (i := 3) (oi := ⟨some 103, _, _, _, _, _⟩) (v := ?vr43_4) rfl (by kernel_rfl) (by kernel_rfl) (by kernel_rfl) (fun _ _ _ h => h) (Or.inl ⟨by rfl, ?yr43_4⟩) hHeld ?rr43_4
            case yr43_4 => (intro w' hSw; (try dsimp only at hSw); go_simp; try (with_reducible rfl))
            simp only [Act.put, List.setIfInBounds_toArray, List.set_cons_zero, List.set_cons_succ]
            refine wpAnyH_take (i := 4) (oi := ⟨some 104, _, _, _, _, _⟩) (v := ?vr44_5) rfl (by kernel_rfl) (by kernel_rfl) (by kernel_rfl) (fun _ _ _ h => h) (Or.inl ⟨by rfl, ?yr44_5⟩) hHeld ?rr44_5
            case yr44_5 => (intro w' hSw; (try dsimp only at hSw); go_simp; try (with_reducible rfl))
            simp only [Act.put, List.setIfInBounds_toArray, List.set_cons_zero, List.set_cons_succ]
            refine wpAnyH_take (i := 5) (oi := ⟨some 105, _, _, _, _, _⟩) (v := ?vr45_6) rfl (by kernel_rfl) (by kernel_rfl) (by kernel_rfl) (fun _ _ _ h => h) (Or.inl ⟨by rfl, ?yr45_6⟩) hHeld ?rr45_6
            case yr45_6 => (intro w' hSw; (try dsimp only at hSw); go_simp; try (with_reducible rfl))
            simp only [Act.put, List.setIfInBounds_toArray, List.set_cons_zero, List.set_cons_succ]
            refine wpAnyH_take (i := 6) (oi := ⟨some 106, _, _, _, _, _⟩) (v := ?vr46_7) rfl (by kernel_rfl) (by kernel_rfl) (by kernel_rfl) (fun _ _ _ h => h) (Or.inl ⟨by rfl, ?yr46_7⟩) hHeld ?rr46_7
            case yr46_7 => (intro w' hSw; (try dsimp only at hSw); go_simp; try (with_reducible rfl))
            simp only [Act.put, List.setIfInBounds_toArray, List.set_cons_zero, List.set_cons_succ]
            refine wpAnyH_take (i := 7) (oi := ⟨some 107, _, _, _, _, _⟩) (v := ?vr47_8) rfl (by kernel_rfl) (by kernel_rfl) (by kernel_rfl) (fun _ _ _ h => h) (Or.inl ⟨by rfl, ?yr47_8⟩) hHeld ?rr47_8
            case yr47_8 => (intro w' hSw; (try dsimp only at hSw); go_simp; try (with_reducible rfl))
            simp only [Act.put, List.setIfInBounds_toArray, List.set_cons_zero, List.set_cons_succ]
            refine wpAnyH_take (i := 8) (oi := ⟨some 108, _, _, _, _, _⟩) (v := ?vr48_9) rfl (by kernel_rfl) (by kernel_rfl) (by kernel_rfl) (fun _ _ _ h => h) (Or.inl ⟨by rfl, ?yr48_9⟩) hHeld ?rr48_9
            case yr48_9 => (intro w' hSw; (try dsimp only at hSw); go_simp; try (with_reducible rfl))
            simp only [Act.put, List.setIfInBounds_toArray, List.set_cons_zero, List.set_cons_succ]
            refine wpAnyH_take (i := 9) (oi := ⟨some 109, _, _, _, _, _⟩) (v := ?vr49_10) rfl (by kernel_rfl) (by kernel_rfl) (by kernel_rfl) (fun _ _ _ h => h) (Or.inl ⟨by rfl, ?yr49_10⟩) hHeld ?rr49_10
            case yr49_10 => (intro w' hSw; (try dsimp only at hSw); go_simp; try (with_reducible rfl))
            simp only [Act.put, List.setIfInBounds_toArray, List.set_cons_zero, List.set_cons_succ]
            refine wpAnyH_ready (rs := [10]) (by kernel_rfl) (by simp) ?_
            refine AllReadyH.cons (o := ⟨some 110, _, _, _, _, _⟩) rfl (fun K hK => ?_) AllReadyH.nil
            go_simp
            (with_reducible refine (HRI.out u0 (BZ.out.trans (hB.mono BZ.out.size))).mono ?_)
            rintro e u1 ⟨rfl, hb⟩
            (try dsimp only)
            have hB2 := hB.trans (hb.mono hB.size)
            refine hK.out _ _ (HKP.out _ hB2) (fun hNext => ?_)
            clear hK K hHeld
            have hHeld := hNext
            clear hNext
            clear hB
            have hB := hB2
            clear hB2
            clear hb
            try simp only [Act.put, List.setIfInBounds_toArray, List.set_cons_zero, List.set_cons_succ]
            refine wpAnyH_done (by kernel_rfl) ?_ _
            have B6 := Lib.hid (BZ.out.trans (hB.mono BZ.out.size))
            have X6 := Lib.hid (XZ.out.on hB)
            clear hHeld hB HKP BZ XZ
            generalize u1 = w6 at B6 X6 ⊢
            clear hne hl2 HE0 HN2 HRI
            go_wp2
            go_roundg (k - (j + 1))
            case measure => omega
            case rel => exact ⟨j + 1, by omega, rfl, by go_num, B6, X6⟩
          · have hjz : ¬ (j : Int) < (k : Int) := by omega
            go_wp2
            go_roundg (al.length - (k + 1))
            case measure => omega
            case rel => exact ⟨k + 1, 1, by omega, rfl, by go_num, by go_num, by omega, BZ, XZ, HMS⟩
      | false =>
        go_upto_region 10 with (fail)
        have HKP : Hid (∀ W, Below w3.heap.size w3 W → (W.cell? ⟨b, off + k * 4 + 3, none⟩ = some (.slice (some ⟨pb, po, none⟩) P2 P3) ∧ W.cell? ⟨w.heap.size, 0, none⟩ = some (.int .u64 (uv hh)) ∧ W.cell? ⟨w.heap.size, 1, none⟩ = some (.int .u64 (uv hl)))) := fun W hb => ⟨on_some (B3.out.trans (hb.mono B3.out.size)) HC3.out, ((X3.out.on hb).cell 0).trans rfl, ((X3.out.on hb).cell 1).trans rfl⟩
        refine wp_region_held_drew (S := fun w' => w'.cell? ⟨b, off + k * 4 + 3, none⟩ = some (.slice (some ⟨pb, po, none⟩) P2 P3) ∧ w'.cell? ⟨w.heap.size, 0, none⟩ = some (.int .u64 (uv hh)) ∧ w'.cell? ⟨w.heap.size, 1, none⟩ = some (.int .u64 (uv hl))) (by kernel_rfl) (HKP.out _ (Below.refl _ w3).drew) (fun hHeld => ?_)
        have hB := (Below.refl w3.heap.size w3).drew
        generalize w3.drew = u0 at hHeld hB ⊢
        refine wpAnyH_take (i := 0) (oi := ⟨some 78, _, _, _, _, _⟩) (v := ?vr50_1) rfl (by kernel_rfl) (by kernel_rfl) (by kernel_rfl) (fun _ _ _ h => h) (Or.inl ⟨by rfl, ?yr50_1⟩) hHeld ?rr50_1
        case yr50_1 => (intro w' hSw; (try dsimp only at hSw); go_simp; try (with_reducible rfl))
        simp only [Act.put, List.setIfInBounds_toArray, List.set_cons_zero, List.set_cons_succ]
        refine wpAnyH_take (i := 1) (oi := ⟨some 79, _, _, _, _, _⟩) (v := ?vr51_2) rfl (by kernel_rfl) (by kernel_rfl) (by kernel_rfl) (fun _ _ _ h => h) (Or.inl ⟨by rfl, ?yr51_2⟩) hHeld ?rr51_2
        case yr51_2 => (intro w' hSw; (try dsimp only at hSw); go_simp; try (with_reducible rfl))
        simp only [Act.put, List.setIfInBounds_toArray, List.set_cons_zero, List.set_cons_succ]
        refine wpAnyH_take (i := 2) (oi := ⟨some 80, _, _, _, _, _⟩) (v := ?vr52_3) rfl (by kernel_rfl) (by kernel_rfl) (by kernel_rfl) (fun _ _ _ h => h) (Or.inl ⟨by rfl, ?yr52_3⟩) hHeld ?rr52_3
        case yr52_3 => (intro w' hSw; (try dsimp only at hSw); go_simp; try (with_reducible rfl))
        simp only [Act.put, List.setIfInBounds_toArray, List.set_cons_zero, List.set_cons_succ]
        refine wpAnyH_take (i := 3) (oi := ⟨some 81, _, _, _, _, _⟩) (v := ?vr53_4) rfl (by kernel_rfl) (by kernel_rfl) (by kernel_rfl) (fun _ _ _ h => h) (Or.inl ⟨by rfl, ?yr53_4⟩) hHeld ?rr53_4
        case yr53_4 => (intro w' hSw; (try dsimp only at hSw); go_simp; try (with_reducible rfl))
        simp only [Act.put, List.setIfInBounds_toArray, List.set_cons_zero, List.set_cons_succ]
        refine wpAnyH_take (i := 4) (oi := ⟨some 82, _, _, _, _, _⟩) (v := ?vr54_5) rfl (by kernel_rfl) (by kernel_rfl) (by kernel_rfl) (fun _ _ _ h => h) (Or.inl ⟨by rfl, ?yr54_5⟩) hHeld ?rr54_5
        case yr54_5 => (intro w' hSw; (try dsimp only at hSw); go_simp; try (with_reducible rfl))
        simp only [Act.put, List.setIfInBounds_toArray, List.set_cons_zero, List.set_cons_succ]
        refine wpAnyH_take (i := 5) (oi := ⟨some 83, _, _, _, _, _⟩) (v := ?vr55_6) rfl (by kernel_rfl) (by kernel_rfl) (by kernel_rfl) (fun _ _ _ h => h) (Or.inl ⟨by rfl, ?yr55_6⟩) hHeld ?rr55_6
        case yr55_6 => (intro w' hSw; (try dsimp only at hSw); go_simp; try (with_reducible rfl))
        simp only [Act.put, List.setIfInBounds_toArray, List.set_cons_zero, List.set_cons_succ]
        refine wpAnyH_ready (rs := [6]) (by kernel_rfl) (by simp) ?_
        refine AllReadyH.cons (o := ⟨some 84, _, _, _, _, _⟩) rfl (fun K hK => ?_) AllReadyH.nil
        go_simp
        (with_reducible refine (rhas3_c false _ (c :: p) hh hl u0 (by have := HPL.out; omega) (by have h := hx; unfold hasP at h; exact h) (HPI.out.on (B3.out.trans (hB.mono B3.out.size)))).mono ?_)
        rintro e u1 ⟨rfl, hb⟩
        (try dsimp only)
        have hB2 := hB.trans (hb.mono hB.size)
        refine hK.out _ _ (HKP.out _ hB2) (fun hNext => ?_)
        clear hK K hHeld
        have hHeld := hNext
        clear hNext
        clear hB
        have hB := hB2
        clear hB2
        clear hb
        try simp only [Act.put, List.setIfInBounds_toArray, List.set_cons_zero, List.set_cons_succ]
        refine wpAnyH_done (by kernel_rfl) ?_ _
        have B7 := Lib.hid (B3.out.trans (hB.mono B3.out.size))
        have X7 := Lib.hid (X3.out.on hB)
        clear hHeld hB HKP B3 X3
        generalize u1 = w7 at B7 X7 ⊢
        have HMS : Hid (m = (idsAt hasP (al.take (k + 1)) (hh, hl)).length) := by
          show _ = _
          rw [cnt_step HAK.out, if_neg (by rw [show hasP (c :: p) (hh, hl) = false from hx]; simp), ← HM.out, Nat.add_zero]
        go_wp2
        go_loopg [11] k (fun gj s11 wz => ∃ j : Nat, j ≤ k ∧ gj = k - j ∧ s11 = .int .i64 j ∧ Hid (Below w.heap.size w wz) ∧ Hid (Blk wz w.heap.size 25 #[.int .u64 (uv hh), .int .u64 (uv hl)]))
        case atStart => exact ⟨0, Nat.zero_le _, rfl, rfl, B7, X7⟩
        case round =>
          clear B7 X7
          obtain ⟨j, hj, rfl, rfl, BZ, XZ⟩ := hrel
          by_cases hjk : j < k
          · have hjz : (j : Int) < (k : Int) := by omega
            have hjlz : (j : Int) < (al.length : Int) := by omega
            obtain ⟨a2, ha2⟩ : ∃ a, al[j]? = some a := ⟨_, List.getElem?_eq_getElem (by omega)⟩
            obtain ⟨K1, K2, K3, R1, R2, R3, ⟨e0, -, -, -⟩, hN2, -, hK2, -⟩ := (HAC.out j a2 ha2).cells
            subst hK2
            have HE0 := Lib.hid e0
            have HN2 := Lib.hid hN2
            have hne : decide (ids = a2.ids) = false := decide_eq_false (dst_at HD.out HAK.out ha2 hjk)
            have hl2 := HBL.out a2 (List.mem_of_getElem? ha2)
            have HRI : Hid (∀ W, Below w.heap.size w W → Calls Tryz.prog 17 #[.slice I1 ids.length I3, .slice K1 a2.ids.length K3] W fun e w' => e = .returned (.bool false) ∧ Below W.heap.size W w') := fun W hb => by
              have h := rintg_c _ _ ids a2.ids W (by have := HID.out; omega) (by omega) (HNI.out.on hb) (HN2.out.on hb)
              rw [hne] at h
              exact h
            clear e0 hN2 ha2
            go_upto_region 17 with (fail)
            have HKP : Hid (∀ W, Below wr.heap.size wr W → (W.cell? ⟨b, off + k * 4, none⟩ = some (.slice I1 ids.length I3) ∧ W.cell? ⟨b, off + j * 4, none⟩ = some (.slice K1 a2.ids.length K3))) := fun W hb => ⟨on_some (BZ.out.trans (hb.mono BZ.out.size)) HC0.out, on_some (BZ.out.trans (hb.mono BZ.out.size)) HE0.out⟩
            refine wp_region_held_drew (S := fun w' => w'.cell? ⟨b, off + k * 4, none⟩ = some (.slice I1 ids.length I3) ∧ w'.cell? ⟨b, off + j * 4, none⟩ = some (.slice K1 a2.ids.length K3)) (by kernel_rfl) (HKP.out _ (Below.refl _ wr).drew) (fun hHeld => ?_)
            have hB := (Below.refl wr.heap.size wr).drew
            generalize wr.drew = u0 at hHeld hB ⊢
            refine wpAnyH_take (i := 0) (oi := ⟨some 100, _, _, _, _, _⟩) (v := ?vr60_1) rfl (by kernel_rfl) (by kernel_rfl) (by kernel_rfl) (fun _ _ _ h => h) (Or.inl ⟨by rfl, ?yr60_1⟩) hHeld ?rr60_1
            case yr60_1 => (intro w' hSw; (try dsimp only at hSw); go_simp; try (with_reducible rfl))
            simp only [Act.put, List.setIfInBounds_toArray, List.set_cons_zero, List.set_cons_succ]
            refine wpAnyH_take (i := 1) (oi := ⟨some 101, _, _, _, _, _⟩) (v := ?vr61_2) rfl (by kernel_rfl) (by kernel_rfl) (by kernel_rfl) (fun _ _ _ h => h) (Or.inl ⟨by rfl, ?yr61_2⟩) hHeld ?rr61_2
            case yr61_2 => (intro w' hSw; (try dsimp only at hSw); go_simp; try (with_reducible rfl))
            simp only [Act.put, List.setIfInBounds_toArray, List.set_cons_zero, List.set_cons_succ]
            refine wpAnyH_take (i := 2) (oi := ⟨some 102, _, _, _, _, _⟩) (v := ?vr62_3) rfl (by kernel_rfl) (by kernel_rfl) (by kernel_rfl) (fun _ _ _ h => h) (Or.inl ⟨by rfl, ?yr62_3⟩) hHeld ?rr62_3
            case yr62_3 => (intro w' hSw; (try dsimp only at hSw); go_simp; try (with_reducible rfl))
            simp only [Act.put, List.setIfInBounds_toArray, List.set_cons_zero, List.set_cons_succ]
            refine wpAnyH_take (i := 3) (oi := ⟨some 103, _, _, _, _, _⟩) (v := ?vr63_4) rfl (by kernel_rfl) (by kernel_rfl) (by kernel_rfl) (fun _ _ _ h => h) (Or.inl ⟨by rfl, ?yr63_4⟩) hHeld ?rr63_4
            case yr63_4 => (intro w' hSw; (try dsimp only at hSw); go_simp; try (with_reducible rfl))
            simp only [Act.put, List.setIfInBounds_toArray, List.set_cons_zero, List.set_cons_succ]
            refine wpAnyH_take (i := 4) (oi := ⟨some 104, _, _, _, _, _⟩) (v := ?vr64_5) rfl (by kernel_rfl) (by kernel_rfl) (by kernel_rfl) (fun _ _ _ h => h) (Or.inl ⟨by rfl, ?yr64_5⟩) hHeld ?rr64_5
            case yr64_5 => (intro w' hSw; (try dsimp only at hSw); go_simp; try (with_reducible rfl))
            simp only [Act.put, List.setIfInBounds_toArray, List.set_cons_zero, List.set_cons_succ]
            refine wpAnyH_take (i := 5) (oi := ⟨some 105, _, _, _, _, _⟩) (v := ?vr65_6) rfl (by kernel_rfl) (by kernel_rfl) (by kernel_rfl) (fun _ _ _ h => h) (Or.inl ⟨by rfl, ?yr65_6⟩) hHeld ?rr65_6
            case yr65_6 => (intro w' hSw; (try dsimp only at hSw); go_simp; try (with_reducible rfl))
            simp only [Act.put, List.setIfInBounds_toArray, List.set_cons_zero, List.set_cons_succ]
            refine wpAnyH_take (i := 6) (oi := ⟨some 106, _, _, _, _, _⟩) (v := ?vr66_7) rfl (by kernel_rfl) (by kernel_rfl) (by kernel_rfl) (fun _ _ _ h => h) (Or.inl ⟨by rfl, ?yr66_7⟩) hHeld ?rr66_7
            case yr66_7 => (intro w' hSw; (try dsimp only at hSw); go_simp; try (with_reducible rfl))
            simp only [Act.put, List.setIfInBounds_toArray, List.set_cons_zero, List.set_cons_succ]
            refine wpAnyH_take (i := 7) (oi := ⟨some 107, _, _, _, _, _⟩) (v := ?vr67_8) rfl (by kernel_rfl) (by kernel_rfl) (by kernel_rfl) (fun _ _ _ h => h) (Or.inl ⟨by rfl, ?yr67_8⟩) hHeld ?rr67_8
            case yr67_8 => (intro w' hSw; (try dsimp only at hSw); go_simp; try (with_reducible rfl))
            simp only [Act.put, List.setIfInBounds_toArray, List.set_cons_zero, List.set_cons_succ]
            refine wpAnyH_take (i := 8) (oi := ⟨some 108, _, _, _, _, _⟩) (v := ?vr68_9) rfl (by kernel_rfl) (by kernel_rfl) (by kernel_rfl) (fun _ _ _ h => h) (Or.inl ⟨by rfl, ?yr68_9⟩) hHeld ?rr68_9
            case yr68_9 => (intro w' hSw; (try dsimp only at hSw); go_simp; try (with_reducible rfl))
            simp only [Act.put, List.setIfInBounds_toArray, List.set_cons_zero, List.set_cons_succ]
            refine wpAnyH_take (i := 9) (oi := ⟨some 109, _, _, _, _, _⟩) (v := ?vr69_10) rfl (by kernel_rfl) (by kernel_rfl) (by kernel_rfl) (fun _ _ _ h => h) (Or.inl ⟨by rfl, ?yr69_10⟩) hHeld ?rr69_10
            case yr69_10 => (intro w' hSw; (try dsimp only at hSw); go_simp; try (with_reducible rfl))
            simp only [Act.put, List.setIfInBounds_toArray, List.set_cons_zero, List.set_cons_succ]
            refine wpAnyH_ready (rs := [10]) (by kernel_rfl) (by simp) ?_
            refine AllReadyH.cons (o := ⟨some 110, _, _, _, _, _⟩) rfl (fun K hK => ?_) AllReadyH.nil
            go_simp
            (with_reducible refine (HRI.out u0 (BZ.out.trans (hB.mono BZ.out.size))).mono ?_)
            rintro e u1 ⟨rfl, hb⟩
            (try dsimp only)
            have hB2 := hB.trans (hb.mono hB.size)
            refine hK.out _ _ (HKP.out _ hB2) (fun hNext => ?_)
            clear hK K hHeld
            have hHeld := hNext
            clear hNext
            clear hB
            have hB := hB2
            clear hB2
            clear hb
            try simp only [Act.put, List.setIfInBounds_toArray, List.set_cons_zero, List.set_cons_succ]
            refine wpAnyH_done (by kernel_rfl) ?_ _
            have B8 := Lib.hid (BZ.out.trans (hB.mono BZ.out.size))
            have X8 := Lib.hid (XZ.out.on hB)
            clear hHeld hB HKP BZ XZ
            generalize u1 = w8 at B8 X8 ⊢
            clear hne hl2 HE0 HN2 HRI
            go_wp2
            go_roundg (k - (j + 1))
            case measure => omega
            case rel => exact ⟨j + 1, by omega, rfl, by go_num, B8, X8⟩
          · have hjz : ¬ (j : Int) < (k : Int) := by omega
            go_wp2
            go_roundg (al.length - (k + 1))
            case measure => omega
            case rel => exact ⟨k + 1, m, by omega, rfl, by go_num, by go_num, by omega, BZ, XZ, HMS⟩
    · have hltz : ¬ (k : Int) < (al.length : Int) := by omega
      obtain rfl : k = al.length := by omega
      have hm2 : m = 1 := by have h1 := HM.out; rw [List.take_length, HI.out] at h1; exact h1
      subst hm2
      go_wp2
      go_ret
      exact ⟨rfl, B0.out⟩
end Go.Proofs

namespace Go.Proofs.Hd
open Go.RowKit
theorem mem_take_stepS {I : List Int} {id y : Int} {k : Nat} (h : I[k]? = some y) : id ∈ I.take (k + 1) ↔ id ∈ I.take k ∨ y = id := by
  rw [List.take_add_one, h]
  simp only [Option.toList, List.mem_append, List.mem_singleton]
  exact ⟨fun h => h.imp_right Eq.symm, fun h => h.imp_right Eq.symm⟩
theorem inc_once {I : List Int} {y : Int} {k : Nat} (hi : Inc I) (h : I[k]? = some y) : y ∉ I.take k := by
  intro hm
  obtain ⟨hk, e⟩ := List.getElem?_eq_some_iff.1 h
  obtain ⟨j, hj, e2⟩ := List.mem_iff_getElem.1 hm
  rw [List.length_take] at hj
  rw [List.getElem_take] at e2
  have := List.pairwise_iff_getElem.1 hi j k (by omega) hk (by omega)
  omega
/-- The places so far, with the place at hand. -/
def wntL (al : List AtC) (id : Int) (i : Nat) (I : List Int) : List Int := ofL al id i ++ if id ∈ I then [(i : Int)] else []
theorem wnt_zero (al : List AtC) (id : Int) (i : Nat) : wntL al id i [] = ofL al id i := by unfold wntL; rw [if_neg (by simp), List.append_nil]
theorem wnt_len (al : List AtC) (id : Int) (i : Nat) (I : List Int) : (wntL al id i I).length ≤ i + 1 := by
  unfold wntL
  rw [List.length_append]
  have := ofL_len al id i
  split <;> simp <;> omega
theorem wnt_all {al : List AtC} {id : Int} {i : Nat} {a : AtC} (h : al[i]? = some a) : wntL al id i a.ids = ofL al id (i + 1) := by unfold wntL; rw [ofL_succ h]
theorem wnt_hit {al : List AtC} {id : Int} {i k : Nat} {I : List Int} (hi : Inc I) (h : I[k]? = some id) : wntL al id i (I.take (k + 1)) = wntL al id i (I.take k) ++ [(i : Int)] := by
  unfold wntL
  rw [if_pos ((mem_take_stepS h).2 (.inr rfl)), if_neg (inc_once hi h), List.append_nil]
theorem wnt_miss {al : List AtC} {id y : Int} {i k : Nat} {I : List Int} (h : I[k]? = some y) (hne : ¬ y = id) : wntL al id i (I.take (k + 1)) = wntL al id i (I.take k) := by
  unfold wntL
  congr 1
  by_cases h1 : id ∈ I.take k
  · rw [if_pos h1, if_pos ((mem_take_stepS h).2 (.inl h1))]
  · rw [if_neg h1, if_neg (fun h2 => ((mem_take_stepS h).1 h2).elim h1 hne)]
end Go.Proofs.Hd
namespace Go.Proofs
open Go.RowKit Go.Proofs.Hd Go.Lib Go.Shelf
attribute [local go_sem] uv_nonneg
set_option maxHeartbeats 16000000 in
set_option maxRecDepth 100000 in
theorem asplitlaw_c (A : Option Addr) (cap : Nat) (cs0 : List Cb) (hh hl : BitVec 64) (w : World) (hc : cs0.length ≤ cap) (hm : cap ≤ maxLen) (hv : Pl w (.slice A cs0.length cap) cs0) :
    Calls Tryz.prog 3 #[.slice A cs0.length cap, .agg #[.int .u64 (uv hh), .int .u64 (uv hl)]] w fun e w' => e = .returned (.bool true) ∧ Below w.heap.size w w' := by
  obtain ⟨ic, hic, hcz0, hcz1, hcz2⟩ := info_parts info_int
  have b1 := below1 w (.cells #[.int .u64 (uv hh), .int .u64 (uv hl)] 25)
  have x1 : Blk (w.alloc (.cells #[.int .u64 (uv hh), .int .u64 (uv hl)] 25)) w.heap.size 25 #[.int .u64 (uv hh), .int .u64 (uv hl)] := Blk.new w _ _
  have hv1 := hv.on b1
  clear hv
  go_enter Tryz.func3, Tryz.ntmps3
  go_upto_region 1 with (fail)
  generalize (w.alloc (.cells #[.int .u64 (uv hh), .int .u64 (uv hl)] 25)) = w1 at x1 b1 hv1 ⊢
  have hf := few_c A cap cs0 w1 hc hm
  have PV := Pl.take hv1 7
  have hlen : (cs0.take 7).length ≤ 7 := by rw [List.length_take]; omega
  generalize cs0.take 7 = cs at hf PV hlen
  clear hv1 hc hm
  go_wp2_with fail
  (with_reducible refine hf.mono ?_)
  rintro e w2 ⟨rfl, rfl⟩
  have B0 := Lib.hid b1
  have XH_0 := Lib.hid x1
  have HLN := Lib.hid hlen
  have PV_0 := Lib.hid PV
  have hd200 : decide (cs.length ≤ 200) = true := decide_eq_true (by omega)
  clear hf b1 x1 hlen PV
  cases hs : cs.all Cb.snd with
  | false =>
    have hcall := texts_c _ cs w1 (by have := HLN.out; omega) PV_0.out
    go_wp2_with fail
    (with_reducible refine hcall.mono ?_)
    rintro e w1 ht
    obtain ⟨rfl, hb⟩ := ht.2 hs
    have B1 := Lib.hid (B0.out.trans (hb.mono B0.out.size))
    have XH_1 := Lib.hid (XH_0.out.on hb)
    have PV_1 := Lib.hid (PV_0.out.on hb)
    clear hb hcall ht B0 XH_0 PV_0
    have hcall := asplit_r _ cs w1 (by have := HLN.out; omega) PV_1.out
    go_wp2_with fail
    (with_reducible refine hcall.mono ?_)
    rintro e w2 hr2
    clear hcall
    have hcall := trivial
    cases hr2 with
    | form hs2 hb =>
      have B2 := Lib.hid (B1.out.trans (hb.mono B1.out.size))
      have XH_2 := Lib.hid (XH_1.out.on hb)
      have PV_2 := Lib.hid (PV_1.out.on hb)
      clear hb hcall hs2 hs B1 XH_1 PV_1
      have hcall := awake11_c w2
      go_wp2_with fail
      (with_reducible refine hcall.mono ?_)
      rintro e w3 ⟨rfl, hb⟩
      have B3 := Lib.hid (B2.out.trans (hb.mono B2.out.size))
      have XH_3 := Lib.hid (XH_2.out.on hb)
      have PV_3 := Lib.hid (PV_2.out.on hb)
      clear hb hcall  B2 XH_2 PV_2
      go_wp2
      go_ret
      exact ⟨rfl, B3.out⟩
    | many hs2 hb =>
      rw [hs] at hs2
      cases hs2
    | some v3 bs hs2 hq hA hb =>
      rw [hs] at hs2
      cases hs2
  | true =>
    have hcall := texts_c _ cs w1 (by have := HLN.out; omega) PV_0.out
    go_wp2_with fail
    (with_reducible refine hcall.mono ?_)
    rintro e w4 ht
    obtain ⟨vt, rfl, -, hb⟩ := ht.1 hs
    rw [hd200]
    have B4 := Lib.hid (B0.out.trans (hb.mono B0.out.size))
    have XH_4 := Lib.hid (XH_0.out.on hb)
    have PV_4 := Lib.hid (PV_0.out.on hb)
    clear hb hcall ht B0 XH_0 PV_0
    have hcall := asplit_r _ cs w4 (by have := HLN.out; omega) PV_4.out
    go_wp2_with fail
    (with_reducible refine hcall.mono ?_)
    rintro e w5 hr2
    clear hcall
    have hcall := trivial
    cases hr2 with
    | form hs2 hb =>
      rw [hs] at hs2
      cases hs2
    | many hs2 hb =>
      have B5 := Lib.hid (B4.out.trans (hb.mono B4.out.size))
      have XH_5 := Lib.hid (XH_4.out.on hb)
      have PV_5 := Lib.hid (PV_4.out.on hb)
      clear hb hcall hs2 hs B4 XH_4 PV_4
      have hcall := awake11_c w5
      go_wp2_with fail
      (with_reducible refine hcall.mono ?_)
      rintro e w6 ⟨rfl, hb⟩
      have B6 := Lib.hid (B5.out.trans (hb.mono B5.out.size))
      have XH_6 := Lib.hid (XH_5.out.on hb)
      have PV_6 := Lib.hid (PV_5.out.on hb)
      clear hb hcall  B5 XH_5 PV_5
      go_wp2
      go_ret
      exact ⟨rfl, B6.out⟩
    | some v3 bs hs2 hq hA hb =>
      have HK := Lib.hid (SpK.of hs hq)
      have HSS := Lib.hid (all_of hs)
      have AL := Lib.hid hA
      obtain ⟨A3, c3, rfl, -, -⟩ := hA.form
      have B5 := Lib.hid (B4.out.trans (hb.mono B4.out.size))
      have XH_5 := Lib.hid (XH_4.out.on hb)
      have PV_5 := Lib.hid (PV_4.out.on hb)
      clear hb hcall hs hs2 hq hA B4 XH_4 PV_4
      have AL_5 := AL
      clear AL
      go_upto_region 8 with (fail)
      have HKP : Hid (∀ W, Below w5.heap.size w5 W → (W.cell? ⟨w.heap.size, 0, none⟩ = some (.int .u64 (uv hh)) ∧ W.cell? ⟨w.heap.size, 1, none⟩ = some (.int .u64 (uv hl)))) := fun W hb => ⟨((XH_5.out.on hb).cell 0).trans rfl, ((XH_5.out.on hb).cell 1).trans rfl⟩
      refine wp_region_held_drew (S := fun w' => w'.cell? ⟨w.heap.size, 0, none⟩ = some (.int .u64 (uv hh)) ∧ w'.cell? ⟨w.heap.size, 1, none⟩ = some (.int .u64 (uv hl))) (by kernel_rfl) (HKP.out _ (Below.refl _ w5).drew) (fun hHeld => ?_)
      have hB := (Below.refl w5.heap.size w5).drew
      generalize w5.drew = u0 at hHeld hB ⊢
      refine wpAnyH_ready (rs := [0]) (by kernel_rfl) (by simp) ?_
      refine AllReadyH.cons (o := ⟨some 55, _, _, _, _, _⟩) rfl (fun K hK => ?_) AllReadyH.nil
      go_simp
      (with_reducible refine (awake11_c u0).mono ?_)
      rintro e u1 ⟨rfl, hb⟩
      (try dsimp only)
      have hB2 := hB.trans (hb.mono hB.size)
      refine hK.out _ _ (HKP.out _ hB2) (fun hNext => ?_)
      clear hK K hHeld
      have hHeld := hNext
      clear hNext
      clear hB
      have hB := hB2
      clear hB2
      clear hb
      try simp only [Act.put, List.setIfInBounds_toArray, List.set_cons_zero, List.set_cons_succ]
      refine wpAnyH_take (i := 1) (oi := ⟨some 56, _, _, _, _, _⟩) (v := ?vsa1_1) rfl (by kernel_rfl) (by kernel_rfl) (by kernel_rfl) (fun _ _ _ h => h) (Or.inl ⟨by rfl, ?ysa1_1⟩) hHeld ?rsa1_1
      case ysa1_1 => (intro w' hSw; (try dsimp only at hSw); go_simp; try (with_reducible rfl))
      simp only [Act.put, List.setIfInBounds_toArray, List.set_cons_zero, List.set_cons_succ]
      refine wpAnyH_take (i := 2) (oi := ⟨some 57, _, _, _, _, _⟩) (v := ?vsa2_2) rfl (by kernel_rfl) (by kernel_rfl) (by kernel_rfl) (fun _ _ _ h => h) (Or.inl ⟨by rfl, ?ysa2_2⟩) hHeld ?rsa2_2
      case ysa2_2 => (intro w' hSw; (try dsimp only at hSw); go_simp; try (with_reducible rfl))
      simp only [Act.put, List.setIfInBounds_toArray, List.set_cons_zero, List.set_cons_succ]
      refine wpAnyH_take (i := 3) (oi := ⟨some 58, _, _, _, _, _⟩) (v := ?vsa3_3) rfl (by kernel_rfl) (by kernel_rfl) (by kernel_rfl) (fun _ _ _ h => h) (Or.inl ⟨by rfl, ?ysa3_3⟩) hHeld ?rsa3_3
      case ysa3_3 => (intro w' hSw; (try dsimp only at hSw); go_simp; try (with_reducible rfl))
      simp only [Act.put, List.setIfInBounds_toArray, List.set_cons_zero, List.set_cons_succ]
      refine wpAnyH_take (i := 4) (oi := ⟨some 59, _, _, _, _, _⟩) (v := ?vsa4_4) rfl (by kernel_rfl) (by kernel_rfl) (by kernel_rfl) (fun _ _ _ h => h) (Or.inl ⟨by rfl, ?ysa4_4⟩) hHeld ?rsa4_4
      case ysa4_4 => (intro w' hSw; (try dsimp only at hSw); go_simp; try (with_reducible rfl))
      simp only [Act.put, List.setIfInBounds_toArray, List.set_cons_zero, List.set_cons_succ]
      refine wpAnyH_take (i := 5) (oi := ⟨some 60, _, _, _, _, _⟩) (v := ?vsa5_5) rfl (by kernel_rfl) (by kernel_rfl) (by kernel_rfl) (fun _ _ _ h => h) (Or.inl ⟨by rfl, ?ysa5_5⟩) hHeld ?rsa5_5
      case ysa5_5 => (intro w' hSw; (try dsimp only at hSw); go_simp; try (with_reducible rfl))
      simp only [Act.put, List.setIfInBounds_toArray, List.set_cons_zero, List.set_cons_succ]
      refine wpAnyH_take (i := 6) (oi := ⟨some 61, _, _, _, _, _⟩) (v := ?vsa6_6) rfl (by kernel_rfl) (by kernel_rfl) (by kernel_rfl) (fun _ _ _ h => h) (Or.inl ⟨by rfl, ?ysa6_6⟩) hHeld ?rsa6_6
      case ysa6_6 => (intro w' hSw; (try dsimp only at hSw); go_simp; try (with_reducible rfl))
      simp only [Act.put, List.setIfInBounds_toArray, List.set_cons_zero, List.set_cons_succ]
      refine wpAnyH_ready (rs := [7]) (by kernel_rfl) (by simp) ?_
      refine AllReadyH.cons (o := ⟨some 62, _, _, _, _, _⟩) rfl (fun K hK => ?_) AllReadyH.nil
      go_simp
      (with_reducible refine (in_c _ cs hh hl u1 (by have := HLN.out; omega) HSS.out (PV_5.out.on hB)).mono ?_)
      rintro e u2 ⟨vw, rfl, hO, hb⟩
      have t_w : Nm u2 vw (inF (hh, hl) 0 cs) := own_Nm hO
      have t_w2 := t_w
      obtain ⟨Wa, Wc, rfl, -⟩ := t_w2
      clear hO
      (try dsimp only)
      have hB2 := hB.trans (hb.mono hB.size)
      refine hK.out _ _ (HKP.out _ hB2) (fun hNext => ?_)
      clear hK K hHeld
      have hHeld := hNext
      clear hNext
      clear hB
      have hB := hB2
      clear hB2
      clear hb
      try simp only [Act.put, List.setIfInBounds_toArray, List.set_cons_zero, List.set_cons_succ]
      refine wpAnyH_ready (rs := [8]) (by kernel_rfl) (by simp) ?_
      refine AllReadyH.cons (o := ⟨some 63, _, _, _, _, _⟩) rfl (fun K hK => ?_) AllReadyH.nil
      go_simp
      (with_reducible refine (right_c _ _ bs hh hl (inF (hh, hl) 0 cs) u2 HK.out.inv.good HK.out.inv.dst (HK.out.ids (hh, hl)) (by have := HK.out.le HLN.out; omega) (fun a ha => by have := HK.out.few a ha; have := HLN.out; omega) (by have := inF_len (hh, hl) 0 cs; have := HLN.out; omega) (AL_5.out.on hB) t_w).mono ?_)
      rintro e u3 ⟨rfl, hb⟩
      (try dsimp only)
      have hB2 := hB.trans (hb.mono hB.size)
      refine hK.out _ _ (HKP.out _ hB2) (fun hNext => ?_)
      clear hK K hHeld
      have hHeld := hNext
      clear hNext
      clear hB
      have hB := hB2
      clear hB2
      replace t_w := t_w.on hb
      clear hb
      try simp only [Act.put, List.setIfInBounds_toArray, List.set_cons_zero, List.set_cons_succ]
      refine wpAnyH_take (i := 9) (oi := ⟨some 64, _, _, _, _, _⟩) (v := ?vsa9_7) rfl (by kernel_rfl) (by kernel_rfl) (by kernel_rfl) (fun _ _ _ h => h) (Or.inl ⟨by rfl, ?ysa9_7⟩) hHeld ?rsa9_7
      case ysa9_7 => (intro w' hSw; (try dsimp only at hSw); go_simp; try (with_reducible rfl))
      simp only [Act.put, List.setIfInBounds_toArray, List.set_cons_zero, List.set_cons_succ]
      refine wpAnyH_take (i := 10) (oi := ⟨some 65, _, _, _, _, _⟩) (v := ?vsa10_8) rfl (by kernel_rfl) (by kernel_rfl) (by kernel_rfl) (fun _ _ _ h => h) (Or.inl ⟨by rfl, ?ysa10_8⟩) hHeld ?rsa10_8
      case ysa10_8 => (intro w' hSw; (try dsimp only at hSw); go_simp; try (with_reducible rfl))
      simp only [Act.put, List.setIfInBounds_toArray, List.set_cons_zero, List.set_cons_succ]
      refine wpAnyH_done (by kernel_rfl) ?_ _
      have AL_7 := Lib.hid (AL_5.out.on hB)
      have XH_7 := Lib.hid (XH_5.out.on hB)
      have PV_7 := Lib.hid (PV_5.out.on hB)
      have B7 := Lib.hid (B5.out.trans (hB.mono B5.out.size))
      clear hHeld hB HKP t_w AL_5 XH_5 PV_5 B5
      generalize u3 = w7 at B7 AL_7 XH_7 PV_7 ⊢
      have hcall := trivial
      obtain ⟨n, a, e1, -, hna, -, hax⟩ := fndR_at (HK.out.ids (hh, hl))
      obtain ⟨y0, y1⟩ := XH_7.out.pair
      have hfd := afind_c _ bs hh hl w7 AL_7.out
      rw [e1] at hfd
      have HNA := Lib.hid hna
      have HAX := Lib.hid hax
      clear e1 hna hax
      have hcall := hfd
      go_wp2_with fail
      (with_reducible refine hcall.mono ?_)
      rintro e w8 ⟨rfl, hb⟩
      have B8 := Lib.hid (B7.out.trans (hb.mono B7.out.size))
      have AL_8 := Lib.hid (AL_7.out.on hb)
      have XH_8 := Lib.hid (XH_7.out.on hb)
      have PV_8 := Lib.hid (PV_7.out.on hb)
      clear hb hcall hfd y0 y1 B7 AL_7 XH_7 PV_7
      have hnl := (List.getElem?_eq_some_iff.1 HNA.out).1
      have hnz : (n : Int) < (bs.length : Int) := by omega
      have hn0 : (0 : Int) ≤ (n : Int) := by omega
      obtain ⟨A8, c8, e8, -, -, hcc⟩ := AL_8.out
      injection e8 with e8 _ e10
      subst e10
      obtain ⟨b, off, e9, -, hac⟩ := hcc (ne_nil_of HNA.out)
      rw [e9] at e8
      subst e8
      clear hcc e9
      have HAC := Lib.hid hac
      obtain ⟨I1, I2, I3, P1, P2, P3, ⟨-, -, -, k3⟩, -, hPn, -, hP2⟩ := (hac n a HNA.out).cells
      subst hP2
      have HP := Lib.hid hPn
      have K3 := Lib.hid k3
      have hpl := (HK.out.inv.good a (List.mem_of_getElem? HNA.out)).len
      have hge0 : decide (bs.length ≤ n) = false := decide_eq_false (by omega)
      clear hac hPn k3
      go_upto_region 11 with (fail)
      have HKP : Hid (∀ W, Below w8.heap.size w8 W → (W.cell? ⟨b, off + n * 4 + 3, none⟩ = some (.slice P1 a.pl.length P3) ∧ W.cell? ⟨w.heap.size, 0, none⟩ = some (.int .u64 (uv hh)) ∧ W.cell? ⟨w.heap.size, 1, none⟩ = some (.int .u64 (uv hl)))) := fun W hb => ⟨on_some hb K3.out, ((XH_8.out.on hb).cell 0).trans rfl, ((XH_8.out.on hb).cell 1).trans rfl⟩
      refine wp_region_held_drew (S := fun w' => w'.cell? ⟨b, off + n * 4 + 3, none⟩ = some (.slice P1 a.pl.length P3) ∧ w'.cell? ⟨w.heap.size, 0, none⟩ = some (.int .u64 (uv hh)) ∧ w'.cell? ⟨w.heap.size, 1, none⟩ = some (.int .u64 (uv hl))) (by kernel_rfl) (HKP.out _ (Below.refl _ w8).drew) (fun hHeld => ?_)
      have hB := (Below.refl w8.heap.size w8).drew
      generalize w8.drew = u0 at hHeld hB ⊢
      refine wpAnyH_take (i := 0) (oi := ⟨some 72, _, _, _, _, _⟩) (v := ?vsb0_1) rfl (by kernel_rfl) (by kernel_rfl) (by kernel_rfl) (fun _ _ _ h => h) (Or.inl ⟨by rfl, ?ysb0_1⟩) hHeld ?rsb0_1
      case ysb0_1 => (intro w' hSw; (try dsimp only at hSw); go_simp; try (with_reducible rfl))
      simp only [Act.put, List.setIfInBounds_toArray, List.set_cons_zero, List.set_cons_succ]
      refine wpAnyH_take (i := 1) (oi := ⟨some 73, _, _, _, _, _⟩) (v := ?vsb1_2) rfl (by kernel_rfl) (by kernel_rfl) (by kernel_rfl) (fun _ _ _ h => h) (Or.inl ⟨by rfl, ?ysb1_2⟩) hHeld ?rsb1_2
      case ysb1_2 => (intro w' hSw; (try dsimp only at hSw); go_simp; try (with_reducible rfl))
      simp only [Act.put, List.setIfInBounds_toArray, List.set_cons_zero, List.set_cons_succ]
      refine wpAnyH_take (i := 2) (oi := ⟨some 74, _, _, _, _, _⟩) (v := ?vsb2_3) rfl (by kernel_rfl) (by kernel_rfl) (by kernel_rfl) (fun _ _ _ h => h) (Or.inl ⟨by rfl, ?ysb2_3⟩) hHeld ?rsb2_3
      case ysb2_3 => (intro w' hSw; (try dsimp only at hSw); go_simp; try (with_reducible rfl))
      simp only [Act.put, List.setIfInBounds_toArray, List.set_cons_zero, List.set_cons_succ]
      refine wpAnyH_take (i := 3) (oi := ⟨some 75, _, _, _, _, _⟩) (v := ?vsb3_4) rfl (by kernel_rfl) (by kernel_rfl) (by kernel_rfl) (fun _ _ _ h => h) (Or.inl ⟨by rfl, ?ysb3_4⟩) hHeld ?rsb3_4
      case ysb3_4 => (intro w' hSw; (try dsimp only at hSw); go_simp; try (with_reducible rfl))
      simp only [Act.put, List.setIfInBounds_toArray, List.set_cons_zero, List.set_cons_succ]
      refine wpAnyH_take (i := 4) (oi := ⟨some 76, _, _, _, _, _⟩) (v := ?vsb4_5) rfl (by kernel_rfl) (by kernel_rfl) (by kernel_rfl) (fun _ _ _ h => h) (Or.inl ⟨by rfl, ?ysb4_5⟩) hHeld ?rsb4_5
      case ysb4_5 => (intro w' hSw; (try dsimp only at hSw); go_simp; try (with_reducible rfl))
      simp only [Act.put, List.setIfInBounds_toArray, List.set_cons_zero, List.set_cons_succ]
      refine wpAnyH_take (i := 5) (oi := ⟨some 77, _, _, _, _, _⟩) (v := ?vsb5_6) rfl (by kernel_rfl) (by kernel_rfl) (by kernel_rfl) (fun _ _ _ h => h) (Or.inl ⟨by rfl, ?ysb5_6⟩) hHeld ?rsb5_6
      case ysb5_6 => (intro w' hSw; (try dsimp only at hSw); go_simp; try (with_reducible rfl))
      simp only [Act.put, List.setIfInBounds_toArray, List.set_cons_zero, List.set_cons_succ]
      refine wpAnyH_take (i := 6) (oi := ⟨some 78, _, _, _, _, _⟩) (v := ?vsb6_7) rfl (by kernel_rfl) (by kernel_rfl) (by kernel_rfl) (fun _ _ _ h => h) (Or.inl ⟨by rfl, ?ysb6_7⟩) hHeld ?rsb6_7
      case ysb6_7 => (intro w' hSw; (try dsimp only at hSw); go_simp; try (with_reducible rfl))
      simp only [Act.put, List.setIfInBounds_toArray, List.set_cons_zero, List.set_cons_succ]
      refine wpAnyH_take (i := 7) (oi := ⟨some 79, _, _, _, _, _⟩) (v := ?vsb7_8) rfl (by kernel_rfl) (by kernel_rfl) (by kernel_rfl) (fun _ _ _ h => h) (Or.inl ⟨by rfl, ?ysb7_8⟩) hHeld ?rsb7_8
      case ysb7_8 => (intro w' hSw; (try dsimp only at hSw); go_simp; try (with_reducible rfl))
      simp only [Act.put, List.setIfInBounds_toArray, List.set_cons_zero, List.set_cons_succ]
      refine wpAnyH_take (i := 8) (oi := ⟨some 80, _, _, _, _, _⟩) (v := ?vsb8_9) rfl (by kernel_rfl) (by kernel_rfl) (by kernel_rfl) (fun _ _ _ h => h) (Or.inl ⟨by rfl, ?ysb8_9⟩) hHeld ?rsb8_9
      case ysb8_9 => (intro w' hSw; (try dsimp only at hSw); go_simp; try (with_reducible rfl))
      simp only [Act.put, List.setIfInBounds_toArray, List.set_cons_zero, List.set_cons_succ]
      refine wpAnyH_take (i := 9) (oi := ⟨some 81, _, _, _, _, _⟩) (v := ?vsb9_10) rfl (by kernel_rfl) (by kernel_rfl) (by kernel_rfl) (fun _ _ _ h => h) (Or.inl ⟨by rfl, ?ysb9_10⟩) hHeld ?rsb9_10
      case ysb9_10 => (intro w' hSw; (try dsimp only at hSw); go_simp; try (with_reducible rfl))
      simp only [Act.put, List.setIfInBounds_toArray, List.set_cons_zero, List.set_cons_succ]
      refine wpAnyH_take (i := 10) (oi := ⟨some 82, _, _, _, _, _⟩) (v := ?vsb10_11) rfl (by kernel_rfl) (by kernel_rfl) (by kernel_rfl) (fun _ _ _ h => h) (Or.inl ⟨by rfl, ?ysb10_11⟩) hHeld ?rsb10_11
      case ysb10_11 => (intro w' hSw; (try dsimp only at hSw); go_simp; try (with_reducible rfl))
      simp only [Act.put, List.setIfInBounds_toArray, List.set_cons_zero, List.set_cons_succ]
      refine wpAnyH_take (i := 11) (oi := ⟨some 83, _, _, _, _, _⟩) (v := ?vsb11_12) rfl (by kernel_rfl) (by kernel_rfl) (by kernel_rfl) (fun _ _ _ h => h) (Or.inl ⟨by rfl, ?ysb11_12⟩) hHeld ?rsb11_12
      case ysb11_12 => (intro w' hSw; (try dsimp only at hSw); go_simp; try (with_reducible rfl))
      simp only [Act.put, List.setIfInBounds_toArray, List.set_cons_zero, List.set_cons_succ]
      refine wpAnyH_take (i := 12) (oi := ⟨some 84, _, _, _, _, _⟩) (v := ?vsb12_13) rfl (by kernel_rfl) (by kernel_rfl) (by kernel_rfl) (fun _ _ _ h => h) (Or.inl ⟨by rfl, ?ysb12_13⟩) hHeld ?rsb12_13
      case ysb12_13 => (intro w' hSw; (try dsimp only at hSw); go_simp; try (with_reducible rfl))
      simp only [Act.put, List.setIfInBounds_toArray, List.set_cons_zero, List.set_cons_succ]
      refine wpAnyH_take (i := 13) (oi := ⟨some 85, _, _, _, _, _⟩) (v := ?vsb13_14) rfl (by kernel_rfl) (by kernel_rfl) (by kernel_rfl) (fun _ _ _ h => h) (Or.inl ⟨by rfl, ?ysb13_14⟩) hHeld ?rsb13_14
      case ysb13_14 => (intro w' hSw; (try dsimp only at hSw); go_simp; try (with_reducible rfl))
      simp only [Act.put, List.setIfInBounds_toArray, List.set_cons_zero, List.set_cons_succ]
      refine wpAnyH_take (i := 14) (oi := ⟨some 86, _, _, _, _, _⟩) (v := ?vsb14_15) rfl (by kernel_rfl) (by kernel_rfl) (by kernel_rfl) (fun _ _ _ h => h) (Or.inl ⟨by rfl, ?ysb14_15⟩) hHeld ?rsb14_15
      case ysb14_15 => (intro w' hSw; (try dsimp only at hSw); go_simp; try (with_reducible rfl))
      simp only [Act.put, List.setIfInBounds_toArray, List.set_cons_zero, List.set_cons_succ]
      refine wpAnyH_take (i := 15) (oi := ⟨some 87, _, _, _, _, _⟩) (v := ?vsb15_16) rfl (by kernel_rfl) (by kernel_rfl) (by kernel_rfl) (fun _ _ _ h => h) (Or.inl ⟨by rfl, ?ysb15_16⟩) hHeld ?rsb15_16
      case ysb15_16 => (intro w' hSw; (try dsimp only at hSw); go_simp; try (with_reducible rfl))
      simp only [Act.put, List.setIfInBounds_toArray, List.set_cons_zero, List.set_cons_succ]
      refine wpAnyH_take (i := 16) (oi := ⟨some 88, _, _, _, _, _⟩) (v := ?vsb16_17) rfl (by kernel_rfl) (by kernel_rfl) (by kernel_rfl) (fun _ _ _ h => h) (Or.inl ⟨by rfl, ?ysb16_17⟩) hHeld ?rsb16_17
      case ysb16_17 => (intro w' hSw; (try dsimp only at hSw); go_simp; try (with_reducible rfl))
      simp only [Act.put, List.setIfInBounds_toArray, List.set_cons_zero, List.set_cons_succ]
      refine wpAnyH_take (i := 17) (oi := ⟨some 89, _, _, _, _, _⟩) (v := ?vsb17_18) rfl (by kernel_rfl) (by kernel_rfl) (by kernel_rfl) (fun _ _ _ h => h) (Or.inl ⟨by rfl, ?ysb17_18⟩) hHeld ?rsb17_18
      case ysb17_18 => (intro w' hSw; (try dsimp only at hSw); go_simp; try (with_reducible rfl))
      simp only [Act.put, List.setIfInBounds_toArray, List.set_cons_zero, List.set_cons_succ]
      refine wpAnyH_take (i := 18) (oi := ⟨some 90, _, _, _, _, _⟩) (v := ?vsb18_19) rfl (by kernel_rfl) (by kernel_rfl) (by kernel_rfl) (fun _ _ _ h => h) (Or.inl ⟨by rfl, ?ysb18_19⟩) hHeld ?rsb18_19
      case ysb18_19 => (intro w' hSw; (try dsimp only at hSw); go_simp; try (with_reducible rfl))
      simp only [Act.put, List.setIfInBounds_toArray, List.set_cons_zero, List.set_cons_succ]
      refine wpAnyH_ready (rs := [19]) (by kernel_rfl) (by simp) ?_
      refine AllReadyH.cons (o := ⟨some 91, _, _, _, _, _⟩) rfl (fun K hK => ?_) AllReadyH.nil
      go_simp
      (with_reducible refine (rhas3_c true _ a.pl hh hl u0 (by omega) (by have h := HAX.out; unfold hasP at h; exact h) (HP.out.on hB)).mono ?_)
      rintro e u1 ⟨rfl, hb⟩
      (try dsimp only)
      have hB2 := hB.trans (hb.mono hB.size)
      refine hK.out _ _ (HKP.out _ hB2) (fun hNext => ?_)
      clear hK K hHeld
      have hHeld := hNext
      clear hNext
      clear hB
      have hB := hB2
      clear hB2
      clear hb
      try simp only [Act.put, List.setIfInBounds_toArray, List.set_cons_zero, List.set_cons_succ]
      refine wpAnyH_take (i := 20) (oi := ⟨some 92, _, _, _, _, _⟩) (v := ?vsb20_20) rfl (by kernel_rfl) (by kernel_rfl) (by kernel_rfl) (fun _ _ _ h => h) (Or.inl ⟨by rfl, ?ysb20_20⟩) hHeld ?rsb20_20
      case ysb20_20 => (intro w' hSw; (try dsimp only at hSw); go_simp; try (with_reducible rfl))
      simp only [Act.put, List.setIfInBounds_toArray, List.set_cons_zero, List.set_cons_succ]
      refine wpAnyH_take (i := 21) (oi := ⟨some 93, _, _, _, _, _⟩) (v := ?vsb21_21) rfl (by kernel_rfl) (by kernel_rfl) (by kernel_rfl) (fun _ _ _ h => h) (Or.inl ⟨by rfl, ?ysb21_21⟩) hHeld ?rsb21_21
      case ysb21_21 => (intro w' hSw; (try dsimp only at hSw); go_simp; try (with_reducible rfl))
      simp only [Act.put, List.setIfInBounds_toArray, List.set_cons_zero, List.set_cons_succ]
      refine wpAnyH_done (by kernel_rfl) ?_ _
      have B9 := Lib.hid (B8.out.trans (hB.mono B8.out.size))
      have AL2 := Lib.hid (AL_8.out.on hB)
      have AC2 : Hid (∀ (k : Nat) (a : AtC), bs[k]? = some a → AtomAt u1 b (off + k * 4) a) := fun k a hk => (HAC.out k a hk).on hB
      clear hHeld hB HKP K3 HP HAC HAX hpl hge0 hnz hn0 hnl HNA AL_8 XH_8 PV_8 B8
      generalize u1 = w0 at B9 AL2 AC2 ⊢
      have hbz : (bs.length : Int) ≤ 128 := by have := HK.out.le HLN.out; omega
      have hcz : (cs.length : Int) ≤ 7 := by have := HLN.out; omega
      have R0 := Lib.hid (Below.refl w0.heap.size w0)
      go_wp2
      go_loopg [11, 12, 13, 14] (cs.length + 1) (fun gk s11 _ _ _ wr => ∃ d : Nat, d ≤ cs.length + 1 ∧ gk = cs.length + 1 - d ∧ s11 = .int .i64 d ∧ Hid (Below w0.heap.size w0 wr))
      case atStart => exact ⟨0, Nat.zero_le _, rfl, rfl, R0⟩
      case round =>
        clear R0
        obtain ⟨d, hd, rfl, rfl, R⟩ := hrel
        by_cases hlt : d ≤ cs.length
        · have hltz : (d : Int) ≤ (cs.length : Int) := by omega
          have bq := below1 wr (.cells #[] 3)
          have O0 : Hid ((wr.alloc (.cells #[] 3)).ownsRow w0.heap.size 3 1 (.slice (some ⟨wr.heap.size, 0, none⟩) 0 0) 0 []) := World.ownsRow_made wr #[] 0 R.out.size (Nat.zero_le _) rfl
          have BQ := Lib.hid (R.out.trans (bq.mono R.out.size))
          clear bq R
          go_wp2
          go_loopg [12, 13, 14] bs.length (fun gj s12 s13 _ wy => ∃ i : Nat, i ≤ bs.length ∧ gj = bs.length - i ∧ s13 = .int .i64 i ∧ Hid (Below w0.heap.size w0 wy) ∧ Hid (wy.ownsRow w0.heap.size 3 1 s12 (ofL bs d i).length (iv (ofL bs d i))))
          case atStart => exact ⟨0, Nat.zero_le _, rfl, rfl, BQ, O0⟩
          case round =>
            clear BQ O0
            obtain ⟨i, hi, rfl, rfl, BQ, OR⟩ := hrel
            by_cases hil : i < bs.length
            · have hiz : (i : Int) < (bs.length : Int) := by omega
              obtain ⟨x, hx⟩ : ∃ x, bs[i]? = some x := ⟨_, List.getElem?_eq_getElem hil⟩
              obtain ⟨K1, K2, K3, Q1, Q2, Q3, ⟨k0, -, -, -⟩, hKN, -, hK2, -⟩ := (AC2.out i x hx).cells
              have hxl := HK.out.few x (List.mem_of_getElem? hx)
              have hxi := HK.out.inc x (List.mem_of_getElem? hx)
              have HX := Lib.hid hx
              clear hx
              obtain ⟨X, hX⟩ : ∃ X, x.ids = X := ⟨_, rfl⟩
              rw [hX] at hK2 hKN hxl hxi
              subst hK2
              have HX2 := Lib.hid hX
              clear hX
              have hXz : (X.length : Int) ≤ 7 := by have := HLN.out; omega
              have HKN := Lib.hid hKN
              have HXI := Lib.hid hxi
              have HK0 := Lib.hid k0
              have OR0 := OR
              clear hKN hxi hxl k0
              go_wp2
              go_loopg [12, 14] X.length (fun gh s12 s14 wz => ∃ j : Nat, j ≤ X.length ∧ gh = X.length - j ∧ s14 = .int .i64 j ∧ Hid (Below w0.heap.size w0 wz) ∧ Hid (wz.ownsRow w0.heap.size 3 1 s12 (wntL bs d i (X.take j)).length (iv (wntL bs d i (X.take j)))))
              case atStart => exact ⟨0, Nat.zero_le _, rfl, rfl, BQ, by show World.ownsRow _ _ _ _ _ _ _; rw [List.take_zero, wnt_zero]; exact OR0.out⟩
              case round =>
                clear BQ OR OR0
                obtain ⟨j, hj, rfl, rfl, BQ, OR⟩ := hrel
                have k0 := on_some BQ.out HK0.out
                by_cases hjl : j < X.length
                · have hjz : (j : Int) < (X.length : Int) := by omega
                  obtain ⟨y, hy⟩ : ∃ y, X[j]? = some y := ⟨_, List.getElem?_eq_getElem hjl⟩
                  obtain ⟨b2, o2, rfl, hy2⟩ : ∃ b2 o2, K1 = some ⟨b2, o2, none⟩ ∧ wr.cell? ⟨b2, o2 + j, none⟩ = some (.int .i64 y) := by
                    obtain ⟨A8, c8, e, -, -, h⟩ := HKN.out.on BQ.out
                    injection e with e1 e2 e3
                    rcases h with h | ⟨b2, o2, e4, -, h⟩
                    · rw [h] at hy; simp at hy
                    · exact ⟨b2, o2, by rw [e1, e4], h j y hy⟩
                  by_cases hyd : y = (d : Int)
                  · have hdq : (y == (d : Int)) = true := by simpa using hyd
                    have HW := Lib.hid (wnt_hit (al := bs) (i := i) HXI.out (hyd ▸ hy))
                    have hwl := wnt_len bs d i (X.take j)
                    have b5 := below1 wr (.cells #[.int .i64 (i : Int)] 3)
                    have N5 : Blk (wr.alloc (.cells #[.int .i64 (i : Int)] 3)) wr.heap.size 3 #[.int .i64 (i : Int)] := Blk.new wr _ _
                    have B5 := BQ.out.trans (b5.mono BQ.out.size)
                    have O5 := own_on OR.out b5
                    have S5 := src_int N5
                    have hz5 := B5.size
                    generalize hFF : wntL bs d i (X.take j) = F at O5 HW hwl
                    clear BQ OR b5 N5 hy hyd
                    go_wp2_with (at_builtin; refine wpList_app _ rfl (.tmp 127) (.tmp 129) 36 rfl w0.heap.size 3 ic _ 1 8 Tryz.underlying36 hic hcz0 hcz1 hcz2 rfl (by decide) _ F.length (iv F) rfl O5 _ 1 (iv [(i : Int)]) rfl S5 (by unfold maxLen; omega) (by omega) hz5 ?_)
                    intro v6 w6 O6 hg6
                    have B6 := Lib.hid (B5.grown hg6 hz5 (fun j hj => (O5.lt j hj).1))
                    have O7 : Hid (w6.ownsRow w0.heap.size 3 1 v6 (wntL bs d i (X.take (j + 1))).length (iv (wntL bs d i (X.take (j + 1))))) := by
                      show World.ownsRow _ _ _ _ _ _ _
                      rw [HW.out, ← iv_app, List.length_append]
                      exact O6
                    clear O5 S5 hz5 hwl B5 O6 hg6 hFF HW hy2 k0
                    go_wp2
                    go_roundg (X.length - (j + 1))
                    case measure => omega
                    case rel => exact ⟨j + 1, by omega, rfl, by go_num, B6, O7⟩
                  · have hdq : (y == (d : Int)) = false := by simpa using hyd
                    have OR2 : Hid (wr.ownsRow w0.heap.size 3 1 u12 (wntL bs d i (X.take (j + 1))).length (iv (wntL bs d i (X.take (j + 1))))) := by show World.ownsRow _ _ _ _ _ _ _; rw [wnt_miss hy hyd]; exact OR.out
                    clear hy hyd OR
                    go_wp2
                    go_roundg (X.length - (j + 1))
                    case measure => omega
                    case rel => exact ⟨j + 1, by omega, rfl, by go_num, BQ, OR2⟩
                · have hjz : ¬ (j : Int) < (X.length : Int) := by omega
                  have OR2 : Hid (wr.ownsRow w0.heap.size 3 1 u12 (ofL bs d (i + 1)).length (iv (ofL bs d (i + 1)))) := by
                    show World.ownsRow _ _ _ _ _ _ _
                    have h := OR.out
                    rw [List.take_of_length_le (by omega), ← HX2.out, wnt_all HX.out] at h
                    exact h
                  clear OR
                  go_wp2
                  go_roundg (bs.length - (i + 1))
                  case measure => omega
                  case rel => exact ⟨i + 1, by omega, rfl, by go_num, BQ, OR2⟩
            · have hiz : ¬ (i : Int) < (bs.length : Int) := by omega
              obtain rfl : i = bs.length := by omega
              have NW := Lib.hid (own_Nm OR.out)
              have NW2 := NW.out
              obtain ⟨Wa, Wc, rfl, -⟩ := NW2
              have hcall := of_c _ bs (d : Int) wr (by omega) (fun a ha => by have := HK.out.few a ha; omega) (AL2.out.on BQ.out)
              go_wp2_with fail
              (with_reducible refine hcall.mono ?_)
              rintro e w5 ⟨vo, rfl, hO, hb⟩
              have N5 := own_Nm hO
              have N52 := N5
              obtain ⟨Oa, Oc, rfl, -⟩ := N52
              have hol := ofL_len bs (d : Int) bs.length
              have hin := rintg_c _ _ _ _ w5 (by omega) (by omega) N5 (NW.out.on hb)
              rw [decide_eq_true (rfl : ofL bs (d : Int) bs.length = ofL bs (d : Int) bs.length)] at hin
              have B5 := Lib.hid (BQ.out.trans (hb.mono BQ.out.size))
              clear hcall hb hO N5 OR NW BQ
              go_wp2_with fail
              (with_reducible refine hin.mono ?_)
              rintro e w6 ⟨rfl, hb⟩
              have B6 := Lib.hid (B5.out.trans (hb.mono B5.out.size))
              clear hin hb B5 hol
              go_wp2
              go_roundg (cs.length + 1 - (d + 1))
              case measure => omega
              case rel => exact ⟨d + 1, by omega, rfl, by go_num, B6⟩
        · have hltz : ¬ (d : Int) ≤ (cs.length : Int) := by omega
          have BF := Lib.hid (B9.out.trans (R.out.mono B9.out.size))
          go_wp2
          go_ret
          exact ⟨rfl, BF.out⟩
end Go.Proofs

namespace Go.Proofs.YtpmgbofnikmhgaaGreat
open Go.ChangeShapes Go.WideShapes Go.ChangeAt Go.RowKit Go.Joins Go.Proofs.Hd

theorem laidOut_asp : laidOutB Tryz.prog = true := by kernel_rfl
set_option maxRecDepth 100000 in
theorem asp_lifted (os : Os) (started : os.Started) (H : Type) (enc : TypeId × Value → H) :
    ReturnsInHanded {} Tryz.checked os 3 .any (Rows.atomsSplitSpec.pre6 enc Tryz.prog Tryz.f3 Rows.atomsSplitRow.domain false) (Rows.atomsSplitSpec.post enc Tryz.prog Tryz.f3 false true false false) := by
  refine returnsInHanded_of_change (C := Tryz.checked) own started (by kernel_rfl) Tryz.func3
    (ChangeSpec.witness6 (enc := enc) (C := Tryz.checked) false ⟨#[], #[.slice none 0 0, .agg #[.int .u64 0, .int .u64 0]], []⟩ 8 (by kernel_rfl) (by kernel_rfl) (by kernel_rfl) (by kernel_rfl)) ?_
  intro W base args ds gs before hval0 hW hcnd _
  have hval : ∀ (j : Nat) t v, Tryz.f3.params[j]? = some t → args[j]? = some v → Value.okWide Tryz.prog W .any base t v := hval0
  have hW' := hW
  obtain ⟨p, q, hA0, hV, rfl, hfz, hnd⟩ := hW
  have hA : DataW.TrodAll enc Tryz.prog W 0 (fun _ => true) true Tryz.f3.params.toList args.toList ds p := hA0
  rw [Tryz.params3] at hA hval
  obtain ⟨v0, vs0, d0, ds0, p0, q0, hargs, rfl, rfl, h0, r0⟩ := trodAll_cons hA
  obtain ⟨v1, vs1, d1, ds1, p1, q1, rfl, rfl, rfl, h1, r1⟩ := trodAll_cons r0
  obtain ⟨rfl, rfl, rfl⟩ := trodAll_nil r1
  obtain rfl : args = #[v0, v1] := by cases args; simp_all
  obtain ⟨rfl, rfl⟩ := trodVars_none hV
  have k0 := h0
  have lt0 : ∀ x ∈ p0, x.block < W.heap.size := by obtain ⟨m, hm⟩ := k0; exact DataW.trod_lt m _ _ _ hm
  obtain ⟨pA, pc, pL, rfl, lp, mp, pp⟩ := open_pl (hval 0 22 v0 rfl rfl) h0
  obtain ⟨hh, hl, rfl, rfl, rfl, s1⟩ := open_head (hval 1 25 v1 rfl rfl) h1
  clear hA0 hval0
  refine (asplitlaw_c _ pc pL hh hl W lp mp pp).mono fun e W' ⟨he, hg⟩ => ?_
  subst he
  exact ⟨_, rfl, _, _, _, [], _, [], hW', trodAll_mk1 (shut_bool Tryz.underlying4 _), (trodAll_cons_mk (Below.trod laidOut_asp (by kernel_rfl) (of_decide_eq_true (by kernel_rfl)) k0 hg lt0) (trodAll_cons_mk (s1 _ _) trodAll_mk0)), rfl, hg.frame _, (fun h => by cases h)⟩

theorem asp_holds : Rows.AtomsSplitSaid :=
  OpenClaim.holds_of_wide 3 Tryz.f3 rfl rfl rfl rfl rfl rfl rfl ⟨rfl, rfl, rfl, rfl, rfl⟩ rfl rfl rfl rfl rfl (by kernel_rfl) Tryz.func3 (by kernel_rfl)
    (of_decide_eq_true (by kernel_rfl)) (by unfold Func.isWrapper; first | (rw [if_pos (by decide +kernel)]; kernel_rfl) | (rw [if_neg (by decide +kernel)]; exact ⟨rfl, rfl⟩))
    (fun os started H enc _ => asp_lifted os started H enc)
#print axioms asp_holds
end Go.Proofs.YtpmgbofnikmhgaaGreat
