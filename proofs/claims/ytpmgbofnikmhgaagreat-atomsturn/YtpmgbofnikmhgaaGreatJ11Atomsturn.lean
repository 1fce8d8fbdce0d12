/-
  Contract of the law's right: of good atoms, of which a header is in just one, it returns true. Conditions as each theorem lists them.
-/
import Derived.Test.YtpmgbofnikmhgaaGreatJ10
import Derived.BigFrame
namespace Go.Proofs.Hd
open Go.RowKit
theorem ids_one {al : List AtC} {x : Hx} {I : List Int} (h : idsAt hasP al x = [I]) {a : AtC} (ha : a ∈ al) (hx : hasP a.pl x = true) : a.ids = I := by
  have h1 : a.ids ∈ idsAt hasP al x := List.mem_map.2 ⟨a, List.mem_filter.2 ⟨ha, hx⟩, rfl⟩
  rw [h, List.mem_singleton] at h1
  exact h1
theorem cnt_step {al : List AtC} {x : Hx} {k : Nat} {a : AtC} (h : al[k]? = some a) : (idsAt hasP (al.take (k + 1)) x).length = (idsAt hasP (al.take k) x).length + (if hasP a.pl x = true then 1 else 0) := by
  rw [List.take_add_one, h, idsAt_app, List.length_append]
  congr 1
  show (idsAt hasP [a] x).length = _
  rw [idsAt_cons, idsAt_nil, List.append_nil]
  split <;> rfl
theorem cnt_leA {al : List AtC} {x : Hx} {I : List Int} (h : idsAt hasP al x = [I]) (k : Nat) : (idsAt hasP (al.take k) x).length ≤ 1 := by
  have h1 : idsAt hasP al x = idsAt hasP (al.take k) x ++ idsAt hasP (al.drop k) x := by rw [← idsAt_app, List.take_append_drop]
  have h2 := congrArg List.length h1
  rw [h, List.length_append] at h2
  simp only [List.length_cons, List.length_nil] at h2
  omega
theorem dst_at {al : List AtC} (hd : Dst al) {i k : Nat} {a b : AtC} (hi : al[i]? = some a) (hk : al[k]? = some b) (hlt : k < i) : a.ids ≠ b.ids := by
  obtain ⟨h1, e1⟩ := List.getElem?_eq_some_iff.1 hi
  obtain ⟨h2, e2⟩ := List.getElem?_eq_some_iff.1 hk
  have := List.pairwise_iff_getElem.1 hd k i h2 h1 hlt
  rw [e1, e2] at this
  exact fun e => this e.symm
theorem good_form {a : AtC} (h : GoodA a) : ∃ (c : Cb) (p : List Cb), a = ⟨a.ids, (c.vh, c.vl), c :: p⟩ ∧ c.snd = true := by
  obtain ⟨ids, hd, pl⟩ := a
  have h1 := h.ne
  have h2 := h.snd
  have h3 := h.top
  cases pl with
  | nil => exact absurd rfl h1
  | cons c p => exact ⟨c, p, by rw [show hd = (c.vh, c.vl) from h3], h2 c (List.mem_cons_self ..)⟩
theorem pl_first {w : World} {A : Option Addr} {n cap : Nat} {c : Cb} {p : List Cb} (h : Pl w (.slice A n cap) (c :: p)) : ∃ b o, A = some ⟨b, o, none⟩ ∧ At4 w b o c := by
  rcases h with ⟨h, _⟩ | ⟨b, o, cap', e, _, _, hc⟩
  · cases h
  · injection e with e1 _ _
    refine ⟨b, o, e1, ?_⟩
    have := hc 0 c rfl
    rw [Nat.zero_mul, Nat.add_zero] at this
    exact this
end Go.Proofs.Hd
namespace Go.Proofs
open Go.RowKit Go.Proofs.Hd Go.Lib Go.Shelf
attribute [local go_sem] uv_nonneg
attribute [local go_sem high] run_eq2
set_option maxHeartbeats 16000000 in
set_option maxRecDepth 100000 in
theorem right_c (v u : Value) (al : List AtC) (hh hl : BitVec 64) (I : List Int) (w : World) (hg : ∀ a ∈ al, GoodA a) (hd : Dst al) (hi : idsAt hasP al (hh, hl) = [I]) (hlen : al.length ≤ 1000) (hb : ∀ a ∈ al, a.ids.length ≤ 1000) (hIl : I.length ≤ 1000) (hv : At w v al) (hu : Nm w u I) :
    Calls Tryz.prog 13 #[v, .agg #[.int .u64 (uv hh), .int .u64 (uv hl)], u] w fun e w' => e = .returned (.bool true) ∧ Below w.heap.size w w' := by
  obtain ⟨A, cap, rfl, hm, hA⟩ := hv.form
  have hlz : (al.length : Int) ≤ 1000 := by omega
  have hu2 := hu
  obtain ⟨U1, U3, rfl, -⟩ := hu2
  have b0 := below1 w (.cells #[.int .u64 (uv hh), .int .u64 (uv hl)] 25)
  have x0 : Blk (w.alloc (.cells #[.int .u64 (uv hh), .int .u64 (uv hl)] 25)) w.heap.size 25 #[.int .u64 (uv hh), .int .u64 (uv hl)] := Blk.new w _ _
  have BB := Lib.hid b0
  have XX := Lib.hid x0
  have HG := Lib.hid hg
  have HD := Lib.hid hd
  have HI := Lib.hid hi
  have HBL := Lib.hid hb
  have HIL := Lib.hid hIl
  have HU := Lib.hid hu
  have HA := Lib.hid hA
  have HLEN := Lib.hid hlen
  clear hg hd hi hb hIl hu hA hm b0 x0 hv hlen
  go_enter Tryz.func13, Tryz.ntmps13
  go_wp2
  go_loopg [7, 8, 9, 10, 11] al.length (fun gk s7 s8 _ _ _ wr => ∃ (k m : Nat), k ≤ al.length ∧ gk = al.length - k ∧ s7 = .int .i64 m ∧ s8 = .int .i64 k ∧ m ≤ 1 ∧ Hid (Below w.heap.size w wr) ∧ Hid (Blk wr w.heap.size 25 #[.int .u64 (uv hh), .int .u64 (uv hl)]) ∧ Hid (m = (idsAt hasP (al.take k) (hh, hl)).length))
  case atStart => exact ⟨0, 0, Nat.zero_le _, rfl, rfl, rfl, Nat.zero_le _, BB, XX, rfl⟩
  case round =>
    clear BB XX
    obtain ⟨k, m, hk, rfl, rfl, rfl, hm1, B0, X0, HM⟩ := hrel
    by_cases hlt : k < al.length
    · have hltz : (k : Int) < (al.length : Int) := by omega
      obtain ⟨a0, ha0⟩ : ∃ a, al[k]? = some a := ⟨_, List.getElem?_eq_getElem hlt⟩
      have hga := HG.out a0 (List.mem_of_getElem? ha0)
      obtain ⟨c, p, hform, hcs⟩ := good_form hga
      obtain ⟨b, off, rfl, hbl, hcc⟩ := HA.out (ne_nil_of ha0)
      have hidl := HBL.out a0 (List.mem_of_getElem? ha0)
      obtain ⟨ids, hd0, pl0⟩ := a0
      injection hform with hf1 hf2 hf3
      subst hf2 hf3
      obtain ⟨I1, I2, I3, P1, P2, P3, ⟨c0, c1, c2, c3⟩, hN, hP, hI2, hP2⟩ := (hcc k _ ha0).cells
      dsimp only at c0 c1 c2 c3 hN hP hI2 hP2 hidl
      subst hI2
      obtain ⟨pb, po, rfl, hp4⟩ := pl_first hP
      have hpl : (c :: p).length ≤ 200 := hga.len
      have hPn : P2 = (c :: p).length := hP2
      have hPp : 0 < P2 := by rw [hPn]; exact Nat.succ_pos _
      have hPz : ((P2 : Int) == 0) = false := beq_eq_false_iff_ne.2 (by omega)
      have hP0 : (0 : Int) < (P2 : Int) := by omega
      have HAK := Lib.hid ha0
      have HC0 := Lib.hid c0
      have HC1 := Lib.hid c1
      have HC2 := Lib.hid c2
      have HC3 := Lib.hid c3
      have HNI := Lib.hid hN
      have HPI := Lib.hid hP
      have H4 := Lib.hid hp4
      have HCS := Lib.hid hcs
      have HPL := Lib.hid hpl
      have HID := Lib.hid hidl
      have HAC := Lib.hid hcc
      clear ha0 hga hcc hN hP hP2 hPn c0 c1 c2 c3 hp4 hcs hpl hidl hf1
      go_upto_region 5 with (fail)
      have HKP : Hid (∀ W, Below wr.heap.size wr W → (W.cell? ⟨b, off + k * 4 + 1, none⟩ = some (.int .u64 (uv c.vh)) ∧ W.cell? ⟨b, off + k * 4 + 2, none⟩ = some (.int .u64 (uv c.vl)) ∧ W.cell? ⟨b, off + k * 4 + 3, none⟩ = some (.slice (some ⟨pb, po, none⟩) P2 P3))) := fun W hb => ⟨on_some (B0.out.trans (hb.mono B0.out.size)) HC1.out, on_some (B0.out.trans (hb.mono B0.out.size)) HC2.out, on_some (B0.out.trans (hb.mono B0.out.size)) HC3.out⟩
      refine wp_region_held_drew (S := fun w' => w'.cell? ⟨b, off + k * 4 + 1, none⟩ = some (.int .u64 (uv c.vh)) ∧ w'.cell? ⟨b, off + k * 4 + 2, none⟩ = some (.int .u64 (uv c.vl)) ∧ w'.cell? ⟨b, off + k * 4 + 3, none⟩ = some (.slice (some ⟨pb, po, none⟩) P2 P3)) (by kernel_rfl) (HKP.out _ (Below.refl _ wr).drew) (fun hHeld => ?_)
      have hB := (Below.refl wr.heap.size wr).drew
      generalize wr.drew = u0 at hHeld hB ⊢
      refine wpAnyH_take (i := 0) (oi := ⟨some 18, _, _, _, _, _⟩) (v := ?vr10_1) rfl (by kernel_rfl) (by kernel_rfl) (by kernel_rfl) (fun _ _ _ h => h) (Or.inl ⟨by rfl, ?yr10_1⟩) hHeld ?rr10_1
      case yr10_1 => (intro w' hSw; (try dsimp only at hSw); go_simp; try (with_reducible rfl))
      simp only [Act.put, List.setIfInBounds_toArray, List.set_cons_zero, List.set_cons_succ]
      refine wpAnyH_take (i := 1) (oi := ⟨some 19, _, _, _, _, _⟩) (v := ?vr11_2) rfl (by kernel_rfl) (by kernel_rfl) (by kernel_rfl) (fun _ _ _ h => h) (Or.inl ⟨by rfl, ?yr11_2⟩) hHeld ?rr11_2
      case yr11_2 => (intro w' hSw; (try dsimp only at hSw); go_simp; try (with_reducible rfl))
      simp only [Act.put, List.setIfInBounds_toArray, List.set_cons_zero, List.set_cons_succ]
      refine wpAnyH_take (i := 2) (oi := ⟨some 20, _, _, _, _, _⟩) (v := ?vr12_3) rfl (by kernel_rfl) (by kernel_rfl) (by kernel_rfl) (fun _ _ _ h => h) (Or.inl ⟨by rfl, ?yr12_3⟩) hHeld ?rr12_3
      case yr12_3 => (intro w' hSw; (try dsimp only at hSw); go_simp; try (with_reducible rfl))
      simp only [Act.put, List.setIfInBounds_toArray, List.set_cons_zero, List.set_cons_succ]
      refine wpAnyH_take (i := 3) (oi := ⟨some 21, _, _, _, _, _⟩) (v := ?vr13_4) rfl (by kernel_rfl) (by kernel_rfl) (by kernel_rfl) (fun _ _ _ h => h) (Or.inl ⟨by rfl, ?yr13_4⟩) hHeld ?rr13_4
      case yr13_4 => (intro w' hSw; (try dsimp only at hSw); go_simp; try (with_reducible rfl))
      simp only [Act.put, List.setIfInBounds_toArray, List.set_cons_zero, List.set_cons_succ]
      refine wpAnyH_take (i := 4) (oi := ⟨some 22, _, _, _, _, _⟩) (v := ?vr14_5) rfl (by kernel_rfl) (by kernel_rfl) (by kernel_rfl) (fun _ _ _ h => h) (Or.inl ⟨by rfl, ?yr14_5⟩) hHeld ?rr14_5
      case yr14_5 => (intro w' hSw; (try dsimp only at hSw); go_simp; try (with_reducible rfl))
      simp only [Act.put, List.setIfInBounds_toArray, List.set_cons_zero, List.set_cons_succ]
      refine wpAnyH_take (i := 5) (oi := ⟨some 23, _, _, _, _, _⟩) (v := ?vr15_6) rfl (by kernel_rfl) (by kernel_rfl) (by kernel_rfl) (fun _ _ _ h => h) (Or.inl ⟨by rfl, ?yr15_6⟩) hHeld ?rr15_6
      case yr15_6 => (intro w' hSw; (try dsimp only at hSw); go_simp; try (with_reducible rfl))
      simp only [Act.put, List.setIfInBounds_toArray, List.set_cons_zero, List.set_cons_succ]
      refine wpAnyH_take (i := 6) (oi := ⟨some 24, _, _, _, _, _⟩) (v := ?vr16_7) rfl (by kernel_rfl) (by kernel_rfl) (by kernel_rfl) (fun _ _ _ h => h) (Or.inl ⟨by rfl, ?yr16_7⟩) hHeld ?rr16_7
      case yr16_7 => (intro w' hSw; (try dsimp only at hSw); go_simp; try (with_reducible rfl))
      simp only [Act.put, List.setIfInBounds_toArray, List.set_cons_zero, List.set_cons_succ]
      refine wpAnyH_take (i := 7) (oi := ⟨some 25, _, _, _, _, _⟩) (v := ?vr17_8) rfl (by kernel_rfl) (by kernel_rfl) (by kernel_rfl) (fun _ _ _ h => h) (Or.inl ⟨by rfl, ?yr17_8⟩) hHeld ?rr17_8
      case yr17_8 => (intro w' hSw; (try dsimp only at hSw); go_simp; try (with_reducible rfl))
      simp only [Act.put, List.setIfInBounds_toArray, List.set_cons_zero, List.set_cons_succ]
      refine wpAnyH_take (i := 8) (oi := ⟨some 26, _, _, _, _, _⟩) (v := ?vr18_9) rfl (by kernel_rfl) (by kernel_rfl) (by kernel_rfl) (fun _ _ _ h => h) (Or.inl ⟨by rfl, ?yr18_9⟩) hHeld ?rr18_9
      case yr18_9 => (intro w' hSw; (try dsimp only at hSw); go_simp; try (with_reducible rfl))
      simp only [Act.put, List.setIfInBounds_toArray, List.set_cons_zero, List.set_cons_succ]
      refine wpAnyH_take (i := 9) (oi := ⟨some 27, _, _, _, _, _⟩) (v := ?vr19_10) rfl (by kernel_rfl) (by kernel_rfl) (by kernel_rfl) (fun _ _ _ h => h) (Or.inl ⟨by rfl, ?yr19_10⟩) hHeld ?rr19_10
      case yr19_10 => (intro w' hSw; (try dsimp only at hSw); go_simp; try (with_reducible rfl))
      simp only [Act.put, List.setIfInBounds_toArray, List.set_cons_zero, List.set_cons_succ]
      refine wpAnyH_ready (rs := [10]) (by kernel_rfl) (by simp) ?_
      refine AllReadyH.cons (o := ⟨some 28, _, _, _, _, _⟩) rfl (fun K hK => ?_) AllReadyH.nil
      go_simp
      (with_reducible refine (rhas3_c true _ (c :: p) c.vh c.vl u0 (by have := HPL.out; omega) (by unfold anyHas; rw [List.any_cons, has_value HCS.out, Bool.true_or]) (HPI.out.on (B0.out.trans (hB.mono B0.out.size)))).mono ?_)
      rintro e u1 ⟨rfl, hb⟩
      (try dsimp only)
      have hB2 := hB.trans (hb.mono hB.size)
      refine hK.out _ _ (HKP.out _ hB2) (fun hNext => ?_)
      clear hK K hHeld
      have hHeld := hNext
      clear hNext
      clear hB
      have hB := hB2
      clear hB2
      clear hb
      try simp only [Act.put, List.setIfInBounds_toArray, List.set_cons_zero, List.set_cons_succ]
      refine wpAnyH_take (i := 11) (oi := ⟨some 29, _, _, _, _, _⟩) (v := ?vr111_11) rfl (by kernel_rfl) (by kernel_rfl) (by kernel_rfl) (fun _ _ _ h => h) (Or.inl ⟨by rfl, ?yr111_11⟩) hHeld ?rr111_11
      case yr111_11 => (intro w' hSw; (try dsimp only at hSw); go_simp; try (with_reducible rfl))
      simp only [Act.put, List.setIfInBounds_toArray, List.set_cons_zero, List.set_cons_succ]
      refine wpAnyH_take (i := 12) (oi := ⟨some 30, _, _, _, _, _⟩) (v := ?vr112_12) rfl (by kernel_rfl) (by kernel_rfl) (by kernel_rfl) (fun _ _ _ h => h) (Or.inl ⟨by rfl, ?yr112_12⟩) hHeld ?rr112_12
      case yr112_12 => (intro w' hSw; (try dsimp only at hSw); go_simp; try (with_reducible rfl))
      simp only [Act.put, List.setIfInBounds_toArray, List.set_cons_zero, List.set_cons_succ]
      refine wpAnyH_take (i := 13) (oi := ⟨some 31, _, _, _, _, _⟩) (v := ?vr113_13) rfl (by kernel_rfl) (by kernel_rfl) (by kernel_rfl) (fun _ _ _ h => h) (Or.inl ⟨by rfl, ?yr113_13⟩) hHeld ?rr113_13
      case yr113_13 => (intro w' hSw; (try dsimp only at hSw); go_simp; try (with_reducible rfl))
      simp only [Act.put, List.setIfInBounds_toArray, List.set_cons_zero, List.set_cons_succ]
      refine wpAnyH_take (i := 14) (oi := ⟨some 32, _, _, _, _, _⟩) (v := ?vr114_14) rfl (by kernel_rfl) (by kernel_rfl) (by kernel_rfl) (fun _ _ _ h => h) (Or.inl ⟨by rfl, ?yr114_14⟩) hHeld ?rr114_14
      case yr114_14 => (intro w' hSw; (try dsimp only at hSw); go_simp; try (with_reducible rfl))
      simp only [Act.put, List.setIfInBounds_toArray, List.set_cons_zero, List.set_cons_succ]
      refine wpAnyH_take (i := 15) (oi := ⟨some 33, _, _, _, _, _⟩) (v := ?vr115_15) rfl (by kernel_rfl) (by kernel_rfl) (by kernel_rfl) (fun _ _ _ h => h) (Or.inl ⟨by rfl, ?yr115_15⟩) hHeld ?rr115_15
      case yr115_15 => (intro w' hSw; (try dsimp only at hSw); go_simp; try (with_reducible rfl))
      simp only [Act.put, List.setIfInBounds_toArray, List.set_cons_zero, List.set_cons_succ]
      refine wpAnyH_take (i := 16) (oi := ⟨some 34, _, _, _, _, _⟩) (v := ?vr116_16) rfl (by kernel_rfl) (by kernel_rfl) (by kernel_rfl) (fun _ _ _ h => h) (Or.inl ⟨by rfl, ?yr116_16⟩) hHeld ?rr116_16
      case yr116_16 => (intro w' hSw; (try dsimp only at hSw); go_simp; try (with_reducible rfl))
      simp only [Act.put, List.setIfInBounds_toArray, List.set_cons_zero, List.set_cons_succ]
      refine wpAnyH_take (i := 17) (oi := ⟨some 35, _, _, _, _, _⟩) (v := ?vr117_17) rfl (by kernel_rfl) (by kernel_rfl) (by kernel_rfl) (fun _ _ _ h => h) (Or.inl ⟨by rfl, ?yr117_17⟩) hHeld ?rr117_17
      case yr117_17 => (intro w' hSw; (try dsimp only at hSw); go_simp; try (with_reducible rfl))
      simp only [Act.put, List.setIfInBounds_toArray, List.set_cons_zero, List.set_cons_succ]
      refine wpAnyH_take (i := 18) (oi := ⟨some 36, _, _, _, _, _⟩) (v := ?vr118_18) rfl (by kernel_rfl) (by kernel_rfl) (by kernel_rfl) (fun _ _ _ h => h) (Or.inl ⟨by rfl, ?yr118_18⟩) hHeld ?rr118_18
      case yr118_18 => (intro w' hSw; (try dsimp only at hSw); go_simp; try (with_reducible rfl))
      simp only [Act.put, List.setIfInBounds_toArray, List.set_cons_zero, List.set_cons_succ]
      refine wpAnyH_take (i := 19) (oi := ⟨some 37, _, _, _, _, _⟩) (v := ?vr119_19) rfl (by kernel_rfl) (by kernel_rfl) (by kernel_rfl) (fun _ _ _ h => h) (Or.inl ⟨by rfl, ?yr119_19⟩) hHeld ?rr119_19
      case yr119_19 => (intro w' hSw; (try dsimp only at hSw); go_simp; try (with_reducible rfl))
      simp only [Act.put, List.setIfInBounds_toArray, List.set_cons_zero, List.set_cons_succ]
      refine wpAnyH_take (i := 20) (oi := ⟨some 38, _, _, _, _, _⟩) (v := ?vr120_20) rfl (by kernel_rfl) (by kernel_rfl) (by kernel_rfl) (fun _ _ _ h => h) (Or.inl ⟨by rfl, ?yr120_20⟩) hHeld ?rr120_20
      case yr120_20 => (intro w' hSw; (try dsimp only at hSw); go_simp; try (with_reducible rfl))
      simp only [Act.put, List.setIfInBounds_toArray, List.set_cons_zero, List.set_cons_succ]
      refine wpAnyH_done (by kernel_rfl) ?_ _
      have B1 := Lib.hid (B0.out.trans (hB.mono B0.out.size))
      have X1 := Lib.hid (X0.out.on hB)
      clear hHeld hB HKP B0 X0
      generalize u1 = w1 at B1 X1 ⊢
      have c3 := on_some B1.out HC3.out
      obtain ⟨z0, z1, z2, z3⟩ := H4.out.on B1.out
      have hcall := text_yes c w1 HCS.out
      go_wp2_with fail
      (with_reducible refine hcall.mono ?_)
      rintro e w2 ⟨rfl, hb⟩
      have B2 := Lib.hid (B1.out.trans (hb.mono B1.out.size))
      have X2 := Lib.hid (X1.out.on hb)
      clear hcall hb c3 z0 z1 z2 z3 B1 X1
      obtain ⟨s, hs⟩ : ∃ s, txt c = s := ⟨_, rfl⟩
      rw [hs]
      have HTX := Lib.hid hs
      clear hs
      have heq : eq2 (uv c.vh) (uv c.vl) (uv c.vh) (uv c.vl) = true := eq2_self _ _
      have HRH : Hid (∀ W, Calls Tryz.prog 32 #[.string s, .agg #[.int .u64 (uv c.vh), .int .u64 (uv c.vl)]] W fun e w' => e = .returned (.bool true) ∧ Below W.heap.size W w') := fun W => by
        have h := rhas_s s c c.vh c.vl W HCS.out HTX.out
        rw [has_value HCS.out] at h
        exact h
      go_upto_region 8 with (fail)
      have HKP : Hid (∀ W, Below w2.heap.size w2 W → (W.cell? ⟨b, off + k * 4 + 1, none⟩ = some (.int .u64 (uv c.vh)) ∧ W.cell? ⟨b, off + k * 4 + 2, none⟩ = some (.int .u64 (uv c.vl)) ∧ W.cell? ⟨b, off + k * 4 + 3, none⟩ = some (.slice (some ⟨pb, po, none⟩) P2 P3) ∧ W.cell? ⟨pb, po, none⟩ = some (.int .u64 (uv c.vh)) ∧ W.cell? ⟨pb, po + 1, none⟩ = some (.int .u64 (uv c.vl)))) := fun W hb => ⟨on_some (B2.out.trans (hb.mono B2.out.size)) HC1.out, on_some (B2.out.trans (hb.mono B2.out.size)) HC2.out, on_some (B2.out.trans (hb.mono B2.out.size)) HC3.out, on_some (B2.out.trans (hb.mono B2.out.size)) (Lib.hid H4.out.1).out, on_some (B2.out.trans (hb.mono B2.out.size)) (Lib.hid H4.out.2.1).out⟩
      refine wp_region_held_drew (S := fun w' => w'.cell? ⟨b, off + k * 4 + 1, none⟩ = some (.int .u64 (uv c.vh)) ∧ w'.cell? ⟨b, off + k * 4 + 2, none⟩ = some (.int .u64 (uv c.vl)) ∧ w'.cell? ⟨b, off + k * 4 + 3, none⟩ = some (.slice (some ⟨pb, po, none⟩) P2 P3) ∧ w'.cell? ⟨pb, po, none⟩ = some (.int .u64 (uv c.vh)) ∧ w'.cell? ⟨pb, po + 1, none⟩ = some (.int .u64 (uv c.vl))) (by kernel_rfl) (HKP.out _ (Below.refl _ w2).drew) (fun hHeld => ?_)
      have hB := (Below.refl w2.heap.size w2).drew
      generalize w2.drew = u0 at hHeld hB ⊢
      refine wpAnyH_take (i := 0) (oi := ⟨some 50, _, _, _, _, _⟩) (v := ?vr20_1) rfl (by kernel_rfl) (by kernel_rfl) (by kernel_rfl) (fun _ _ _ h => h) (Or.inl ⟨by rfl, ?yr20_1⟩) hHeld ?rr20_1
      case yr20_1 => (intro w' hSw; (try dsimp only at hSw); go_simp; try (with_reducible rfl))
      simp only [Act.put, List.setIfInBounds_toArray, List.set_cons_zero, List.set_cons_succ]
      refine wpAnyH_take (i := 1) (oi := ⟨some 51, _, _, _, _, _⟩) (v := ?vr21_2) rfl (by kernel_rfl) (by kernel_rfl) (by kernel_rfl) (fun _ _ _ h => h) (Or.inl ⟨by rfl, ?yr21_2⟩) hHeld ?rr21_2
      case yr21_2 => (intro w' hSw; (try dsimp only at hSw); go_simp; try (with_reducible rfl))
      simp only [Act.put, List.setIfInBounds_toArray, List.set_cons_zero, List.set_cons_succ]
      refine wpAnyH_take (i := 2) (oi := ⟨some 52, _, _, _, _, _⟩) (v := ?vr22_3) rfl (by kernel_rfl) (by kernel_rfl) (by kernel_rfl) (fun _ _ _ h => h) (Or.inl ⟨by rfl, ?yr22_3⟩) hHeld ?rr22_3
      case yr22_3 => (intro w' hSw; (try dsimp only at hSw); go_simp; try (with_reducible rfl))
      simp only [Act.put, List.setIfInBounds_toArray, List.set_cons_zero, List.set_cons_succ]
      refine wpAnyH_take (i := 3) (oi := ⟨some 53, _, _, _, _, _⟩) (v := ?vr23_4) rfl (by kernel_rfl) (by kernel_rfl) (by kernel_rfl) (fun _ _ _ h => h) (Or.inl ⟨by rfl, ?yr23_4⟩) hHeld ?rr23_4
      case yr23_4 => (intro w' hSw; (try dsimp only at hSw); go_simp; try (with_reducible rfl))
      simp only [Act.put, List.setIfInBounds_toArray, List.set_cons_zero, List.set_cons_succ]
      refine wpAnyH_take (i := 4) (oi := ⟨some 54, _, _, _, _, _⟩) (v := ?vr24_5) rfl (by kernel_rfl) (by kernel_rfl) (by kernel_rfl) (fun _ _ _ h => h) (Or.inl ⟨by rfl, ?yr24_5⟩) hHeld ?rr24_5
      case yr24_5 => (intro w' hSw; (try dsimp only at hSw); go_simp; try (with_reducible rfl))
      simp only [Act.put, List.setIfInBounds_toArray, List.set_cons_zero, List.set_cons_succ]
      refine wpAnyH_take (i := 5) (oi := ⟨some 55, _, _, _, _, _⟩) (v := ?vr25_6) rfl (by kernel_rfl) (by kernel_rfl) (by kernel_rfl) (fun _ _ _ h => h) (Or.inl ⟨by rfl, ?yr25_6⟩) hHeld ?rr25_6
      case yr25_6 => (intro w' hSw; (try dsimp only at hSw); go_simp; try (with_reducible rfl))
      simp only [Act.put, List.setIfInBounds_toArray, List.set_cons_zero, List.set_cons_succ]
      refine wpAnyH_take (i := 6) (oi := ⟨some 56, _, _, _, _, _⟩) (v := ?vr26_7) rfl (by kernel_rfl) (by kernel_rfl) (by kernel_rfl) (fun _ _ _ h => h) (Or.inl ⟨by rfl, ?yr26_7⟩) hHeld ?rr26_7
      case yr26_7 => (intro w' hSw; (try dsimp only at hSw); go_simp; try (with_reducible rfl))
      simp only [Act.put, List.setIfInBounds_toArray, List.set_cons_zero, List.set_cons_succ]
      refine wpAnyH_take (i := 7) (oi := ⟨some 57, _, _, _, _, _⟩) (v := ?vr27_8) rfl (by kernel_rfl) (by kernel_rfl) (by kernel_rfl) (fun _ _ _ h => h) (Or.inl ⟨by rfl, ?yr27_8⟩) hHeld ?rr27_8
      case yr27_8 => (intro w' hSw; (try dsimp only at hSw); go_simp; try (with_reducible rfl))
      simp only [Act.put, List.setIfInBounds_toArray, List.set_cons_zero, List.set_cons_succ]
      refine wpAnyH_take (i := 8) (oi := ⟨some 58, _, _, _, _, _⟩) (v := ?vr28_9) rfl (by kernel_rfl) (by kernel_rfl) (by kernel_rfl) (fun _ _ _ h => h) (Or.inl ⟨by rfl, ?yr28_9⟩) hHeld ?rr28_9
      case yr28_9 => (intro w' hSw; (try dsimp only at hSw); go_simp; try (with_reducible rfl))
      simp only [Act.put, List.setIfInBounds_toArray, List.set_cons_zero, List.set_cons_succ]
      refine wpAnyH_ready (rs := [9]) (by kernel_rfl) (by simp) ?_
      refine AllReadyH.cons (o := ⟨some 59, _, _, _, _, _⟩) rfl (fun K hK => ?_) AllReadyH.nil
      go_simp
      (with_reducible refine (HRH.out u0).mono ?_)
      rintro e u1 ⟨rfl, hb⟩
      (try dsimp only)
      have hB2 := hB.trans (hb.mono hB.size)
      refine hK.out _ _ (HKP.out _ hB2) (fun hNext => ?_)
      clear hK K hHeld
      have hHeld := hNext
      clear hNext
      clear hB
      have hB := hB2
      clear hB2
      clear hb
      try simp only [Act.put, List.setIfInBounds_toArray, List.set_cons_zero, List.set_cons_succ]
      refine wpAnyH_take (i := 10) (oi := ⟨some 60, _, _, _, _, _⟩) (v := ?vr210_10) rfl (by kernel_rfl) (by kernel_rfl) (by kernel_rfl) (fun _ _ _ h => h) (Or.inl ⟨by rfl, ?yr210_10⟩) hHeld ?rr210_10
      case yr210_10 => (intro w' hSw; (try dsimp only at hSw); go_simp; try (with_reducible rfl))
      simp only [Act.put, List.setIfInBounds_toArray, List.set_cons_zero, List.set_cons_succ]
      refine wpAnyH_take (i := 11) (oi := ⟨some 61, _, _, _, _, _⟩) (v := ?vr211_11) rfl (by kernel_rfl) (by kernel_rfl) (by kernel_rfl) (fun _ _ _ h => h) (Or.inl ⟨by rfl, ?yr211_11⟩) hHeld ?rr211_11
      case yr211_11 => (intro w' hSw; (try dsimp only at hSw); go_simp; try (with_reducible rfl))
      simp only [Act.put, List.setIfInBounds_toArray, List.set_cons_zero, List.set_cons_succ]
      refine wpAnyH_take (i := 12) (oi := ⟨some 62, _, _, _, _, _⟩) (v := ?vr212_12) rfl (by kernel_rfl) (by kernel_rfl) (by kernel_rfl) (fun _ _ _ h => h) (Or.inl ⟨by rfl, ?yr212_12⟩) hHeld ?rr212_12
      case yr212_12 => (intro w' hSw; (try dsimp only at hSw); go_simp; try (with_reducible rfl))
      simp only [Act.put, List.setIfInBounds_toArray, List.set_cons_zero, List.set_cons_succ]
      refine wpAnyH_take (i := 13) (oi := ⟨some 63, _, _, _, _, _⟩) (v := ?vr213_13) rfl (by kernel_rfl) (by kernel_rfl) (by kernel_rfl) (fun _ _ _ h => h) (Or.inl ⟨by rfl, ?yr213_13⟩) hHeld ?rr213_13
      case yr213_13 => (intro w' hSw; (try dsimp only at hSw); go_simp; try (with_reducible rfl))
      simp only [Act.put, List.setIfInBounds_toArray, List.set_cons_zero, List.set_cons_succ]
      refine wpAnyH_take (i := 14) (oi := ⟨some 64, _, _, _, _, _⟩) (v := ?vr214_14) rfl (by kernel_rfl) (by kernel_rfl) (by kernel_rfl) (fun _ _ _ h => h) (Or.inl ⟨by rfl, ?yr214_14⟩) hHeld ?rr214_14
      case yr214_14 => (intro w' hSw; (try dsimp only at hSw); go_simp; try (with_reducible rfl))
      simp only [Act.put, List.setIfInBounds_toArray, List.set_cons_zero, List.set_cons_succ]
      refine wpAnyH_take (i := 15) (oi := ⟨some 65, _, _, _, _, _⟩) (v := ?vr215_15) rfl (by kernel_rfl) (by kernel_rfl) (by kernel_rfl) (fun _ _ _ h => h) (Or.inl ⟨by rfl, ?yr215_15⟩) hHeld ?rr215_15
      case yr215_15 => (intro w' hSw; (try dsimp only at hSw); go_simp; try (with_reducible rfl))
      simp only [Act.put, List.setIfInBounds_toArray, List.set_cons_zero, List.set_cons_succ]
      refine wpAnyH_take (i := 16) (oi := ⟨some 66, _, _, _, _, _⟩) (v := ?vr216_16) rfl (by kernel_rfl) (by kernel_rfl) (by kernel_rfl) (fun _ _ _ h => h) (Or.inl ⟨by rfl, ?yr216_16⟩) hHeld ?rr216_16
      case yr216_16 => (intro w' hSw; (try dsimp only at hSw); go_simp; try (with_reducible rfl))
      simp only [Act.put, List.setIfInBounds_toArray, List.set_cons_zero, List.set_cons_succ]
      refine wpAnyH_take (i := 17) (oi := ⟨some 67, _, _, _, _, _⟩) (v := ?vr217_17) rfl (by kernel_rfl) (by kernel_rfl) (by kernel_rfl) (fun _ _ _ h => h) (Or.inl ⟨by rfl, ?yr217_17⟩) hHeld ?rr217_17
      case yr217_17 => (intro w' hSw; (try dsimp only at hSw); go_simp; try (with_reducible rfl))
      simp only [Act.put, List.setIfInBounds_toArray, List.set_cons_zero, List.set_cons_succ]
      refine wpAnyH_take (i := 18) (oi := ⟨some 68, _, _, _, _, _⟩) (v := ?vr218_18) rfl (by kernel_rfl) (by kernel_rfl) (by kernel_rfl) (fun _ _ _ h => h) (Or.inl ⟨by rfl, ?yr218_18⟩) hHeld ?rr218_18
      case yr218_18 => (intro w' hSw; (try dsimp only at hSw); go_simp; try (with_reducible rfl))
      simp only [Act.put, List.setIfInBounds_toArray, List.set_cons_zero, List.set_cons_succ]
      refine wpAnyH_take (i := 19) (oi := ⟨some 69, _, _, _, _, _⟩) (v := ?vr219_19) rfl (by kernel_rfl) (by kernel_rfl) (by kernel_rfl) (fun _ _ _ h => h) (Or.inl ⟨by rfl, ?yr219_19⟩) hHeld ?rr219_19
      case yr219_19 => (intro w' hSw; (try dsimp only at hSw); go_simp; try (with_reducible rfl))
      simp only [Act.put, List.setIfInBounds_toArray, List.set_cons_zero, List.set_cons_succ]
      refine wpAnyH_take (i := 20) (oi := ⟨some 70, _, _, _, _, _⟩) (v := ?vr220_20) rfl (by kernel_rfl) (by kernel_rfl) (by kernel_rfl) (fun _ _ _ h => h) (Or.inl ⟨by rfl, ?yr220_20⟩) hHeld ?rr220_20
      case yr220_20 => (intro w' hSw; (try dsimp only at hSw); go_simp; try (with_reducible rfl))
      simp only [Act.put, List.setIfInBounds_toArray, List.set_cons_zero, List.set_cons_succ]
      refine wpAnyH_take (i := 21) (oi := ⟨some 71, _, _, _, _, _⟩) (v := ?vr221_21) rfl (by kernel_rfl) (by kernel_rfl) (by kernel_rfl) (fun _ _ _ h => h) (Or.inl ⟨by rfl, ?yr221_21⟩) hHeld ?rr221_21
      case yr221_21 => (intro w' hSw; (try dsimp only at hSw); go_simp; try (with_reducible rfl))
      simp only [Act.put, List.setIfInBounds_toArray, List.set_cons_zero, List.set_cons_succ]
      refine wpAnyH_take (i := 22) (oi := ⟨some 72, _, _, _, _, _⟩) (v := ?vr222_22) rfl (by kernel_rfl) (by kernel_rfl) (by kernel_rfl) (fun _ _ _ h => h) (Or.inl ⟨by rfl, ?yr222_22⟩) hHeld ?rr222_22
      case yr222_22 => (intro w' hSw; (try dsimp only at hSw); go_simp; try (with_reducible rfl))
      simp only [Act.put, List.setIfInBounds_toArray, List.set_cons_zero, List.set_cons_succ]
      refine wpAnyH_take (i := 23) (oi := ⟨some 73, _, _, _, _, _⟩) (v := ?vr223_23) rfl (by kernel_rfl) (by kernel_rfl) (by kernel_rfl) (fun _ _ _ h => h) (Or.inl ⟨by rfl, ?yr223_23⟩) hHeld ?rr223_23
      case yr223_23 => (intro w' hSw; (try dsimp only at hSw); go_simp; try (with_reducible rfl))
      simp only [Act.put, List.setIfInBounds_toArray, List.set_cons_zero, List.set_cons_succ]
      refine wpAnyH_take (i := 24) (oi := ⟨some 74, _, _, _, _, _⟩) (v := ?vr224_24) rfl (by kernel_rfl) (by kernel_rfl) (by kernel_rfl) (fun _ _ _ h => h) (Or.inl ⟨by rfl, ?yr224_24⟩) hHeld ?rr224_24
      case yr224_24 => (intro w' hSw; (try dsimp only at hSw); go_simp; try (with_reducible rfl))
      simp only [Act.put, List.setIfInBounds_toArray, List.set_cons_zero, List.set_cons_succ]
      refine wpAnyH_take (i := 25) (oi := ⟨some 75, _, _, _, _, _⟩) (v := ?vr225_25) rfl (by kernel_rfl) (by kernel_rfl) (by kernel_rfl) (fun _ _ _ h => h) (Or.inl ⟨by rfl, ?yr225_25⟩) hHeld ?rr225_25
      case yr225_25 => (intro w' hSw; (try dsimp only at hSw); go_simp; try (with_reducible rfl))
      simp only [Act.put, List.setIfInBounds_toArray, List.set_cons_zero, List.set_cons_succ]
      refine wpAnyH_take (i := 26) (oi := ⟨some 76, _, _, _, _, _⟩) (v := ?vr226_26) rfl (by kernel_rfl) (by kernel_rfl) (by kernel_rfl) (fun _ _ _ h => h) (Or.inl ⟨by rfl, ?yr226_26⟩) hHeld ?rr226_26
      case yr226_26 => (intro w' hSw; (try dsimp only at hSw); go_simp; try (with_reducible rfl))
      simp only [Act.put, List.setIfInBounds_toArray, List.set_cons_zero, List.set_cons_succ]
      refine wpAnyH_take (i := 27) (oi := ⟨some 77, _, _, _, _, _⟩) (v := ?vr227_27) rfl (by kernel_rfl) (by kernel_rfl) (by kernel_rfl) (fun _ _ _ h => h) (Or.inl ⟨by rfl, ?yr227_27⟩) hHeld ?rr227_27
      case yr227_27 => (intro w' hSw; (try dsimp only at hSw); go_simp; try (with_reducible rfl))
      simp only [Act.put, List.setIfInBounds_toArray, List.set_cons_zero, List.set_cons_succ]
      refine wpAnyH_done (by kernel_rfl) ?_ _
      have B3 := Lib.hid (B2.out.trans (hB.mono B2.out.size))
      have X3 := Lib.hid (X2.out.on hB)
      clear hHeld hB HKP B2 X2
      generalize u1 = w3 at B3 X3 ⊢
      cases hx : hasP (c :: p) (hh, hl) with
      | true =>
        go_upto_region 10 with (fail)
        have HKP : Hid (∀ W, Below w3.heap.size w3 W → (W.cell? ⟨b, off + k * 4 + 3, none⟩ = some (.slice (some ⟨pb, po, none⟩) P2 P3) ∧ W.cell? ⟨w.heap.size, 0, none⟩ = some (.int .u64 (uv hh)) ∧ W.cell? ⟨w.heap.size, 1, none⟩ = some (.int .u64 (uv hl)))) := fun W hb => ⟨on_some (B3.out.trans (hb.mono B3.out.size)) HC3.out, ((X3.out.on hb).cell 0).trans rfl, ((X3.out.on hb).cell 1).trans rfl⟩
        refine wp_region_held_drew (S := fun w' => w'.cell? ⟨b, off + k * 4 + 3, none⟩ = some (.slice (some ⟨pb, po, none⟩) P2 P3) ∧ w'.cell? ⟨w.heap.size, 0, none⟩ = some (.int .u64 (uv hh)) ∧ w'.cell? ⟨w.heap.size, 1, none⟩ = some (.int .u64 (uv hl))) (by kernel_rfl) (HKP.out _ (Below.refl _ w3).drew) (fun hHeld => ?_)
        have hB := (Below.refl w3.heap.size w3).drew
        generalize w3.drew = u0 at hHeld hB ⊢
        refine wpAnyH_take (i := 0) (oi := ⟨some 78, _, _, _, _, _⟩) (v := ?vr30_1) rfl (by kernel_rfl) (by kernel_rfl) (by kernel_rfl) (fun _ _ _ h => h) (Or.inl ⟨by rfl, ?yr30_1⟩) hHeld ?rr30_1
        case yr30_1 => (intro w' hSw; (try dsimp only at hSw); go_simp; try (with_reducible rfl))
        simp only [Act.put, List.setIfInBounds_toArray, List.set_cons_zero, List.set_cons_succ]
        refine wpAnyH_take (i := 1) (oi := ⟨some 79, _, _, _, _, _⟩) (v := ?vr31_2) rfl (by kernel_rfl) (by kernel_rfl) (by kernel_rfl) (fun _ _ _ h => h) (Or.inl ⟨by rfl, ?yr31_2⟩) hHeld ?rr31_2
        case yr31_2 => (intro w' hSw; (try dsimp only at hSw); go_simp; try (with_reducible rfl))
        simp only [Act.put, List.setIfInBounds_toArray, List.set_cons_zero, List.set_cons_succ]
        refine wpAnyH_take (i := 2) (oi := ⟨some 80, _, _, _, _, _⟩) (v := ?vr32_3) rfl (by kernel_rfl) (by kernel_rfl) (by kernel_rfl) (fun _ _ _ h => h) (Or.inl ⟨by rfl, ?yr32_3⟩) hHeld ?rr32_3
        case yr32_3 => (intro w' hSw; (try dsimp only at hSw); go_simp; try (with_reducible rfl))
        simp only [Act.put, List.setIfInBounds_toArray, List.set_cons_zero, List.set_cons_succ]
        refine wpAnyH_take (i := 3) (oi := ⟨some 81, _, _, _, _, _⟩) (v := ?vr33_4) rfl (by kernel_rfl) (by kernel_rfl) (by kernel_rfl) (fun _ _ _ h => h) (Or.inl ⟨by rfl, ?yr33_4⟩) hHeld ?rr33_4
        case yr33_4 => (intro w' hSw; (try dsimp only at hSw); go_simp; try (with_reducible rfl))
        simp only [Act.put, List.setIfInBounds_toArray, List.set_cons_zero, List.set_cons_succ]
        refine wpAnyH_take (i := 4) (oi := ⟨some 82, _, _, _, _, _⟩) (v := ?vr34_5) rfl (by kernel_rfl) (by kernel_rfl) (by kernel_rfl) (fun _ _ _ h => h) (Or.inl ⟨by rfl, ?yr34_5⟩) hHeld ?rr34_5
        case yr34_5 => (intro w' hSw; (try dsimp only at hSw); go_simp; try (with_reducible rfl))
        simp only [Act.put, List.setIfInBounds_toArray, List.set_cons_zero, List.set_cons_succ]
        refine wpAnyH_take (i := 5) (oi := ⟨some 83, _, _, _, _, _⟩) (v := ?vr35_6) rfl (by kernel_rfl) (by kernel_rfl) (by kernel_rfl) (fun _ _ _ h => h) (Or.inl ⟨by rfl, ?yr35_6⟩) hHeld ?rr35_6
        case yr35_6 => (intro w' hSw; (try dsimp only at hSw); go_simp; try (with_reducible rfl))
        simp only [Act.put, List.setIfInBounds_toArray, List.set_cons_zero, List.set_cons_succ]
        refine wpAnyH_ready (rs := [6]) (by kernel_rfl) (by simp) ?_
        refine AllReadyH.cons (o := ⟨some 84, _, _, _, _, _⟩) rfl (fun K hK => ?_) AllReadyH.nil
        go_simp
        (with_reducible refine (rhas3_c true _ (c :: p) hh hl u0 (by have := HPL.out; omega) (by have h := hx; unfold hasP at h; exact h) (HPI.out.on (B3.out.trans (hB.mono B3.out.size)))).mono ?_)
        rintro e u1 ⟨rfl, hb⟩
        (try dsimp only)
        have hB2 := hB.trans (hb.mono hB.size)
        refine hK.out _ _ (HKP.out _ hB2) (fun hNext => ?_)
        clear hK K hHeld
        have hHeld := hNext
        clear hNext
        clear hB
        have hB := hB2
        clear hB2
        clear hb
        try simp only [Act.put, List.setIfInBounds_toArray, List.set_cons_zero, List.set_cons_succ]
        refine wpAnyH_done (by kernel_rfl) ?_ _
        have B4 := Lib.hid (B3.out.trans (hB.mono B3.out.size))
        have X4 := Lib.hid (X3.out.on hB)
        clear hHeld hB HKP B3 X3
        generalize u1 = w4 at B4 X4 ⊢
        have hmo : m = 0 := by
          have h1 := cnt_step (x := (hh, hl)) HAK.out
          have h2 := cnt_leA HI.out (k + 1)
          rw [if_pos (show hasP (c :: p) (hh, hl) = true from hx)] at h1
          have := HM.out
          omega
        subst hmo
        have HMS : Hid (1 = (idsAt hasP (al.take (k + 1)) (hh, hl)).length) := by
          show _ = _
          rw [cnt_step HAK.out, if_pos (show hasP (c :: p) (hh, hl) = true from hx), ← HM.out]
        have heI : ids = I := ids_one HI.out (List.mem_of_getElem? HAK.out) hx
        have heq2 : decide (ids = I) = true := decide_eq_true heI
        have c0 := on_some B4.out HC0.out
        have hcall := rintg_c _ _ ids I w4 (by have := HID.out; omega) (by have := HIL.out; omega) (HNI.out.on B4.out) (HU.out.on B4.out)
        rw [heq2] at hcall
        clear heI
        go_wp2_with fail
        (with_reducible refine hcall.mono ?_)
        rintro e w5 ⟨rfl, hb⟩
        have B5 := Lib.hid (B4.out.trans (hb.mono B4.out.size))
        have X5 := Lib.hid (X4.out.on hb)
        clear hcall hb c0 heq2 B4 X4
        go_wp2
        go_loopg [11] k (fun gj s11 wz => ∃ j : Nat, j ≤ k ∧ gj = k - j ∧ s11 = .int .i64 j ∧ Hid (Below w.heap.size w wz) ∧ Hid (Blk wz w.heap.size 25 #[.int .u64 (uv hh), .int .u64 (uv hl)]))
        case atStart => exact ⟨0, Nat.zero_le _, rfl, rfl, B5, X5⟩
        case round =>
          clear B5 X5
          obtain ⟨j, hj, rfl, rfl, BZ, XZ⟩ := hrel
          by_cases hjk : j < k
          · have hjz : (j : Int) < (k : Int) := by omega
            have hjlz : (j : Int) < (al.length : Int) := by omega
            obtain ⟨a2, ha2⟩ : ∃ a, al[j]? = some a := ⟨_, List.getElem?_eq_getElem (by omega)⟩
            obtain ⟨K1, K2, K3, R1, R2, R3, ⟨e0, -, -, -⟩, hN2, -, hK2, -⟩ := (HAC.out j a2 ha2).cells
            subst hK2
            have HE0 := Lib.hid e0
            have HN2 := Lib.hid hN2
            have hne : decide (ids = a2.ids) = false := decide_eq_false (dst_at HD.out HAK.out ha2 hjk)
            have hl2 := HBL.out a2 (List.mem_of_getElem? ha2)
            have HRI : Hid (∀ W, Below w.heap.size w W → Calls Tryz.prog 17 #[.slice I1 ids.length I3, .slice K1 a2.ids.length K3] W fun e w' => e = .returned (.bool false) ∧ Below W.heap.size W w') := fun W hb => by
              have h := rintg_c _ _ ids a2.ids W (by have := HID.out; omega) (by omega) (HNI.out.on hb) (HN2.out.on hb)
              rw [hne] at h
              exact h
            clear e0 hN2 ha2
            go_upto_region 17 with (fail)
            have HKP : Hid (∀ W, Below wr.heap.size wr W → (W.cell? ⟨b, off + k * 4, none⟩ = some (.slice I1 ids.length I3) ∧ W.cell? ⟨b, off + j * 4, none⟩ = some (.slice K1 a2.ids.length K3))) := fun W hb => ⟨on_some (BZ.out.trans (hb.mono BZ.out.size)) HC0.out, on_some (BZ.out.trans (hb.mono BZ.out.size)) HE0.out⟩
            refine wp_region_held_drew (S := fun w' => w'.cell? ⟨b, off + k * 4, none⟩ = some (.slice I1 ids.length I3) ∧ w'.cell? ⟨b, off + j * 4, none⟩ = some (.slice K1 a2.ids.length K3)) (by kernel_rfl) (HKP.out _ (Below.refl _ wr).drew) (fun hHeld => ?_)
            have hB := (Below.refl wr.heap.size wr).drew
            generalize wr.drew = u0 at hHeld hB ⊢
            refine wpAnyH_take (i := 0) (oi := ⟨some 100, _, _, _, _, _⟩) (v := ?vr40_1) rfl (by kernel_rfl) (by kernel_rfl) (by kernel_rfl) (fun _ _ _ h => h) (Or.inl ⟨by rfl, ?yr40_1⟩) hHeld ?rr40_1
            case yr40_1 => (intro w' hSw; (try dsimp only at hSw); go_simp; try (with_reducible rfl))
            simp only [Act.put, List.setIfInBounds_toArray, List.set_cons_zero, List.set_cons_succ]
            refine wpAnyH_take (i := 1) (oi := ⟨some 101, _, _, _, _, _⟩) (v := ?vr41_2) rfl (by kernel_rfl) (by kernel_rfl) (by kernel_rfl) (fun _ _ _ h => h) (Or.inl ⟨by rfl, ?yr41_2⟩) hHeld ?rr41_2
            case yr41_2 => (intro w' hSw; (try dsimp only at hSw); go_simp; try (with_reducible rfl))
            simp only [Act.put, List.setIfInBounds_toArray, List.set_cons_zero, List.set_cons_succ]
            refine wpAnyH_take (i := 2) (oi := ⟨some 102, _, _, _, _, _⟩) (v := ?vr42_3) rfl (by kernel_rfl) (by kernel_rfl) (by kernel_rfl) (fun _ _ _ h => h) (Or.inl ⟨by rfl, ?yr42_3⟩) hHeld ?rr42_3
            case yr42_3 => (intro w' hSw; (try dsimp only at hSw); go_simp; try (with_reducible rfl))
            simp only [Act.put, List.setIfInBounds_toArray, List.set_cons_zero, List.set_cons_succ]
            refine wpAnyH_take (i := 3) (oi := ⟨some 103, _, _, _, _, _⟩) (v := ?vr43_4) rfl (by kernel_rfl) (by kernel_rfl) (by kernel_rfl) (fun _ _ _ h => h) (Or.inl ⟨by rfl, ?yr43_4⟩) hHeld ?rr43_4
            case yr43_4 => (intro w' hSw; (try dsimp only at hSw); go_simp; try (with_reducible rfl))
            simp only [Act.put, List.setIfInBounds_toArray, List.set_cons_zero, List.set_cons_succ]
            refine wpAnyH_take (i := 4) (oi := ⟨some 104, _, _, _, _, _⟩) (v := ?vr44_5) rfl (by kernel_rfl) (by kernel_rfl) (by kernel_rfl) (fun _ _ _ h => h) (Or.inl ⟨by rfl, ?yr44_5⟩) hHeld ?rr44_5
            case yr44_5 => (intro w' hSw; (try dsimp only at hSw); go_simp; try (with_reducible rfl))
            simp only [Act.put, List.setIfInBounds_toArray, List.set_cons_zero, List.set_cons_succ]
            refine wpAnyH_take (i := 5) (oi := ⟨some 105, _, _, _, _, _⟩) (v := ?vr45_6) rfl (by kernel_rfl) (by kernel_rfl) (by kernel_rfl) (fun _ _ _ h => h) (Or.inl ⟨by rfl, ?yr45_6⟩) hHeld ?rr45_6
            case yr45_6 => (intro w' hSw; (try dsimp only at hSw); go_simp; try (with_reducible rfl))
            simp only [Act.put, List.setIfInBounds_toArray, List.set_cons_zero, List.set_cons_succ]
            refine wpAnyH_take (i := 6) (oi := ⟨some 106, _, _, _, _, _⟩) (v := ?vr46_7) rfl (by kernel_rfl) (by kernel_rfl) (by kernel_rfl) (fun _ _ _ h => h) (Or.inl ⟨by rfl, ?yr46_7⟩) hHeld ?rr46_7
            case yr46_7 => (intro w' hSw; (try dsimp only at hSw); go_simp; try (with_reducible rfl))
            simp only [Act.put, List.setIfInBounds_toArray, List.set_cons_zero, List.set_cons_succ]
            refine wpAnyH_take (i := 7) (oi := ⟨some 107, _, _, _, _, _⟩) (v := ?vr47_8) rfl (by kernel_rfl) (by kernel_rfl) (by kernel_rfl) (fun _ _ _ h => h) (Or.inl ⟨by rfl, ?yr47_8⟩) hHeld ?rr47_8
            case yr47_8 => (intro w' hSw; (try dsimp only at hSw); go_simp; try (with_reducible rfl))
            simp only [Act.put, List.setIfInBounds_toArray, List.set_cons_zero, List.set_cons_succ]
            refine wpAnyH_take (i := 8) (oi := ⟨some 108, _, _, _, _, _⟩) (v := ?vr48_9) rfl (by kernel_rfl) (by kernel_rfl) (by kernel_rfl) (fun _ _ _ h => h) (Or.inl ⟨by rfl, ?yr48_9⟩) hHeld ?rr48_9
            case yr48_9 => (intro w' hSw; (try dsimp only at hSw); go_simp; try (with_reducible rfl))
            simp only [Act.put, List.setIfInBounds_toArray, List.set_cons_zero, List.set_cons_succ]
            refine wpAnyH_take (i := 9) (oi := ⟨some 109, _, _, _, _, _⟩) (v := ?vr49_10) rfl (by kernel_rfl) (by kernel_rfl) (by kernel_rfl) (fun _ _ _ h => h) (Or.inl ⟨by rfl, ?yr49_10⟩) hHeld ?rr49_10
            case yr49_10 => (intro w' hSw; (try dsimp only at hSw); go_simp; try (with_reducible rfl))
            simp only [Act.put, List.setIfInBounds_toArray, List.set_cons_zero, List.set_cons_succ]
            refine wpAnyH_ready (rs := [10]) (by kernel_rfl) (by simp) ?_
            refine AllReadyH.cons (o := ⟨some 110, _, _, _, _, _⟩) rfl (fun K hK => ?_) AllReadyH.nil
            go_simp
            (with_reducible refine (HRI.out u0 (BZ.out.trans (hB.mono BZ.out.size))).mono ?_)
            rintro e u1 ⟨rfl, hb⟩
            (try dsimp only)
            have hB2 := hB.trans (hb.mono hB.size)
            refine hK.out _ _ (HKP.out _ hB2) (fun hNext => ?_)
            clear hK K hHeld
            have hHeld := hNext
            clear hNext
            clear hB
            have hB := hB2
            clear hB2
            clear hb
            try simp only [Act.put, List.setIfInBounds_toArray, List.set_cons_zero, List.set_cons_succ]
            refine wpAnyH_done (by kernel_rfl) ?_ _
            have B6 := Lib.hid (BZ.out.trans (hB.mono BZ.out.size))
            have X6 := Lib.hid (XZ.out.on hB)
            clear hHeld hB HKP BZ XZ
            generalize u1 = w6 at B6 X6 ⊢
            clear hne hl2 HE0 HN2 HRI
            go_wp2
            go_roundg (k - (j + 1))
            case measure => omega
            case rel => exact ⟨j + 1, by omega, rfl, by go_num, B6, X6⟩
          · have hjz : ¬ (j : Int) < (k : Int) := by omega
            go_wp2
            go_roundg (al.length - (k + 1))
            case measure => omega
            case rel => exact ⟨k + 1, 1, by omega, rfl, by go_num, by go_num, by omega, BZ, XZ, HMS⟩
      | false =>
        go_upto_region 10 with (fail)
        have HKP : Hid (∀ W, Below w3.heap.size w3 W → (W.cell? ⟨b, off + k * 4 + 3, none⟩ = some (.slice (some ⟨pb, po, none⟩) P2 P3) ∧ W.cell? ⟨w.heap.size, 0, none⟩ = some (.int .u64 (uv hh)) ∧ W.cell? ⟨w.heap.size, 1, none⟩ = some (.int .u64 (uv hl)))) := fun W hb => ⟨on_some (B3.out.trans (hb.mono B3.out.size)) HC3.out, ((X3.out.on hb).cell 0).trans rfl, ((X3.out.on hb).cell 1).trans rfl⟩
        refine wp_region_held_drew (S := fun w' => w'.cell? ⟨b, off + k * 4 + 3, none⟩ = some (.slice (some ⟨pb, po, none⟩) P2 P3) ∧ w'.cell? ⟨w.heap.size, 0, none⟩ = some (.int .u64 (uv hh)) ∧ w'.cell? ⟨w.heap.size, 1, none⟩ = some (.int .u64 (uv hl))) (by kernel_rfl) (HKP.out _ (Below.refl _ w3).drew) (fun hHeld => ?_)
        have hB := (Below.refl w3.heap.size w3).drew
        generalize w3.drew = u0 at hHeld hB ⊢
        refine wpAnyH_take (i := 0) (oi := ⟨some 78, _, _, _, _, _⟩) (v := ?vr50_1) rfl (by kernel_rfl) (by kernel_rfl) (by kernel_rfl) (fun _ _ _ h => h) (Or.inl ⟨by rfl, ?yr50_1⟩) hHeld ?rr50_1
        case yr50_1 => (intro w' hSw; (try dsimp only at hSw); go_simp; try (with_reducible rfl))
        simp only [Act.put, List.setIfInBounds_toArray, List.set_cons_zero, List.set_cons_succ]
        refine wpAnyH_take (i := 1) (oi := ⟨some 79, _, _, _, _, _⟩) (v := ?vr51_2) rfl (by kernel_rfl) (by kernel_rfl) (by kernel_rfl) (fun _ _ _ h => h) (Or.inl ⟨by rfl, ?yr51_2⟩) hHeld ?rr51_2
        case yr51_2 => (intro w' hSw; (try dsimp only at hSw); go_simp; try (with_reducible rfl))
        simp only [Act.put, List.setIfInBounds_toArray, List.set_cons_zero, List.set_cons_succ]
        refine wpAnyH_take (i := 2) (oi := ⟨some 80, _, _, _, _, _⟩) (v := ?vr52_3) rfl (by kernel_rfl) (by kernel_rfl) (by kernel_rfl) (fun _ _ _ h => h) (Or.inl ⟨by rfl, ?yr52_3⟩) hHeld ?rr52_3
        case yr52_3 => (intro w' hSw; (try dsimp only at hSw); go_simp; try (with_reducible rfl))
        simp only [Act.put, List.setIfInBounds_toArray, List.set_cons_zero, List.set_cons_succ]
        refine wpAnyH_take (i := 3) (oi := ⟨some 81, _, _, _, _, _⟩) (v := ?vr53_4) rfl (by kernel_rfl) (by kernel_rfl) (by kernel_rfl) (fun _ _ _ h => h) (Or.inl ⟨by rfl, ?yr53_4⟩) hHeld ?rr53_4
        case yr53_4 => (intro w' hSw; (try dsimp only at hSw); go_simp; try (with_reducible rfl))
        simp only [Act.put, List.setIfInBounds_toArray, List.set_cons_zero, List.set_cons_succ]
        refine wpAnyH_take (i := 4) (oi := ⟨some 82, _, _, _, _, _⟩) (v := ?vr54_5) rfl (by kernel_rfl) (by kernel_rfl) (by kernel_rfl) (fun _ _ _ h => h) (Or.inl ⟨by rfl, ?yr54_5⟩) hHeld ?rr54_5
        case yr54_5 => (intro w' hSw; (try dsimp only at hSw); go_simp; try (with_reducible rfl))
        simp only [Act.put, List.setIfInBounds_toArray, List.set_cons_zero, List.set_cons_succ]
        refine wpAnyH_take (i := 5) (oi := ⟨some 83, _, _, _, _, _⟩) (v := ?vr55_6) rfl (by kernel_rfl) (by kernel_rfl) (by kernel_rfl) (fun _ _ _ h => h) (Or.inl ⟨by rfl, ?yr55_6⟩) hHeld ?rr55_6
        case yr55_6 => (intro w' hSw; (try dsimp only at hSw); go_simp; try (with_reducible rfl))
        simp only [Act.put, List.setIfInBounds_toArray, List.set_cons_zero, List.set_cons_succ]
        refine wpAnyH_ready (rs := [6]) (by kernel_rfl) (by simp) ?_
        refine AllReadyH.cons (o := ⟨some 84, _, _, _, _, _⟩) rfl (fun K hK => ?_) AllReadyH.nil
        go_simp
        (with_reducible refine (rhas3_c false _ (c :: p) hh hl u0 (by have := HPL.out; omega) (by have h := hx; unfold hasP at h; exact h) (HPI.out.on (B3.out.trans (hB.mono B3.out.size)))).mono ?_)
        rintro e u1 ⟨rfl, hb⟩
        (try dsimp only)
        have hB2 := hB.trans (hb.mono hB.size)
        refine hK.out _ _ (HKP.out _ hB2) (fun hNext => ?_)
        clear hK K hHeld
        have hHeld := hNext
        clear hNext
        clear hB
        have hB := hB2
        clear hB2
        clear hb
        try simp only [Act.put, List.setIfInBounds_toArray, List.set_cons_zero, List.set_cons_succ]
        refine wpAnyH_done (by kernel_rfl) ?_ _
        have B7 := Lib.hid (B3.out.trans (hB.mono B3.out.size))
        have X7 := Lib.hid (X3.out.on hB)
        clear hHeld hB HKP B3 X3
        generalize u1 = w7 at B7 X7 ⊢
        have HMS : Hid (m = (idsAt hasP (al.take (k + 1)) (hh, hl)).length) := by
          show _ = _
          rw [cnt_step HAK.out, if_neg (by rw [show hasP (c :: p) (hh, hl) = false from hx]; simp), ← HM.out, Nat.add_zero]
        go_wp2
        go_loopg [11] k (fun gj s11 wz => ∃ j : Nat, j ≤ k ∧ gj = k - j ∧ s11 = .int .i64 j ∧ Hid (Below w.heap.size w wz) ∧ Hid (Blk wz w.heap.size 25 #[.int .u64 (uv hh), .int .u64 (uv hl)]))
        case atStart => exact ⟨0, Nat.zero_le _, rfl, rfl, B7, X7⟩
        case round =>
          clear B7 X7
          obtain ⟨j, hj, rfl, rfl, BZ, XZ⟩ := hrel
          by_cases hjk : j < k
          · have hjz : (j : Int) < (k : Int) := by omega
            have hjlz : (j : Int) < (al.length : Int) := by omega
            obtain ⟨a2, ha2⟩ : ∃ a, al[j]? = some a := ⟨_, List.getElem?_eq_getElem (by omega)⟩
            obtain ⟨K1, K2, K3, R1, R2, R3, ⟨e0, -, -, -⟩, hN2, -, hK2, -⟩ := (HAC.out j a2 ha2).cells
            subst hK2
            have HE0 := Lib.hid e0
            have HN2 := Lib.hid hN2
            have hne : decide (ids = a2.ids) = false := decide_eq_false (dst_at HD.out HAK.out ha2 hjk)
            have hl2 := HBL.out a2 (List.mem_of_getElem? ha2)
            have HRI : Hid (∀ W, Below w.heap.size w W → Calls Tryz.prog 17 #[.slice I1 ids.length I3, .slice K1 a2.ids.length K3] W fun e w' => e = .returned (.bool false) ∧ Below W.heap.size W w') := fun W hb => by
              have h := rintg_c _ _ ids a2.ids W (by have := HID.out; omega) (by omega) (HNI.out.on hb) (HN2.out.on hb)
              rw [hne] at h
              exact h
            clear e0 hN2 ha2
            go_upto_region 17 with (fail)
            have HKP : Hid (∀ W, Below wr.heap.size wr W → (W.cell? ⟨b, off + k * 4, none⟩ = some (.slice I1 ids.length I3) ∧ W.cell? ⟨b, off + j * 4, none⟩ = some (.slice K1 a2.ids.length K3))) := fun W hb => ⟨on_some (BZ.out.trans (hb.mono BZ.out.size)) HC0.out, on_some (BZ.out.trans (hb.mono BZ.out.size)) HE0.out⟩
            refine wp_region_held_drew (S := fun w' => w'.cell? ⟨b, off + k * 4, none⟩ = some (.slice I1 ids.length I3) ∧ w'.cell? ⟨b, off + j * 4, none⟩ = some (.slice K1 a2.ids.length K3)) (by kernel_rfl) (HKP.out _ (Below.refl _ wr).drew) (fun hHeld => ?_)
            have hB := (Below.refl wr.heap.size wr).drew
            generalize wr.drew = u0 at hHeld hB ⊢
            refine wpAnyH_take (i := 0) (oi := ⟨some 100, _, _, _, _, _⟩) (v := ?vr60_1) rfl (by kernel_rfl) (by kernel_rfl) (by kernel_rfl) (fun _ _ _ h => h) (Or.inl ⟨by rfl, ?yr60_1⟩) hHeld ?rr60_1
            case yr60_1 => (intro w' hSw; (try dsimp only at hSw); go_simp; try (with_reducible rfl))
            simp only [Act.put, List.setIfInBounds_toArray, List.set_cons_zero, List.set_cons_succ]
            refine wpAnyH_take (i := 1) (oi := ⟨some 101, _, _, _, _, _⟩) (v := ?vr61_2) rfl (by kernel_rfl) (by kernel_rfl) (by kernel_rfl) (fun _ _ _ h => h) (Or.inl ⟨by rfl, ?yr61_2⟩) hHeld ?rr61_2
            case yr61_2 => (intro w' hSw; (try dsimp only at hSw); go_simp; try (with_reducible rfl))
            simp only [Act.put, List.setIfInBounds_toArray, List.set_cons_zero, List.set_cons_succ]
            refine wpAnyH_take (i := 2) (oi := ⟨some 102, _, _, _, _, _⟩) (v := ?vr62_3) rfl (by kernel_rfl) (by kernel_rfl) (by kernel_rfl) (fun _ _ _ h => h) (Or.inl ⟨by rfl, ?yr62_3⟩) hHeld ?rr62_3
            case yr62_3 => (intro w' hSw; (try dsimp only at hSw); go_simp; try (with_reducible rfl))
            simp only [Act.put, List.setIfInBounds_toArray, List.set_cons_zero, List.set_cons_succ]
            refine wpAnyH_take (i := 3) (oi := ⟨some 103, _, _, _, _, _⟩) (v := ?vr63_4) rfl (by kernel_rfl) (by kernel_rfl) (by kernel_rfl) (fun _ _ _ h => h) (Or.inl ⟨by rfl, ?yr63_4⟩) hHeld ?rr63_4
            case yr63_4 => (intro w' hSw; (try dsimp only at hSw); go_simp; try (with_reducible rfl))
            simp only [Act.put, List.setIfInBounds_toArray, List.set_cons_zero, List.set_cons_succ]
            refine wpAnyH_take (i := 4) (oi := ⟨some 104, _, _, _, _, _⟩) (v := ?vr64_5) rfl (by kernel_rfl) (by kernel_rfl) (by kernel_rfl) (fun _ _ _ h => h) (Or.inl ⟨by rfl, ?yr64_5⟩) hHeld ?rr64_5
            case yr64_5 => (intro w' hSw; (try dsimp only at hSw); go_simp; try (with_reducible rfl))
            simp only [Act.put, List.setIfInBounds_toArray, List.set_cons_zero, List.set_cons_succ]
            refine wpAnyH_take (i := 5) (oi := ⟨some 105, _, _, _, _, _⟩) (v := ?vr65_6) rfl (by kernel_rfl) (by kernel_rfl) (by kernel_rfl) (fun _ _ _ h => h) (Or.inl ⟨by rfl, ?yr65_6⟩) hHeld ?rr65_6
            case yr65_6 => (intro w' hSw; (try dsimp only at hSw); go_simp; try (with_reducible rfl))
            simp only [Act.put, List.setIfInBounds_toArray, List.set_cons_zero, List.set_cons_succ]
            refine wpAnyH_take (i := 6) (oi := ⟨some 106, _, _, _, _, _⟩) (v := ?vr66_7) rfl (by kernel_rfl) (by kernel_rfl) (by kernel_rfl) (fun _ _ _ h => h) (Or.inl ⟨by rfl, ?yr66_7⟩) hHeld ?rr66_7
            case yr66_7 => (intro w' hSw; (try dsimp only at hSw); go_simp; try (with_reducible rfl))
            simp only [Act.put, List.setIfInBounds_toArray, List.set_cons_zero, List.set_cons_succ]
            refine wpAnyH_take (i := 7) (oi := ⟨some 107, _, _, _, _, _⟩) (v := ?vr67_8) rfl (by kernel_rfl) (by kernel_rfl) (by kernel_rfl) (fun _ _ _ h => h) (Or.inl ⟨by rfl, ?yr67_8⟩) hHeld ?rr67_8
            case yr67_8 => (intro w' hSw; (try dsimp only at hSw); go_simp; try (with_reducible rfl))
            simp only [Act.put, List.setIfInBounds_toArray, List.set_cons_zero, List.set_cons_succ]
            refine wpAnyH_take (i := 8) (oi := ⟨some 108, _, _, _, _, _⟩) (v := ?vr68_9) rfl (by kernel_rfl) (by kernel_rfl) (by kernel_rfl) (fun _ _ _ h => h) (Or.inl ⟨by rfl, ?yr68_9⟩) hHeld ?rr68_9
            case yr68_9 => (intro w' hSw; (try dsimp only at hSw); go_simp; try (with_reducible rfl))
            simp only [Act.put, List.setIfInBounds_toArray, List.set_cons_zero, List.set_cons_succ]
            refine wpAnyH_take (i := 9) (oi := ⟨some 109, _, _, _, _, _⟩) (v := ?vr69_10) rfl (by kernel_rfl) (by kernel_rfl) (by kernel_rfl) (fun _ _ _ h => h) (Or.inl ⟨by rfl, ?yr69_10⟩) hHeld ?rr69_10
            case yr69_10 => (intro w' hSw; (try dsimp only at hSw); go_simp; try (with_reducible rfl))
            simp only [Act.put, List.setIfInBounds_toArray, List.set_cons_zero, List.set_cons_succ]
            refine wpAnyH_ready (rs := [10]) (by kernel_rfl) (by simp) ?_
            refine AllReadyH.cons (o := ⟨some 110, _, _, _, _, _⟩) rfl (fun K hK => ?_) AllReadyH.nil
            go_simp
            (with_reducible refine (HRI.out u0 (BZ.out.trans (hB.mono BZ.out.size))).mono ?_)
            rintro e u1 ⟨rfl, hb⟩
            (try dsimp only)
            have hB2 := hB.trans (hb.mono hB.size)
            refine hK.out _ _ (HKP.out _ hB2) (fun hNext => ?_)
            clear hK K hHeld
            have hHeld := hNext
            clear hNext
            clear hB
            have hB := hB2
            clear hB2
            clear hb
            try simp only [Act.put, List.setIfInBounds_toArray, List.set_cons_zero, List.set_cons_succ]
            refine wpAnyH_done (by kernel_rfl) ?_ _
            have B8 := Lib.hid (BZ.out.trans (hB.mono BZ.out.size))
            have X8 := Lib.hid (XZ.out.on hB)
            clear hHeld hB HKP BZ XZ
            generalize u1 = w8 at B8 X8 ⊢
            clear hne hl2 HE0 HN2 HRI
            go_wp2
            go_roundg (k - (j + 1))
            case measure => omega
            case rel => exact ⟨j + 1, by omega, rfl, by go_num, B8, X8⟩
          · have hjz : ¬ (j : Int) < (k : Int) := by omega
            go_wp2
            go_roundg (al.length - (k + 1))
            case measure => omega
            case rel => exact ⟨k + 1, m, by omega, rfl, by go_num, by go_num, by omega, BZ, XZ, HMS⟩
    · have hltz : ¬ (k : Int) < (al.length : Int) := by omega
      obtain rfl : k = al.length := by omega
      have hm2 : m = 1 := by have h1 := HM.out; rw [List.take_length, HI.out] at h1; exact h1
      subst hm2
      go_wp2
      go_ret
      exact ⟨rfl, B0.out⟩
end Go.Proofs
