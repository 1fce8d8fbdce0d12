/-
  customhouselaw09.WalkRuns returns true for every input, and each argument reads behind the call as before. No conditions.
  Contract of the reference's Run of layer 9. Conditions as the theorem lists them.
  The walk of customhouselaw09.WalkRuns: it returns true. Conditions as the theorem lists them.
-/
import Derived.Test.YtgoenjpllepdjaaJ13Walkruns
import Derived.Test.YtgoenjpllepdjaaRows
import Derived.Below
import Derived.SizedLaws
namespace Go.Proofs.Hd
open Go.RowKit
theorem Blk.far2 {w : World} {g b : Nat} {t : TypeId} {cs : Array Value} (h : Blk w g t cs) (hne : g ≠ b) (x y : Value) : Blk ((w.setCell ⟨b, 0, none⟩ x).setCell ⟨b, 1, none⟩ y) g t cs := (h.far (p := ⟨b, 0, none⟩) hne x).far (p := ⟨b, 1, none⟩) hne y
theorem cell_far2 {w : World} {p : Addr} {b : Nat} {v : Value} (hne : p.block ≠ b) (x y : Value) (h : w.cell? p = some v) : ((w.setCell ⟨b, 0, none⟩ x).setCell ⟨b, 1, none⟩ y).cell? p = some v :=
  (World.cell?_of_block (Below.heap_setCell _ ⟨b, 1, none⟩ y p.block hne)).trans ((World.cell?_of_block (Below.heap_setCell w ⟨b, 0, none⟩ x p.block hne)).trans h)
theorem own_far2 {w : World} {g base : Nat} {t e : TypeId} {size n : Nat} {v : Value} {xs : List Value} {cs : Array Value} (hx : Blk w g t cs) (ho : w.ownsRow base e size v n xs) (hne : e ≠ t) (a0 a1 : Value) : ((w.setCell ⟨g, 0, none⟩ a0).setCell ⟨g, 1, none⟩ a1).ownsRow base e size v n xs := by
  have hv : v.ownBlock ≠ some g := fun h => own_apart ho hx hne h.symm
  exact ownsRow_setCell_other (ownsRow_setCell_other ho hv a0) hv a1
theorem own_snoc {base : Nat} {w : World} {hA : Option Addr} {hc : Nat} {H : List Hp} {x : Hp} (h : w.ownsRow base 64 5 (.slice hA (H.length + 1) hc) (H.length + 1) (H.flatMap Hp.cs ++ x.cs)) : w.ownsRow base 64 5 (.slice hA (H ++ [x]).length hc) (H ++ [x]).length ((H ++ [x]).flatMap Hp.cs) := by
  have e : (H ++ [x]).length = H.length + 1 := by simp
  have e2 : (H ++ [x]).flatMap Hp.cs = H.flatMap Hp.cs ++ x.cs := by simp
  rw [e, e2]
  exact h
/-- What the reference's Run answers. -/
def RR (T : List (List Pt)) (BB : List (List (List Rl))) (K i : Nat) (sh sl : BitVec 64) (base : Nat) (e : Ending) (w' : World) : Prop := ∃ (fin sw sp : Int) (H : List Hp) (hA : Option Addr) (hc : Nat), e = .returned (.agg #[.int .i64 fin, .int .i64 sw, .int .i64 sp, .slice hA H.length hc]) ∧ runF fndI T BB K i 0 sh sl [] = ⟨fin, sw, sp, H⟩ ∧ w'.ownsRow base 64 5 (.slice hA H.length hc) H.length (H.flatMap Hp.cs)
theorem rr_of {T : List (List Pt)} {BB : List (List (List Rl))} {K i : Nat} {sh sl : BitVec 64} {base : Nat} {w' : World} {fin sw sp : Int} {H : List Hp} {x : Hp} {hA : Option Addr} {hc : Nat} (hr : runF fndI T BB K i 0 sh sl [] = ⟨fin, sw, sp, H ++ [x]⟩) (ho : w'.ownsRow base 64 5 (.slice hA (H.length + 1) hc) (H.length + 1) (H.flatMap Hp.cs ++ x.cs)) : RR T BB K i sh sl base (.returned (.agg #[.int .i64 fin, .int .i64 sw, .int .i64 sp, .slice hA (H.length + 1) hc])) w' :=
  ⟨fin, sw, sp, H ++ [x], hA, hc, by rw [List.length_append]; rfl, hr, own_snoc ho⟩
end Go.Proofs.Hd
namespace Go.Proofs
open Go.RowKit Go.Proofs.Hd Go.Lib
attribute [local go_sem] uv_nonneg
set_option maxRecDepth 100000 in
set_option maxHeartbeats 16000000 in
theorem rrun_c (tv pv wv bv : Value) (T : List (List Pt)) (ten : Int) (P : List (Int × Int)) (Q : List Wa) (BB : List (List (List Rl))) (i : Nat) (b : Int) (n m : Nat) (hh hl : BitVec 64) (K : Nat) (w : World) {L0 : List Pt} {R0 : List Rl} (hK : K ≤ 1000000) (hT : PsT w tv T) (hP : Pe w pv P) (hQ : Wy w wv Q) (hB : RuQ w bv BB) (hcfg : cfgT T ten P Q BB = 0) (hed : edgT T i b = (n : Int)) (hn : n ≤ 3) (hm : m ≤ 255) (hs : StA T BB i 0 L0 R0) (hsz : ∀ X ∈ BB, ∀ R ∈ X, R.length ≤ 4611686018427387904) : Calls Try.prog 16 #[.agg #[tv, .int .i64 ten, pv, wv, bv], .agg #[.int .i64 (i : Int), .int .i64 b], .agg #[.int .u64 (uv hh), .int .u64 (uv hl)], .int .i64 (m : Int), .int .i64 (K : Int)] w fun e w' => RR T BB K i (num (sF hh hl n m) 64 64) (num (sF hh hl n m) 0 64) w.heap.size e w' ∧ Below w.heap.size w w' := by
  have HT := Lib.hid hT
  have HBQ := Lib.hid hB
  have HCFG := Lib.hid hcfg
  have HSZ := Lib.hid hsz
  obtain ⟨tA, tc, rfl, -, -⟩ := hT
  obtain ⟨pA, pc, rfl, -, -⟩ := hP
  obtain ⟨wA, wcp, rfl, -, -⟩ := hQ
  obtain ⟨bA, bc, rfl, hBm, hQf⟩ := hB
  have hBne : BB ≠ [] := by
    obtain ⟨-, B, hB', -⟩ := hs
    rintro rfl
    simp at hB'
  obtain ⟨b0, o0, rfl, -, hQf⟩ := hQf hBne
  have HQF := Lib.hid hQf
  have HS0 := Lib.hid hs
  obtain ⟨sh, hsh⟩ : ∃ sh, (num (sF hh hl n m) 64 64) = sh := ⟨_, rfl⟩
  obtain ⟨sl, hsl⟩ : ∃ sl, (num (sF hh hl n m) 0 64) = sl := ⟨_, rfl⟩
  rw [hsh, hsl]
  have HSTM : Hid (∀ u : World, Calls Try.prog 31 #[.agg #[.int .u64 (uv hh), .int .u64 (uv hl)], .int .i64 (n : Int), .int .i64 (m : Int)] u fun e w' => e = .returned (.agg #[.int .u64 (uv sh), .int .u64 (uv sl)]) ∧ Below u.heap.size u w') := fun u => by
    have h := rstamp_c hh hl n m hn hm u
    rw [hsh, hsl] at h
    exact h
  have HEDG : Hid (∀ u : World, Below w.heap.size w u → Calls Try.prog 14 #[.agg #[.slice tA T.length tc], .agg #[.int .i64 (i : Int), .int .i64 b]] u fun e w' => e = .returned (.int .i64 (n : Int)) ∧ Below u.heap.size u w') := fun u hu => by
    have h := redge_c _ T i b u (HT.out.on hu)
    rw [hed] at h
    exact h
  have hKz : (K : Int) ≤ 1000000 := by omega
  clear hsh hsl hs hQf hcfg hsz hBm hed hBne
  have HB1 : Hid (Below w.heap.size w (((((w.alloc (.cells #[.slice tA T.length tc, .int .i64 ten, .slice pA P.length pc, .slice wA Q.length wcp, .slice (some ⟨b0, o0, none⟩) BB.length bc] 49)).alloc (.cells #[.int .i64 (i : Int), .int .i64 b] 51)).alloc (.cells #[.int .u64 (uv hh), .int .u64 (uv hl)] 25)).alloc (.cells #[.int .i64 0, .int .i64 0, .int .i64 0, .slice none 0 0] 54)).alloc (.cells #[.int .i64 0, .int .i64 0, .int .i64 0, .slice none 0 0] 54))) := (below4 w _ _ _ _).alloc (by simp; omega) _
  have N1 : Hid (Blk (((((w.alloc (.cells #[.slice tA T.length tc, .int .i64 ten, .slice pA P.length pc, .slice wA Q.length wcp, .slice (some ⟨b0, o0, none⟩) BB.length bc] 49)).alloc (.cells #[.int .i64 (i : Int), .int .i64 b] 51)).alloc (.cells #[.int .u64 (uv hh), .int .u64 (uv hl)] 25)).alloc (.cells #[.int .i64 0, .int .i64 0, .int .i64 0, .slice none 0 0] 54)).alloc (.cells #[.int .i64 0, .int .i64 0, .int .i64 0, .slice none 0 0] 54)) w.heap.size 49 #[.slice tA T.length tc, .int .i64 ten, .slice pA P.length pc, .slice wA Q.length wcp, .slice (some ⟨b0, o0, none⟩) BB.length bc]) := ((((Blk.new w _ _).on (below1 _ _)).on (below1 _ _)).on (below1 _ _)).on (below1 _ _)
  have M1 : Hid (Blk (((((w.alloc (.cells #[.slice tA T.length tc, .int .i64 ten, .slice pA P.length pc, .slice wA Q.length wcp, .slice (some ⟨b0, o0, none⟩) BB.length bc] 49)).alloc (.cells #[.int .i64 (i : Int), .int .i64 b] 51)).alloc (.cells #[.int .u64 (uv hh), .int .u64 (uv hl)] 25)).alloc (.cells #[.int .i64 0, .int .i64 0, .int .i64 0, .slice none 0 0] 54)).alloc (.cells #[.int .i64 0, .int .i64 0, .int .i64 0, .slice none 0 0] 54)) (w.heap.size + 1) 51 #[.int .i64 (i : Int), .int .i64 b]) := (((Blk.new2 w _ _ _).on (below1 _ _)).on (below1 _ _)).on (below1 _ _)
  have K1 : Hid (Blk (((((w.alloc (.cells #[.slice tA T.length tc, .int .i64 ten, .slice pA P.length pc, .slice wA Q.length wcp, .slice (some ⟨b0, o0, none⟩) BB.length bc] 49)).alloc (.cells #[.int .i64 (i : Int), .int .i64 b] 51)).alloc (.cells #[.int .u64 (uv hh), .int .u64 (uv hl)] 25)).alloc (.cells #[.int .i64 0, .int .i64 0, .int .i64 0, .slice none 0 0] 54)).alloc (.cells #[.int .i64 0, .int .i64 0, .int .i64 0, .slice none 0 0] 54)) (w.heap.size + 1 + 1) 25 #[.int .u64 (uv hh), .int .u64 (uv hl)]) := ((Blk.new3 w _ _ _ _).on (below1 _ _)).on (below1 _ _)
  have X1 : Hid (Blk (((((w.alloc (.cells #[.slice tA T.length tc, .int .i64 ten, .slice pA P.length pc, .slice wA Q.length wcp, .slice (some ⟨b0, o0, none⟩) BB.length bc] 49)).alloc (.cells #[.int .i64 (i : Int), .int .i64 b] 51)).alloc (.cells #[.int .u64 (uv hh), .int .u64 (uv hl)] 25)).alloc (.cells #[.int .i64 0, .int .i64 0, .int .i64 0, .slice none 0 0] 54)).alloc (.cells #[.int .i64 0, .int .i64 0, .int .i64 0, .slice none 0 0] 54)) (w.heap.size + 1 + 1 + 1) 54 #[.int .i64 0, .int .i64 0, .int .i64 0, .slice none 0 0]) := by
    have h := (Blk.new3 (w.alloc (.cells #[.slice tA T.length tc, .int .i64 ten, .slice pA P.length pc, .slice wA Q.length wcp, .slice (some ⟨b0, o0, none⟩) BB.length bc] 49)) (.cells #[.int .i64 (i : Int), .int .i64 b] 51) (.cells #[.int .u64 (uv hh), .int .u64 (uv hl)] 25) 54 #[.int .i64 0, .int .i64 0, .int .i64 0, .slice none 0 0]).on (below1 _ (.cells #[.int .i64 0, .int .i64 0, .int .i64 0, .slice none 0 0] 54))
    show Blk _ _ _ _
    simpa only [World.size_alloc] using h
  have Y1 : Hid (Blk (((((w.alloc (.cells #[.slice tA T.length tc, .int .i64 ten, .slice pA P.length pc, .slice wA Q.length wcp, .slice (some ⟨b0, o0, none⟩) BB.length bc] 49)).alloc (.cells #[.int .i64 (i : Int), .int .i64 b] 51)).alloc (.cells #[.int .u64 (uv hh), .int .u64 (uv hl)] 25)).alloc (.cells #[.int .i64 0, .int .i64 0, .int .i64 0, .slice none 0 0] 54)).alloc (.cells #[.int .i64 0, .int .i64 0, .int .i64 0, .slice none 0 0] 54)) (w.heap.size + 1 + 1 + 1 + 1) 54 #[.int .i64 0, .int .i64 0, .int .i64 0, .slice none 0 0]) := by
    have h := Blk.new ((((w.alloc (.cells #[.slice tA T.length tc, .int .i64 ten, .slice pA P.length pc, .slice wA Q.length wcp, .slice (some ⟨b0, o0, none⟩) BB.length bc] 49)).alloc (.cells #[.int .i64 (i : Int), .int .i64 b] 51)).alloc (.cells #[.int .u64 (uv hh), .int .u64 (uv hl)] 25)).alloc (.cells #[.int .i64 0, .int .i64 0, .int .i64 0, .slice none 0 0] 54)) 54 #[.int .i64 0, .int .i64 0, .int .i64 0, .slice none 0 0]
    show Blk _ _ _ _
    simpa only [World.size_alloc] using h
  obtain ⟨ih, hih, hz0, hz1, hz2⟩ : ∃ ih, Try.prog.info? 64 = some ih ∧ ih.zero = some (.agg #[.int .i64 0, .int .i64 0, .int .i64 0, .int .u64 0, .int .u64 0]) ∧ ih.size = 5 ∧ ih.bytes = 40 := by
    have h := infoHopA
    cases hx : Try.prog.info? 64 with
    | none => rw [hx] at h; cases h
    | some i => rw [hx] at h; simp only [Option.map_some, Option.some.injEq, Prod.mk.injEq] at h; exact ⟨i, rfl, h.1, h.2.1, h.2.2⟩
  go_enter Try.func16, Try.ntmps16
  go_upto_region 2 with (fail)
  generalize (((((w.alloc (.cells #[.slice tA T.length tc, .int .i64 ten, .slice pA P.length pc, .slice wA Q.length wcp, .slice (some ⟨b0, o0, none⟩) BB.length bc] 49)).alloc (.cells #[.int .i64 (i : Int), .int .i64 b] 51)).alloc (.cells #[.int .u64 (uv hh), .int .u64 (uv hl)] 25)).alloc (.cells #[.int .i64 0, .int .i64 0, .int .i64 0, .slice none 0 0] 54)).alloc (.cells #[.int .i64 0, .int .i64 0, .int .i64 0, .slice none 0 0] 54)) = w1 at HB1 N1 M1 K1 X1 Y1 ⊢
  go_cut [] (fun wc => Below w.heap.size w wc ∧ Blk wc w.heap.size 49 #[.slice tA T.length tc, .int .i64 ten, .slice pA P.length pc, .slice wA Q.length wcp, .slice (some ⟨b0, o0, none⟩) BB.length bc] ∧ Blk wc (w.heap.size + 1) 51 #[.int .i64 (i : Int), .int .i64 b] ∧ Blk wc (w.heap.size + 1 + 1) 25 #[.int .u64 (uv sh), .int .u64 (uv sl)] ∧ Blk wc (w.heap.size + 1 + 1 + 1) 54 #[.int .i64 0, .int .i64 0, .int .i64 0, .slice none 0 0] ∧ Blk wc (w.heap.size + 1 + 1 + 1 + 1) 54 #[.int .i64 0, .int .i64 0, .int .i64 0, .slice none 0 0])
  case first =>
    have HKP : Hid (∀ W, Below w1.heap.size w1 W → (Below w.heap.size w W ∧ W.cell? ⟨w.heap.size, 0, none⟩ = some (.slice tA T.length tc) ∧ W.cell? ⟨w.heap.size + 1, 0, none⟩ = some (.int .i64 (i : Int)) ∧ W.cell? ⟨w.heap.size + 1, 1, none⟩ = some (.int .i64 b))) := fun W hb => ⟨HB1.out.trans (hb.mono HB1.out.size), (N1.out.on hb).five.1, (M1.out.on hb).both⟩
    have HKS : Hid (∀ W, (Below w.heap.size w W ∧ W.cell? ⟨w.heap.size, 0, none⟩ = some (.slice tA T.length tc) ∧ W.cell? ⟨w.heap.size + 1, 0, none⟩ = some (.int .i64 (i : Int)) ∧ W.cell? ⟨w.heap.size + 1, 1, none⟩ = some (.int .i64 b)) → (Below w.heap.size w ((W.setCell ⟨w.heap.size + 1 + 1, 0, none⟩ (.int .u64 (uv sh))).setCell ⟨w.heap.size + 1 + 1, 1, none⟩ (.int .u64 (uv sl))) ∧ ((W.setCell ⟨w.heap.size + 1 + 1, 0, none⟩ (.int .u64 (uv sh))).setCell ⟨w.heap.size + 1 + 1, 1, none⟩ (.int .u64 (uv sl))).cell? ⟨w.heap.size, 0, none⟩ = some (.slice tA T.length tc) ∧ ((W.setCell ⟨w.heap.size + 1 + 1, 0, none⟩ (.int .u64 (uv sh))).setCell ⟨w.heap.size + 1 + 1, 1, none⟩ (.int .u64 (uv sl))).cell? ⟨w.heap.size + 1, 0, none⟩ = some (.int .i64 (i : Int)) ∧ ((W.setCell ⟨w.heap.size + 1 + 1, 0, none⟩ (.int .u64 (uv sh))).setCell ⟨w.heap.size + 1 + 1, 1, none⟩ (.int .u64 (uv sl))).cell? ⟨w.heap.size + 1, 1, none⟩ = some (.int .i64 b))) := fun W h => ⟨(h.1.setCell (p := ⟨w.heap.size + 1 + 1, 0, none⟩) (by simp only; omega) _).setCell (p := ⟨w.heap.size + 1 + 1, 1, none⟩) (by simp only; omega) _, cell_far2 (by simp only; omega) _ _ h.2.1, cell_far2 (by simp only; omega) _ _ h.2.2.1, cell_far2 (by simp only; omega) _ _ h.2.2.2⟩
    refine wp_region_held_drew (S := fun w' => Below w.heap.size w w' ∧ w'.cell? ⟨w.heap.size, 0, none⟩ = some (.slice tA T.length tc) ∧ w'.cell? ⟨w.heap.size + 1, 0, none⟩ = some (.int .i64 (i : Int)) ∧ w'.cell? ⟨w.heap.size + 1, 1, none⟩ = some (.int .i64 b)) (by kernel_rfl) (HKP.out _ (Below.refl _ w1).drew) (fun hHeld => ?_)
    have hB := (Below.refl w1.heap.size w1).drew
    generalize w1.drew = u0 at hHeld hB ⊢
    refine wpAnyH_take (i := 1) (oi := ⟨some 19, _, _, _, _, _⟩) (v := ?vra1_1) rfl (by kernel_rfl) (by kernel_rfl) (by kernel_rfl) (fun _ _ _ h => h) (Or.inl ⟨by rfl, ?yra1_1⟩) hHeld ?rra1_1
    case yra1_1 => (intro w' hSw; (try dsimp only at hSw); go_simp; try (with_reducible rfl))
    simp only [Act.put, List.setIfInBounds_toArray, List.set_cons_zero, List.set_cons_succ]
    refine wpAnyH_take (i := 2) (oi := ⟨some 20, _, _, _, _, _⟩) (v := ?vra2_2) rfl (by kernel_rfl) (by kernel_rfl) (by kernel_rfl) (fun _ _ _ h => h) (Or.inl ⟨by rfl, ?yra2_2⟩) hHeld ?rra2_2
    case yra2_2 => (intro w' hSw; (try dsimp only at hSw); go_simp; try (with_reducible rfl))
    simp only [Act.put, List.setIfInBounds_toArray, List.set_cons_zero, List.set_cons_succ]
    refine wpAnyH_take (i := 3) (oi := ⟨some 21, _, _, _, _, _⟩) (v := ?vra3_3) rfl (by kernel_rfl) (by kernel_rfl) (by kernel_rfl) (fun _ _ _ h => h) (Or.inl ⟨by rfl, ?yra3_3⟩) hHeld ?rra3_3
    case yra3_3 => (intro w' hSw; (try dsimp only at hSw); go_simp; try (with_reducible rfl))
    simp only [Act.put, List.setIfInBounds_toArray, List.set_cons_zero, List.set_cons_succ]
    refine wpAnyH_take (i := 5) (oi := ⟨some 23, _, _, _, _, _⟩) (v := ?vra5_4) rfl (by kernel_rfl) (by kernel_rfl) (by kernel_rfl) (fun _ _ _ h => h) (Or.inl ⟨by rfl, ?yra5_4⟩) hHeld ?rra5_4
    case yra5_4 => (intro w' hSw; (try dsimp only at hSw); go_simp; try (with_reducible rfl))
    simp only [Act.put, List.setIfInBounds_toArray, List.set_cons_zero, List.set_cons_succ]
    refine wpAnyH_ready (rs := [0, 4]) (by kernel_rfl) (by simp) ?_
    refine AllReadyH.cons (o := ⟨some 18, _, _, _, _, _⟩) rfl (fun K hK => ?_) ?_
    · obtain ⟨h0, h1⟩ := (K1.out.on hB).both
      go_simp
      refine hK.out _ _ hHeld (fun hNext => ?_)
      clear hK K hHeld
      have hHeld := hNext
      clear hNext
      clear h0 h1
      try simp only [Act.put, List.setIfInBounds_toArray, List.set_cons_zero, List.set_cons_succ]
      refine wpAnyH_ready (rs := [4]) (by kernel_rfl) (by simp) ?_
      refine AllReadyH.cons (o := ⟨some 22, _, _, _, _, _⟩) rfl (fun K hK => ?_) AllReadyH.nil
      go_simp
      (with_reducible refine (HEDG.out u0 (HB1.out.trans (hB.mono HB1.out.size))).mono ?_)
      rintro e u1 ⟨rfl, hb⟩
      (try dsimp only)
      have hB2 := hB.trans (hb.mono hB.size)
      refine hK.out _ _ (HKP.out _ hB2) (fun hNext => ?_)
      clear hK K hHeld
      have hHeld := hNext
      clear hNext
      clear hB
      have hB := hB2
      clear hB2
      clear hb
      try simp only [Act.put, List.setIfInBounds_toArray, List.set_cons_zero, List.set_cons_succ]
      refine wpAnyH_ready (rs := [6]) (by kernel_rfl) (by simp) ?_
      refine AllReadyH.cons (o := ⟨some 24, _, _, _, _, _⟩) rfl (fun K hK => ?_) AllReadyH.nil
      go_simp
      (with_reducible refine (HSTM.out u1).mono ?_)
      rintro e u2 ⟨rfl, hb⟩
      (try dsimp only)
      have hB2 := hB.trans (hb.mono hB.size)
      refine hK.out _ _ (HKP.out _ hB2) (fun hNext => ?_)
      clear hK K hHeld
      have hHeld := hNext
      clear hNext
      clear hB
      have hB := hB2
      clear hB2
      clear hb
      try simp only [Act.put, List.setIfInBounds_toArray, List.set_cons_zero, List.set_cons_succ]
      refine wpAnyH_ready (rs := [7]) (by kernel_rfl) (by simp) ?_
      refine AllReadyH.cons (o := ⟨none, _, _, _, _, _⟩) rfl (fun K hK => ?_) AllReadyH.nil
      have kH := K1.out.on hB
      obtain ⟨h0, h1⟩ := kH.both
      have y0 := kH.free 0
      have y1 := kH.free 1
      go_simp
      refine hK.out _ _ (HKS.out _ hHeld) (fun hNext => ?_)
      clear hK K hHeld
      have hHeld := hNext
      clear hNext
      clear h0 h1 y0 y1
      try simp only [Act.put]
      refine wpAnyH_done (by kernel_rfl) ?_ _
      have kE := kH.put2 (.int .u64 (uv sh)) (.int .u64 (uv sl))
      have HN2 := (N1.out.on hB).far2 (show w.heap.size ≠ w.heap.size + 1 + 1 by omega) (.int .u64 (uv sh)) (.int .u64 (uv sl))
      have HM2 := (M1.out.on hB).far2 (show w.heap.size + 1 ≠ w.heap.size + 1 + 1 by omega) (.int .u64 (uv sh)) (.int .u64 (uv sl))
      have HX2 := (X1.out.on hB).far2 (show w.heap.size + 1 + 1 + 1 ≠ w.heap.size + 1 + 1 by omega) (.int .u64 (uv sh)) (.int .u64 (uv sl))
      have HY2 := (Y1.out.on hB).far2 (show w.heap.size + 1 + 1 + 1 + 1 ≠ w.heap.size + 1 + 1 by omega) (.int .u64 (uv sh)) (.int .u64 (uv sl))
      go_wp2_with fail
      go_meet
      exact ⟨hHeld.1, HN2, HM2, kE, HX2, HY2⟩
    refine AllReadyH.cons (o := ⟨some 22, _, _, _, _, _⟩) rfl (fun K hK => ?_) AllReadyH.nil
    go_simp
    (with_reducible refine (HEDG.out u0 (HB1.out.trans (hB.mono HB1.out.size))).mono ?_)
    rintro e u4 ⟨rfl, hb⟩
    (try dsimp only)
    have hB2 := hB.trans (hb.mono hB.size)
    refine hK.out _ _ (HKP.out _ hB2) (fun hNext => ?_)
    clear hK K hHeld
    have hHeld := hNext
    clear hNext
    clear hB
    have hB := hB2
    clear hB2
    clear hb
    try simp only [Act.put, List.setIfInBounds_toArray, List.set_cons_zero, List.set_cons_succ]
    refine wpAnyH_ready (rs := [0]) (by kernel_rfl) (by simp) ?_
    refine AllReadyH.cons (o := ⟨some 18, _, _, _, _, _⟩) rfl (fun K hK => ?_) AllReadyH.nil
    obtain ⟨h0, h1⟩ := (K1.out.on hB).both
    go_simp
    refine hK.out _ _ hHeld (fun hNext => ?_)
    clear hK K hHeld
    have hHeld := hNext
    clear hNext
    clear h0 h1
    try simp only [Act.put, List.setIfInBounds_toArray, List.set_cons_zero, List.set_cons_succ]
    refine wpAnyH_ready (rs := [6]) (by kernel_rfl) (by simp) ?_
    refine AllReadyH.cons (o := ⟨some 24, _, _, _, _, _⟩) rfl (fun K hK => ?_) AllReadyH.nil
    go_simp
    (with_reducible refine (HSTM.out u4).mono ?_)
    rintro e u5 ⟨rfl, hb⟩
    (try dsimp only)
    have hB2 := hB.trans (hb.mono hB.size)
    refine hK.out _ _ (HKP.out _ hB2) (fun hNext => ?_)
    clear hK K hHeld
    have hHeld := hNext
    clear hNext
    clear hB
    have hB := hB2
    clear hB2
    clear hb
    try simp only [Act.put, List.setIfInBounds_toArray, List.set_cons_zero, List.set_cons_succ]
    refine wpAnyH_ready (rs := [7]) (by kernel_rfl) (by simp) ?_
    refine AllReadyH.cons (o := ⟨none, _, _, _, _, _⟩) rfl (fun K hK => ?_) AllReadyH.nil
    have kH := K1.out.on hB
    obtain ⟨h0, h1⟩ := kH.both
    have y0 := kH.free 0
    have y1 := kH.free 1
    go_simp
    refine hK.out _ _ (HKS.out _ hHeld) (fun hNext => ?_)
    clear hK K hHeld
    have hHeld := hNext
    clear hNext
    clear h0 h1 y0 y1
    try simp only [Act.put]
    refine wpAnyH_done (by kernel_rfl) ?_ _
    have kE := kH.put2 (.int .u64 (uv sh)) (.int .u64 (uv sl))
    have HN2 := (N1.out.on hB).far2 (show w.heap.size ≠ w.heap.size + 1 + 1 by omega) (.int .u64 (uv sh)) (.int .u64 (uv sl))
    have HM2 := (M1.out.on hB).far2 (show w.heap.size + 1 ≠ w.heap.size + 1 + 1 by omega) (.int .u64 (uv sh)) (.int .u64 (uv sl))
    have HX2 := (X1.out.on hB).far2 (show w.heap.size + 1 + 1 + 1 ≠ w.heap.size + 1 + 1 by omega) (.int .u64 (uv sh)) (.int .u64 (uv sl))
    have HY2 := (Y1.out.on hB).far2 (show w.heap.size + 1 + 1 + 1 + 1 ≠ w.heap.size + 1 + 1 by omega) (.int .u64 (uv sh)) (.int .u64 (uv sl))
    go_wp2_with fail
    go_meet
    exact ⟨hHeld.1, HN2, HM2, kE, HX2, HY2⟩
  case rest =>
    obtain ⟨hB2, hN2, hM2, hH2, hX2, hY2⟩ := hcut
    have HB2 := Lib.hid hB2
    have HN2 := Lib.hid hN2
    have HH2 := Lib.hid hH2
    have HX2 := Lib.hid hX2
    have HY2 := Lib.hid hY2
    obtain ⟨s0, s1⟩ := hM2.both
    clear hB2 hN2 hM2 hH2 hX2 hY2 HB1 N1 M1 K1 X1 Y1 HSTM HEDG
    go_wp2
    go_loopg [12, 13, 14, 15, 16] K (fun gk s12 s13 _ _ _ wr => ∃ (k n' t' : Nat) (gh gl : BitVec 64) (L' : List Pt) (R' : List Rl) (H' : List Hp) (hA : Option Addr) (hc : Nat), k ≤ K ∧ gk = K - k ∧ Hid (H'.length = k) ∧ s12 = .int .i64 (n' : Int) ∧ s13 = .int .i64 (t' : Int) ∧ Hid (StA T BB n' t' L' R') ∧ Hid (Below w.heap.size w wr) ∧ Hid (Blk wr w.heap.size 49 #[.slice tA T.length tc, .int .i64 ten, .slice pA P.length pc, .slice wA Q.length wcp, .slice (some ⟨b0, o0, none⟩) BB.length bc]) ∧ Hid (Blk wr (w.heap.size + 1 + 1) 25 #[.int .u64 (uv gh), .int .u64 (uv gl)]) ∧ Hid (Blk wr (w.heap.size + 1 + 1 + 1) 54 #[.int .i64 0, .int .i64 0, .int .i64 0, .slice none 0 0]) ∧ Hid (Blk wr (w.heap.size + 1 + 1 + 1 + 1) 54 #[.int .i64 0, .int .i64 0, .int .i64 0, .slice hA H'.length hc]) ∧ Hid (wr.ownsRow w.heap.size 64 5 (.slice hA H'.length hc) H'.length (H'.flatMap Hp.cs)) ∧ Hid (runF fndI T BB K i 0 sh sl [] = runF fndI T BB (K - k) n' t' gh gl H'))
    case atStart => exact ⟨0, i, 0, sh, sl, L0, R0, [], none, 0, Nat.zero_le _, rfl, rfl, rfl, rfl, HS0, HB2, HN2, HH2, HX2, HY2, World.ownsRow_nil _ _ _ _, rfl⟩
    case round =>
      clear HB2 HN2 HH2 HX2 HY2 HS0 s0 s1
      obtain ⟨k, n', t', gh, gl, L', R', H', hA, hc, hk, rfl, hl', rfl, rfl, HS, HBW, HN, HH, HX, HY, HO, HRN⟩ := hrel
      obtain ⟨y0, y1, y2, y3⟩ := quad HY.out
      by_cases hlt : k < K
      · have hltz : (H'.length : Int) < (K : Int) := by have := hl'.out; omega
        have hHb : H'.length ≤ 1000000 := by have := hl'.out; omega
        have hk1 : K - k = K - (k + 1) + 1 := by omega
        rw [hk1] at HRN
        obtain ⟨hTn, X, hBn, hXt⟩ := id HS.out
        have hnl : n' < BB.length := (List.getElem?_eq_some_iff.1 hBn).1
        have hnz : (n' : Int) < (BB.length : Int) := by omega
        have htl : t' < X.length := (List.getElem?_eq_some_iff.1 hXt).1
        have htz : (t' : Int) < (X.length : Int) := by omega
        obtain ⟨sX, hsX, hXr⟩ := HQF.out n' X hBn
        obtain ⟨XA, Xc, rfl, -, -, hXf⟩ := hXr
        obtain ⟨b1, o1, rfl, -, hxk⟩ := hXf (by rintro rfl; simp at htl)
        obtain ⟨sR, hsR, hR⟩ := hxk t' R' hXt
        have HR : Hid (Ru w sR R') := hR
        obtain ⟨RA, Rc, rfl, hRf⟩ := hR.form
        have HSX := Lib.hid hsX
        have HSR := Lib.hid hsR
        have HRF := Lib.hid hRf
        have hRl := HSZ.out X (List.mem_of_getElem? hBn) R' (List.mem_of_getElem? hXt)
        obtain ⟨z, hz⟩ : ∃ z, fndI R' gh gl = z := ⟨_, rfl⟩
        have HZF := Lib.hid hz
        have HFND : Hid (∀ u : World, Below w.heap.size w u → Calls Try.prog 9 #[.slice RA R'.length Rc, .agg #[.int .u64 (uv gh), .int .u64 (uv gl)]] u fun e w' => e = .returned (.tuple #[.int .i64 (fz z), .bool z.isSome]) ∧ Below u.heap.size u w') := fun u hu => by
          have h := rfind_c _ R' gh gl u hRl (HR.out.on hu)
          rw [hz] at h
          exact h
        clear hz hRf hR hxk hXf hsR hsX hXt hBn hTn hnl htl hk1
        go_upto_region 5 with (fail)
        clear y0 y1 y2 y3
        have HKP : Hid (∀ W, Below wr.heap.size wr W → (Below wr.heap.size wr W ∧ W.cell? ⟨w.heap.size, 4, none⟩ = some (.slice (some ⟨b0, o0, none⟩) BB.length bc) ∧ W.cell? ⟨b0, o0 + n', none⟩ = some (.slice (some ⟨b1, o1, none⟩) X.length Xc) ∧ W.cell? ⟨b1, o1 + t', none⟩ = some (.slice RA R'.length Rc) ∧ W.cell? ⟨w.heap.size + 1 + 1, 0, none⟩ = some (.int .u64 (uv gh)) ∧ W.cell? ⟨w.heap.size + 1 + 1, 1, none⟩ = some (.int .u64 (uv gl)))) := fun W hb => by
          obtain ⟨-, -, -, -, d4⟩ := (HN.out.on hb).five
          obtain ⟨e0, e1⟩ := (HH.out.on hb).both
          have hw := HBW.out.trans (hb.mono HBW.out.size)
          exact ⟨hb, d4, on_some hw HSX.out, on_some hw HSR.out, e0, e1⟩
        refine wp_region_held_drew (S := fun w' => Below wr.heap.size wr w' ∧ w'.cell? ⟨w.heap.size, 4, none⟩ = some (.slice (some ⟨b0, o0, none⟩) BB.length bc) ∧ w'.cell? ⟨b0, o0 + n', none⟩ = some (.slice (some ⟨b1, o1, none⟩) X.length Xc) ∧ w'.cell? ⟨b1, o1 + t', none⟩ = some (.slice RA R'.length Rc) ∧ w'.cell? ⟨w.heap.size + 1 + 1, 0, none⟩ = some (.int .u64 (uv gh)) ∧ w'.cell? ⟨w.heap.size + 1 + 1, 1, none⟩ = some (.int .u64 (uv gl))) (by kernel_rfl) (HKP.out _ (Below.refl _ wr).drew) (fun hHeld => ?_)
        have hB := (Below.refl wr.heap.size wr).drew
        generalize wr.drew = u0 at hHeld hB ⊢
        refine wpAnyH_take (i := 0) (oi := ⟨some 33, _, _, _, _, _⟩) (v := ?vrb0_1) rfl (by kernel_rfl) (by kernel_rfl) (by kernel_rfl) (fun _ _ _ h => h) (Or.inl ⟨by rfl, ?yrb0_1⟩) hHeld ?rrb0_1
        case yrb0_1 => (intro w' hSw; (try dsimp only at hSw); go_simp; try (with_reducible rfl))
        simp only [Act.put, List.setIfInBounds_toArray, List.set_cons_zero, List.set_cons_succ]
        refine wpAnyH_take (i := 1) (oi := ⟨some 34, _, _, _, _, _⟩) (v := ?vrb1_2) rfl (by kernel_rfl) (by kernel_rfl) (by kernel_rfl) (fun _ _ _ h => h) (Or.inl ⟨by rfl, ?yrb1_2⟩) hHeld ?rrb1_2
        case yrb1_2 => (intro w' hSw; (try dsimp only at hSw); go_simp; try (with_reducible rfl))
        simp only [Act.put, List.setIfInBounds_toArray, List.set_cons_zero, List.set_cons_succ]
        refine wpAnyH_take (i := 2) (oi := ⟨some 35, _, _, _, _, _⟩) (v := ?vrb2_3) rfl (by kernel_rfl) (by kernel_rfl) (by kernel_rfl) (fun _ _ _ h => h) (Or.inl ⟨by rfl, ?yrb2_3⟩) hHeld ?rrb2_3
        case yrb2_3 => (intro w' hSw; (try dsimp only at hSw); go_simp; try (with_reducible rfl))
        simp only [Act.put, List.setIfInBounds_toArray, List.set_cons_zero, List.set_cons_succ]
        refine wpAnyH_take (i := 3) (oi := ⟨some 36, _, _, _, _, _⟩) (v := ?vrb3_4) rfl (by kernel_rfl) (by kernel_rfl) (by kernel_rfl) (fun _ _ _ h => h) (Or.inl ⟨by rfl, ?yrb3_4⟩) hHeld ?rrb3_4
        case yrb3_4 => (intro w' hSw; (try dsimp only at hSw); go_simp; try (with_reducible rfl))
        simp only [Act.put, List.setIfInBounds_toArray, List.set_cons_zero, List.set_cons_succ]
        refine wpAnyH_take (i := 4) (oi := ⟨some 37, _, _, _, _, _⟩) (v := ?vrb4_5) rfl (by kernel_rfl) (by kernel_rfl) (by kernel_rfl) (fun _ _ _ h => h) (Or.inl ⟨by rfl, ?yrb4_5⟩) hHeld ?rrb4_5
        case yrb4_5 => (intro w' hSw; (try dsimp only at hSw); go_simp; try (with_reducible rfl))
        simp only [Act.put, List.setIfInBounds_toArray, List.set_cons_zero, List.set_cons_succ]
        refine wpAnyH_take (i := 5) (oi := ⟨some 38, _, _, _, _, _⟩) (v := ?vrb5_6) rfl (by kernel_rfl) (by kernel_rfl) (by kernel_rfl) (fun _ _ _ h => h) (Or.inl ⟨by rfl, ?yrb5_6⟩) hHeld ?rrb5_6
        case yrb5_6 => (intro w' hSw; (try dsimp only at hSw); go_simp; try (with_reducible rfl))
        simp only [Act.put, List.setIfInBounds_toArray, List.set_cons_zero, List.set_cons_succ]
        refine wpAnyH_take (i := 6) (oi := ⟨some 39, _, _, _, _, _⟩) (v := ?vrb6_7) rfl (by kernel_rfl) (by kernel_rfl) (by kernel_rfl) (fun _ _ _ h => h) (Or.inl ⟨by rfl, ?yrb6_7⟩) hHeld ?rrb6_7
        case yrb6_7 => (intro w' hSw; (try dsimp only at hSw); go_simp; try (with_reducible rfl))
        simp only [Act.put, List.setIfInBounds_toArray, List.set_cons_zero, List.set_cons_succ]
        refine wpAnyH_take (i := 7) (oi := ⟨some 40, _, _, _, _, _⟩) (v := ?vrb7_8) rfl (by kernel_rfl) (by kernel_rfl) (by kernel_rfl) (fun _ _ _ h => h) (Or.inl ⟨by rfl, ?yrb7_8⟩) hHeld ?rrb7_8
        case yrb7_8 => (intro w' hSw; (try dsimp only at hSw); go_simp; try (with_reducible rfl))
        simp only [Act.put, List.setIfInBounds_toArray, List.set_cons_zero, List.set_cons_succ]
        refine wpAnyH_take (i := 8) (oi := ⟨some 41, _, _, _, _, _⟩) (v := ?vrb8_9) rfl (by kernel_rfl) (by kernel_rfl) (by kernel_rfl) (fun _ _ _ h => h) (Or.inl ⟨by rfl, ?yrb8_9⟩) hHeld ?rrb8_9
        case yrb8_9 => (intro w' hSw; (try dsimp only at hSw); go_simp; try (with_reducible rfl))
        simp only [Act.put, List.setIfInBounds_toArray, List.set_cons_zero, List.set_cons_succ]
        refine wpAnyH_ready (rs := [9]) (by kernel_rfl) (by simp) ?_
        refine AllReadyH.cons (o := ⟨some 42, _, _, _, _, _⟩) rfl (fun K hK => ?_) AllReadyH.nil
        go_simp
        (with_reducible refine (HFND.out u0 (HBW.out.trans (hB.mono HBW.out.size))).mono ?_)
        rintro e u1 ⟨rfl, hb⟩
        (try dsimp only)
        have hB2 := hB.trans (hb.mono hB.size)
        refine hK.out _ _ (HKP.out _ hB2) (fun hNext => ?_)
        clear hK K hHeld
        have hHeld := hNext
        clear hNext
        clear hB
        have hB := hB2
        clear hB2
        clear hb
        try simp only [Act.put, List.setIfInBounds_toArray, List.set_cons_zero, List.set_cons_succ]
        refine wpAnyH_take (i := 10) (oi := ⟨some 32, _, _, _, _, _⟩) (v := ?vrb10_10) rfl (by kernel_rfl) (by kernel_rfl) (by kernel_rfl) (fun _ _ _ h => h) (Or.inl ⟨by rfl, ?yrb10_10⟩) hHeld ?rrb10_10
        case yrb10_10 => (intro w' hSw; (try dsimp only at hSw); go_simp; try (with_reducible rfl))
        simp only [Act.put, List.setIfInBounds_toArray, List.set_cons_zero, List.set_cons_succ]
        refine wpAnyH_take (i := 11) (oi := ⟨some 43, _, _, _, _, _⟩) (v := ?vrb11_11) rfl (by kernel_rfl) (by kernel_rfl) (by kernel_rfl) (fun _ _ _ h => h) (Or.inl ⟨by rfl, ?yrb11_11⟩) hHeld ?rrb11_11
        case yrb11_11 => (intro w' hSw; (try dsimp only at hSw); go_simp; try (with_reducible rfl))
        simp only [Act.put, List.setIfInBounds_toArray, List.set_cons_zero, List.set_cons_succ]
        refine wpAnyH_take (i := 12) (oi := ⟨some 44, _, _, _, _, _⟩) (v := ?vrb12_12) rfl (by kernel_rfl) (by kernel_rfl) (by kernel_rfl) (fun _ _ _ h => h) (Or.inl ⟨by rfl, ?yrb12_12⟩) hHeld ?rrb12_12
        case yrb12_12 => (intro w' hSw; (try dsimp only at hSw); go_simp; try (with_reducible rfl))
        simp only [Act.put, List.setIfInBounds_toArray, List.set_cons_zero, List.set_cons_succ]
        refine wpAnyH_take (i := 13) (oi := ⟨some 14, _, _, _, _, _⟩) (v := ?vrb13_13) rfl (by kernel_rfl) (by kernel_rfl) (by kernel_rfl) (fun _ _ _ h => h) (Or.inl ⟨by rfl, ?yrb13_13⟩) hHeld ?rrb13_13
        case yrb13_13 => (intro w' hSw; (try dsimp only at hSw); go_simp; try (with_reducible rfl))
        simp only [Act.put, List.setIfInBounds_toArray, List.set_cons_zero, List.set_cons_succ]
        refine wpAnyH_take (i := 14) (oi := ⟨some 15, _, _, _, _, _⟩) (v := ?vrb14_14) rfl (by kernel_rfl) (by kernel_rfl) (by kernel_rfl) (fun _ _ _ h => h) (Or.inl ⟨by rfl, ?yrb14_14⟩) hHeld ?rrb14_14
        case yrb14_14 => (intro w' hSw; (try dsimp only at hSw); go_simp; try (with_reducible rfl))
        simp only [Act.put, List.setIfInBounds_toArray, List.set_cons_zero, List.set_cons_succ]
        refine wpAnyH_done (by kernel_rfl) ?_ _
        have HBV := Lib.hid (HBW.out.trans (hB.mono HBW.out.size))
        have HNV := Lib.hid (HN.out.on hB)
        have HHV := Lib.hid (HH.out.on hB)
        have HXV := Lib.hid (HX.out.on hB)
        have HYV := Lib.hid (HY.out.on hB)
        have HOV := Lib.hid (own_on HO.out hB)
        clear hHeld hB HKP HBW HN HH HX HY HO HFND
        generalize u1 = wv at HBV HNV HHV HXV HYV HOV ⊢
        cases z with
        | none =>
          have HF : Hid (fndI R' gh gl = none) := HZF
          have hb := below1 wv (.cells #[.int .i64 (n' : Int), .int .i64 (t' : Int), .int .i64 (-1), .int .u64 (uv gh), .int .u64 (uv gl)] 64)
          have kN : Blk (wv.alloc (.cells #[.int .i64 (n' : Int), .int .i64 (t' : Int), .int .i64 (-1), .int .u64 (uv gh), .int .u64 (uv gl)] 64)) wv.heap.size 64 #[.int .i64 (n' : Int), .int .i64 (t' : Int), .int .i64 (-1), .int .u64 (uv gh), .int .u64 (uv gl)] := Blk.new wv _ _
          have SR : Src (wv.alloc (.cells #[.int .i64 (n' : Int), .int .i64 (t' : Int), .int .i64 (-1), .int .u64 (uv gh), .int .u64 (uv gl)] 64)) 5 (.slice (some ⟨wv.heap.size, 0, none⟩) 1 1) 1 [.int .i64 (n' : Int), .int .i64 (t' : Int), .int .i64 (-1), .int .u64 (uv gh), .int .u64 (uv gl)] := src_blk (x := ⟨n', t', (-1), gh, gl⟩) kN
          have HB2 := Lib.hid (HBV.out.trans (hb.mono HBV.out.size))
          have HN2 := Lib.hid (HNV.out.on hb)
          have HH2 := Lib.hid (HHV.out.on hb)
          have HX2 := Lib.hid (HXV.out.on hb)
          have HY2 := Lib.hid (HYV.out.on hb)
          have O2 := own_on HOV.out hb
          obtain ⟨h0, h1⟩ := HHV.out.both
          obtain ⟨y0, y1, y2, y3⟩ := quad HYV.out
          have hszb : w.heap.size ≤ (wv.alloc (.cells #[.int .i64 (n' : Int), .int .i64 (t' : Int), .int .i64 (-1), .int .u64 (uv gh), .int .u64 (uv gl)] 64)).heap.size := HB2.out.size
          go_wp2_with (at_builtin; refine wpList_app _ rfl (.tmp 48) (.tmp 53) 52 rfl w.heap.size 64 ih _ 5 40 Try.underlying52 hih hz0 hz1 hz2 rfl (by decide) _ H'.length (H'.flatMap Hp.cs) rfl O2 _ 1 [.int .i64 (n' : Int), .int .i64 (t' : Int), .int .i64 (-1), .int .u64 (uv gh), .int .u64 (uv gl)] rfl SR (by unfold maxLen; omega) (by omega) hszb ?_)
          intro v2 w2 O3 hgr
          obtain ⟨hA2, hc2, rfl, -⟩ := own_sl O3
          have HB3 := Lib.hid (HB2.out.grown hgr HB2.out.size (fun j hj => (O2.lt j hj).1))
          have HN3 := Lib.hid (HN2.out.grown hgr (own_apart O2 HN2.out (by decide)))
          have HH3 := Lib.hid (HH2.out.grown hgr (own_apart O2 HH2.out (by decide)))
          have HX3 := Lib.hid (HX2.out.grown hgr (own_apart O2 HX2.out (by decide)))
          have HY3 := Lib.hid (HY2.out.grown hgr (own_apart O2 HY2.out (by decide)))
          have HO3 := Lib.hid O3
          clear hb kN SR HB2 HN2 HH2 HX2 HY2 O2 O3 hgr h0 h1 y0 y1 y2 y3 hszb HBV HNV HHV HXV HYV HOV
          have y3 := (HY3.out.cell 3).trans rfl
          have g3 := HY3.out.free 3
          simp only [List.getElem?_toArray, List.getElem?_cons_succ, List.getElem?_cons_zero] at y3
          go_upto_region 8 with (fail)
          clear y3 g3
          have HBV := Lib.hid (HB3.out.setCell (p := ⟨w.heap.size + 1 + 1 + 1 + 1, 3, none⟩) (show w.heap.size ≤ w.heap.size + 1 + 1 + 1 + 1 by omega) (.slice hA2 (H'.length + 1) hc2))
          have HNV := Lib.hid (HN3.out.far (p := ⟨w.heap.size + 1 + 1 + 1 + 1, 3, none⟩) (show w.heap.size ≠ w.heap.size + 1 + 1 + 1 + 1 by omega) (.slice hA2 (H'.length + 1) hc2))
          have HHV := Lib.hid (HH3.out.far (p := ⟨w.heap.size + 1 + 1 + 1 + 1, 3, none⟩) (show w.heap.size + 1 + 1 ≠ w.heap.size + 1 + 1 + 1 + 1 by omega) (.slice hA2 (H'.length + 1) hc2))
          have HXV := Lib.hid (HX3.out.far (p := ⟨w.heap.size + 1 + 1 + 1 + 1, 3, none⟩) (show w.heap.size + 1 + 1 + 1 ≠ w.heap.size + 1 + 1 + 1 + 1 by omega) (.slice hA2 (H'.length + 1) hc2))
          have kY := HY3.out.set 3 (.slice hA2 (H'.length + 1) hc2)
          simp only [List.setIfInBounds_toArray, List.set_cons_succ, List.set_cons_zero] at kY
          have HYV := Lib.hid kY
          have HOV := Lib.hid (ownsRow_setCell_other (a := ⟨w.heap.size + 1 + 1 + 1 + 1, 3, none⟩) HO3.out (fun e => own_apart HO3.out HY3.out (by decide) e.symm) (.slice hA2 (H'.length + 1) hc2))
          clear kY HB3 HN3 HH3 HX3 HY3 HO3
          generalize w2.setCell ⟨w.heap.size + 1 + 1 + 1 + 1, 3, none⟩ (.slice hA2 (H'.length + 1) hc2) = w3 at HBV HNV HHV HXV HYV HOV ⊢
          obtain ⟨y0, y1, y2, y3⟩ := quad HYV.out
          obtain ⟨g0, g1, g2, g3⟩ := free4 HYV.out
          go_upto_region 9 with (fail)
          clear y0 y1 y2 y3 g0 g1 g2 g3
          have HB9 := Lib.hid (HBV.out.setCell (p := ⟨w.heap.size + 1 + 1 + 1 + 1, 0, none⟩) (show w.heap.size ≤ w.heap.size + 1 + 1 + 1 + 1 by omega) (.int .i64 3))
          have HX9 := Lib.hid (HXV.out.far (p := ⟨w.heap.size + 1 + 1 + 1 + 1, 0, none⟩) (show w.heap.size + 1 + 1 + 1 ≠ w.heap.size + 1 + 1 + 1 + 1 by omega) (.int .i64 3))
          have kY := (HYV.out.set 0 (.int .i64 3))
          simp only [List.setIfInBounds_toArray, List.set_cons_zero] at kY
          have HO9 := Lib.hid (ownsRow_setCell_other (a := ⟨w.heap.size + 1 + 1 + 1 + 1, 0, none⟩) HOV.out (fun e => own_apart HOV.out HYV.out (by decide) e.symm) (.int .i64 3))
          have HY9 := Lib.hid kY
          clear kY HBV HNV HHV HXV HYV HOV
          generalize (w3.setCell ⟨w.heap.size + 1 + 1 + 1 + 1, 0, none⟩ (.int .i64 3)) = w9 at HB9 HX9 HY9 HO9 ⊢
          obtain ⟨y0, y1, y2, y3⟩ := quad HY9.out
          obtain ⟨x0, x1, x2, x3⟩ := quad HX9.out
          obtain ⟨f0, f1, f2, f3⟩ := free4 HX9.out
          obtain ⟨q0, q1, q2, q3⟩ := quad (put4 HX9.out (.int .i64 3) (.int .i64 0) (.int .i64 0) (.slice hA2 (H'.length + 1) hc2))
          have BE := Lib.hid (HB9.out.trans ((sets4 w9 (w.heap.size + 1 + 1 + 1) (.int .i64 3) (.int .i64 0) (.int .i64 0) (.slice hA2 (H'.length + 1) hc2)).mono (by omega)))
          have OE := Lib.hid (own_sets4 HX9.out HO9.out (by decide) (.int .i64 3) (.int .i64 0) (.int .i64 0) (.slice hA2 (H'.length + 1) hc2))
          clear HX9 HY9 HB9 HO9
          go_wp2
          exact bodyPost_ret (v := .agg #[.int .i64 3, .int .i64 0, .int .i64 0, .slice hA2 (H'.length + 1) hc2]) (by simp [results, Try.results16, go_sem, q0, q1, q2, q3]) rfl ⟨rr_of (x := ⟨n', t', -1, gh, gl⟩) (HRN.out.trans (runF_miss HS.out HF.out)) OE.out, BE.out⟩
        | some j =>
          have HF : Hid (fndI R' gh gl = some j) := HZF
          rw [show fz (some j) = (j : Int) from rfl]
          have hjl := fnd_at HF.out
          obtain ⟨r, hr⟩ : ∃ r, R'[j]? = some r := ⟨_, List.getElem?_eq_getElem hjl⟩
          have hjz : (j : Int) < (R'.length : Int) := by omega
          obtain ⟨br, orr, rfl, -, hat⟩ := HRF.out (by rintro rfl; simp at hjl)
          have HAT := Lib.hid (hat j r hr)
          have HRI := Lib.hid hr
          have hlead := (rule_leads HCFG.out HS.out hr).2.2
          have HLD := Lib.hid hlead
          clear hr hat hlead hjl HZF
          have HRNK := Lib.hid (HRN.out.trans (runF_hit HS.out HF.out HRI.out))
          clear HRN
          have hb := below1 wv (.cells #[.int .i64 (n' : Int), .int .i64 (t' : Int), .int .i64 (j : Int), .int .u64 (uv gh), .int .u64 (uv gl)] 64)
          have kN : Blk (wv.alloc (.cells #[.int .i64 (n' : Int), .int .i64 (t' : Int), .int .i64 (j : Int), .int .u64 (uv gh), .int .u64 (uv gl)] 64)) wv.heap.size 64 #[.int .i64 (n' : Int), .int .i64 (t' : Int), .int .i64 (j : Int), .int .u64 (uv gh), .int .u64 (uv gl)] := Blk.new wv _ _
          have SR : Src (wv.alloc (.cells #[.int .i64 (n' : Int), .int .i64 (t' : Int), .int .i64 (j : Int), .int .u64 (uv gh), .int .u64 (uv gl)] 64)) 5 (.slice (some ⟨wv.heap.size, 0, none⟩) 1 1) 1 [.int .i64 (n' : Int), .int .i64 (t' : Int), .int .i64 (j : Int), .int .u64 (uv gh), .int .u64 (uv gl)] := src_blk (x := ⟨n', t', (j : Int), gh, gl⟩) kN
          have HB2 := Lib.hid (HBV.out.trans (hb.mono HBV.out.size))
          have HN2 := Lib.hid (HNV.out.on hb)
          have HH2 := Lib.hid (HHV.out.on hb)
          have HX2 := Lib.hid (HXV.out.on hb)
          have HY2 := Lib.hid (HYV.out.on hb)
          have O2 := own_on HOV.out hb
          obtain ⟨h0, h1⟩ := HHV.out.both
          obtain ⟨y0, y1, y2, y3⟩ := quad HYV.out
          have hszb : w.heap.size ≤ (wv.alloc (.cells #[.int .i64 (n' : Int), .int .i64 (t' : Int), .int .i64 (j : Int), .int .u64 (uv gh), .int .u64 (uv gl)] 64)).heap.size := HB2.out.size
          go_wp2_with (at_builtin; refine wpList_app _ rfl (.tmp 59) (.tmp 65) 52 rfl w.heap.size 64 ih _ 5 40 Try.underlying52 hih hz0 hz1 hz2 rfl (by decide) _ H'.length (H'.flatMap Hp.cs) rfl O2 _ 1 [.int .i64 (n' : Int), .int .i64 (t' : Int), .int .i64 (j : Int), .int .u64 (uv gh), .int .u64 (uv gl)] rfl SR (by unfold maxLen; omega) (by omega) hszb ?_)
          intro v2 w2 O3 hgr
          obtain ⟨hA2, hc2, rfl, -⟩ := own_sl O3
          have HB3 := Lib.hid (HB2.out.grown hgr HB2.out.size (fun j hj => (O2.lt j hj).1))
          have HN3 := Lib.hid (HN2.out.grown hgr (own_apart O2 HN2.out (by decide)))
          have HH3 := Lib.hid (HH2.out.grown hgr (own_apart O2 HH2.out (by decide)))
          have HX3 := Lib.hid (HX2.out.grown hgr (own_apart O2 HX2.out (by decide)))
          have HY3 := Lib.hid (HY2.out.grown hgr (own_apart O2 HY2.out (by decide)))
          have HO3 := Lib.hid O3
          clear hb kN SR HB2 HN2 HH2 HX2 HY2 O2 O3 hgr h0 h1 y0 y1 y2 y3 hszb HBV HNV HHV HXV HYV HOV
          have y3 := (HY3.out.cell 3).trans rfl
          have g3 := HY3.out.free 3
          simp only [List.getElem?_toArray, List.getElem?_cons_succ, List.getElem?_cons_zero] at y3
          go_upto_region 11 with (fail)
          clear y3 g3
          have HBV := Lib.hid (HB3.out.setCell (p := ⟨w.heap.size + 1 + 1 + 1 + 1, 3, none⟩) (show w.heap.size ≤ w.heap.size + 1 + 1 + 1 + 1 by omega) (.slice hA2 (H'.length + 1) hc2))
          have HNV := Lib.hid (HN3.out.far (p := ⟨w.heap.size + 1 + 1 + 1 + 1, 3, none⟩) (show w.heap.size ≠ w.heap.size + 1 + 1 + 1 + 1 by omega) (.slice hA2 (H'.length + 1) hc2))
          have HHV := Lib.hid (HH3.out.far (p := ⟨w.heap.size + 1 + 1 + 1 + 1, 3, none⟩) (show w.heap.size + 1 + 1 ≠ w.heap.size + 1 + 1 + 1 + 1 by omega) (.slice hA2 (H'.length + 1) hc2))
          have HXV := Lib.hid (HX3.out.far (p := ⟨w.heap.size + 1 + 1 + 1 + 1, 3, none⟩) (show w.heap.size + 1 + 1 + 1 ≠ w.heap.size + 1 + 1 + 1 + 1 by omega) (.slice hA2 (H'.length + 1) hc2))
          have kY := HY3.out.set 3 (.slice hA2 (H'.length + 1) hc2)
          simp only [List.setIfInBounds_toArray, List.set_cons_succ, List.set_cons_zero] at kY
          have HYV := Lib.hid kY
          have HOV := Lib.hid (ownsRow_setCell_other (a := ⟨w.heap.size + 1 + 1 + 1 + 1, 3, none⟩) HO3.out (fun e => own_apart HO3.out HY3.out (by decide) e.symm) (.slice hA2 (H'.length + 1) hc2))
          clear kY HB3 HN3 HH3 HX3 HY3 HO3
          generalize w2.setCell ⟨w.heap.size + 1 + 1 + 1 + 1, 3, none⟩ (.slice hA2 (H'.length + 1) hc2) = w3 at HBV HNV HHV HXV HYV HOV ⊢
          obtain ⟨-, -, -, -, d4⟩ := HNV.out.five
          have hsx := on_some HBV.out HSX.out
          have hsr := on_some HBV.out HSR.out
          obtain ⟨-, -, -, -, -, c5, c6, c7, c8, c9, c10, c11⟩ := (HAT.out.on HBV.out).out
          go_upto_region 12 with (fail)
          have hb := below1 w3 (.cells #[.int .i64 r.kind, .int .i64 r.port, .int .i64 r.tab, .int .u64 (uv r.s.vh), .int .u64 (uv r.s.vl), .int .u64 (uv r.s.ch), .int .u64 (uv r.s.cl)] 36)
          have HD4 := Lib.hid (Blk.new w3 36 #[.int .i64 r.kind, .int .i64 r.port, .int .i64 r.tab, .int .u64 (uv r.s.vh), .int .u64 (uv r.s.vl), .int .u64 (uv r.s.ch), .int .u64 (uv r.s.cl)])
          have HB4 := Lib.hid (HBV.out.trans (hb.mono HBV.out.size))
          have HN4 := Lib.hid (HNV.out.on hb)
          have HH4 := Lib.hid (HHV.out.on hb)
          have HX4 := Lib.hid (HXV.out.on hb)
          have HY4 := Lib.hid (HYV.out.on hb)
          have HO4 := Lib.hid (own_on HOV.out hb)
          have hdb : w.heap.size + 1 + 1 + 1 + 1 < w3.heap.size := HYV.out.lt
          clear hb d4 hsx hsr c5 c6 c7 c8 c9 c10 c11 HBV HNV HHV HXV HYV HOV
          generalize hgen : w3.alloc (.cells #[.int .i64 r.kind, .int .i64 r.port, .int .i64 r.tab, .int .u64 (uv r.s.vh), .int .u64 (uv r.s.vl), .int .u64 (uv r.s.ch), .int .u64 (uv r.s.cl)] 36) = w4 at HD4 HB4 HN4 HH4 HX4 HY4 HO4 ⊢
          clear hgen
          generalize hgen : w3.heap.size = bd at HD4 hdb ⊢
          clear hgen
          obtain ⟨h0, h1⟩ := HH4.out.both
          have c3 := (HD4.out.cell 3).trans rfl
          have c4 := (HD4.out.cell 4).trans rfl
          have c5 := (HD4.out.cell 5).trans rfl
          have c6 := (HD4.out.cell 6).trans rfl
          simp only [List.getElem?_toArray, List.getElem?_cons_succ, List.getElem?_cons_zero] at c3 c4 c5 c6
          go_wp2_with fail
          (with_reducible refine (rset_c gh gl r.s.vh r.s.vl r.s.ch r.s.cl _).mono ?_)
          rintro e w5 ⟨rfl, hb⟩
          have hH5 := HH4.out.on hb
          have HD5 := HD4.out.on hb
          have HB5 := HB4.out.trans (hb.mono HB4.out.size)
          have HN5 := HN4.out.on hb
          have HX5 := HX4.out.on hb
          have HY5 := HY4.out.on hb
          have HO5 := own_on HO4.out hb
          clear hb h0 h1 c3 c4 c5 c6 HD4 HB4 HN4 HH4 HX4 HY4 HO4
          obtain ⟨h0, h1⟩ := hH5.both
          have e0 := hH5.free 0
          have e1 := hH5.free 1
          obtain ⟨gh2, hgh2⟩ : ∃ q, stH r gh = q := ⟨_, rfl⟩
          obtain ⟨gl2, hgl2⟩ : ∃ q, stL r gl = q := ⟨_, rfl⟩
          have eh : ((gh &&& ~~~r.s.ch) ||| (r.s.vh &&& r.s.ch)) = gh2 := hgh2
          have el : ((gl &&& ~~~r.s.cl) ||| (r.s.vl &&& r.s.cl)) = gl2 := hgl2
          rw [eh, el]
          have HRX := HRNK.out
          rw [hgh2, hgl2] at HRX
          have HRK := Lib.hid HRX
          clear eh el hgh2 hgl2 HRX HRNK
          go_upto_region 13 with (fail)
          clear h0 h1 e0 e1
          have HH6 := Lib.hid (hH5.put2 (.int .u64 (uv gh2)) (.int .u64 (uv gl2)))
          have HD6 := Lib.hid (HD5.far2 (show bd ≠ w.heap.size + 1 + 1 by omega) (.int .u64 (uv gh2)) (.int .u64 (uv gl2)))
          have HB6 := Lib.hid (HB5.trans (below_put2 (B := w.heap.size) (g := w.heap.size + 1 + 1) (by omega) (.int .u64 (uv gh2)) (.int .u64 (uv gl2))))
          have HN6 := Lib.hid (HN5.far2 (show w.heap.size ≠ w.heap.size + 1 + 1 by omega) (.int .u64 (uv gh2)) (.int .u64 (uv gl2)))
          have HXV := Lib.hid (HX5.far2 (show w.heap.size + 1 + 1 + 1 ≠ w.heap.size + 1 + 1 by omega) (.int .u64 (uv gh2)) (.int .u64 (uv gl2)))
          have HYV := Lib.hid (HY5.far2 (show w.heap.size + 1 + 1 + 1 + 1 ≠ w.heap.size + 1 + 1 by omega) (.int .u64 (uv gh2)) (.int .u64 (uv gl2)))
          have HOV := Lib.hid (own_far2 hH5 HO5 (by decide) (.int .u64 (uv gh2)) (.int .u64 (uv gl2)))
          clear hH5 HD5 HB5 HN5 HX5 HY5 HO5
          generalize (w5.setCell ⟨w.heap.size + 1 + 1, 0, none⟩ (.int .u64 (uv gh2))).setCell ⟨w.heap.size + 1 + 1, 1, none⟩ (.int .u64 (uv gl2)) = w6 at HH6 HD6 HB6 HN6 HXV HYV HOV ⊢
          have HHV := HH6
          have HNV := HN6
          have HBV := HB6
          clear HH6 HN6 HB6
          have c0 := (HD6.out.cell 0).trans rfl
          have c1 := (HD6.out.cell 1).trans rfl
          have c2 := (HD6.out.cell 2).trans rfl
          simp only [List.getElem?_toArray, List.getElem?_cons_succ, List.getElem?_cons_zero] at c0 c1 c2
          rcases HLD.out with hk2 | hk2 | ⟨hk2, jj, mm, q, L2, R2, hpt, hq, hq2, hqm, hs'⟩ | ⟨hk2, u, R2, hu, hs'⟩
          · rw [hk2] at c0
            obtain ⟨y0, y1, y2, y3⟩ := quad HYV.out
            obtain ⟨g0, g1, g2, g3⟩ := free4 HYV.out
            go_upto_region 17 with (fail)
            clear y0 y1 y2 y3 g0 g1 g2 g3
            have HB9 := Lib.hid (HBV.out.setCell (p := ⟨w.heap.size + 1 + 1 + 1 + 1, 0, none⟩) (show w.heap.size ≤ w.heap.size + 1 + 1 + 1 + 1 by omega) (.int .i64 1))
            have HX9 := Lib.hid (HXV.out.far (p := ⟨w.heap.size + 1 + 1 + 1 + 1, 0, none⟩) (show w.heap.size + 1 + 1 + 1 ≠ w.heap.size + 1 + 1 + 1 + 1 by omega) (.int .i64 1))
            have kY := (HYV.out.set 0 (.int .i64 1))
            simp only [List.setIfInBounds_toArray, List.set_cons_zero] at kY
            have HO9 := Lib.hid (ownsRow_setCell_other (a := ⟨w.heap.size + 1 + 1 + 1 + 1, 0, none⟩) HOV.out (fun e => own_apart HOV.out HYV.out (by decide) e.symm) (.int .i64 1))
            have HY9 := Lib.hid kY
            clear kY HBV HNV HHV HXV HYV HOV
            generalize (w6.setCell ⟨w.heap.size + 1 + 1 + 1 + 1, 0, none⟩ (.int .i64 1)) = w9 at HB9 HX9 HY9 HO9 ⊢
            obtain ⟨y0, y1, y2, y3⟩ := quad HY9.out
            obtain ⟨x0, x1, x2, x3⟩ := quad HX9.out
            obtain ⟨f0, f1, f2, f3⟩ := free4 HX9.out
            obtain ⟨q0, q1, q2, q3⟩ := quad (put4 HX9.out (.int .i64 1) (.int .i64 0) (.int .i64 0) (.slice hA2 (H'.length + 1) hc2))
            have BE := Lib.hid (HB9.out.trans ((sets4 w9 (w.heap.size + 1 + 1 + 1) (.int .i64 1) (.int .i64 0) (.int .i64 0) (.slice hA2 (H'.length + 1) hc2)).mono (by omega)))
            have OE := Lib.hid (own_sets4 HX9.out HO9.out (by decide) (.int .i64 1) (.int .i64 0) (.int .i64 0) (.slice hA2 (H'.length + 1) hc2))
            clear HX9 HY9 HB9 HO9
            go_wp2
            exact bodyPost_ret (v := .agg #[.int .i64 1, .int .i64 0, .int .i64 0, .slice hA2 (H'.length + 1) hc2]) (by simp [results, Try.results16, go_sem, q0, q1, q2, q3]) rfl ⟨rr_of (x := ⟨n', t', (j : Int), gh, gl⟩) (HRK.out.trans (if_pos hk2)) OE.out, BE.out⟩
          · rw [hk2] at c0
            obtain ⟨y0, y1, y2, y3⟩ := quad HYV.out
            obtain ⟨g0, g1, g2, g3⟩ := free4 HYV.out
            go_upto_region 21 with (fail)
            clear y0 y1 y2 y3 g0 g1 g2 g3
            have HB9 := Lib.hid (((HBV.out.setCell (p := ⟨w.heap.size + 1 + 1 + 1 + 1, 0, none⟩) (show w.heap.size ≤ w.heap.size + 1 + 1 + 1 + 1 by omega) (.int .i64 2)).setCell (p := ⟨w.heap.size + 1 + 1 + 1 + 1, 1, none⟩) (show w.heap.size ≤ w.heap.size + 1 + 1 + 1 + 1 by omega) (.int .i64 (n' : Int))).setCell (p := ⟨w.heap.size + 1 + 1 + 1 + 1, 2, none⟩) (show w.heap.size ≤ w.heap.size + 1 + 1 + 1 + 1 by omega) (.int .i64 r.port))
            have HX9 := Lib.hid (((HXV.out.far (p := ⟨w.heap.size + 1 + 1 + 1 + 1, 0, none⟩) (show w.heap.size + 1 + 1 + 1 ≠ w.heap.size + 1 + 1 + 1 + 1 by omega) (.int .i64 2)).far (p := ⟨w.heap.size + 1 + 1 + 1 + 1, 1, none⟩) (show w.heap.size + 1 + 1 + 1 ≠ w.heap.size + 1 + 1 + 1 + 1 by omega) (.int .i64 (n' : Int))).far (p := ⟨w.heap.size + 1 + 1 + 1 + 1, 2, none⟩) (show w.heap.size + 1 + 1 + 1 ≠ w.heap.size + 1 + 1 + 1 + 1 by omega) (.int .i64 r.port))
            have kY := (((HYV.out.set 0 (.int .i64 2)).set 1 (.int .i64 (n' : Int))).set 2 (.int .i64 r.port))
            simp only [List.setIfInBounds_toArray, List.set_cons_succ, List.set_cons_zero] at kY
            have HO9 := Lib.hid (ownsRow_setCell_other (a := ⟨w.heap.size + 1 + 1 + 1 + 1, 2, none⟩) (ownsRow_setCell_other (a := ⟨w.heap.size + 1 + 1 + 1 + 1, 1, none⟩) (ownsRow_setCell_other (a := ⟨w.heap.size + 1 + 1 + 1 + 1, 0, none⟩) HOV.out (fun e => own_apart HOV.out HYV.out (by decide) e.symm) (.int .i64 2)) (fun e => own_apart HOV.out HYV.out (by decide) e.symm) (.int .i64 (n' : Int))) (fun e => own_apart HOV.out HYV.out (by decide) e.symm) (.int .i64 r.port))
            have HY9 := Lib.hid kY
            clear kY HBV HNV HHV HXV HYV HOV
            generalize (((w6.setCell ⟨w.heap.size + 1 + 1 + 1 + 1, 0, none⟩ (.int .i64 2)).setCell ⟨w.heap.size + 1 + 1 + 1 + 1, 1, none⟩ (.int .i64 (n' : Int))).setCell ⟨w.heap.size + 1 + 1 + 1 + 1, 2, none⟩ (.int .i64 r.port)) = w9 at HB9 HX9 HY9 HO9 ⊢
            obtain ⟨y0, y1, y2, y3⟩ := quad HY9.out
            obtain ⟨x0, x1, x2, x3⟩ := quad HX9.out
            obtain ⟨f0, f1, f2, f3⟩ := free4 HX9.out
            obtain ⟨q0, q1, q2, q3⟩ := quad (put4 HX9.out (.int .i64 2) (.int .i64 (n' : Int)) (.int .i64 r.port) (.slice hA2 (H'.length + 1) hc2))
            have BE := Lib.hid (HB9.out.trans ((sets4 w9 (w.heap.size + 1 + 1 + 1) (.int .i64 2) (.int .i64 (n' : Int)) (.int .i64 r.port) (.slice hA2 (H'.length + 1) hc2)).mono (by omega)))
            have OE := Lib.hid (own_sets4 HX9.out HO9.out (by decide) (.int .i64 2) (.int .i64 (n' : Int)) (.int .i64 r.port) (.slice hA2 (H'.length + 1) hc2))
            clear HX9 HY9 HB9 HO9
            go_wp2
            exact bodyPost_ret (v := .agg #[.int .i64 2, .int .i64 (n' : Int), .int .i64 r.port, .slice hA2 (H'.length + 1) hc2]) (by simp [results, Try.results16, go_sem, q0, q1, q2, q3]) rfl ⟨rr_of (x := ⟨n', t', (j : Int), gh, gl⟩) (HRK.out.trans ((if_neg (by omega)).trans (if_pos hk2))) OE.out, BE.out⟩
          · rw [hk2] at c0
            have hjjl : jj < L'.length := (List.getElem?_eq_some_iff.1 hq).1
            have hjjz : (jj : Int) < (L'.length : Int) := by omega
            have hnT := sta_left HS.out
            have hnTl : n' < T.length := (List.getElem?_eq_some_iff.1 hnT).1
            have hnTz : (n' : Int) < (T.length : Int) := by omega
            rw [hpt] at c1
            obtain ⟨tA', tc', e, -, hTf⟩ := HT.out
            injection e with e1 e2 e3
            subst e1 e3
            obtain ⟨bt, ot, rfl, -, hTf⟩ := hTf (by rintro rfl; simp at hnTl)
            obtain ⟨sL, hsL, hLp⟩ := hTf n' L' hnT
            obtain ⟨LA, Lc, rfl, -, hLf⟩ := hLp
            obtain ⟨bl', ol, rfl, -, hLf⟩ := hLf (by rintro rfl; simp at hjjl)
            have hpc := (hLf jj q hq).2.2.1
            rw [hqm] at hpc
            have c8 := on_some HBV.out hsL
            have c9 := on_some HBV.out hpc
            obtain ⟨d0, -, -, -, -⟩ := HNV.out.five
            have HRQ : Hid (runF fndI T BB K i 0 sh sl [] = runF fndI T BB (K - (k + 1)) mm 0 gh2 gl2 (H' ++ [⟨n', t', (j : Int), gh, gl⟩])) := by
              show _ = _
              rw [HRK.out, if_neg (by omega), if_neg (by omega), if_neg (by omega), hpt, peer_at hnT hq hqm]
            clear hpt hqm hq hq2 hLf hsL hTf hpc hk2
            go_upto_region 14 with (fail)
            go_quiet (fail)
            have hdw := bldrewN (Below.refl w6.heap.size w6) nq
            have HBE := Lib.hid (HBV.out.trans (hdw.mono HBV.out.size))
            have HNE := Lib.hid (HNV.out.on hdw)
            have HHE := Lib.hid (HHV.out.on hdw)
            have HXE := Lib.hid (HXV.out.on hdw)
            have HYE := Lib.hid (HYV.out.on hdw)
            have HOE := Lib.hid (own_on HOV.out hdw)
            clear hdw HBV HNV HHV HXV HYV HOV c0 c1 c2 c8 c9 d0
            generalize w6.drewN nq = w7 at HBE HNE HHE HXE HYE HOE ⊢
            go_wp2
            go_roundg (K - (k + 1))
            case measure => omega
            case rel => exact ⟨k + 1, mm, 0, gh2, gl2, L2, R2, H' ++ [⟨n', t', (j : Int), gh, gl⟩], hA2, hc2, by omega, rfl, (by show _ = _; rw [List.length_append, hl'.out]; rfl), rfl, rfl, hs', HBE, HNE, HHE, HXE, by rw [List.length_append]; exact HYE, Lib.hid (own_snoc (x := ⟨n', t', (j : Int), gh, gl⟩) HOE.out), HRQ⟩
          · rw [hk2] at c0
            rw [hu] at c2
            have HRQ : Hid (runF fndI T BB K i 0 sh sl [] = runF fndI T BB (K - (k + 1)) n' u gh2 gl2 (H' ++ [⟨n', t', (j : Int), gh, gl⟩])) := by
              show _ = _
              rw [HRK.out, if_neg (by omega), if_neg (by omega), if_pos hk2, hu, Int.toNat_natCast]
            have HBE := HBV
            have HNE := HNV
            have HHE := HHV
            have HXE := HXV
            have HYE := HYV
            have HOE := HOV
            clear hu hk2 HBV HNV HHV HXV HYV HOV
            go_wp2
            go_roundg (K - (k + 1))
            case measure => omega
            case rel => exact ⟨k + 1, n', u, gh2, gl2, L', R2, H' ++ [⟨n', t', (j : Int), gh, gl⟩], hA2, hc2, by omega, rfl, (by show _ = _; rw [List.length_append, hl'.out]; rfl), rfl, rfl, hs', HBE, HNE, HHE, HXE, by rw [List.length_append]; exact HYE, Lib.hid (own_snoc (x := ⟨n', t', (j : Int), gh, gl⟩) HOE.out), HRQ⟩
      · have hltz : ¬ (H'.length : Int) < (K : Int) := by have := hl'.out; omega
        obtain rfl : k = K := by omega
        rw [Nat.sub_self] at HRN
        clear y0 y1 y2 y3
        have g0 := HY.out.free 0
        have y0 := (HY.out.cell 0).trans rfl
        have y3 := (HY.out.cell 3).trans rfl
        simp only [List.getElem?_toArray, List.getElem?_cons_succ, List.getElem?_cons_zero] at y0 y3
        go_upto_region 25 with (fail)
        clear y0 y3 g0
        have HB9 := Lib.hid (HBW.out.setCell (p := ⟨w.heap.size + 1 + 1 + 1 + 1, 0, none⟩) (show w.heap.size ≤ w.heap.size + 1 + 1 + 1 + 1 by omega) (.int .i64 4))
        have HX9 := Lib.hid (HX.out.far (p := ⟨w.heap.size + 1 + 1 + 1 + 1, 0, none⟩) (show w.heap.size + 1 + 1 + 1 ≠ w.heap.size + 1 + 1 + 1 + 1 by omega) (.int .i64 4))
        have kY := HY.out.set 0 (.int .i64 4)
        simp only [List.setIfInBounds_toArray, List.set_cons_zero] at kY
        have HO9 := Lib.hid (ownsRow_setCell_other (a := ⟨w.heap.size + 1 + 1 + 1 + 1, 0, none⟩) HO.out (fun e => own_apart HO.out HY.out (by decide) e.symm) (.int .i64 4))
        have HY9 := Lib.hid kY
        clear kY HBW HN HH HX HY HO
        generalize wr.setCell ⟨w.heap.size + 1 + 1 + 1 + 1, 0, none⟩ (.int .i64 4) = w9 at HB9 HX9 HY9 HO9 ⊢
        obtain ⟨y0, y1, y2, y3⟩ := quad HY9.out
        obtain ⟨x0, x1, x2, x3⟩ := quad HX9.out
        obtain ⟨f0, f1, f2, f3⟩ := free4 HX9.out
        obtain ⟨q0, q1, q2, q3⟩ := quad (put4 HX9.out (.int .i64 4) (.int .i64 0) (.int .i64 0) (.slice hA H'.length hc))
        have BE := Lib.hid (HB9.out.trans ((sets4 w9 (w.heap.size + 1 + 1 + 1) (.int .i64 4) (.int .i64 0) (.int .i64 0) (.slice hA H'.length hc)).mono (by omega)))
        have OE := Lib.hid (own_sets4 HX9.out HO9.out (by decide) (.int .i64 4) (.int .i64 0) (.int .i64 0) (.slice hA H'.length hc))
        clear HX9 HY9 HB9 HO9
        go_wp2
        exact bodyPost_ret (v := .agg #[.int .i64 4, .int .i64 0, .int .i64 0, .slice hA H'.length hc]) (by simp [results, Try.results16, go_sem, q0, q1, q2, q3]) rfl ⟨⟨4, 0, 0, H', hA, hc, rfl, HRN.out, OE.out⟩, BE.out⟩
end Go.Proofs

namespace Go.Proofs
open Go.RowKit Go.Proofs.Hd Go.Lib
attribute [local go_sem] uv_nonneg
theorem rsame_z (w : World) : Calls Try.prog 15 #[.agg #[.int .i64 0, .int .i64 0, .int .i64 0, .slice none 0 0], .agg #[.int .i64 0, .int .i64 0, .int .i64 0, .slice none 0 0]] w fun e w' => e = .returned (.bool true) ∧ Below w.heap.size w w' := rsame_c (H := []) (by decide) (Hs.nil w none 0) (Hs.nil w none 0)
set_option maxRecDepth 100000 in
set_option maxHeartbeats 8000000 in
theorem wruns_c (tv pv wv bv : Value) (T : List (List Pt)) (ten : Int) (P : List (Int × Int)) (Q : List Wa) (BB : List (List (List Rl))) (a b ver : Int) (hh hl : BitVec 64) (w : World) (hT : PsT w tv T) (hP : Pe w pv P) (hQ : Wy w wv Q) (hB : RuQ w bv BB) (hsz : Szd T P Q BB) : Calls Try.prog 4 #[.agg #[tv, .int .i64 ten, pv, wv, bv], .agg #[.int .i64 a, .int .i64 b], .agg #[.int .u64 (uv hh), .int .u64 (uv hl)], .int .i64 ver] w fun e w' => e = .returned (.bool true) ∧ Below w.heap.size w w' := by
  obtain ⟨K, hK⟩ : ∃ K : Nat, K = 10800 := ⟨_, rfl⟩
  have HT := Lib.hid hT
  have HP := Lib.hid hP
  have HQ := Lib.hid hQ
  have HBQ := Lib.hid hB
  have HSZ : Hid (∀ X ∈ BB, ∀ R ∈ X, R.length ≤ 4611686018427387904) := fun X hX R hR => by have := hsz.r X hX R hR; omega
  obtain ⟨tA, tc, rfl, -, -⟩ := hT
  obtain ⟨pA, pc, rfl, -, -⟩ := hP
  obtain ⟨wA, wcp, rfl, -, -⟩ := hQ
  obtain ⟨bA, bc, rfl, -, -⟩ := hB
  obtain ⟨z, hz⟩ : ∃ z, cfgT T ten P Q BB = z := ⟨_, rfl⟩
  have HZ := Lib.hid hz
  obtain ⟨ed, hed⟩ : ∃ ed, edgT T a b = ed := ⟨_, rfl⟩
  have HED := Lib.hid hed
  clear hz hed hsz
  have HB1 : Hid (Below w.heap.size w (((w.alloc (.cells #[.slice tA T.length tc, .int .i64 ten, .slice pA P.length pc, .slice wA Q.length wcp, .slice bA BB.length bc] 49)).alloc (.cells #[.int .i64 a, .int .i64 b] 51)).alloc (.cells #[.int .u64 (uv hh), .int .u64 (uv hl)] 25))) := below3 w _ _ _
  have N1 : Hid (Blk (((w.alloc (.cells #[.slice tA T.length tc, .int .i64 ten, .slice pA P.length pc, .slice wA Q.length wcp, .slice bA BB.length bc] 49)).alloc (.cells #[.int .i64 a, .int .i64 b] 51)).alloc (.cells #[.int .u64 (uv hh), .int .u64 (uv hl)] 25)) w.heap.size 49 #[.slice tA T.length tc, .int .i64 ten, .slice pA P.length pc, .slice wA Q.length wcp, .slice bA BB.length bc]) := ((Blk.new w _ _).on (below1 _ _)).on (below1 _ _)
  have M1 : Hid (Blk (((w.alloc (.cells #[.slice tA T.length tc, .int .i64 ten, .slice pA P.length pc, .slice wA Q.length wcp, .slice bA BB.length bc] 49)).alloc (.cells #[.int .i64 a, .int .i64 b] 51)).alloc (.cells #[.int .u64 (uv hh), .int .u64 (uv hl)] 25)) (w.heap.size + 1) 51 #[.int .i64 a, .int .i64 b]) := (Blk.new2 w _ _ _).on (below1 _ _)
  have K1 : Hid (Blk (((w.alloc (.cells #[.slice tA T.length tc, .int .i64 ten, .slice pA P.length pc, .slice wA Q.length wcp, .slice bA BB.length bc] 49)).alloc (.cells #[.int .i64 a, .int .i64 b] 51)).alloc (.cells #[.int .u64 (uv hh), .int .u64 (uv hl)] 25)) (w.heap.size + 1 + 1) 25 #[.int .u64 (uv hh), .int .u64 (uv hl)]) := Blk.new3 w _ _ _ _
  go_enter Try.func4, Try.ntmps4
  go_upto_region 1 with (fail)
  generalize (((w.alloc (.cells #[.slice tA T.length tc, .int .i64 ten, .slice pA P.length pc, .slice wA Q.length wcp, .slice bA BB.length bc] 49)).alloc (.cells #[.int .i64 a, .int .i64 b] 51)).alloc (.cells #[.int .u64 (uv hh), .int .u64 (uv hl)] 25)) = w1 at HB1 N1 M1 K1 ⊢
  obtain ⟨d0, d1, d2, d3, d4⟩ := N1.out.five
  obtain ⟨s0, s1⟩ := M1.out.both
  obtain ⟨h0, h1⟩ := K1.out.both
  go_wp2_with fail
  (with_reducible refine (run_c _ _ _ _ T ten P Q BB a b ver hh hl K _ hK (HT.out.on HB1.out) (HP.out.on HB1.out) (HQ.out.on HB1.out) (HBQ.out.on HB1.out) HSZ.out).mono ?_)
  rintro e w2 ⟨hr, hb⟩
  rw [HZ.out] at hr
  cases hr with
  | badz h he =>
    subst he
    have HNZ := Lib.hid h
    have hne : ¬ z = 0 := h
    clear h
    have bx := below1 w2 (.cells #[.int .i64 0, .int .i64 0, .int .i64 0, .slice none 0 0] 54)
    have hw := hb.trans (bx.mono hb.size)
    have X2 := Lib.hid (Blk.new w2 54 #[.int .i64 0, .int .i64 0, .int .i64 0, .slice none 0 0])
    have HB2 := Lib.hid (HB1.out.trans (hw.mono HB1.out.size))
    have N2 := Lib.hid (N1.out.on hw)
    have M2 := Lib.hid (M1.out.on hw)
    have K2 := Lib.hid (K1.out.on hw)
    clear hb hw HB1 N1 M1 K1 d0 d1 d2 d3 d4 s0 s1 h0 h1
    go_upto_region 2 with (fail)
    generalize hgen : w2.alloc (.cells #[.int .i64 0, .int .i64 0, .int .i64 0, .slice none 0 0] 54) = w3 at bx X2 HB2 N2 M2 K2 ⊢
    clear hgen
    generalize hgen : w2.heap.size = bq at X2 ⊢
    clear hgen
    obtain ⟨d0, d1, d2, d3, d4⟩ := N2.out.five
    go_wp2_with fail
    (with_reducible refine (rcsound_c _ _ _ _ T ten P Q BB _ (HT.out.on HB2.out) (HP.out.on HB2.out) (HQ.out.on HB2.out) (HBQ.out.on HB2.out)).mono ?_)
    rintro e w4 ⟨rfl, hb⟩
    rw [HZ.out]
    have HB4 := Lib.hid (HB2.out.trans (hb.mono HB2.out.size))
    have N4 := Lib.hid (N2.out.on hb)
    have M4 := Lib.hid (M2.out.on hb)
    have K4 := Lib.hid (K2.out.on hb)
    have X4 := Lib.hid (X2.out.on hb)
    have HBX := Lib.hid hb
    clear hb HB2 N2 M2 K2 X2 d0 d1 d2 d3 d4
    obtain ⟨d0, d1, d2, d3, d4⟩ := N4.out.five
    obtain ⟨s0, s1⟩ := M4.out.both
    go_wp2_with fail
    (with_reducible refine (awake9_c _).mono ?_)
    rintro e w6 ⟨rfl, hb⟩
    have HB6 := Lib.hid (HB4.out.trans (hb.mono HB4.out.size))
    obtain ⟨x0, x1, x2, x3⟩ := quad (X4.out.on hb)
    go_wp2_with fail
    (with_reducible refine (rsame_z _).mono ?_)
    rintro e w7 ⟨rfl, hb7⟩
    have HB7 := Lib.hid (HB6.out.trans (hb7.mono HB6.out.size))
    clear hb hb7 HB6 x0 x1 x2 x3
    go_wp2
    go_ret
    exact ⟨rfl, HB7.out⟩
  | bad4 hz h he =>
    subst hz he
    by_cases hv1 : ver < 0
    · have hv0 := hv1
      have bx := below1 w2 (.cells #[.int .i64 0, .int .i64 0, .int .i64 0, .slice none 0 0] 54)
      have hw := hb.trans (bx.mono hb.size)
      have X2 := Lib.hid (Blk.new w2 54 #[.int .i64 0, .int .i64 0, .int .i64 0, .slice none 0 0])
      have HB2 := Lib.hid (HB1.out.trans (hw.mono HB1.out.size))
      have N2 := Lib.hid (N1.out.on hw)
      have M2 := Lib.hid (M1.out.on hw)
      have K2 := Lib.hid (K1.out.on hw)
      clear hb hw HB1 N1 M1 K1 d0 d1 d2 d3 d4 s0 s1 h0 h1
      go_upto_region 2 with (fail)
      generalize hgen : w2.alloc (.cells #[.int .i64 0, .int .i64 0, .int .i64 0, .slice none 0 0] 54) = w3 at bx X2 HB2 N2 M2 K2 ⊢
      clear hgen
      generalize hgen : w2.heap.size = bq at X2 ⊢
      clear hgen
      obtain ⟨d0, d1, d2, d3, d4⟩ := N2.out.five
      go_wp2_with fail
      (with_reducible refine (rcsound_c _ _ _ _ T ten P Q BB _ (HT.out.on HB2.out) (HP.out.on HB2.out) (HQ.out.on HB2.out) (HBQ.out.on HB2.out)).mono ?_)
      rintro e w4 ⟨rfl, hb⟩
      rw [HZ.out]
      have HB4 := Lib.hid (HB2.out.trans (hb.mono HB2.out.size))
      have N4 := Lib.hid (N2.out.on hb)
      have M4 := Lib.hid (M2.out.on hb)
      have K4 := Lib.hid (K2.out.on hb)
      have X4 := Lib.hid (X2.out.on hb)
      have HBX := Lib.hid hb
      clear hb HB2 N2 M2 K2 X2 d0 d1 d2 d3 d4
      obtain ⟨d0, d1, d2, d3, d4⟩ := N4.out.five
      obtain ⟨s0, s1⟩ := M4.out.both
      go_wp2_with fail
      (with_reducible refine (awake9_c _).mono ?_)
      rintro e w6 ⟨rfl, hb⟩
      have HB6 := Lib.hid (HB4.out.trans (hb.mono HB4.out.size))
      obtain ⟨x0, x1, x2, x3⟩ := quad (X4.out.on hb)
      go_wp2_with fail
      (with_reducible refine (rsame_z _).mono ?_)
      rintro e w7 ⟨rfl, hb7⟩
      have HB7 := Lib.hid (HB6.out.trans (hb7.mono HB6.out.size))
      clear hb hb7 HB6 x0 x1 x2 x3
      go_wp2
      go_ret
      exact ⟨rfl, HB7.out⟩
    · have hv2 : 255 < ver := by omega
      clear h
      have bx := below1 w2 (.cells #[.int .i64 0, .int .i64 0, .int .i64 0, .slice none 0 0] 54)
      have hw := hb.trans (bx.mono hb.size)
      have X2 := Lib.hid (Blk.new w2 54 #[.int .i64 0, .int .i64 0, .int .i64 0, .slice none 0 0])
      have HB2 := Lib.hid (HB1.out.trans (hw.mono HB1.out.size))
      have N2 := Lib.hid (N1.out.on hw)
      have M2 := Lib.hid (M1.out.on hw)
      have K2 := Lib.hid (K1.out.on hw)
      clear hb hw HB1 N1 M1 K1 d0 d1 d2 d3 d4 s0 s1 h0 h1
      go_upto_region 2 with (fail)
      generalize hgen : w2.alloc (.cells #[.int .i64 0, .int .i64 0, .int .i64 0, .slice none 0 0] 54) = w3 at bx X2 HB2 N2 M2 K2 ⊢
      clear hgen
      generalize hgen : w2.heap.size = bq at X2 ⊢
      clear hgen
      obtain ⟨d0, d1, d2, d3, d4⟩ := N2.out.five
      go_wp2_with fail
      (with_reducible refine (rcsound_c _ _ _ _ T ten P Q BB _ (HT.out.on HB2.out) (HP.out.on HB2.out) (HQ.out.on HB2.out) (HBQ.out.on HB2.out)).mono ?_)
      rintro e w4 ⟨rfl, hb⟩
      rw [HZ.out]
      have HB4 := Lib.hid (HB2.out.trans (hb.mono HB2.out.size))
      have N4 := Lib.hid (N2.out.on hb)
      have M4 := Lib.hid (M2.out.on hb)
      have K4 := Lib.hid (K2.out.on hb)
      have X4 := Lib.hid (X2.out.on hb)
      have HBX := Lib.hid hb
      clear hb HB2 N2 M2 K2 X2 d0 d1 d2 d3 d4
      obtain ⟨d0, d1, d2, d3, d4⟩ := N4.out.five
      obtain ⟨s0, s1⟩ := M4.out.both
      go_wp2_with fail
      (with_reducible refine (awake9_c _).mono ?_)
      rintro e w6 ⟨rfl, hb⟩
      have HB6 := Lib.hid (HB4.out.trans (hb.mono HB4.out.size))
      obtain ⟨x0, x1, x2, x3⟩ := quad (X4.out.on hb)
      go_wp2_with fail
      (with_reducible refine (rsame_z _).mono ?_)
      rintro e w7 ⟨rfl, hb7⟩
      have HB7 := Lib.hid (HB6.out.trans (hb7.mono HB6.out.size))
      clear hb hb7 HB6 x0 x1 x2 x3
      go_wp2
      go_ret
      exact ⟨rfl, HB7.out⟩
  | bad7 hz hv h he =>
    subst hz he
    rw [HED.out] at h
    have hv1 : ¬ ver < 0 := by omega
    have hv2 : ¬ 255 < ver := by omega
    clear hv
    have bx := below1 w2 (.cells #[.int .i64 0, .int .i64 0, .int .i64 0, .slice none 0 0] 54)
    have hw := hb.trans (bx.mono hb.size)
    have X2 := Lib.hid (Blk.new w2 54 #[.int .i64 0, .int .i64 0, .int .i64 0, .slice none 0 0])
    have HB2 := Lib.hid (HB1.out.trans (hw.mono HB1.out.size))
    have N2 := Lib.hid (N1.out.on hw)
    have M2 := Lib.hid (M1.out.on hw)
    have K2 := Lib.hid (K1.out.on hw)
    clear hb hw HB1 N1 M1 K1 d0 d1 d2 d3 d4 s0 s1 h0 h1
    go_upto_region 2 with (fail)
    generalize hgen : w2.alloc (.cells #[.int .i64 0, .int .i64 0, .int .i64 0, .slice none 0 0] 54) = w3 at bx X2 HB2 N2 M2 K2 ⊢
    clear hgen
    generalize hgen : w2.heap.size = bq at X2 ⊢
    clear hgen
    obtain ⟨d0, d1, d2, d3, d4⟩ := N2.out.five
    go_wp2_with fail
    (with_reducible refine (rcsound_c _ _ _ _ T ten P Q BB _ (HT.out.on HB2.out) (HP.out.on HB2.out) (HQ.out.on HB2.out) (HBQ.out.on HB2.out)).mono ?_)
    rintro e w4 ⟨rfl, hb⟩
    rw [HZ.out]
    have HB4 := Lib.hid (HB2.out.trans (hb.mono HB2.out.size))
    have N4 := Lib.hid (N2.out.on hb)
    have M4 := Lib.hid (M2.out.on hb)
    have K4 := Lib.hid (K2.out.on hb)
    have X4 := Lib.hid (X2.out.on hb)
    have HBX := Lib.hid hb
    clear hb HB2 N2 M2 K2 X2 d0 d1 d2 d3 d4
    obtain ⟨d0, d1, d2, d3, d4⟩ := N4.out.five
    obtain ⟨s0, s1⟩ := M4.out.both
    go_wp2_with fail
    (with_reducible refine (redge_c _ T a b _ (HT.out.on HB4.out)).mono ?_)
    rintro e w5 ⟨rfl, hb⟩
    rw [HED.out]
    have HB5 := Lib.hid (HB4.out.trans (hb.mono HB4.out.size))
    have N5 := Lib.hid (N4.out.on hb)
    have M5 := Lib.hid (M4.out.on hb)
    have K5 := Lib.hid (K4.out.on hb)
    have X5 := Lib.hid (X4.out.on hb)
    have HBY := Lib.hid (HBX.out.trans (hb.mono HBX.out.size))
    clear hb HB4 N4 M4 K4 X4 HBX d0 d1 d2 d3 d4 s0 s1
    go_wp2_with fail
    (with_reducible refine (awake9_c _).mono ?_)
    rintro e w6 ⟨rfl, hb⟩
    have HB6 := Lib.hid (HB5.out.trans (hb.mono HB5.out.size))
    obtain ⟨x0, x1, x2, x3⟩ := quad (X5.out.on hb)
    go_wp2_with fail
    (with_reducible refine (rsame_z _).mono ?_)
    rintro e w7 ⟨rfl, hb7⟩
    have HB7 := Lib.hid (HB6.out.trans (hb7.mono HB6.out.size))
    clear hb hb7 HB6 x0 x1 x2 x3
    go_wp2
    go_ret
    exact ⟨rfl, HB7.out⟩
  | @ok n m i fin sw sp H hA hc hz hn hm hed hver ha hr he ho =>
    subst hz ha hver
    rw [HED.out] at hed
    have hHl : H.length ≤ 1000000 := by
      have h := runF_len fndI T BB K i 0 (num (sF hh hl n m) 64 64) (num (sF hh hl n m) 0 64) []
      rw [hr] at h
      have h2 : H.length ≤ 0 + K := h
      omega
    subst he
    have HHS0 := Lib.hid (Hs.of_own ho)
    have hv1 : ¬ (m : Int) < 0 := by omega
    have hv2 : ¬ (255 : Int) < (m : Int) := by omega
    have hed2 : ¬ ed < 0 := by omega
    have HED2 := Lib.hid hed
    have HR := Lib.hid hr
    clear hr hed ho
    have bx := below1 w2 (.cells #[.int .i64 fin, .int .i64 sw, .int .i64 sp, .slice hA H.length hc] 54)
    have hw := hb.trans (bx.mono hb.size)
    have X2 := Lib.hid (Blk.new w2 54 #[.int .i64 fin, .int .i64 sw, .int .i64 sp, .slice hA H.length hc])
    have HB2 := Lib.hid (HB1.out.trans (hw.mono HB1.out.size))
    have N2 := Lib.hid (N1.out.on hw)
    have M2 := Lib.hid (M1.out.on hw)
    have K2 := Lib.hid (K1.out.on hw)
    clear hb hw HB1 N1 M1 K1 d0 d1 d2 d3 d4 s0 s1 h0 h1
    go_upto_region 2 with (fail)
    generalize hgen : w2.alloc (.cells #[.int .i64 fin, .int .i64 sw, .int .i64 sp, .slice hA H.length hc] 54) = w3 at bx X2 HB2 N2 M2 K2 ⊢
    clear hgen
    generalize hgen : w2.heap.size = bq at X2 ⊢
    clear hgen
    obtain ⟨d0, d1, d2, d3, d4⟩ := N2.out.five
    go_wp2_with fail
    (with_reducible refine (rcsound_c _ _ _ _ T ten P Q BB _ (HT.out.on HB2.out) (HP.out.on HB2.out) (HQ.out.on HB2.out) (HBQ.out.on HB2.out)).mono ?_)
    rintro e w4 ⟨rfl, hb⟩
    rw [HZ.out]
    have HB4 := Lib.hid (HB2.out.trans (hb.mono HB2.out.size))
    have N4 := Lib.hid (N2.out.on hb)
    have M4 := Lib.hid (M2.out.on hb)
    have K4 := Lib.hid (K2.out.on hb)
    have X4 := Lib.hid (X2.out.on hb)
    have HBX := Lib.hid hb
    clear hb HB2 N2 M2 K2 X2 d0 d1 d2 d3 d4
    obtain ⟨d0, d1, d2, d3, d4⟩ := N4.out.five
    obtain ⟨s0, s1⟩ := M4.out.both
    go_wp2_with fail
    (with_reducible refine (redge_c _ T (i : Int) b _ (HT.out.on HB4.out)).mono ?_)
    rintro e w5 ⟨rfl, hb⟩
    rw [HED.out]
    have HB5 := Lib.hid (HB4.out.trans (hb.mono HB4.out.size))
    have N5 := Lib.hid (N4.out.on hb)
    have M5 := Lib.hid (M4.out.on hb)
    have K5 := Lib.hid (K4.out.on hb)
    have X5 := Lib.hid (X4.out.on hb)
    have HBY := Lib.hid (HBX.out.trans (hb.mono HBX.out.size))
    clear hb HB4 N4 M4 K4 X4 HBX d0 d1 d2 d3 d4 s0 s1
    have HHS := Lib.hid (HHS0.out.on (bx.trans (HBY.out.mono bx.size)))
    have HRUN : Hid (∀ u : World, Below w.heap.size w u → Calls Try.prog 16 #[.agg #[.slice tA T.length tc, .int .i64 ten, .slice pA P.length pc, .slice wA Q.length wcp, .slice bA BB.length bc], .agg #[.int .i64 (i : Int), .int .i64 b], .agg #[.int .u64 (uv hh), .int .u64 (uv hl)], .int .i64 (m : Int), .int .i64 10800] u fun e w' => ∃ hA9 hc9, e = .returned (.agg #[.int .i64 fin, .int .i64 sw, .int .i64 sp, .slice hA9 H.length hc9]) ∧ Hs w' hA9 hc9 H ∧ Below u.heap.size u w') := fun u hu => by
      obtain ⟨i', L0, R0, ei, hsta⟩ := edge_sta HZ.out (a := (i : Int)) (b := b) (by rw [HED.out]; omega)
      obtain rfl : i = i' := by omega
      have h := rrun_c _ _ _ _ T ten P Q BB i b n m hh hl K u (by omega) (HT.out.on hu) (HP.out.on hu) (HQ.out.on hu) (HBQ.out.on hu) HZ.out (HED.out.trans HED2.out) hn hm hsta HSZ.out
      have hKz : (K : Int) = 10800 := by omega
      rw [hKz] at h
      refine h.mono fun e w' hh => ?_
      obtain ⟨⟨fin2, sw2, sp2, H2, hA2, hc2, he, hr2, ho2⟩, hb⟩ := hh
      rw [HR.out] at hr2
      injection hr2 with r1 r2 r3 r4
      subst r1 r2 r3 r4
      exact ⟨hA2, hc2, he, Hs.of_own ho2, hb⟩
    clear HHS0 bx HBY
    go_upto_region 10 with (fail)
    have HKP : Hid (∀ W, Below w5.heap.size w5 W → (Below w5.heap.size w5 W ∧ W.cell? ⟨w.heap.size, 0, none⟩ = some (.slice tA T.length tc) ∧ W.cell? ⟨w.heap.size, 1, none⟩ = some (.int .i64 ten) ∧ W.cell? ⟨w.heap.size, 2, none⟩ = some (.slice pA P.length pc) ∧ W.cell? ⟨w.heap.size, 3, none⟩ = some (.slice wA Q.length wcp) ∧ W.cell? ⟨w.heap.size, 4, none⟩ = some (.slice bA BB.length bc) ∧ W.cell? ⟨w.heap.size + 1, 0, none⟩ = some (.int .i64 (i : Int)) ∧ W.cell? ⟨w.heap.size + 1, 1, none⟩ = some (.int .i64 b) ∧ W.cell? ⟨w.heap.size + 1 + 1, 0, none⟩ = some (.int .u64 (uv hh)) ∧ W.cell? ⟨w.heap.size + 1 + 1, 1, none⟩ = some (.int .u64 (uv hl)) ∧ W.cell? ⟨bq, 0, none⟩ = some (.int .i64 fin) ∧ W.cell? ⟨bq, 1, none⟩ = some (.int .i64 sw) ∧ W.cell? ⟨bq, 2, none⟩ = some (.int .i64 sp) ∧ W.cell? ⟨bq, 3, none⟩ = some (.slice hA H.length hc))) := fun W hb => by
      obtain ⟨d0, d1, d2, d3, d4⟩ := (N5.out.on hb).five
      obtain ⟨s0, s1⟩ := (M5.out.on hb).both
      obtain ⟨h0, h1⟩ := (K5.out.on hb).both
      obtain ⟨x0, x1, x2, x3⟩ := quad (X5.out.on hb)
      exact ⟨hb, d0, d1, d2, d3, d4, s0, s1, h0, h1, x0, x1, x2, x3⟩
    refine wp_region_held_drew (S := fun w' => Below w5.heap.size w5 w' ∧ w'.cell? ⟨w.heap.size, 0, none⟩ = some (.slice tA T.length tc) ∧ w'.cell? ⟨w.heap.size, 1, none⟩ = some (.int .i64 ten) ∧ w'.cell? ⟨w.heap.size, 2, none⟩ = some (.slice pA P.length pc) ∧ w'.cell? ⟨w.heap.size, 3, none⟩ = some (.slice wA Q.length wcp) ∧ w'.cell? ⟨w.heap.size, 4, none⟩ = some (.slice bA BB.length bc) ∧ w'.cell? ⟨w.heap.size + 1, 0, none⟩ = some (.int .i64 (i : Int)) ∧ w'.cell? ⟨w.heap.size + 1, 1, none⟩ = some (.int .i64 b) ∧ w'.cell? ⟨w.heap.size + 1 + 1, 0, none⟩ = some (.int .u64 (uv hh)) ∧ w'.cell? ⟨w.heap.size + 1 + 1, 1, none⟩ = some (.int .u64 (uv hl)) ∧ w'.cell? ⟨bq, 0, none⟩ = some (.int .i64 fin) ∧ w'.cell? ⟨bq, 1, none⟩ = some (.int .i64 sw) ∧ w'.cell? ⟨bq, 2, none⟩ = some (.int .i64 sp) ∧ w'.cell? ⟨bq, 3, none⟩ = some (.slice hA H.length hc)) (by kernel_rfl) (HKP.out _ (Below.refl _ w5).drew) (fun hHeld => ?_)
    have hB := (Below.refl w5.heap.size w5).drew
    generalize w5.drew = u0 at hHeld hB ⊢
    refine wpAnyH_ready (rs := [0]) (by kernel_rfl) (by simp) ?_
    refine AllReadyH.cons (o := ⟨some 51, _, _, _, _, _⟩) rfl (fun K hK => ?_) AllReadyH.nil
    go_simp
    (with_reducible refine (awake9_c u0).mono ?_)
    rintro e u1 ⟨rfl, hb⟩
    (try dsimp only)
    have hB2 := hB.trans (hb.mono hB.size)
    refine hK.out _ _ (HKP.out _ hB2) (fun hNext => ?_)
    clear hK K hHeld
    have hHeld := hNext
    clear hNext
    clear hB
    have hB := hB2
    clear hB2
    clear hb
    try simp only [Act.put, List.setIfInBounds_toArray, List.set_cons_zero, List.set_cons_succ]
    refine wpAnyH_take (i := 1) (oi := ⟨some 52, _, _, _, _, _⟩) (v := ?vwr1_1) rfl (by kernel_rfl) (by kernel_rfl) (by kernel_rfl) (fun _ _ _ h => h) (Or.inl ⟨by rfl, ?ywr1_1⟩) hHeld ?rwr1_1
    case ywr1_1 => (intro w' hSw; (try dsimp only at hSw); go_simp; try (with_reducible rfl))
    simp only [Act.put, List.setIfInBounds_toArray, List.set_cons_zero, List.set_cons_succ]
    refine wpAnyH_take (i := 2) (oi := ⟨some 53, _, _, _, _, _⟩) (v := ?vwr2_2) rfl (by kernel_rfl) (by kernel_rfl) (by kernel_rfl) (fun _ _ _ h => h) (Or.inl ⟨by rfl, ?ywr2_2⟩) hHeld ?rwr2_2
    case ywr2_2 => (intro w' hSw; (try dsimp only at hSw); go_simp; try (with_reducible rfl))
    simp only [Act.put, List.setIfInBounds_toArray, List.set_cons_zero, List.set_cons_succ]
    refine wpAnyH_take (i := 3) (oi := ⟨some 54, _, _, _, _, _⟩) (v := ?vwr3_3) rfl (by kernel_rfl) (by kernel_rfl) (by kernel_rfl) (fun _ _ _ h => h) (Or.inl ⟨by rfl, ?ywr3_3⟩) hHeld ?rwr3_3
    case ywr3_3 => (intro w' hSw; (try dsimp only at hSw); go_simp; try (with_reducible rfl))
    simp only [Act.put, List.setIfInBounds_toArray, List.set_cons_zero, List.set_cons_succ]
    refine wpAnyH_take (i := 4) (oi := ⟨some 55, _, _, _, _, _⟩) (v := ?vwr4_4) rfl (by kernel_rfl) (by kernel_rfl) (by kernel_rfl) (fun _ _ _ h => h) (Or.inl ⟨by rfl, ?ywr4_4⟩) hHeld ?rwr4_4
    case ywr4_4 => (intro w' hSw; (try dsimp only at hSw); go_simp; try (with_reducible rfl))
    simp only [Act.put, List.setIfInBounds_toArray, List.set_cons_zero, List.set_cons_succ]
    refine wpAnyH_take (i := 5) (oi := ⟨some 56, _, _, _, _, _⟩) (v := ?vwr5_5) rfl (by kernel_rfl) (by kernel_rfl) (by kernel_rfl) (fun _ _ _ h => h) (Or.inl ⟨by rfl, ?ywr5_5⟩) hHeld ?rwr5_5
    case ywr5_5 => (intro w' hSw; (try dsimp only at hSw); go_simp; try (with_reducible rfl))
    simp only [Act.put, List.setIfInBounds_toArray, List.set_cons_zero, List.set_cons_succ]
    refine wpAnyH_take (i := 6) (oi := ⟨some 57, _, _, _, _, _⟩) (v := ?vwr6_6) rfl (by kernel_rfl) (by kernel_rfl) (by kernel_rfl) (fun _ _ _ h => h) (Or.inl ⟨by rfl, ?ywr6_6⟩) hHeld ?rwr6_6
    case ywr6_6 => (intro w' hSw; (try dsimp only at hSw); go_simp; try (with_reducible rfl))
    simp only [Act.put, List.setIfInBounds_toArray, List.set_cons_zero, List.set_cons_succ]
    refine wpAnyH_take (i := 7) (oi := ⟨some 58, _, _, _, _, _⟩) (v := ?vwr7_7) rfl (by kernel_rfl) (by kernel_rfl) (by kernel_rfl) (fun _ _ _ h => h) (Or.inl ⟨by rfl, ?ywr7_7⟩) hHeld ?rwr7_7
    case ywr7_7 => (intro w' hSw; (try dsimp only at hSw); go_simp; try (with_reducible rfl))
    simp only [Act.put, List.setIfInBounds_toArray, List.set_cons_zero, List.set_cons_succ]
    refine wpAnyH_take (i := 8) (oi := ⟨some 59, _, _, _, _, _⟩) (v := ?vwr8_8) rfl (by kernel_rfl) (by kernel_rfl) (by kernel_rfl) (fun _ _ _ h => h) (Or.inl ⟨by rfl, ?ywr8_8⟩) hHeld ?rwr8_8
    case ywr8_8 => (intro w' hSw; (try dsimp only at hSw); go_simp; try (with_reducible rfl))
    simp only [Act.put, List.setIfInBounds_toArray, List.set_cons_zero, List.set_cons_succ]
    refine wpAnyH_take (i := 9) (oi := ⟨some 60, _, _, _, _, _⟩) (v := ?vwr9_9) rfl (by kernel_rfl) (by kernel_rfl) (by kernel_rfl) (fun _ _ _ h => h) (Or.inl ⟨by rfl, ?ywr9_9⟩) hHeld ?rwr9_9
    case ywr9_9 => (intro w' hSw; (try dsimp only at hSw); go_simp; try (with_reducible rfl))
    simp only [Act.put, List.setIfInBounds_toArray, List.set_cons_zero, List.set_cons_succ]
    refine wpAnyH_take (i := 10) (oi := ⟨some 61, _, _, _, _, _⟩) (v := ?vwr10_10) rfl (by kernel_rfl) (by kernel_rfl) (by kernel_rfl) (fun _ _ _ h => h) (Or.inl ⟨by rfl, ?ywr10_10⟩) hHeld ?rwr10_10
    case ywr10_10 => (intro w' hSw; (try dsimp only at hSw); go_simp; try (with_reducible rfl))
    simp only [Act.put, List.setIfInBounds_toArray, List.set_cons_zero, List.set_cons_succ]
    refine wpAnyH_ready (rs := [11]) (by kernel_rfl) (by simp) ?_
    refine AllReadyH.cons (o := ⟨some 62, _, _, _, _, _⟩) rfl (fun K hK => ?_) AllReadyH.nil
    go_simp
    (with_reducible refine (HRUN.out u1 (HB5.out.trans (hB.mono HB5.out.size))).mono ?_)
    rintro e u2 ⟨hA9, hc9, rfl, hQ9, hb⟩
    (try dsimp only)
    have hB2 := hB.trans (hb.mono hB.size)
    refine hK.out _ _ (HKP.out _ hB2) (fun hNext => ?_)
    clear hK K hHeld
    have hHeld := hNext
    clear hNext
    clear hB
    have hB := hB2
    clear hB2
    clear hb
    try simp only [Act.put, List.setIfInBounds_toArray, List.set_cons_zero, List.set_cons_succ]
    refine wpAnyH_ready (rs := [12]) (by kernel_rfl) (by simp) ?_
    refine AllReadyH.cons (o := ⟨some 63, _, _, _, _, _⟩) rfl (fun K hK => ?_) AllReadyH.nil
    go_simp
    (with_reducible refine (rsame_c hHl (HHS.out.on hB) hQ9).mono ?_)
    rintro e u3 ⟨rfl, hb⟩
    (try dsimp only)
    have hB2 := hB.trans (hb.mono hB.size)
    refine hK.out _ _ (HKP.out _ hB2) (fun hNext => ?_)
    clear hK K hHeld
    have hHeld := hNext
    clear hNext
    clear hB
    have hB := hB2
    clear hB2
    clear hb
    try simp only [Act.put, List.setIfInBounds_toArray, List.set_cons_zero, List.set_cons_succ]
    refine wpAnyH_take (i := 13) (oi := ⟨some 64, _, _, _, _, _⟩) (v := ?vwr13_11) rfl (by kernel_rfl) (by kernel_rfl) (by kernel_rfl) (fun _ _ _ h => h) (Or.inl ⟨by rfl, ?ywr13_11⟩) hHeld ?rwr13_11
    case ywr13_11 => (intro w' hSw; (try dsimp only at hSw); go_simp; try (with_reducible rfl))
    simp only [Act.put, List.setIfInBounds_toArray, List.set_cons_zero, List.set_cons_succ]
    refine wpAnyH_take (i := 14) (oi := ⟨some 8, _, _, _, _, _⟩) (v := ?vwr14_12) rfl (by kernel_rfl) (by kernel_rfl) (by kernel_rfl) (fun _ _ _ h => h) (Or.inl ⟨by rfl, ?ywr14_12⟩) hHeld ?rwr14_12
    case ywr14_12 => (intro w' hSw; (try dsimp only at hSw); go_simp; try (with_reducible rfl))
    simp only [Act.put, List.setIfInBounds_toArray, List.set_cons_zero, List.set_cons_succ]
    refine wpAnyH_done (by kernel_rfl) ?_ _
    have HBE := Lib.hid (HB5.out.trans (hB.mono HB5.out.size))
    clear hHeld hB HKP HB5 N5 M5 K5 X5
    go_wp2
    go_ret
    exact ⟨rfl, HBE.out⟩
end Go.Proofs

namespace Go.Proofs.Ytgoenjpllepdjaa
open Go.ChangeShapes Go.WideShapes Go.ChangeAt Go.RowKit Go.Joins Go.Proofs.Hd

theorem laidOut_wruns : laidOutB Try.prog = true := by kernel_rfl
set_option maxRecDepth 100000 in
theorem wruns_lifted (os : Os) (started : os.Started) (H : Type) (enc : TypeId × Value → H) :
    ReturnsInHanded {} Try.checked os 4 .any (Rows.walkRunsSpec.pre6 enc Try.prog Try.f4 Rows.walkRunsRow.domain false) (Rows.walkRunsSpec.post enc Try.prog Try.f4 false true false false) := by
  refine returnsInHanded_of_change_sized (C := Try.checked) own started (by kernel_rfl) Try.func4
    (ChangeSpec.witness6 (enc := enc) (C := Try.checked) false ⟨#[], #[.agg #[.slice none 0 0, .int .i64 0, .slice none 0 0, .slice none 0 0, .slice none 0 0], .agg #[.int .i64 0, .int .i64 0], .agg #[.int .u64 0, .int .u64 0], .int .i64 0], []⟩ 8 (by kernel_rfl) (by kernel_rfl) (by kernel_rfl) (by kernel_rfl)) ?_
  intro W base args ds gs before hval0 hW hcnd hsz _
  have hval : ∀ (j : Nat) t v, Try.f4.params[j]? = some t → args[j]? = some v → Value.okWide Try.prog W .any base t v := hval0
  have hW' := hW
  obtain ⟨p, q, hA0, hV, rfl, hfz, hnd⟩ := hW
  have hA : DataW.TrodAll enc Try.prog W 0 (fun _ => true) true Try.f4.params.toList args.toList ds p := hA0
  rw [Try.params4] at hA hval
  obtain ⟨v0, vs0, d0, ds0, p0, q0, hargs, rfl, rfl, h0, r0⟩ := trodAll_cons hA
  obtain ⟨v1, vs1, d1, ds1, p1, q1, rfl, rfl, rfl, h1, r1⟩ := trodAll_cons r0
  obtain ⟨v2, vs2, d2, ds2, p2, q2, rfl, rfl, rfl, h2, r2⟩ := trodAll_cons r1
  obtain ⟨v3, vs3, d3, ds3, p3, q3, rfl, rfl, rfl, h3, r3⟩ := trodAll_cons r2
  obtain ⟨rfl, rfl, rfl⟩ := trodAll_nil r3
  obtain rfl : args = #[v0, v1, v2, v3] := by cases args; simp_all
  obtain ⟨rfl, rfl⟩ := trodVars_none hV
  have k0 := h0
  have lt0 : ∀ x ∈ p0, x.block < W.heap.size := by obtain ⟨m, hm⟩ := k0; exact DataW.trod_lt m _ _ _ hm
  obtain ⟨ctv, cT, cn, cpv, cP, cwv, cQ, cbv, cB, rfl, chT, chP, chQ, chB, cz⟩ := open_cfg (hval 0 49 v0 rfl rfl) h0
  have cs := cz fun m hm => by simpa using List.all_eq_true.1 hsz m (DataW.weights_mem_each (j := 0) (t := 49) (by rw [Try.params4]; rfl) rfl m hm)
  have k1 := h1
  have lt1 : ∀ x ∈ p1, x.block < W.heap.size := by obtain ⟨m, hm⟩ := k1; exact DataW.trod_lt m _ _ _ hm
  obtain ⟨sa, sb, rfl⟩ := open_spot (hval 1 51 v1 rfl rfl) h1
  obtain ⟨hh, hl, rfl, rfl, rfl, s2⟩ := open_head (hval 2 25 v2 rfl rfl) h2
  obtain ⟨v, rfl, rfl, rfl, wf3⟩ := open_int Try.underlying3 (hval 3 3 v3 rfl rfl) h3
  clear hA0 hval0
  obtain ⟨bv1, bv2⟩ := bounds_i64 wf3
  refine (wruns_c ctv cpv cwv cbv cT cn cP cQ cB sa sb v hh hl W chT chP chQ chB cs).mono fun e W' ⟨he, hg⟩ => ?_
  subst he
  exact ⟨_, rfl, _, _, _, [], _, [], hW', trodAll_mk1 (shut_bool Try.underlying4 _), (trodAll_cons_mk (Below.trod laidOut_wruns (by kernel_rfl) (of_decide_eq_true (by kernel_rfl)) k0 hg lt0) (trodAll_cons_mk (Below.trod laidOut_wruns (by kernel_rfl) (of_decide_eq_true (by kernel_rfl)) k1 hg lt1) (trodAll_cons_mk (s2 _ _) (trodAll_cons_mk (shut_int Try.underlying3 wf3) trodAll_mk0)))), rfl, hg.frame _, (fun h => by cases h)⟩

theorem wruns_holds : Rows.WalkRunsSaid :=
  OpenClaim.holds_of_wide 4 Try.f4 rfl rfl rfl rfl rfl rfl rfl ⟨rfl, rfl, rfl, rfl, rfl⟩ rfl rfl rfl rfl rfl (by kernel_rfl) Try.func4 (by kernel_rfl)
    (of_decide_eq_true (by kernel_rfl)) (by unfold Func.isWrapper; first | (rw [if_pos (by decide +kernel)]; kernel_rfl) | (rw [if_neg (by decide +kernel)]; exact ⟨rfl, rfl⟩))
    (fun os started H enc _ => wruns_lifted os started H enc)
#print axioms wruns_holds
end Go.Proofs.Ytgoenjpllepdjaa
