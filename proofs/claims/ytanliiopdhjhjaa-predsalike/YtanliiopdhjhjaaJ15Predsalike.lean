/-
  customhouselaw13.PredsAlike returns true for every input within the sizes of memory, and each argument reads behind the call as before. No conditions.
  Contract of the reference's Run of layer 9. Conditions as the theorem lists them.
  Contracts of the reference's Same of layer 9 at equal runs, of walk.Passed and of the generics that it calls. Conditions as each theorem lists them.
  The walk of customhouselaw13.PredsAlike: it returns true. Conditions as the theorem lists them.
-/
import Derived.Test.YtanliiopdhjhjaaJ14Predsalike
import Derived.Deep.LoopGhost
import Derived.BigQuiet
import Derived.OrdersHeld
import Derived.Test.YtanliiopdhjhjaaRows
import Derived.Below
import Derived.SizedLaws
namespace Go.Proofs.Hd
open Go.RowKit
theorem Blk.far2 {w : World} {g b : Nat} {t : TypeId} {cs : Array Value} (h : Blk w g t cs) (hne : g ≠ b) (x y : Value) : Blk ((w.setCell ⟨b, 0, none⟩ x).setCell ⟨b, 1, none⟩ y) g t cs := (h.far (p := ⟨b, 0, none⟩) hne x).far (p := ⟨b, 1, none⟩) hne y
theorem cell_far2 {w : World} {p : Addr} {b : Nat} {v : Value} (hne : p.block ≠ b) (x y : Value) (h : w.cell? p = some v) : ((w.setCell ⟨b, 0, none⟩ x).setCell ⟨b, 1, none⟩ y).cell? p = some v :=
  (World.cell?_of_block (Below.heap_setCell _ ⟨b, 1, none⟩ y p.block hne)).trans ((World.cell?_of_block (Below.heap_setCell w ⟨b, 0, none⟩ x p.block hne)).trans h)
theorem own_far2 {w : World} {g base : Nat} {t e : TypeId} {size n : Nat} {v : Value} {xs : List Value} {cs : Array Value} (hx : Blk w g t cs) (ho : w.ownsRow base e size v n xs) (hne : e ≠ t) (a0 a1 : Value) : ((w.setCell ⟨g, 0, none⟩ a0).setCell ⟨g, 1, none⟩ a1).ownsRow base e size v n xs := by
  have hv : v.ownBlock ≠ some g := fun h => own_apart ho hx hne h.symm
  exact ownsRow_setCell_other (ownsRow_setCell_other ho hv a0) hv a1
theorem own_snoc {base : Nat} {w : World} {hA : Option Addr} {hc : Nat} {H : List Hp} {x : Hp} (h : w.ownsRow base 66 5 (.slice hA (H.length + 1) hc) (H.length + 1) (H.flatMap Hp.cs ++ x.cs)) : w.ownsRow base 66 5 (.slice hA (H ++ [x]).length hc) (H ++ [x]).length ((H ++ [x]).flatMap Hp.cs) := by
  have e : (H ++ [x]).length = H.length + 1 := by simp
  have e2 : (H ++ [x]).flatMap Hp.cs = H.flatMap Hp.cs ++ x.cs := by simp
  rw [e, e2]
  exact h
/-- What the reference's Run answers. -/
def RR (T : List (List Pt)) (BB : List (List (List Rl))) (K i : Nat) (sh sl : BitVec 64) (base : Nat) (e : Ending) (w' : World) : Prop := ∃ (fin sw sp : Int) (H : List Hp) (hA : Option Addr) (hc : Nat), e = .returned (.agg #[.int .i64 fin, .int .i64 sw, .int .i64 sp, .slice hA H.length hc]) ∧ runF fndI T BB K i 0 sh sl [] = ⟨fin, sw, sp, H⟩ ∧ w'.ownsRow base 66 5 (.slice hA H.length hc) H.length (H.flatMap Hp.cs)
theorem rr_of {T : List (List Pt)} {BB : List (List (List Rl))} {K i : Nat} {sh sl : BitVec 64} {base : Nat} {w' : World} {fin sw sp : Int} {H : List Hp} {x : Hp} {hA : Option Addr} {hc : Nat} (hr : runF fndI T BB K i 0 sh sl [] = ⟨fin, sw, sp, H ++ [x]⟩) (ho : w'.ownsRow base 66 5 (.slice hA (H.length + 1) hc) (H.length + 1) (H.flatMap Hp.cs ++ x.cs)) : RR T BB K i sh sl base (.returned (.agg #[.int .i64 fin, .int .i64 sw, .int .i64 sp, .slice hA (H.length + 1) hc])) w' :=
  ⟨fin, sw, sp, H ++ [x], hA, hc, by rw [List.length_append]; rfl, hr, own_snoc ho⟩
end Go.Proofs.Hd
namespace Go.Proofs
open Go.RowKit Go.Proofs.Hd Go.Lib
attribute [local go_sem] uv_nonneg
set_option maxRecDepth 100000 in
set_option maxHeartbeats 16000000 in
theorem rrun_c (tv pv wv bv : Value) (T : List (List Pt)) (ten : Int) (P : List (Int × Int)) (Q : List Wa) (BB : List (List (List Rl))) (i : Nat) (b : Int) (n m : Nat) (hh hl : BitVec 64) (K : Nat) (w : World) {L0 : List Pt} {R0 : List Rl} (hK : K ≤ 1000000) (hT : PsT w tv T) (hP : Pe w pv P) (hQ : Wy w wv Q) (hB : RuQ w bv BB) (hcfg : cfgT T ten P Q BB = 0) (hed : edgT T i b = (n : Int)) (hn : n ≤ 3) (hm : m ≤ 255) (hs : StA T BB i 0 L0 R0) (hsz : ∀ X ∈ BB, ∀ R ∈ X, R.length ≤ 4611686018427387904) : Calls Try.prog 19 #[.agg #[tv, .int .i64 ten, pv, wv, bv], .agg #[.int .i64 (i : Int), .int .i64 b], .agg #[.int .u64 (uv hh), .int .u64 (uv hl)], .int .i64 (m : Int), .int .i64 (K : Int)] w fun e w' => RR T BB K i (num (sF hh hl n m) 64 64) (num (sF hh hl n m) 0 64) w.heap.size e w' ∧ Below w.heap.size w w' := by
  have HT := Lib.hid hT
  have HBQ := Lib.hid hB
  have HCFG := Lib.hid hcfg
  have HSZ := Lib.hid hsz
  obtain ⟨tA, tc, rfl, -, -⟩ := hT
  obtain ⟨pA, pc, rfl, -, -⟩ := hP
  obtain ⟨wA, wcp, rfl, -, -⟩ := hQ
  obtain ⟨bA, bc, rfl, hBm, hQf⟩ := hB
  have hBne : BB ≠ [] := by
    obtain ⟨-, B, hB', -⟩ := hs
    rintro rfl
    simp at hB'
  obtain ⟨b0, o0, rfl, -, hQf⟩ := hQf hBne
  have HQF := Lib.hid hQf
  have HS0 := Lib.hid hs
  obtain ⟨sh, hsh⟩ : ∃ sh, (num (sF hh hl n m) 64 64) = sh := ⟨_, rfl⟩
  obtain ⟨sl, hsl⟩ : ∃ sl, (num (sF hh hl n m) 0 64) = sl := ⟨_, rfl⟩
  rw [hsh, hsl]
  have HSTM : Hid (∀ u : World, Calls Try.prog 35 #[.agg #[.int .u64 (uv hh), .int .u64 (uv hl)], .int .i64 (n : Int), .int .i64 (m : Int)] u fun e w' => e = .returned (.agg #[.int .u64 (uv sh), .int .u64 (uv sl)]) ∧ Below u.heap.size u w') := fun u => by
    have h := rstamp_c hh hl n m hn hm u
    rw [hsh, hsl] at h
    exact h
  have HEDG : Hid (∀ u : World, Below w.heap.size w u → Calls Try.prog 16 #[.agg #[.slice tA T.length tc], .agg #[.int .i64 (i : Int), .int .i64 b]] u fun e w' => e = .returned (.int .i64 (n : Int)) ∧ Below u.heap.size u w') := fun u hu => by
    have h := redge_c _ T i b u (HT.out.on hu)
    rw [hed] at h
    exact h
  have hKz : (K : Int) ≤ 1000000 := by omega
  clear hsh hsl hs hQf hcfg hsz hBm hed hBne
  have HB1 : Hid (Below w.heap.size w (((((w.alloc (.cells #[.slice tA T.length tc, .int .i64 ten, .slice pA P.length pc, .slice wA Q.length wcp, .slice (some ⟨b0, o0, none⟩) BB.length bc] 31)).alloc (.cells #[.int .i64 (i : Int), .int .i64 b] 56)).alloc (.cells #[.int .u64 (uv hh), .int .u64 (uv hl)] 41)).alloc (.cells #[.int .i64 0, .int .i64 0, .int .i64 0, .slice none 0 0] 63)).alloc (.cells #[.int .i64 0, .int .i64 0, .int .i64 0, .slice none 0 0] 63))) := (below4 w _ _ _ _).alloc (by simp; omega) _
  have N1 : Hid (Blk (((((w.alloc (.cells #[.slice tA T.length tc, .int .i64 ten, .slice pA P.length pc, .slice wA Q.length wcp, .slice (some ⟨b0, o0, none⟩) BB.length bc] 31)).alloc (.cells #[.int .i64 (i : Int), .int .i64 b] 56)).alloc (.cells #[.int .u64 (uv hh), .int .u64 (uv hl)] 41)).alloc (.cells #[.int .i64 0, .int .i64 0, .int .i64 0, .slice none 0 0] 63)).alloc (.cells #[.int .i64 0, .int .i64 0, .int .i64 0, .slice none 0 0] 63)) w.heap.size 31 #[.slice tA T.length tc, .int .i64 ten, .slice pA P.length pc, .slice wA Q.length wcp, .slice (some ⟨b0, o0, none⟩) BB.length bc]) := ((((Blk.new w _ _).on (below1 _ _)).on (below1 _ _)).on (below1 _ _)).on (below1 _ _)
  have M1 : Hid (Blk (((((w.alloc (.cells #[.slice tA T.length tc, .int .i64 ten, .slice pA P.length pc, .slice wA Q.length wcp, .slice (some ⟨b0, o0, none⟩) BB.length bc] 31)).alloc (.cells #[.int .i64 (i : Int), .int .i64 b] 56)).alloc (.cells #[.int .u64 (uv hh), .int .u64 (uv hl)] 41)).alloc (.cells #[.int .i64 0, .int .i64 0, .int .i64 0, .slice none 0 0] 63)).alloc (.cells #[.int .i64 0, .int .i64 0, .int .i64 0, .slice none 0 0] 63)) (w.heap.size + 1) 56 #[.int .i64 (i : Int), .int .i64 b]) := (((Blk.new2 w _ _ _).on (below1 _ _)).on (below1 _ _)).on (below1 _ _)
  have K1 : Hid (Blk (((((w.alloc (.cells #[.slice tA T.length tc, .int .i64 ten, .slice pA P.length pc, .slice wA Q.length wcp, .slice (some ⟨b0, o0, none⟩) BB.length bc] 31)).alloc (.cells #[.int .i64 (i : Int), .int .i64 b] 56)).alloc (.cells #[.int .u64 (uv hh), .int .u64 (uv hl)] 41)).alloc (.cells #[.int .i64 0, .int .i64 0, .int .i64 0, .slice none 0 0] 63)).alloc (.cells #[.int .i64 0, .int .i64 0, .int .i64 0, .slice none 0 0] 63)) (w.heap.size + 1 + 1) 41 #[.int .u64 (uv hh), .int .u64 (uv hl)]) := ((Blk.new3 w _ _ _ _).on (below1 _ _)).on (below1 _ _)
  have X1 : Hid (Blk (((((w.alloc (.cells #[.slice tA T.length tc, .int .i64 ten, .slice pA P.length pc, .slice wA Q.length wcp, .slice (some ⟨b0, o0, none⟩) BB.length bc] 31)).alloc (.cells #[.int .i64 (i : Int), .int .i64 b] 56)).alloc (.cells #[.int .u64 (uv hh), .int .u64 (uv hl)] 41)).alloc (.cells #[.int .i64 0, .int .i64 0, .int .i64 0, .slice none 0 0] 63)).alloc (.cells #[.int .i64 0, .int .i64 0, .int .i64 0, .slice none 0 0] 63)) (w.heap.size + 1 + 1 + 1) 63 #[.int .i64 0, .int .i64 0, .int .i64 0, .slice none 0 0]) := by
    have h := (Blk.new3 (w.alloc (.cells #[.slice tA T.length tc, .int .i64 ten, .slice pA P.length pc, .slice wA Q.length wcp, .slice (some ⟨b0, o0, none⟩) BB.length bc] 31)) (.cells #[.int .i64 (i : Int), .int .i64 b] 56) (.cells #[.int .u64 (uv hh), .int .u64 (uv hl)] 41) 63 #[.int .i64 0, .int .i64 0, .int .i64 0, .slice none 0 0]).on (below1 _ (.cells #[.int .i64 0, .int .i64 0, .int .i64 0, .slice none 0 0] 63))
    show Blk _ _ _ _
    simpa only [World.size_alloc] using h
  have Y1 : Hid (Blk (((((w.alloc (.cells #[.slice tA T.length tc, .int .i64 ten, .slice pA P.length pc, .slice wA Q.length wcp, .slice (some ⟨b0, o0, none⟩) BB.length bc] 31)).alloc (.cells #[.int .i64 (i : Int), .int .i64 b] 56)).alloc (.cells #[.int .u64 (uv hh), .int .u64 (uv hl)] 41)).alloc (.cells #[.int .i64 0, .int .i64 0, .int .i64 0, .slice none 0 0] 63)).alloc (.cells #[.int .i64 0, .int .i64 0, .int .i64 0, .slice none 0 0] 63)) (w.heap.size + 1 + 1 + 1 + 1) 63 #[.int .i64 0, .int .i64 0, .int .i64 0, .slice none 0 0]) := by
    have h := Blk.new ((((w.alloc (.cells #[.slice tA T.length tc, .int .i64 ten, .slice pA P.length pc, .slice wA Q.length wcp, .slice (some ⟨b0, o0, none⟩) BB.length bc] 31)).alloc (.cells #[.int .i64 (i : Int), .int .i64 b] 56)).alloc (.cells #[.int .u64 (uv hh), .int .u64 (uv hl)] 41)).alloc (.cells #[.int .i64 0, .int .i64 0, .int .i64 0, .slice none 0 0] 63)) 63 #[.int .i64 0, .int .i64 0, .int .i64 0, .slice none 0 0]
    show Blk _ _ _ _
    simpa only [World.size_alloc] using h
  obtain ⟨ih, hih, hz0, hz1, hz2⟩ : ∃ ih, Try.prog.info? 66 = some ih ∧ ih.zero = some (.agg #[.int .i64 0, .int .i64 0, .int .i64 0, .int .u64 0, .int .u64 0]) ∧ ih.size = 5 ∧ ih.bytes = 40 := by
    have h := infoHopA
    cases hx : Try.prog.info? 66 with
    | none => rw [hx] at h; cases h
    | some i => rw [hx] at h; simp only [Option.map_some, Option.some.injEq, Prod.mk.injEq] at h; exact ⟨i, rfl, h.1, h.2.1, h.2.2⟩
  go_enter Try.func19, Try.ntmps19
  go_upto_region 2 with (fail)
  generalize (((((w.alloc (.cells #[.slice tA T.length tc, .int .i64 ten, .slice pA P.length pc, .slice wA Q.length wcp, .slice (some ⟨b0, o0, none⟩) BB.length bc] 31)).alloc (.cells #[.int .i64 (i : Int), .int .i64 b] 56)).alloc (.cells #[.int .u64 (uv hh), .int .u64 (uv hl)] 41)).alloc (.cells #[.int .i64 0, .int .i64 0, .int .i64 0, .slice none 0 0] 63)).alloc (.cells #[.int .i64 0, .int .i64 0, .int .i64 0, .slice none 0 0] 63)) = w1 at HB1 N1 M1 K1 X1 Y1 ⊢
  go_cut [] (fun wc => Below w.heap.size w wc ∧ Blk wc w.heap.size 31 #[.slice tA T.length tc, .int .i64 ten, .slice pA P.length pc, .slice wA Q.length wcp, .slice (some ⟨b0, o0, none⟩) BB.length bc] ∧ Blk wc (w.heap.size + 1) 56 #[.int .i64 (i : Int), .int .i64 b] ∧ Blk wc (w.heap.size + 1 + 1) 41 #[.int .u64 (uv sh), .int .u64 (uv sl)] ∧ Blk wc (w.heap.size + 1 + 1 + 1) 63 #[.int .i64 0, .int .i64 0, .int .i64 0, .slice none 0 0] ∧ Blk wc (w.heap.size + 1 + 1 + 1 + 1) 63 #[.int .i64 0, .int .i64 0, .int .i64 0, .slice none 0 0])
  case first =>
    have HKP : Hid (∀ W, Below w1.heap.size w1 W → (Below w.heap.size w W ∧ W.cell? ⟨w.heap.size, 0, none⟩ = some (.slice tA T.length tc) ∧ W.cell? ⟨w.heap.size + 1, 0, none⟩ = some (.int .i64 (i : Int)) ∧ W.cell? ⟨w.heap.size + 1, 1, none⟩ = some (.int .i64 b))) := fun W hb => ⟨HB1.out.trans (hb.mono HB1.out.size), (N1.out.on hb).five.1, (M1.out.on hb).both⟩
    have HKS : Hid (∀ W, (Below w.heap.size w W ∧ W.cell? ⟨w.heap.size, 0, none⟩ = some (.slice tA T.length tc) ∧ W.cell? ⟨w.heap.size + 1, 0, none⟩ = some (.int .i64 (i : Int)) ∧ W.cell? ⟨w.heap.size + 1, 1, none⟩ = some (.int .i64 b)) → (Below w.heap.size w ((W.setCell ⟨w.heap.size + 1 + 1, 0, none⟩ (.int .u64 (uv sh))).setCell ⟨w.heap.size + 1 + 1, 1, none⟩ (.int .u64 (uv sl))) ∧ ((W.setCell ⟨w.heap.size + 1 + 1, 0, none⟩ (.int .u64 (uv sh))).setCell ⟨w.heap.size + 1 + 1, 1, none⟩ (.int .u64 (uv sl))).cell? ⟨w.heap.size, 0, none⟩ = some (.slice tA T.length tc) ∧ ((W.setCell ⟨w.heap.size + 1 + 1, 0, none⟩ (.int .u64 (uv sh))).setCell ⟨w.heap.size + 1 + 1, 1, none⟩ (.int .u64 (uv sl))).cell? ⟨w.heap.size + 1, 0, none⟩ = some (.int .i64 (i : Int)) ∧ ((W.setCell ⟨w.heap.size + 1 + 1, 0, none⟩ (.int .u64 (uv sh))).setCell ⟨w.heap.size + 1 + 1, 1, none⟩ (.int .u64 (uv sl))).cell? ⟨w.heap.size + 1, 1, none⟩ = some (.int .i64 b))) := fun W h => ⟨(h.1.setCell (p := ⟨w.heap.size + 1 + 1, 0, none⟩) (by simp only; omega) _).setCell (p := ⟨w.heap.size + 1 + 1, 1, none⟩) (by simp only; omega) _, cell_far2 (by simp only; omega) _ _ h.2.1, cell_far2 (by simp only; omega) _ _ h.2.2.1, cell_far2 (by simp only; omega) _ _ h.2.2.2⟩
    refine wp_region_held_drew (S := fun w' => Below w.heap.size w w' ∧ w'.cell? ⟨w.heap.size, 0, none⟩ = some (.slice tA T.length tc) ∧ w'.cell? ⟨w.heap.size + 1, 0, none⟩ = some (.int .i64 (i : Int)) ∧ w'.cell? ⟨w.heap.size + 1, 1, none⟩ = some (.int .i64 b)) (by kernel_rfl) (HKP.out _ (Below.refl _ w1).drew) (fun hHeld => ?_)
    have hB := (Below.refl w1.heap.size w1).drew
    generalize w1.drew = u0 at hHeld hB ⊢
    refine wpAnyH_take (i := 1) (oi := ⟨some 19, _, _, _, _, _⟩) (v := ?vra1_1) rfl (by kernel_rfl) (by kernel_rfl) (by kernel_rfl) (fun _ _ _ h => h) (Or.inl ⟨by rfl, ?yra1_1⟩) hHeld ?rra1_1
    case yra1_1 => (intro w' hSw; (try dsimp only at hSw); go_simp; try (with_reducible rfl))
    simp only [Act.put, List.setIfInBounds_toArray, List.set_cons_zero, List.set_cons_succ]
    refine wpAnyH_take (i := 2) (oi := ⟨some 20, _, _, _, _, _⟩) (v := ?vra2_2) rfl (by kernel_rfl) (by kernel_rfl) (by kernel_rfl) (fun _ _ _ h => h) (Or.inl ⟨by rfl, ?yra2_2⟩) hHeld ?rra2_2
    case yra2_2 => (intro w' hSw; (try dsimp only at hSw); go_simp; try (with_reducible rfl))
    simp only [Act.put, List.setIfInBounds_toArray, List.set_cons_zero, List.set_cons_succ]
    refine wpAnyH_take (i := 3) (oi := ⟨some 21, _, _, _, _, _⟩) (v := ?vra3_3) rfl (by kernel_rfl) (by kernel_rfl) (by kernel_rfl) (fun _ _ _ h => h) (Or.inl ⟨by rfl, ?yra3_3⟩) hHeld ?rra3_3
    case yra3_3 => (intro w' hSw; (try dsimp only at hSw); go_simp; try (with_reducible rfl))
    simp only [Act.put, List.setIfInBounds_toArray, List.set_cons_zero, List.set_cons_succ]
    refine wpAnyH_take (i := 5) (oi := ⟨some 23, _, _, _, _, _⟩) (v := ?vra5_4) rfl (by kernel_rfl) (by kernel_rfl) (by kernel_rfl) (fun _ _ _ h => h) (Or.inl ⟨by rfl, ?yra5_4⟩) hHeld ?rra5_4
    case yra5_4 => (intro w' hSw; (try dsimp only at hSw); go_simp; try (with_reducible rfl))
    simp only [Act.put, List.setIfInBounds_toArray, List.set_cons_zero, List.set_cons_succ]
    refine wpAnyH_ready (rs := [0, 4]) (by kernel_rfl) (by simp) ?_
    refine AllReadyH.cons (o := ⟨some 18, _, _, _, _, _⟩) rfl (fun K hK => ?_) ?_
    · obtain ⟨h0, h1⟩ := (K1.out.on hB).both
      go_simp
      refine hK.out _ _ hHeld (fun hNext => ?_)
      clear hK K hHeld
      have hHeld := hNext
      clear hNext
      clear h0 h1
      try simp only [Act.put, List.setIfInBounds_toArray, List.set_cons_zero, List.set_cons_succ]
      refine wpAnyH_ready (rs := [4]) (by kernel_rfl) (by simp) ?_
      refine AllReadyH.cons (o := ⟨some 22, _, _, _, _, _⟩) rfl (fun K hK => ?_) AllReadyH.nil
      go_simp
      (with_reducible refine (HEDG.out u0 (HB1.out.trans (hB.mono HB1.out.size))).mono ?_)
      rintro e u1 ⟨rfl, hb⟩
      (try dsimp only)
      have hB2 := hB.trans (hb.mono hB.size)
      refine hK.out _ _ (HKP.out _ hB2) (fun hNext => ?_)
      clear hK K hHeld
      have hHeld := hNext
      clear hNext
      clear hB
      have hB := hB2
      clear hB2
      clear hb
      try simp only [Act.put, List.setIfInBounds_toArray, List.set_cons_zero, List.set_cons_succ]
      refine wpAnyH_ready (rs := [6]) (by kernel_rfl) (by simp) ?_
      refine AllReadyH.cons (o := ⟨some 24, _, _, _, _, _⟩) rfl (fun K hK => ?_) AllReadyH.nil
      go_simp
      (with_reducible refine (HSTM.out u1).mono ?_)
      rintro e u2 ⟨rfl, hb⟩
      (try dsimp only)
      have hB2 := hB.trans (hb.mono hB.size)
      refine hK.out _ _ (HKP.out _ hB2) (fun hNext => ?_)
      clear hK K hHeld
      have hHeld := hNext
      clear hNext
      clear hB
      have hB := hB2
      clear hB2
      clear hb
      try simp only [Act.put, List.setIfInBounds_toArray, List.set_cons_zero, List.set_cons_succ]
      refine wpAnyH_ready (rs := [7]) (by kernel_rfl) (by simp) ?_
      refine AllReadyH.cons (o := ⟨none, _, _, _, _, _⟩) rfl (fun K hK => ?_) AllReadyH.nil
      have kH := K1.out.on hB
      obtain ⟨h0, h1⟩ := kH.both
      have y0 := kH.free 0
      have y1 := kH.free 1
      go_simp
      refine hK.out _ _ (HKS.out _ hHeld) (fun hNext => ?_)
      clear hK K hHeld
      have hHeld := hNext
      clear hNext
      clear h0 h1 y0 y1
      try simp only [Act.put]
      refine wpAnyH_done (by kernel_rfl) ?_ _
      have kE := kH.put2 (.int .u64 (uv sh)) (.int .u64 (uv sl))
      have HN2 := (N1.out.on hB).far2 (show w.heap.size ≠ w.heap.size + 1 + 1 by omega) (.int .u64 (uv sh)) (.int .u64 (uv sl))
      have HM2 := (M1.out.on hB).far2 (show w.heap.size + 1 ≠ w.heap.size + 1 + 1 by omega) (.int .u64 (uv sh)) (.int .u64 (uv sl))
      have HX2 := (X1.out.on hB).far2 (show w.heap.size + 1 + 1 + 1 ≠ w.heap.size + 1 + 1 by omega) (.int .u64 (uv sh)) (.int .u64 (uv sl))
      have HY2 := (Y1.out.on hB).far2 (show w.heap.size + 1 + 1 + 1 + 1 ≠ w.heap.size + 1 + 1 by omega) (.int .u64 (uv sh)) (.int .u64 (uv sl))
      go_wp2_with fail
      go_meet
      exact ⟨hHeld.1, HN2, HM2, kE, HX2, HY2⟩
    refine AllReadyH.cons (o := ⟨some 22, _, _, _, _, _⟩) rfl (fun K hK => ?_) AllReadyH.nil
    go_simp
    (with_reducible refine (HEDG.out u0 (HB1.out.trans (hB.mono HB1.out.size))).mono ?_)
    rintro e u4 ⟨rfl, hb⟩
    (try dsimp only)
    have hB2 := hB.trans (hb.mono hB.size)
    refine hK.out _ _ (HKP.out _ hB2) (fun hNext => ?_)
    clear hK K hHeld
    have hHeld := hNext
    clear hNext
    clear hB
    have hB := hB2
    clear hB2
    clear hb
    try simp only [Act.put, List.setIfInBounds_toArray, List.set_cons_zero, List.set_cons_succ]
    refine wpAnyH_ready (rs := [0]) (by kernel_rfl) (by simp) ?_
    refine AllReadyH.cons (o := ⟨some 18, _, _, _, _, _⟩) rfl (fun K hK => ?_) AllReadyH.nil
    obtain ⟨h0, h1⟩ := (K1.out.on hB).both
    go_simp
    refine hK.out _ _ hHeld (fun hNext => ?_)
    clear hK K hHeld
    have hHeld := hNext
    clear hNext
    clear h0 h1
    try simp only [Act.put, List.setIfInBounds_toArray, List.set_cons_zero, List.set_cons_succ]
    refine wpAnyH_ready (rs := [6]) (by kernel_rfl) (by simp) ?_
    refine AllReadyH.cons (o := ⟨some 24, _, _, _, _, _⟩) rfl (fun K hK => ?_) AllReadyH.nil
    go_simp
    (with_reducible refine (HSTM.out u4).mono ?_)
    rintro e u5 ⟨rfl, hb⟩
    (try dsimp only)
    have hB2 := hB.trans (hb.mono hB.size)
    refine hK.out _ _ (HKP.out _ hB2) (fun hNext => ?_)
    clear hK K hHeld
    have hHeld := hNext
    clear hNext
    clear hB
    have hB := hB2
    clear hB2
    clear hb
    try simp only [Act.put, List.setIfInBounds_toArray, List.set_cons_zero, List.set_cons_succ]
    refine wpAnyH_ready (rs := [7]) (by kernel_rfl) (by simp) ?_
    refine AllReadyH.cons (o := ⟨none, _, _, _, _, _⟩) rfl (fun K hK => ?_) AllReadyH.nil
    have kH := K1.out.on hB
    obtain ⟨h0, h1⟩ := kH.both
    have y0 := kH.free 0
    have y1 := kH.free 1
    go_simp
    refine hK.out _ _ (HKS.out _ hHeld) (fun hNext => ?_)
    clear hK K hHeld
    have hHeld := hNext
    clear hNext
    clear h0 h1 y0 y1
    try simp only [Act.put]
    refine wpAnyH_done (by kernel_rfl) ?_ _
    have kE := kH.put2 (.int .u64 (uv sh)) (.int .u64 (uv sl))
    have HN2 := (N1.out.on hB).far2 (show w.heap.size ≠ w.heap.size + 1 + 1 by omega) (.int .u64 (uv sh)) (.int .u64 (uv sl))
    have HM2 := (M1.out.on hB).far2 (show w.heap.size + 1 ≠ w.heap.size + 1 + 1 by omega) (.int .u64 (uv sh)) (.int .u64 (uv sl))
    have HX2 := (X1.out.on hB).far2 (show w.heap.size + 1 + 1 + 1 ≠ w.heap.size + 1 + 1 by omega) (.int .u64 (uv sh)) (.int .u64 (uv sl))
    have HY2 := (Y1.out.on hB).far2 (show w.heap.size + 1 + 1 + 1 + 1 ≠ w.heap.size + 1 + 1 by omega) (.int .u64 (uv sh)) (.int .u64 (uv sl))
    go_wp2_with fail
    go_meet
    exact ⟨hHeld.1, HN2, HM2, kE, HX2, HY2⟩
  case rest =>
    obtain ⟨hB2, hN2, hM2, hH2, hX2, hY2⟩ := hcut
    have HB2 := Lib.hid hB2
    have HN2 := Lib.hid hN2
    have HH2 := Lib.hid hH2
    have HX2 := Lib.hid hX2
    have HY2 := Lib.hid hY2
    obtain ⟨s0, s1⟩ := hM2.both
    clear hB2 hN2 hM2 hH2 hX2 hY2 HB1 N1 M1 K1 X1 Y1 HSTM HEDG
    go_wp2
    go_loopg [12, 13, 14, 15, 16] K (fun gk s12 s13 _ _ _ wr => ∃ (k n' t' : Nat) (gh gl : BitVec 64) (L' : List Pt) (R' : List Rl) (H' : List Hp) (hA : Option Addr) (hc : Nat), k ≤ K ∧ gk = K - k ∧ Hid (H'.length = k) ∧ s12 = .int .i64 (n' : Int) ∧ s13 = .int .i64 (t' : Int) ∧ Hid (StA T BB n' t' L' R') ∧ Hid (Below w.heap.size w wr) ∧ Hid (Blk wr w.heap.size 31 #[.slice tA T.length tc, .int .i64 ten, .slice pA P.length pc, .slice wA Q.length wcp, .slice (some ⟨b0, o0, none⟩) BB.length bc]) ∧ Hid (Blk wr (w.heap.size + 1 + 1) 41 #[.int .u64 (uv gh), .int .u64 (uv gl)]) ∧ Hid (Blk wr (w.heap.size + 1 + 1 + 1) 63 #[.int .i64 0, .int .i64 0, .int .i64 0, .slice none 0 0]) ∧ Hid (Blk wr (w.heap.size + 1 + 1 + 1 + 1) 63 #[.int .i64 0, .int .i64 0, .int .i64 0, .slice hA H'.length hc]) ∧ Hid (wr.ownsRow w.heap.size 66 5 (.slice hA H'.length hc) H'.length (H'.flatMap Hp.cs)) ∧ Hid (runF fndI T BB K i 0 sh sl [] = runF fndI T BB (K - k) n' t' gh gl H'))
    case atStart => exact ⟨0, i, 0, sh, sl, L0, R0, [], none, 0, Nat.zero_le _, rfl, rfl, rfl, rfl, HS0, HB2, HN2, HH2, HX2, HY2, World.ownsRow_nil _ _ _ _, rfl⟩
    case round =>
      clear HB2 HN2 HH2 HX2 HY2 HS0 s0 s1
      obtain ⟨k, n', t', gh, gl, L', R', H', hA, hc, hk, rfl, hl', rfl, rfl, HS, HBW, HN, HH, HX, HY, HO, HRN⟩ := hrel
      obtain ⟨y0, y1, y2, y3⟩ := quad HY.out
      by_cases hlt : k < K
      · have hltz : (H'.length : Int) < (K : Int) := by have := hl'.out; omega
        have hHb : H'.length ≤ 1000000 := by have := hl'.out; omega
        have hk1 : K - k = K - (k + 1) + 1 := by omega
        rw [hk1] at HRN
        obtain ⟨hTn, X, hBn, hXt⟩ := id HS.out
        have hnl : n' < BB.length := (List.getElem?_eq_some_iff.1 hBn).1
        have hnz : (n' : Int) < (BB.length : Int) := by omega
        have htl : t' < X.length := (List.getElem?_eq_some_iff.1 hXt).1
        have htz : (t' : Int) < (X.length : Int) := by omega
        obtain ⟨sX, hsX, hXr⟩ := HQF.out n' X hBn
        obtain ⟨XA, Xc, rfl, -, -, hXf⟩ := hXr
        obtain ⟨b1, o1, rfl, -, hxk⟩ := hXf (by rintro rfl; simp at htl)
        obtain ⟨sR, hsR, hR⟩ := hxk t' R' hXt
        have HR : Hid (Ru w sR R') := hR
        obtain ⟨RA, Rc, rfl, hRf⟩ := hR.form
        have HSX := Lib.hid hsX
        have HSR := Lib.hid hsR
        have HRF := Lib.hid hRf
        have hRl := HSZ.out X (List.mem_of_getElem? hBn) R' (List.mem_of_getElem? hXt)
        obtain ⟨z, hz⟩ : ∃ z, fndI R' gh gl = z := ⟨_, rfl⟩
        have HZF := Lib.hid hz
        have HFND : Hid (∀ u : World, Below w.heap.size w u → Calls Try.prog 36 #[.slice RA R'.length Rc, .agg #[.int .u64 (uv gh), .int .u64 (uv gl)]] u fun e w' => e = .returned (.tuple #[.int .i64 (fz z), .bool z.isSome]) ∧ Below u.heap.size u w') := fun u hu => by
          have h := rfind_c _ R' gh gl u hRl (HR.out.on hu)
          rw [hz] at h
          exact h
        clear hz hRf hR hxk hXf hsR hsX hXt hBn hTn hnl htl hk1
        go_upto_region 5 with (fail)
        clear y0 y1 y2 y3
        have HKP : Hid (∀ W, Below wr.heap.size wr W → (Below wr.heap.size wr W ∧ W.cell? ⟨w.heap.size, 4, none⟩ = some (.slice (some ⟨b0, o0, none⟩) BB.length bc) ∧ W.cell? ⟨b0, o0 + n', none⟩ = some (.slice (some ⟨b1, o1, none⟩) X.length Xc) ∧ W.cell? ⟨b1, o1 + t', none⟩ = some (.slice RA R'.length Rc) ∧ W.cell? ⟨w.heap.size + 1 + 1, 0, none⟩ = some (.int .u64 (uv gh)) ∧ W.cell? ⟨w.heap.size + 1 + 1, 1, none⟩ = some (.int .u64 (uv gl)))) := fun W hb => by
          obtain ⟨-, -, -, -, d4⟩ := (HN.out.on hb).five
          obtain ⟨e0, e1⟩ := (HH.out.on hb).both
          have hw := HBW.out.trans (hb.mono HBW.out.size)
          exact ⟨hb, d4, on_some hw HSX.out, on_some hw HSR.out, e0, e1⟩
        refine wp_region_held_drew (S := fun w' => Below wr.heap.size wr w' ∧ w'.cell? ⟨w.heap.size, 4, none⟩ = some (.slice (some ⟨b0, o0, none⟩) BB.length bc) ∧ w'.cell? ⟨b0, o0 + n', none⟩ = some (.slice (some ⟨b1, o1, none⟩) X.length Xc) ∧ w'.cell? ⟨b1, o1 + t', none⟩ = some (.slice RA R'.length Rc) ∧ w'.cell? ⟨w.heap.size + 1 + 1, 0, none⟩ = some (.int .u64 (uv gh)) ∧ w'.cell? ⟨w.heap.size + 1 + 1, 1, none⟩ = some (.int .u64 (uv gl))) (by kernel_rfl) (HKP.out _ (Below.refl _ wr).drew) (fun hHeld => ?_)
        have hB := (Below.refl wr.heap.size wr).drew
        generalize wr.drew = u0 at hHeld hB ⊢
        refine wpAnyH_take (i := 0) (oi := ⟨some 33, _, _, _, _, _⟩) (v := ?vrb0_1) rfl (by kernel_rfl) (by kernel_rfl) (by kernel_rfl) (fun _ _ _ h => h) (Or.inl ⟨by rfl, ?yrb0_1⟩) hHeld ?rrb0_1
        case yrb0_1 => (intro w' hSw; (try dsimp only at hSw); go_simp; try (with_reducible rfl))
        simp only [Act.put, List.setIfInBounds_toArray, List.set_cons_zero, List.set_cons_succ]
        refine wpAnyH_take (i := 1) (oi := ⟨some 34, _, _, _, _, _⟩) (v := ?vrb1_2) rfl (by kernel_rfl) (by kernel_rfl) (by kernel_rfl) (fun _ _ _ h => h) (Or.inl ⟨by rfl, ?yrb1_2⟩) hHeld ?rrb1_2
        case yrb1_2 => (intro w' hSw; (try dsimp only at hSw); go_simp; try (with_reducible rfl))
        simp only [Act.put, List.setIfInBounds_toArray, List.set_cons_zero, List.set_cons_succ]
        refine wpAnyH_take (i := 2) (oi := ⟨some 35, _, _, _, _, _⟩) (v := ?vrb2_3) rfl (by kernel_rfl) (by kernel_rfl) (by kernel_rfl) (fun _ _ _ h => h) (Or.inl ⟨by rfl, ?yrb2_3⟩) hHeld ?rrb2_3
        case yrb2_3 => (intro w' hSw; (try dsimp only at hSw); go_simp; try (with_reducible rfl))
        simp only [Act.put, List.setIfInBounds_toArray, List.set_cons_zero, List.set_cons_succ]
        refine wpAnyH_take (i := 3) (oi := ⟨some 36, _, _, _, _, _⟩) (v := ?vrb3_4) rfl (by kernel_rfl) (by kernel_rfl) (by kernel_rfl) (fun _ _ _ h => h) (Or.inl ⟨by rfl, ?yrb3_4⟩) hHeld ?rrb3_4
        case yrb3_4 => (intro w' hSw; (try dsimp only at hSw); go_simp; try (with_reducible rfl))
        simp only [Act.put, List.setIfInBounds_toArray, List.set_cons_zero, List.set_cons_succ]
        refine wpAnyH_take (i := 4) (oi := ⟨some 37, _, _, _, _, _⟩) (v := ?vrb4_5) rfl (by kernel_rfl) (by kernel_rfl) (by kernel_rfl) (fun _ _ _ h => h) (Or.inl ⟨by rfl, ?yrb4_5⟩) hHeld ?rrb4_5
        case yrb4_5 => (intro w' hSw; (try dsimp only at hSw); go_simp; try (with_reducible rfl))
        simp only [Act.put, List.setIfInBounds_toArray, List.set_cons_zero, List.set_cons_succ]
        refine wpAnyH_take (i := 5) (oi := ⟨some 38, _, _, _, _, _⟩) (v := ?vrb5_6) rfl (by kernel_rfl) (by kernel_rfl) (by kernel_rfl) (fun _ _ _ h => h) (Or.inl ⟨by rfl, ?yrb5_6⟩) hHeld ?rrb5_6
        case yrb5_6 => (intro w' hSw; (try dsimp only at hSw); go_simp; try (with_reducible rfl))
        simp only [Act.put, List.setIfInBounds_toArray, List.set_cons_zero, List.set_cons_succ]
        refine wpAnyH_take (i := 6) (oi := ⟨some 39, _, _, _, _, _⟩) (v := ?vrb6_7) rfl (by kernel_rfl) (by kernel_rfl) (by kernel_rfl) (fun _ _ _ h => h) (Or.inl ⟨by rfl, ?yrb6_7⟩) hHeld ?rrb6_7
        case yrb6_7 => (intro w' hSw; (try dsimp only at hSw); go_simp; try (with_reducible rfl))
        simp only [Act.put, List.setIfInBounds_toArray, List.set_cons_zero, List.set_cons_succ]
        refine wpAnyH_take (i := 7) (oi := ⟨some 40, _, _, _, _, _⟩) (v := ?vrb7_8) rfl (by kernel_rfl) (by kernel_rfl) (by kernel_rfl) (fun _ _ _ h => h) (Or.inl ⟨by rfl, ?yrb7_8⟩) hHeld ?rrb7_8
        case yrb7_8 => (intro w' hSw; (try dsimp only at hSw); go_simp; try (with_reducible rfl))
        simp only [Act.put, List.setIfInBounds_toArray, List.set_cons_zero, List.set_cons_succ]
        refine wpAnyH_take (i := 8) (oi := ⟨some 41, _, _, _, _, _⟩) (v := ?vrb8_9) rfl (by kernel_rfl) (by kernel_rfl) (by kernel_rfl) (fun _ _ _ h => h) (Or.inl ⟨by rfl, ?yrb8_9⟩) hHeld ?rrb8_9
        case yrb8_9 => (intro w' hSw; (try dsimp only at hSw); go_simp; try (with_reducible rfl))
        simp only [Act.put, List.setIfInBounds_toArray, List.set_cons_zero, List.set_cons_succ]
        refine wpAnyH_ready (rs := [9]) (by kernel_rfl) (by simp) ?_
        refine AllReadyH.cons (o := ⟨some 42, _, _, _, _, _⟩) rfl (fun K hK => ?_) AllReadyH.nil
        go_simp
        (with_reducible refine (HFND.out u0 (HBW.out.trans (hB.mono HBW.out.size))).mono ?_)
        rintro e u1 ⟨rfl, hb⟩
        (try dsimp only)
        have hB2 := hB.trans (hb.mono hB.size)
        refine hK.out _ _ (HKP.out _ hB2) (fun hNext => ?_)
        clear hK K hHeld
        have hHeld := hNext
        clear hNext
        clear hB
        have hB := hB2
        clear hB2
        clear hb
        try simp only [Act.put, List.setIfInBounds_toArray, List.set_cons_zero, List.set_cons_succ]
        refine wpAnyH_take (i := 10) (oi := ⟨some 32, _, _, _, _, _⟩) (v := ?vrb10_10) rfl (by kernel_rfl) (by kernel_rfl) (by kernel_rfl) (fun _ _ _ h => h) (Or.inl ⟨by rfl, ?yrb10_10⟩) hHeld ?rrb10_10
        case yrb10_10 => (intro w' hSw; (try dsimp only at hSw); go_simp; try (with_reducible rfl))
        simp only [Act.put, List.setIfInBounds_toArray, List.set_cons_zero, List.set_cons_succ]
        refine wpAnyH_take (i := 11) (oi := ⟨some 43, _, _, _, _, _⟩) (v := ?vrb11_11) rfl (by kernel_rfl) (by kernel_rfl) (by kernel_rfl) (fun _ _ _ h => h) (Or.inl ⟨by rfl, ?yrb11_11⟩) hHeld ?rrb11_11
        case yrb11_11 => (intro w' hSw; (try dsimp only at hSw); go_simp; try (with_reducible rfl))
        simp only [Act.put, List.setIfInBounds_toArray, List.set_cons_zero, List.set_cons_succ]
        refine wpAnyH_take (i := 12) (oi := ⟨some 44, _, _, _, _, _⟩) (v := ?vrb12_12) rfl (by kernel_rfl) (by kernel_rfl) (by kernel_rfl) (fun _ _ _ h => h) (Or.inl ⟨by rfl, ?yrb12_12⟩) hHeld ?rrb12_12
        case yrb12_12 => (intro w' hSw; (try dsimp only at hSw); go_simp; try (with_reducible rfl))
        simp only [Act.put, List.setIfInBounds_toArray, List.set_cons_zero, List.set_cons_succ]
        refine wpAnyH_take (i := 13) (oi := ⟨some 14, _, _, _, _, _⟩) (v := ?vrb13_13) rfl (by kernel_rfl) (by kernel_rfl) (by kernel_rfl) (fun _ _ _ h => h) (Or.inl ⟨by rfl, ?yrb13_13⟩) hHeld ?rrb13_13
        case yrb13_13 => (intro w' hSw; (try dsimp only at hSw); go_simp; try (with_reducible rfl))
        simp only [Act.put, List.setIfInBounds_toArray, List.set_cons_zero, List.set_cons_succ]
        refine wpAnyH_take (i := 14) (oi := ⟨some 15, _, _, _, _, _⟩) (v := ?vrb14_14) rfl (by kernel_rfl) (by kernel_rfl) (by kernel_rfl) (fun _ _ _ h => h) (Or.inl ⟨by rfl, ?yrb14_14⟩) hHeld ?rrb14_14
        case yrb14_14 => (intro w' hSw; (try dsimp only at hSw); go_simp; try (with_reducible rfl))
        simp only [Act.put, List.setIfInBounds_toArray, List.set_cons_zero, List.set_cons_succ]
        refine wpAnyH_done (by kernel_rfl) ?_ _
        have HBV := Lib.hid (HBW.out.trans (hB.mono HBW.out.size))
        have HNV := Lib.hid (HN.out.on hB)
        have HHV := Lib.hid (HH.out.on hB)
        have HXV := Lib.hid (HX.out.on hB)
        have HYV := Lib.hid (HY.out.on hB)
        have HOV := Lib.hid (own_on HO.out hB)
        clear hHeld hB HKP HBW HN HH HX HY HO HFND
        generalize u1 = wv at HBV HNV HHV HXV HYV HOV ⊢
        cases z with
        | none =>
          have HF : Hid (fndI R' gh gl = none) := HZF
          have hb := below1 wv (.cells #[.int .i64 (n' : Int), .int .i64 (t' : Int), .int .i64 (-1), .int .u64 (uv gh), .int .u64 (uv gl)] 66)
          have kN : Blk (wv.alloc (.cells #[.int .i64 (n' : Int), .int .i64 (t' : Int), .int .i64 (-1), .int .u64 (uv gh), .int .u64 (uv gl)] 66)) wv.heap.size 66 #[.int .i64 (n' : Int), .int .i64 (t' : Int), .int .i64 (-1), .int .u64 (uv gh), .int .u64 (uv gl)] := Blk.new wv _ _
          have SR : Src (wv.alloc (.cells #[.int .i64 (n' : Int), .int .i64 (t' : Int), .int .i64 (-1), .int .u64 (uv gh), .int .u64 (uv gl)] 66)) 5 (.slice (some ⟨wv.heap.size, 0, none⟩) 1 1) 1 [.int .i64 (n' : Int), .int .i64 (t' : Int), .int .i64 (-1), .int .u64 (uv gh), .int .u64 (uv gl)] := src_blk (x := ⟨n', t', (-1), gh, gl⟩) kN
          have HB2 := Lib.hid (HBV.out.trans (hb.mono HBV.out.size))
          have HN2 := Lib.hid (HNV.out.on hb)
          have HH2 := Lib.hid (HHV.out.on hb)
          have HX2 := Lib.hid (HXV.out.on hb)
          have HY2 := Lib.hid (HYV.out.on hb)
          have O2 := own_on HOV.out hb
          obtain ⟨h0, h1⟩ := HHV.out.both
          obtain ⟨y0, y1, y2, y3⟩ := quad HYV.out
          have hszb : w.heap.size ≤ (wv.alloc (.cells #[.int .i64 (n' : Int), .int .i64 (t' : Int), .int .i64 (-1), .int .u64 (uv gh), .int .u64 (uv gl)] 66)).heap.size := HB2.out.size
          go_wp2_with (at_builtin; refine wpList_app _ rfl (.tmp 48) (.tmp 53) 61 rfl w.heap.size 66 ih _ 5 40 Try.underlying61 hih hz0 hz1 hz2 rfl (by decide) _ H'.length (H'.flatMap Hp.cs) rfl O2 _ 1 [.int .i64 (n' : Int), .int .i64 (t' : Int), .int .i64 (-1), .int .u64 (uv gh), .int .u64 (uv gl)] rfl SR (by unfold maxLen; omega) (by omega) hszb ?_)
          intro v2 w2 O3 hgr
          obtain ⟨hA2, hc2, rfl, -⟩ := own_sl O3
          have HB3 := Lib.hid (HB2.out.grown hgr HB2.out.size (fun j hj => (O2.lt j hj).1))
          have HN3 := Lib.hid (HN2.out.grown hgr (own_apart O2 HN2.out (by decide)))
          have HH3 := Lib.hid (HH2.out.grown hgr (own_apart O2 HH2.out (by decide)))
          have HX3 := Lib.hid (HX2.out.grown hgr (own_apart O2 HX2.out (by decide)))
          have HY3 := Lib.hid (HY2.out.grown hgr (own_apart O2 HY2.out (by decide)))
          have HO3 := Lib.hid O3
          clear hb kN SR HB2 HN2 HH2 HX2 HY2 O2 O3 hgr h0 h1 y0 y1 y2 y3 hszb HBV HNV HHV HXV HYV HOV
          have y3 := (HY3.out.cell 3).trans rfl
          have g3 := HY3.out.free 3
          simp only [List.getElem?_toArray, List.getElem?_cons_succ, List.getElem?_cons_zero] at y3
          go_upto_region 8 with (fail)
          clear y3 g3
          have HBV := Lib.hid (HB3.out.setCell (p := ⟨w.heap.size + 1 + 1 + 1 + 1, 3, none⟩) (show w.heap.size ≤ w.heap.size + 1 + 1 + 1 + 1 by omega) (.slice hA2 (H'.length + 1) hc2))
          have HNV := Lib.hid (HN3.out.far (p := ⟨w.heap.size + 1 + 1 + 1 + 1, 3, none⟩) (show w.heap.size ≠ w.heap.size + 1 + 1 + 1 + 1 by omega) (.slice hA2 (H'.length + 1) hc2))
          have HHV := Lib.hid (HH3.out.far (p := ⟨w.heap.size + 1 + 1 + 1 + 1, 3, none⟩) (show w.heap.size + 1 + 1 ≠ w.heap.size + 1 + 1 + 1 + 1 by omega) (.slice hA2 (H'.length + 1) hc2))
          have HXV := Lib.hid (HX3.out.far (p := ⟨w.heap.size + 1 + 1 + 1 + 1, 3, none⟩) (show w.heap.size + 1 + 1 + 1 ≠ w.heap.size + 1 + 1 + 1 + 1 by omega) (.slice hA2 (H'.length + 1) hc2))
          have kY := HY3.out.set 3 (.slice hA2 (H'.length + 1) hc2)
          simp only [List.setIfInBounds_toArray, List.set_cons_succ, List.set_cons_zero] at kY
          have HYV := Lib.hid kY
          have HOV := Lib.hid (ownsRow_setCell_other (a := ⟨w.heap.size + 1 + 1 + 1 + 1, 3, none⟩) HO3.out (fun e => own_apart HO3.out HY3.out (by decide) e.symm) (.slice hA2 (H'.length + 1) hc2))
          clear kY HB3 HN3 HH3 HX3 HY3 HO3
          generalize w2.setCell ⟨w.heap.size + 1 + 1 + 1 + 1, 3, none⟩ (.slice hA2 (H'.length + 1) hc2) = w3 at HBV HNV HHV HXV HYV HOV ⊢
          obtain ⟨y0, y1, y2, y3⟩ := quad HYV.out
          obtain ⟨g0, g1, g2, g3⟩ := free4 HYV.out
          go_upto_region 9 with (fail)
          clear y0 y1 y2 y3 g0 g1 g2 g3
          have HB9 := Lib.hid (HBV.out.setCell (p := ⟨w.heap.size + 1 + 1 + 1 + 1, 0, none⟩) (show w.heap.size ≤ w.heap.size + 1 + 1 + 1 + 1 by omega) (.int .i64 3))
          have HX9 := Lib.hid (HXV.out.far (p := ⟨w.heap.size + 1 + 1 + 1 + 1, 0, none⟩) (show w.heap.size + 1 + 1 + 1 ≠ w.heap.size + 1 + 1 + 1 + 1 by omega) (.int .i64 3))
          have kY := (HYV.out.set 0 (.int .i64 3))
          simp only [List.setIfInBounds_toArray, List.set_cons_zero] at kY
          have HO9 := Lib.hid (ownsRow_setCell_other (a := ⟨w.heap.size + 1 + 1 + 1 + 1, 0, none⟩) HOV.out (fun e => own_apart HOV.out HYV.out (by decide) e.symm) (.int .i64 3))
          have HY9 := Lib.hid kY
          clear kY HBV HNV HHV HXV HYV HOV
          generalize (w3.setCell ⟨w.heap.size + 1 + 1 + 1 + 1, 0, none⟩ (.int .i64 3)) = w9 at HB9 HX9 HY9 HO9 ⊢
          obtain ⟨y0, y1, y2, y3⟩ := quad HY9.out
          obtain ⟨x0, x1, x2, x3⟩ := quad HX9.out
          obtain ⟨f0, f1, f2, f3⟩ := free4 HX9.out
          obtain ⟨q0, q1, q2, q3⟩ := quad (put4 HX9.out (.int .i64 3) (.int .i64 0) (.int .i64 0) (.slice hA2 (H'.length + 1) hc2))
          have BE := Lib.hid (HB9.out.trans ((sets4 w9 (w.heap.size + 1 + 1 + 1) (.int .i64 3) (.int .i64 0) (.int .i64 0) (.slice hA2 (H'.length + 1) hc2)).mono (by omega)))
          have OE := Lib.hid (own_sets4 HX9.out HO9.out (by decide) (.int .i64 3) (.int .i64 0) (.int .i64 0) (.slice hA2 (H'.length + 1) hc2))
          clear HX9 HY9 HB9 HO9
          go_wp2
          exact bodyPost_ret (v := .agg #[.int .i64 3, .int .i64 0, .int .i64 0, .slice hA2 (H'.length + 1) hc2]) (by simp [results, Try.results19, go_sem, q0, q1, q2, q3]) rfl ⟨rr_of (x := ⟨n', t', -1, gh, gl⟩) (HRN.out.trans (runF_miss HS.out HF.out)) OE.out, BE.out⟩
        | some j =>
          have HF : Hid (fndI R' gh gl = some j) := HZF
          rw [show fz (some j) = (j : Int) from rfl]
          have hjl := fnd_at HF.out
          obtain ⟨r, hr⟩ : ∃ r, R'[j]? = some r := ⟨_, List.getElem?_eq_getElem hjl⟩
          have hjz : (j : Int) < (R'.length : Int) := by omega
          obtain ⟨br, orr, rfl, -, hat⟩ := HRF.out (by rintro rfl; simp at hjl)
          have HAT := Lib.hid (hat j r hr)
          have HRI := Lib.hid hr
          have hlead := (rule_leads HCFG.out HS.out hr).2.2
          have HLD := Lib.hid hlead
          clear hr hat hlead hjl HZF
          have HRNK := Lib.hid (HRN.out.trans (runF_hit HS.out HF.out HRI.out))
          clear HRN
          have hb := below1 wv (.cells #[.int .i64 (n' : Int), .int .i64 (t' : Int), .int .i64 (j : Int), .int .u64 (uv gh), .int .u64 (uv gl)] 66)
          have kN : Blk (wv.alloc (.cells #[.int .i64 (n' : Int), .int .i64 (t' : Int), .int .i64 (j : Int), .int .u64 (uv gh), .int .u64 (uv gl)] 66)) wv.heap.size 66 #[.int .i64 (n' : Int), .int .i64 (t' : Int), .int .i64 (j : Int), .int .u64 (uv gh), .int .u64 (uv gl)] := Blk.new wv _ _
          have SR : Src (wv.alloc (.cells #[.int .i64 (n' : Int), .int .i64 (t' : Int), .int .i64 (j : Int), .int .u64 (uv gh), .int .u64 (uv gl)] 66)) 5 (.slice (some ⟨wv.heap.size, 0, none⟩) 1 1) 1 [.int .i64 (n' : Int), .int .i64 (t' : Int), .int .i64 (j : Int), .int .u64 (uv gh), .int .u64 (uv gl)] := src_blk (x := ⟨n', t', (j : Int), gh, gl⟩) kN
          have HB2 := Lib.hid (HBV.out.trans (hb.mono HBV.out.size))
          have HN2 := Lib.hid (HNV.out.on hb)
          have HH2 := Lib.hid (HHV.out.on hb)
          have HX2 := Lib.hid (HXV.out.on hb)
          have HY2 := Lib.hid (HYV.out.on hb)
          have O2 := own_on HOV.out hb
          obtain ⟨h0, h1⟩ := HHV.out.both
          obtain ⟨y0, y1, y2, y3⟩ := quad HYV.out
          have hszb : w.heap.size ≤ (wv.alloc (.cells #[.int .i64 (n' : Int), .int .i64 (t' : Int), .int .i64 (j : Int), .int .u64 (uv gh), .int .u64 (uv gl)] 66)).heap.size := HB2.out.size
          go_wp2_with (at_builtin; refine wpList_app _ rfl (.tmp 59) (.tmp 65) 61 rfl w.heap.size 66 ih _ 5 40 Try.underlying61 hih hz0 hz1 hz2 rfl (by decide) _ H'.length (H'.flatMap Hp.cs) rfl O2 _ 1 [.int .i64 (n' : Int), .int .i64 (t' : Int), .int .i64 (j : Int), .int .u64 (uv gh), .int .u64 (uv gl)] rfl SR (by unfold maxLen; omega) (by omega) hszb ?_)
          intro v2 w2 O3 hgr
          obtain ⟨hA2, hc2, rfl, -⟩ := own_sl O3
          have HB3 := Lib.hid (HB2.out.grown hgr HB2.out.size (fun j hj => (O2.lt j hj).1))
          have HN3 := Lib.hid (HN2.out.grown hgr (own_apart O2 HN2.out (by decide)))
          have HH3 := Lib.hid (HH2.out.grown hgr (own_apart O2 HH2.out (by decide)))
          have HX3 := Lib.hid (HX2.out.grown hgr (own_apart O2 HX2.out (by decide)))
          have HY3 := Lib.hid (HY2.out.grown hgr (own_apart O2 HY2.out (by decide)))
          have HO3 := Lib.hid O3
          clear hb kN SR HB2 HN2 HH2 HX2 HY2 O2 O3 hgr h0 h1 y0 y1 y2 y3 hszb HBV HNV HHV HXV HYV HOV
          have y3 := (HY3.out.cell 3).trans rfl
          have g3 := HY3.out.free 3
          simp only [List.getElem?_toArray, List.getElem?_cons_succ, List.getElem?_cons_zero] at y3
          go_upto_region 11 with (fail)
          clear y3 g3
          have HBV := Lib.hid (HB3.out.setCell (p := ⟨w.heap.size + 1 + 1 + 1 + 1, 3, none⟩) (show w.heap.size ≤ w.heap.size + 1 + 1 + 1 + 1 by omega) (.slice hA2 (H'.length + 1) hc2))
          have HNV := Lib.hid (HN3.out.far (p := ⟨w.heap.size + 1 + 1 + 1 + 1, 3, none⟩) (show w.heap.size ≠ w.heap.size + 1 + 1 + 1 + 1 by omega) (.slice hA2 (H'.length + 1) hc2))
          have HHV := Lib.hid (HH3.out.far (p := ⟨w.heap.size + 1 + 1 + 1 + 1, 3, none⟩) (show w.heap.size + 1 + 1 ≠ w.heap.size + 1 + 1 + 1 + 1 by omega) (.slice hA2 (H'.length + 1) hc2))
          have HXV := Lib.hid (HX3.out.far (p := ⟨w.heap.size + 1 + 1 + 1 + 1, 3, none⟩) (show w.heap.size + 1 + 1 + 1 ≠ w.heap.size + 1 + 1 + 1 + 1 by omega) (.slice hA2 (H'.length + 1) hc2))
          have kY := HY3.out.set 3 (.slice hA2 (H'.length + 1) hc2)
          simp only [List.setIfInBounds_toArray, List.set_cons_succ, List.set_cons_zero] at kY
          have HYV := Lib.hid kY
          have HOV := Lib.hid (ownsRow_setCell_other (a := ⟨w.heap.size + 1 + 1 + 1 + 1, 3, none⟩) HO3.out (fun e => own_apart HO3.out HY3.out (by decide) e.symm) (.slice hA2 (H'.length + 1) hc2))
          clear kY HB3 HN3 HH3 HX3 HY3 HO3
          generalize w2.setCell ⟨w.heap.size + 1 + 1 + 1 + 1, 3, none⟩ (.slice hA2 (H'.length + 1) hc2) = w3 at HBV HNV HHV HXV HYV HOV ⊢
          obtain ⟨-, -, -, -, d4⟩ := HNV.out.five
          have hsx := on_some HBV.out HSX.out
          have hsr := on_some HBV.out HSR.out
          obtain ⟨-, -, -, -, -, c5, c6, c7, c8, c9, c10, c11⟩ := (HAT.out.on HBV.out).out
          go_upto_region 12 with (fail)
          have hb := below1 w3 (.cells #[.int .i64 r.kind, .int .i64 r.port, .int .i64 r.tab, .int .u64 (uv r.s.vh), .int .u64 (uv r.s.vl), .int .u64 (uv r.s.ch), .int .u64 (uv r.s.cl)] 49)
          have HD4 := Lib.hid (Blk.new w3 49 #[.int .i64 r.kind, .int .i64 r.port, .int .i64 r.tab, .int .u64 (uv r.s.vh), .int .u64 (uv r.s.vl), .int .u64 (uv r.s.ch), .int .u64 (uv r.s.cl)])
          have HB4 := Lib.hid (HBV.out.trans (hb.mono HBV.out.size))
          have HN4 := Lib.hid (HNV.out.on hb)
          have HH4 := Lib.hid (HHV.out.on hb)
          have HX4 := Lib.hid (HXV.out.on hb)
          have HY4 := Lib.hid (HYV.out.on hb)
          have HO4 := Lib.hid (own_on HOV.out hb)
          have hdb : w.heap.size + 1 + 1 + 1 + 1 < w3.heap.size := HYV.out.lt
          clear hb d4 hsx hsr c5 c6 c7 c8 c9 c10 c11 HBV HNV HHV HXV HYV HOV
          generalize hgen : w3.alloc (.cells #[.int .i64 r.kind, .int .i64 r.port, .int .i64 r.tab, .int .u64 (uv r.s.vh), .int .u64 (uv r.s.vl), .int .u64 (uv r.s.ch), .int .u64 (uv r.s.cl)] 49) = w4 at HD4 HB4 HN4 HH4 HX4 HY4 HO4 ⊢
          clear hgen
          generalize hgen : w3.heap.size = bd at HD4 hdb ⊢
          clear hgen
          obtain ⟨h0, h1⟩ := HH4.out.both
          have c3 := (HD4.out.cell 3).trans rfl
          have c4 := (HD4.out.cell 4).trans rfl
          have c5 := (HD4.out.cell 5).trans rfl
          have c6 := (HD4.out.cell 6).trans rfl
          simp only [List.getElem?_toArray, List.getElem?_cons_succ, List.getElem?_cons_zero] at c3 c4 c5 c6
          go_wp2_with fail
          (with_reducible refine (rset_c gh gl r.s.vh r.s.vl r.s.ch r.s.cl _).mono ?_)
          rintro e w5 ⟨rfl, hb⟩
          have hH5 := HH4.out.on hb
          have HD5 := HD4.out.on hb
          have HB5 := HB4.out.trans (hb.mono HB4.out.size)
          have HN5 := HN4.out.on hb
          have HX5 := HX4.out.on hb
          have HY5 := HY4.out.on hb
          have HO5 := own_on HO4.out hb
          clear hb h0 h1 c3 c4 c5 c6 HD4 HB4 HN4 HH4 HX4 HY4 HO4
          obtain ⟨h0, h1⟩ := hH5.both
          have e0 := hH5.free 0
          have e1 := hH5.free 1
          obtain ⟨gh2, hgh2⟩ : ∃ q, stH r gh = q := ⟨_, rfl⟩
          obtain ⟨gl2, hgl2⟩ : ∃ q, stL r gl = q := ⟨_, rfl⟩
          have eh : ((gh &&& ~~~r.s.ch) ||| (r.s.vh &&& r.s.ch)) = gh2 := hgh2
          have el : ((gl &&& ~~~r.s.cl) ||| (r.s.vl &&& r.s.cl)) = gl2 := hgl2
          rw [eh, el]
          have HRX := HRNK.out
          rw [hgh2, hgl2] at HRX
          have HRK := Lib.hid HRX
          clear eh el hgh2 hgl2 HRX HRNK
          go_upto_region 13 with (fail)
          clear h0 h1 e0 e1
          have HH6 := Lib.hid (hH5.put2 (.int .u64 (uv gh2)) (.int .u64 (uv gl2)))
          have HD6 := Lib.hid (HD5.far2 (show bd ≠ w.heap.size + 1 + 1 by omega) (.int .u64 (uv gh2)) (.int .u64 (uv gl2)))
          have HB6 := Lib.hid (HB5.trans (below_put2 (B := w.heap.size) (g := w.heap.size + 1 + 1) (by omega) (.int .u64 (uv gh2)) (.int .u64 (uv gl2))))
          have HN6 := Lib.hid (HN5.far2 (show w.heap.size ≠ w.heap.size + 1 + 1 by omega) (.int .u64 (uv gh2)) (.int .u64 (uv gl2)))
          have HXV := Lib.hid (HX5.far2 (show w.heap.size + 1 + 1 + 1 ≠ w.heap.size + 1 + 1 by omega) (.int .u64 (uv gh2)) (.int .u64 (uv gl2)))
          have HYV := Lib.hid (HY5.far2 (show w.heap.size + 1 + 1 + 1 + 1 ≠ w.heap.size + 1 + 1 by omega) (.int .u64 (uv gh2)) (.int .u64 (uv gl2)))
          have HOV := Lib.hid (own_far2 hH5 HO5 (by decide) (.int .u64 (uv gh2)) (.int .u64 (uv gl2)))
          clear hH5 HD5 HB5 HN5 HX5 HY5 HO5
          generalize (w5.setCell ⟨w.heap.size + 1 + 1, 0, none⟩ (.int .u64 (uv gh2))).setCell ⟨w.heap.size + 1 + 1, 1, none⟩ (.int .u64 (uv gl2)) = w6 at HH6 HD6 HB6 HN6 HXV HYV HOV ⊢
          have HHV := HH6
          have HNV := HN6
          have HBV := HB6
          clear HH6 HN6 HB6
          have c0 := (HD6.out.cell 0).trans rfl
          have c1 := (HD6.out.cell 1).trans rfl
          have c2 := (HD6.out.cell 2).trans rfl
          simp only [List.getElem?_toArray, List.getElem?_cons_succ, List.getElem?_cons_zero] at c0 c1 c2
          rcases HLD.out with hk2 | hk2 | ⟨hk2, jj, mm, q, L2, R2, hpt, hq, hq2, hqm, hs'⟩ | ⟨hk2, u, R2, hu, hs'⟩
          · rw [hk2] at c0
            obtain ⟨y0, y1, y2, y3⟩ := quad HYV.out
            obtain ⟨g0, g1, g2, g3⟩ := free4 HYV.out
            go_upto_region 17 with (fail)
            clear y0 y1 y2 y3 g0 g1 g2 g3
            have HB9 := Lib.hid (HBV.out.setCell (p := ⟨w.heap.size + 1 + 1 + 1 + 1, 0, none⟩) (show w.heap.size ≤ w.heap.size + 1 + 1 + 1 + 1 by omega) (.int .i64 1))
            have HX9 := Lib.hid (HXV.out.far (p := ⟨w.heap.size + 1 + 1 + 1 + 1, 0, none⟩) (show w.heap.size + 1 + 1 + 1 ≠ w.heap.size + 1 + 1 + 1 + 1 by omega) (.int .i64 1))
            have kY := (HYV.out.set 0 (.int .i64 1))
            simp only [List.setIfInBounds_toArray, List.set_cons_zero] at kY
            have HO9 := Lib.hid (ownsRow_setCell_other (a := ⟨w.heap.size + 1 + 1 + 1 + 1, 0, none⟩) HOV.out (fun e => own_apart HOV.out HYV.out (by decide) e.symm) (.int .i64 1))
            have HY9 := Lib.hid kY
            clear kY HBV HNV HHV HXV HYV HOV
            generalize (w6.setCell ⟨w.heap.size + 1 + 1 + 1 + 1, 0, none⟩ (.int .i64 1)) = w9 at HB9 HX9 HY9 HO9 ⊢
            obtain ⟨y0, y1, y2, y3⟩ := quad HY9.out
            obtain ⟨x0, x1, x2, x3⟩ := quad HX9.out
            obtain ⟨f0, f1, f2, f3⟩ := free4 HX9.out
            obtain ⟨q0, q1, q2, q3⟩ := quad (put4 HX9.out (.int .i64 1) (.int .i64 0) (.int .i64 0) (.slice hA2 (H'.length + 1) hc2))
            have BE := Lib.hid (HB9.out.trans ((sets4 w9 (w.heap.size + 1 + 1 + 1) (.int .i64 1) (.int .i64 0) (.int .i64 0) (.slice hA2 (H'.length + 1) hc2)).mono (by omega)))
            have OE := Lib.hid (own_sets4 HX9.out HO9.out (by decide) (.int .i64 1) (.int .i64 0) (.int .i64 0) (.slice hA2 (H'.length + 1) hc2))
            clear HX9 HY9 HB9 HO9
            go_wp2
            exact bodyPost_ret (v := .agg #[.int .i64 1, .int .i64 0, .int .i64 0, .slice hA2 (H'.length + 1) hc2]) (by simp [results, Try.results19, go_sem, q0, q1, q2, q3]) rfl ⟨rr_of (x := ⟨n', t', (j : Int), gh, gl⟩) (HRK.out.trans (if_pos hk2)) OE.out, BE.out⟩
          · rw [hk2] at c0
            obtain ⟨y0, y1, y2, y3⟩ := quad HYV.out
            obtain ⟨g0, g1, g2, g3⟩ := free4 HYV.out
            go_upto_region 21 with (fail)
            clear y0 y1 y2 y3 g0 g1 g2 g3
            have HB9 := Lib.hid (((HBV.out.setCell (p := ⟨w.heap.size + 1 + 1 + 1 + 1, 0, none⟩) (show w.heap.size ≤ w.heap.size + 1 + 1 + 1 + 1 by omega) (.int .i64 2)).setCell (p := ⟨w.heap.size + 1 + 1 + 1 + 1, 1, none⟩) (show w.heap.size ≤ w.heap.size + 1 + 1 + 1 + 1 by omega) (.int .i64 (n' : Int))).setCell (p := ⟨w.heap.size + 1 + 1 + 1 + 1, 2, none⟩) (show w.heap.size ≤ w.heap.size + 1 + 1 + 1 + 1 by omega) (.int .i64 r.port))
            have HX9 := Lib.hid (((HXV.out.far (p := ⟨w.heap.size + 1 + 1 + 1 + 1, 0, none⟩) (show w.heap.size + 1 + 1 + 1 ≠ w.heap.size + 1 + 1 + 1 + 1 by omega) (.int .i64 2)).far (p := ⟨w.heap.size + 1 + 1 + 1 + 1, 1, none⟩) (show w.heap.size + 1 + 1 + 1 ≠ w.heap.size + 1 + 1 + 1 + 1 by omega) (.int .i64 (n' : Int))).far (p := ⟨w.heap.size + 1 + 1 + 1 + 1, 2, none⟩) (show w.heap.size + 1 + 1 + 1 ≠ w.heap.size + 1 + 1 + 1 + 1 by omega) (.int .i64 r.port))
            have kY := (((HYV.out.set 0 (.int .i64 2)).set 1 (.int .i64 (n' : Int))).set 2 (.int .i64 r.port))
            simp only [List.setIfInBounds_toArray, List.set_cons_succ, List.set_cons_zero] at kY
            have HO9 := Lib.hid (ownsRow_setCell_other (a := ⟨w.heap.size + 1 + 1 + 1 + 1, 2, none⟩) (ownsRow_setCell_other (a := ⟨w.heap.size + 1 + 1 + 1 + 1, 1, none⟩) (ownsRow_setCell_other (a := ⟨w.heap.size + 1 + 1 + 1 + 1, 0, none⟩) HOV.out (fun e => own_apart HOV.out HYV.out (by decide) e.symm) (.int .i64 2)) (fun e => own_apart HOV.out HYV.out (by decide) e.symm) (.int .i64 (n' : Int))) (fun e => own_apart HOV.out HYV.out (by decide) e.symm) (.int .i64 r.port))
            have HY9 := Lib.hid kY
            clear kY HBV HNV HHV HXV HYV HOV
            generalize (((w6.setCell ⟨w.heap.size + 1 + 1 + 1 + 1, 0, none⟩ (.int .i64 2)).setCell ⟨w.heap.size + 1 + 1 + 1 + 1, 1, none⟩ (.int .i64 (n' : Int))).setCell ⟨w.heap.size + 1 + 1 + 1 + 1, 2, none⟩ (.int .i64 r.port)) = w9 at HB9 HX9 HY9 HO9 ⊢
            obtain ⟨y0, y1, y2, y3⟩ := quad HY9.out
            obtain ⟨x0, x1, x2, x3⟩ := quad HX9.out
            obtain ⟨f0, f1, f2, f3⟩ := free4 HX9.out
            obtain ⟨q0, q1, q2, q3⟩ := quad (put4 HX9.out (.int .i64 2) (.int .i64 (n' : Int)) (.int .i64 r.port) (.slice hA2 (H'.length + 1) hc2))
            have BE := Lib.hid (HB9.out.trans ((sets4 w9 (w.heap.size + 1 + 1 + 1) (.int .i64 2) (.int .i64 (n' : Int)) (.int .i64 r.port) (.slice hA2 (H'.length + 1) hc2)).mono (by omega)))
            have OE := Lib.hid (own_sets4 HX9.out HO9.out (by decide) (.int .i64 2) (.int .i64 (n' : Int)) (.int .i64 r.port) (.slice hA2 (H'.length + 1) hc2))
            clear HX9 HY9 HB9 HO9
            go_wp2
            exact bodyPost_ret (v := .agg #[.int .i64 2, .int .i64 (n' : Int), .int .i64 r.port, .slice hA2 (H'.length + 1) hc2]) (by simp [results, Try.results19, go_sem, q0, q1, q2, q3]) rfl ⟨rr_of (x := ⟨n', t', (j : Int), gh, gl⟩) (HRK.out.trans ((if_neg (by omega)).trans (if_pos hk2))) OE.out, BE.out⟩
          · rw [hk2] at c0
            have hjjl : jj < L'.length := (List.getElem?_eq_some_iff.1 hq).1
            have hjjz : (jj : Int) < (L'.length : Int) := by omega
            have hnT := sta_left HS.out
            have hnTl : n' < T.length := (List.getElem?_eq_some_iff.1 hnT).1
            have hnTz : (n' : Int) < (T.length : Int) := by omega
            rw [hpt] at c1
            obtain ⟨tA', tc', e, -, hTf⟩ := HT.out
            injection e with e1 e2 e3
            subst e1 e3
            obtain ⟨bt, ot, rfl, -, hTf⟩ := hTf (by rintro rfl; simp at hnTl)
            obtain ⟨sL, hsL, hLp⟩ := hTf n' L' hnT
            obtain ⟨LA, Lc, rfl, -, hLf⟩ := hLp
            obtain ⟨bl', ol, rfl, -, hLf⟩ := hLf (by rintro rfl; simp at hjjl)
            have hpc := (hLf jj q hq).2.2.1
            rw [hqm] at hpc
            have c8 := on_some HBV.out hsL
            have c9 := on_some HBV.out hpc
            obtain ⟨d0, -, -, -, -⟩ := HNV.out.five
            have HRQ : Hid (runF fndI T BB K i 0 sh sl [] = runF fndI T BB (K - (k + 1)) mm 0 gh2 gl2 (H' ++ [⟨n', t', (j : Int), gh, gl⟩])) := by
              show _ = _
              rw [HRK.out, if_neg (by omega), if_neg (by omega), if_neg (by omega), hpt, peer_at hnT hq hqm]
            clear hpt hqm hq hq2 hLf hsL hTf hpc hk2
            go_upto_region 14 with (fail)
            go_quiet (fail)
            have hdw := bldrewN (Below.refl w6.heap.size w6) nq
            have HBE := Lib.hid (HBV.out.trans (hdw.mono HBV.out.size))
            have HNE := Lib.hid (HNV.out.on hdw)
            have HHE := Lib.hid (HHV.out.on hdw)
            have HXE := Lib.hid (HXV.out.on hdw)
            have HYE := Lib.hid (HYV.out.on hdw)
            have HOE := Lib.hid (own_on HOV.out hdw)
            clear hdw HBV HNV HHV HXV HYV HOV c0 c1 c2 c8 c9 d0
            generalize w6.drewN nq = w7 at HBE HNE HHE HXE HYE HOE ⊢
            go_wp2
            go_roundg (K - (k + 1))
            case measure => omega
            case rel => exact ⟨k + 1, mm, 0, gh2, gl2, L2, R2, H' ++ [⟨n', t', (j : Int), gh, gl⟩], hA2, hc2, by omega, rfl, (by show _ = _; rw [List.length_append, hl'.out]; rfl), rfl, rfl, hs', HBE, HNE, HHE, HXE, by rw [List.length_append]; exact HYE, Lib.hid (own_snoc (x := ⟨n', t', (j : Int), gh, gl⟩) HOE.out), HRQ⟩
          · rw [hk2] at c0
            rw [hu] at c2
            have HRQ : Hid (runF fndI T BB K i 0 sh sl [] = runF fndI T BB (K - (k + 1)) n' u gh2 gl2 (H' ++ [⟨n', t', (j : Int), gh, gl⟩])) := by
              show _ = _
              rw [HRK.out, if_neg (by omega), if_neg (by omega), if_pos hk2, hu, Int.toNat_natCast]
            have HBE := HBV
            have HNE := HNV
            have HHE := HHV
            have HXE := HXV
            have HYE := HYV
            have HOE := HOV
            clear hu hk2 HBV HNV HHV HXV HYV HOV
            go_wp2
            go_roundg (K - (k + 1))
            case measure => omega
            case rel => exact ⟨k + 1, n', u, gh2, gl2, L', R2, H' ++ [⟨n', t', (j : Int), gh, gl⟩], hA2, hc2, by omega, rfl, (by show _ = _; rw [List.length_append, hl'.out]; rfl), rfl, rfl, hs', HBE, HNE, HHE, HXE, by rw [List.length_append]; exact HYE, Lib.hid (own_snoc (x := ⟨n', t', (j : Int), gh, gl⟩) HOE.out), HRQ⟩
      · have hltz : ¬ (H'.length : Int) < (K : Int) := by have := hl'.out; omega
        obtain rfl : k = K := by omega
        rw [Nat.sub_self] at HRN
        clear y0 y1 y2 y3
        have g0 := HY.out.free 0
        have y0 := (HY.out.cell 0).trans rfl
        have y3 := (HY.out.cell 3).trans rfl
        simp only [List.getElem?_toArray, List.getElem?_cons_succ, List.getElem?_cons_zero] at y0 y3
        go_upto_region 25 with (fail)
        clear y0 y3 g0
        have HB9 := Lib.hid (HBW.out.setCell (p := ⟨w.heap.size + 1 + 1 + 1 + 1, 0, none⟩) (show w.heap.size ≤ w.heap.size + 1 + 1 + 1 + 1 by omega) (.int .i64 4))
        have HX9 := Lib.hid (HX.out.far (p := ⟨w.heap.size + 1 + 1 + 1 + 1, 0, none⟩) (show w.heap.size + 1 + 1 + 1 ≠ w.heap.size + 1 + 1 + 1 + 1 by omega) (.int .i64 4))
        have kY := HY.out.set 0 (.int .i64 4)
        simp only [List.setIfInBounds_toArray, List.set_cons_zero] at kY
        have HO9 := Lib.hid (ownsRow_setCell_other (a := ⟨w.heap.size + 1 + 1 + 1 + 1, 0, none⟩) HO.out (fun e => own_apart HO.out HY.out (by decide) e.symm) (.int .i64 4))
        have HY9 := Lib.hid kY
        clear kY HBW HN HH HX HY HO
        generalize wr.setCell ⟨w.heap.size + 1 + 1 + 1 + 1, 0, none⟩ (.int .i64 4) = w9 at HB9 HX9 HY9 HO9 ⊢
        obtain ⟨y0, y1, y2, y3⟩ := quad HY9.out
        obtain ⟨x0, x1, x2, x3⟩ := quad HX9.out
        obtain ⟨f0, f1, f2, f3⟩ := free4 HX9.out
        obtain ⟨q0, q1, q2, q3⟩ := quad (put4 HX9.out (.int .i64 4) (.int .i64 0) (.int .i64 0) (.slice hA H'.length hc))
        have BE := Lib.hid (HB9.out.trans ((sets4 w9 (w.heap.size + 1 + 1 + 1) (.int .i64 4) (.int .i64 0) (.int .i64 0) (.slice hA H'.length hc)).mono (by omega)))
        have OE := Lib.hid (own_sets4 HX9.out HO9.out (by decide) (.int .i64 4) (.int .i64 0) (.int .i64 0) (.slice hA H'.length hc))
        clear HX9 HY9 HB9 HO9
        go_wp2
        exact bodyPost_ret (v := .agg #[.int .i64 4, .int .i64 0, .int .i64 0, .slice hA H'.length hc]) (by simp [results, Try.results19, go_sem, q0, q1, q2, q3]) rfl ⟨⟨4, 0, 0, H', hA, hc, rfl, HRN.out, OE.out⟩, BE.out⟩
end Go.Proofs

namespace Go.Proofs.Hd
open Go.RowKit
/-- A slice reads as hops. -/
def Hs (w : World) (A : Option Addr) (_cap : Nat) (H : List Hp) : Prop := H ≠ [] → ∃ b o, A = some ⟨b, o, none⟩ ∧ b < w.heap.size ∧ ∀ (i : Nat) (x : Hp), H[i]? = some x → ∀ (j : Nat) (u : Value), x.cs[j]? = some u → w.cell? ⟨b, o + i * 5 + j, none⟩ = some u
theorem Hs.on {w w' : World} {A : Option Addr} {cap : Nat} {H : List Hp} (h : Hs w A cap H) (hb : Below w.heap.size w w') : Hs w' A cap H := fun hne => by
  obtain ⟨b, o, e, hl, hc⟩ := h hne
  exact ⟨b, o, e, Nat.lt_of_lt_of_le hl hb.size, fun i x hx j u hj => on_some hb (hc i x hx j u hj)⟩
theorem Hs.nil (w : World) (A : Option Addr) (cap : Nat) : Hs w A cap [] := fun h => absurd rfl h
theorem Hs.of_own {w : World} {base : Nat} {A : Option Addr} {cap : Nat} {H : List Hp} (h : w.ownsRow base 66 5 (.slice A H.length cap) H.length (H.flatMap Hp.cs)) : Hs w A cap H := fun hne => by
  obtain ⟨A', cap', e, hc⟩ := own_rde h (fun _ => rfl)
  injection e with e1 e2 e3
  subst e1 e3
  exact hc hne
theorem Hs.at {w : World} {A : Option Addr} {cap i : Nat} {H : List Hp} {x : Hp} (h : Hs w A cap H) (hx : H[i]? = some x) : ∃ b o, A = some ⟨b, o, none⟩ ∧ b < w.heap.size ∧ w.cell? ⟨b, o + i * 5, none⟩ = some (.int .i64 x.sw) ∧ w.cell? ⟨b, o + i * 5 + 1, none⟩ = some (.int .i64 x.tb) ∧ w.cell? ⟨b, o + i * 5 + 2, none⟩ = some (.int .i64 x.rl) ∧ w.cell? ⟨b, o + i * 5 + 3, none⟩ = some (.int .u64 (uv x.hh)) ∧ w.cell? ⟨b, o + i * 5 + 4, none⟩ = some (.int .u64 (uv x.hl)) := by
  obtain ⟨b, o, e, hl, hc⟩ := h (by rintro rfl; simp at hx)
  exact ⟨b, o, e, hl, hc i x hx 0 _ rfl, hc i x hx 1 _ rfl, hc i x hx 2 _ rfl, hc i x hx 3 _ rfl, hc i x hx 4 _ rfl⟩
end Go.Proofs.Hd
namespace Go.Proofs
open Go.RowKit Go.Proofs.Hd Go.Lib
attribute [local go_sem] uv_nonneg
set_option maxRecDepth 100000 in
theorem run_eqHp (w : World) (a b c d e : Int) : (Op.equalIn 10000 66 (.agg #[.int .i64 a, .int .i64 b, .int .i64 c, .int .u64 d, .int .u64 e]) (.agg #[.int .i64 a, .int .i64 b, .int .i64 c, .int .u64 d, .int .u64 e])).run Try.prog w = .ok true w := by
  go_simp
set_option maxRecDepth 100000 in
theorem run_eqSp1 (w : World) (a b : Int) : (Op.equalIn 10000 56 (.agg #[.int .i64 a, .int .i64 b]) (.agg #[.int .i64 a, .int .i64 b])).run Try.prog w = .ok true w := by
  go_simp
attribute [local go_sem high] run_eqHp run_eqSp1
end Go.Proofs

namespace Go.Proofs.Hd
open Go Go.RowKit Go.Proofs
theorem edge_mem {T : List (List Pt)} {a b : Int} (he : ¬ edgT T a b < 0) : ∃ i j : Nat, a = i ∧ b = j ∧ ((i, j) : Rc) ∈ eTo T T.length ∧ ∃ L p, T[i]? = some L ∧ L[j]? = some p ∧ p.kind = 1 := by
  cases hp : ptAt T a b with
  | none => rw [edgT_none hp] at he; exact absurd (by decide) he
  | some p =>
    have hk : p.kind = 1 := by
      unfold edgT at he
      rw [hp] at he
      by_cases hk : p.kind = 1
      · exact hk
      · simp only [if_neg hk] at he
        exact absurd (by decide) he
    obtain ⟨n, i, L, rfl, rfl, hL, hpp⟩ := ptAt_some hp
    exact ⟨n, i, rfl, rfl, eTo_mem.2 ⟨L, p, hL, hpp, hk⟩, L, p, hL, hpp, hk⟩
theorem stC_in {T : List (List Pt)} {BB : List (List (List Rl))} {i j n : Nat} (m : Nat) (h : ((i, j) : Rc) ∈ eTo T T.length) (hn : edgT T i j = (n : Int)) : stC n m ∈ allS T BB m := by
  unfold allS
  refine addsC_mem.2 (.inl (addsC_mem.2 (.inr ?_)))
  unfold edL
  refine List.mem_map.2 ⟨(i, j), h, ?_⟩
  show stC (edgT T (i : Int) (j : Int)).toNat m = _
  rw [hn]
  rfl
/-- Headers in the same ones of the cubes take the same rules at the same switches, once they are stamped at an edge. -/
theorem alk_run {T : List (List Pt)} {ten : Int} {P : List (Int × Int)} {Q : List Wa} {BB : List (List (List Rl))} {m : Nat} {L : List Cb} (hc : cfgT T ten P Q BB = 0) (hL : cloC bfC (allS T BB m) 500 501 0 (mtcL BB) = L) (h5 : L.length ≤ 500)
    {i j n : Nat} (hin : ((i, j) : Rc) ∈ eTo T T.length) (hn : edgT T i j = (n : Int)) {gh gl hh hl : BitVec 64} (ha : Alk (toldL keyC 129 L) gh gl hh hl) (K : Nat) :
    (runF fndI T BB K i 0 (num (sF gh gl n m) 64 64) (num (sF gh gl n m) 0 64) []).fin = (runF fndI T BB K i 0 (num (sF hh hl n m) 64 64) (num (sF hh hl n m) 0 64) []).fin ∧
    (runF fndI T BB K i 0 (num (sF gh gl n m) 64 64) (num (sF gh gl n m) 0 64) []).sw = (runF fndI T BB K i 0 (num (sF hh hl n m) 64 64) (num (sF hh hl n m) 0 64) []).sw ∧
    (runF fndI T BB K i 0 (num (sF gh gl n m) 64 64) (num (sF gh gl n m) 0 64) []).sp = (runF fndI T BB K i 0 (num (sF hh hl n m) 64 64) (num (sF hh hl n m) 0 64) []).sp ∧
    (runF fndI T BB K i 0 (num (sF gh gl n m) 64 64) (num (sF gh gl n m) 0 64) []).hops.map Hp.way = (runF fndI T BB K i 0 (num (sF hh hl n m) 64 64) (num (sF hh hl n m) 0 64) []).hops.map Hp.way := by
  obtain ⟨-, hs, hcl, hm⟩ := told_facts hc hL h5
  have hd := stC_in (BB := BB) m hin hn
  have ha2 := Alk.set hs hcl hd ha
  rw [(set_stamp (stC_ok n m) gh gl).1, (set_stamp (stC_ok n m) gh gl).2, (set_stamp (stC_ok n m) hh hl).1, (set_stamp (stC_ok n m) hh hl).2]
  refine runF_alk (S := allS T BB m) hs hcl T (fun B hB R hR r hr => hm _ ?_) (fun B hB R hR r hr => ?_) K i 0 _ _ _ _ [] [] ha2 rfl
  · unfold mtcL
    exact addsC_mem.2 (.inr (List.mem_map.2 ⟨r, rulL_mem.2 ⟨B, hB, R, hR, hr⟩, rfl⟩))
  · have hrm : r ∈ rulL BB := rulL_mem.2 ⟨B, hB, R, hR, hr⟩
    cases hcr : r.s.cares with
    | false => exact .inl (snd_zero (rul_snd hc hrm).2 hcr)
    | true =>
      refine .inr ?_
      unfold allS
      refine addsC_mem.2 (.inr ?_)
      unfold rsL
      exact List.mem_filter.2 ⟨List.mem_map.2 ⟨r, hrm, rfl⟩, hcr⟩
end Go.Proofs.Hd
namespace Go.Proofs
open Go.RowKit Go.Proofs.Hd Go.Lib
attribute [local go_sem] uv_nonneg
attribute [local go_sem high] run_eqSp1
theorem run200 (tv pv wv bv : Value) (T : List (List Pt)) (ten : Int) (P : List (Int × Int)) (Q : List Wa) (BB : List (List (List Rl))) (i : Nat) (b : Int) (n m : Nat) (hh hl : BitVec 64) (w : World) {L0 : List Pt} {R0 : List Rl} (hT : PsT w tv T) (hP : Pe w pv P) (hQ : Wy w wv Q) (hB : RuQ w bv BB) (hcfg : cfgT T ten P Q BB = 0) (hed : edgT T i b = (n : Int)) (hn : n ≤ 3) (hm : m ≤ 255) (hs : StA T BB i 0 L0 R0) (hsz : ∀ X ∈ BB, ∀ R ∈ X, R.length ≤ 1466015503658) :
    Calls Try.prog 19 #[.agg #[tv, .int .i64 ten, pv, wv, bv], .agg #[.int .i64 (i : Int), .int .i64 b], .agg #[.int .u64 (uv hh), .int .u64 (uv hl)], .int .i64 (m : Int), .int .i64 200] w fun e w' => RR T BB 200 i (num (sF hh hl n m) 64 64) (num (sF hh hl n m) 0 64) w.heap.size e w' ∧ Below w.heap.size w w' :=
  rrun_c tv pv wv bv T ten P Q BB i b n m hh hl 200 w (by decide) hT hP hQ hB hcfg hed hn hm hs (fun X hX R hR => Nat.le_trans (hsz X hX R hR) (by decide))
set_option maxHeartbeats 16000000 in
set_option maxRecDepth 100000 in
theorem psal_c (tv pv wv bv : Value) (T : List (List Pt)) (ten : Int) (P : List (Int × Int)) (Q : List Wa) (BB : List (List (List Rl))) (a b : Int) (m : Nat) (gh gl hh hl : BitVec 64) (w : World) (hT : PsT w tv T) (hP : Pe w pv P) (hQ : Wy w wv Q) (hB : RuQ w bv BB) (hz : Szd T P Q BB) (hm : m ≤ 255) : Calls Try.prog 5 #[.agg #[tv, .int .i64 ten, pv, wv, bv], .agg #[.int .i64 a, .int .i64 b], .int .u8 (m : Int), .agg #[.int .u64 (uv gh), .int .u64 (uv gl)], .agg #[.int .u64 (uv hh), .int .u64 (uv hl)]] w fun e w' => e = .returned (.bool true) ∧ Below w.heap.size w w' := by
  have HT0 := Lib.hid hT
  have HP0 := Lib.hid hP
  have HQ0 := Lib.hid hQ
  have HBQ0 := Lib.hid hB
  have HR5 := Lib.hid hz.r
  obtain ⟨A, cap, rfl, -, -⟩ := hT
  obtain ⟨pA, pc, rfl, -, -⟩ := hP
  obtain ⟨wA, wc, rfl, -, -⟩ := hQ
  obtain ⟨bA, bc, rfl, -, -⟩ := hB
  have B0 := Lib.hid (below4 w (.cells #[.slice A T.length cap, .int .i64 ten, .slice pA P.length pc, .slice wA Q.length wc, .slice bA BB.length bc] 31) (.cells #[.int .i64 a, .int .i64 b] 56) (.cells #[.int .u64 (uv gh), .int .u64 (uv gl)] 41) (.cells #[.int .u64 (uv hh), .int .u64 (uv hl)] 41))
  have HBX0 : Blk ((((w.alloc (.cells #[.slice A T.length cap, .int .i64 ten, .slice pA P.length pc, .slice wA Q.length wc, .slice bA BB.length bc] 31)).alloc (.cells #[.int .i64 a, .int .i64 b] 56)).alloc (.cells #[.int .u64 (uv gh), .int .u64 (uv gl)] 41)).alloc (.cells #[.int .u64 (uv hh), .int .u64 (uv hl)] 41)) w.heap.size 31 #[.slice A T.length cap, .int .i64 ten, .slice pA P.length pc, .slice wA Q.length wc, .slice bA BB.length bc] ∧ Blk ((((w.alloc (.cells #[.slice A T.length cap, .int .i64 ten, .slice pA P.length pc, .slice wA Q.length wc, .slice bA BB.length bc] 31)).alloc (.cells #[.int .i64 a, .int .i64 b] 56)).alloc (.cells #[.int .u64 (uv gh), .int .u64 (uv gl)] 41)).alloc (.cells #[.int .u64 (uv hh), .int .u64 (uv hl)] 41)) (w.heap.size + 1) 56 #[.int .i64 a, .int .i64 b] ∧ Blk ((((w.alloc (.cells #[.slice A T.length cap, .int .i64 ten, .slice pA P.length pc, .slice wA Q.length wc, .slice bA BB.length bc] 31)).alloc (.cells #[.int .i64 a, .int .i64 b] 56)).alloc (.cells #[.int .u64 (uv gh), .int .u64 (uv gl)] 41)).alloc (.cells #[.int .u64 (uv hh), .int .u64 (uv hl)] 41)) (w.heap.size + 2) 41 #[.int .u64 (uv gh), .int .u64 (uv gl)] ∧ Blk ((((w.alloc (.cells #[.slice A T.length cap, .int .i64 ten, .slice pA P.length pc, .slice wA Q.length wc, .slice bA BB.length bc] 31)).alloc (.cells #[.int .i64 a, .int .i64 b] 56)).alloc (.cells #[.int .u64 (uv gh), .int .u64 (uv gl)] 41)).alloc (.cells #[.int .u64 (uv hh), .int .u64 (uv hl)] 41)) (w.heap.size + 3) 41 #[.int .u64 (uv hh), .int .u64 (uv hl)] := by
    refine ⟨(Blk.new w _ _).on (below3 _ _ _ _), ?_, ?_, ?_⟩
    · have h := (Blk.new (w.alloc (.cells #[.slice A T.length cap, .int .i64 ten, .slice pA P.length pc, .slice wA Q.length wc, .slice bA BB.length bc] 31)) 56 #[.int .i64 a, .int .i64 b]).on (below2 _ (.cells #[.int .u64 (uv gh), .int .u64 (uv gl)] 41) (.cells #[.int .u64 (uv hh), .int .u64 (uv hl)] 41))
      simpa using h
    · have h := (Blk.new ((w.alloc (.cells #[.slice A T.length cap, .int .i64 ten, .slice pA P.length pc, .slice wA Q.length wc, .slice bA BB.length bc] 31)).alloc (.cells #[.int .i64 a, .int .i64 b] 56)) 41 #[.int .u64 (uv gh), .int .u64 (uv gl)]).on (below1 _ (.cells #[.int .u64 (uv hh), .int .u64 (uv hl)] 41))
      simpa using h
    · have h := Blk.new (((w.alloc (.cells #[.slice A T.length cap, .int .i64 ten, .slice pA P.length pc, .slice wA Q.length wc, .slice bA BB.length bc] 31)).alloc (.cells #[.int .i64 a, .int .i64 b] 56)).alloc (.cells #[.int .u64 (uv gh), .int .u64 (uv gl)] 41)) 41 #[.int .u64 (uv hh), .int .u64 (uv hl)]
      simpa using h
  have HBX1 := Lib.hid HBX0
  obtain ⟨y, hwy⟩ : ∃ y, cfgT T ten P Q BB = y := ⟨_, rfl⟩
  have HWY := Lib.hid hwy
  have hmz : (m : Int) ≤ 255 := by omega
  clear hz hwy HBX0
  go_enter Try.func5, Try.ntmps5
  go_upto_region 1 with (fail)
  generalize ((((w.alloc (.cells #[.slice A T.length cap, .int .i64 ten, .slice pA P.length pc, .slice wA Q.length wc, .slice bA BB.length bc] 31)).alloc (.cells #[.int .i64 a, .int .i64 b] 56)).alloc (.cells #[.int .u64 (uv gh), .int .u64 (uv gl)] 41)).alloc (.cells #[.int .u64 (uv hh), .int .u64 (uv hl)] 41)) = w1 at B0 HBX1 ⊢
  have HBX : Hid (∀ U, Below w1.heap.size w1 U → (Blk U w.heap.size 31 #[.slice A T.length cap, .int .i64 ten, .slice pA P.length pc, .slice wA Q.length wc, .slice bA BB.length bc] ∧ Blk U (w.heap.size + 1) 56 #[.int .i64 a, .int .i64 b] ∧ Blk U (w.heap.size + 2) 41 #[.int .u64 (uv gh), .int .u64 (uv gl)] ∧ Blk U (w.heap.size + 3) 41 #[.int .u64 (uv hh), .int .u64 (uv hl)])) := fun U hb => ⟨HBX1.out.1.on hb, HBX1.out.2.1.on hb, HBX1.out.2.2.1.on hb, HBX1.out.2.2.2.on hb⟩
  have HT := Lib.hid (HT0.out.on B0.out)
  have HP := Lib.hid (HP0.out.on B0.out)
  have HQ := Lib.hid (HQ0.out.on B0.out)
  have HBQ := Lib.hid (HBQ0.out.on B0.out)
  clear HBX1 HT0 HP0 HQ0 HBQ0
  obtain ⟨k1, k2, k3, k4⟩ := HBX.out _ (Below.refl _ _)
  obtain ⟨d0, d1, d2, d3, d4⟩ := k1.five
  obtain ⟨s0, s1⟩ := k2.both
  obtain ⟨g0, g1⟩ := k3.both
  obtain ⟨h0, h1⟩ := k4.both
  clear k1 k2 k3 k4
  by_cases hy0 : y = 0
  · subst hy0
    obtain ⟨L, hL⟩ : ∃ L, cloC bfC (allS T BB m) 500 501 0 (mtcL BB) = L := ⟨_, rfl⟩
    have HL := Lib.hid hL
    go_wp2_with fail
    (with_reducible refine (pof_ok _ _ _ _ T ten P Q BB m L _ HT.out HP.out HQ.out HBQ.out HWY.out hm HR5.out hL).mono ?_)
    rintro e w2 hof
    obtain ⟨lv, ez, rfl, hfs, hfb, hb2⟩ := hof.one
    have HFS := Lib.hid hfs
    have HFB := Lib.hid hfb
    have B2 := Lib.hid hb2
    clear d0 d1 d2 d3 d4 s0 s1 g0 g1 h0 h1
    clear hof hfs hfb hb2 hL
    by_cases h5 : L.length ≤ 500
    · obtain ⟨he0, hpl⟩ := HFS.out h5
      subst he0
      obtain ⟨-, hsn, -, -⟩ := told_facts HWY.out HL.out h5
      obtain ⟨LL, hLL⟩ : ∃ LL, toldL keyC 129 L = LL := ⟨_, rfl⟩
      have HLL := Lib.hid hLL
      rw [hLL] at hpl hsn
      obtain ⟨lA, lc, rfl, hlm, hlA⟩ := hpl.form
      have HPL2 := Lib.hid hlA
      have HSN := Lib.hid hsn
      have hLz : (LL.length : Int) ≤ 9223372036854775807 := by unfold maxLen at hlm; omega
      clear hpl hlA hsn hLL HFS HFB
      go_wp2_with fail
      (with_reducible refine (awake13_c _).mono ?_)
      rintro e w4 ⟨rfl, hb4⟩
      have Bw4 := Lib.hid (B2.out.trans (hb4.mono B2.out.size))
      have B24 := Lib.hid hb4
      clear hb4 B2
      obtain ⟨k1, k2, k3, k4⟩ := HBX.out _ Bw4.out
      obtain ⟨d0, d1, d2, d3, d4⟩ := k1.five
      obtain ⟨s0, s1⟩ := k2.both
      obtain ⟨g0, g1⟩ := k3.both
      obtain ⟨h0, h1⟩ := k4.both
      clear k1 k2 k3 k4
      obtain ⟨ed, hed⟩ : ∃ ed, edgT T a b = ed := ⟨_, rfl⟩
      have hrc := redge_c _ T a b w4 (HT.out.on Bw4.out)
      rw [hed] at hrc
      go_wp2_with fail
      (with_reducible refine hrc.mono ?_)
      rintro e w6 ⟨rfl, hb6⟩
      have B6 := Lib.hid (Bw4.out.trans (hb6.mono Bw4.out.size))
      have B26 := Lib.hid (B24.out.trans (hb6.mono B24.out.size))
      clear d0 d1 d2 d3 d4 s0 s1 g0 g1 h0 h1
      clear hb6 hrc Bw4 B24
      by_cases hd0 : ed < 0
      · clear hed
        go_wp2_with fail
        (with_reducible refine (awake13_c _).mono ?_)
        rintro e w9 ⟨rfl, hb9⟩
        have B9 := B0.out.trans ((B6.out.trans (hb9.mono B6.out.size)).mono B0.out.size)
        clear hb9
        go_wp2
        go_ret
        exact ⟨rfl, B9⟩
      · obtain ⟨i, k, rfl, rfl, hin, L0, p0, hL0, hp0, hk0⟩ := edge_mem (T := T) (a := a) (b := b) (by rw [hed]; exact hd0)
        obtain ⟨n, hn3, hpt⟩ := edge_sound (cfg_parts HWY.out).1 hL0 hp0 hk0
        have hen := (edgT_edge hL0 hp0 hk0).trans hpt
        obtain ⟨i2, La, Ra, hi2, hsta⟩ := edge_sta HWY.out (a := i) (b := k) (by rw [hed]; exact hd0)
        have hii : i2 = i := by omega
        subst hii
        have HIN := Lib.hid hin
        have HEN := Lib.hid hen
        have HSTA := Lib.hid hsta
        have hHA : Hid (∀ x, x ∈ LL.take 0 → x.has gh gl = x.has hh hl) := fun x hx => by simp at hx
        clear hL0 hp0 hk0 hpt hi2 hin hen hed hsta
        go_wp2
        go_loopg [13] LL.length (fun gk s13 wr => ∃ j : Nat, j ≤ LL.length ∧ gk = LL.length - j ∧ s13 = .int .i64 j ∧ Hid (∀ x, x ∈ LL.take j → x.has gh gl = x.has hh hl) ∧ Hid (Below w1.heap.size w1 wr ∧ Below w2.heap.size w2 wr))
        case atStart => exact ⟨0, Nat.zero_le _, rfl, by go_num, hHA, B6.out, B26.out⟩
        case round =>
          clear hHA B6 B26
          obtain ⟨j, hj, rfl, rfl, HHA, HBR⟩ := hrel
          by_cases hlt : j < LL.length
          · have hltz : (j : Int) < (LL.length : Int) := by omega
            obtain ⟨c, hc⟩ : ∃ c, LL[j]? = some c := ⟨_, List.getElem?_eq_getElem hlt⟩
            obtain ⟨lb, lo, rfl, _, hpc⟩ := HPL2.out (by rintro rfl; simp at hc)
            obtain ⟨c0, c1, c2, c3⟩ := hpc j c hc
            replace c0 := on_some HBR.out.2 c0
            replace c1 := on_some HBR.out.2 c1
            replace c2 := on_some HBR.out.2 c2
            replace c3 := on_some HBR.out.2 c3
            have HCS := Lib.hid (HSN.out c (List.mem_of_getElem? hc))
            have HTJ : Hid (LL.take (j + 1) = LL.take j ++ [c]) := by show _ = _; rw [List.take_add_one, hc]; rfl
            clear hc hpc
            go_wp2_with fail
            (with_reducible refine (text_yes c _ HCS.out).mono ?_)
            rintro e w5 ⟨rfl, hb5⟩
            have B5 : Hid (Below w1.heap.size w1 w5) := HBR.out.1.trans (hb5.mono HBR.out.1.size)
            have B25 : Hid (Below w2.heap.size w2 w5) := HBR.out.2.trans (hb5.mono HBR.out.2.size)
            clear hb5 HBR c0 c1 c2 c3
            obtain ⟨s, hs⟩ : ∃ s, txt c = s := ⟨_, rfl⟩
            rw [hs]
            obtain ⟨x, hx⟩ : ∃ x, c.has gh gl = x := ⟨_, rfl⟩
            obtain ⟨y, hy⟩ : ∃ y, c.has hh hl = y := ⟨_, rfl⟩
            have HHG : Hid (∀ U : World, Calls Try.prog 18 #[.string s, .agg #[.int .u64 (uv gh), .int .u64 (uv gl)]] U fun e w' => e = .returned (.bool x) ∧ Below U.heap.size U w') := fun U => by
              have := rhas_s s c gh gl U HCS.out hs
              rwa [hx] at this
            have HHH : Hid (∀ U : World, Calls Try.prog 18 #[.string s, .agg #[.int .u64 (uv hh), .int .u64 (uv hl)]] U fun e w' => e = .returned (.bool y) ∧ Below U.heap.size U w') := fun U => by
              have := rhas_s s c hh hl U HCS.out hs
              rwa [hy] at this
            have HEQ : Hid (x = y → ∀ z, z ∈ LL.take (j + 1) → z.has gh gl = z.has hh hl) := fun he z hz => by
              rw [HTJ.out] at hz
              rcases List.mem_append.1 hz with h | h
              · exact HHA.out z h
              · rw [List.mem_singleton.1 h, hx, hy, he]
            have KP : ∀ U, Below w5.heap.size w5 U → (Below w5.heap.size w5 U ∧ U.cell? ⟨w.heap.size + 2, 0, none⟩ = some (.int .u64 (uv gh)) ∧ U.cell? ⟨w.heap.size + 2, 1, none⟩ = some (.int .u64 (uv gl)) ∧ U.cell? ⟨w.heap.size + 3, 0, none⟩ = some (.int .u64 (uv hh)) ∧ U.cell? ⟨w.heap.size + 3, 1, none⟩ = some (.int .u64 (uv hl))) := fun U hb => by
              obtain ⟨-, -, k3, k4⟩ := HBX.out _ (B5.out.trans (hb.mono B5.out.size))
              exact ⟨hb, k3.both.1, k3.both.2, k4.both.1, k4.both.2⟩
            have HKP := Lib.hid KP
            clear KP hs hx hy HTJ HHA
            go_upto_region 8 with (fail)
            refine wp_region_held_drew (S := fun w' => Below w5.heap.size w5 w' ∧ w'.cell? ⟨w.heap.size + 2, 0, none⟩ = some (.int .u64 (uv gh)) ∧ w'.cell? ⟨w.heap.size + 2, 1, none⟩ = some (.int .u64 (uv gl)) ∧ w'.cell? ⟨w.heap.size + 3, 0, none⟩ = some (.int .u64 (uv hh)) ∧ w'.cell? ⟨w.heap.size + 3, 1, none⟩ = some (.int .u64 (uv hl))) (by kernel_rfl) (HKP.out _ (Below.refl _ w5).drew) (fun hHeld => ?_)
            have hB : Below w5.heap.size w5 w5.drew := (Below.refl _ w5).drew
            generalize w5.drew = u0 at hHeld hB ⊢
            refine wpAnyH_take (i := 0) (oi := ⟨some 54, _, _, _, _, _⟩) (v := ?vs0_1) rfl (by kernel_rfl) (by kernel_rfl) (by kernel_rfl) (fun _ _ _ h => h) (Or.inl ⟨by rfl, ?ys0_1⟩) hHeld ?rs0_1
            case ys0_1 => (intro w' hSw; (try dsimp only at hSw); go_simp; try (with_reducible rfl))
            simp only [Act.put, List.setIfInBounds_toArray, List.set_cons_zero, List.set_cons_succ]
            refine wpAnyH_take (i := 1) (oi := ⟨some 55, _, _, _, _, _⟩) (v := ?vs1_2) rfl (by kernel_rfl) (by kernel_rfl) (by kernel_rfl) (fun _ _ _ h => h) (Or.inl ⟨by rfl, ?ys1_2⟩) hHeld ?rs1_2
            case ys1_2 => (intro w' hSw; (try dsimp only at hSw); go_simp; try (with_reducible rfl))
            simp only [Act.put, List.setIfInBounds_toArray, List.set_cons_zero, List.set_cons_succ]
            refine wpAnyH_take (i := 3) (oi := ⟨some 57, _, _, _, _, _⟩) (v := ?vs3_3) rfl (by kernel_rfl) (by kernel_rfl) (by kernel_rfl) (fun _ _ _ h => h) (Or.inl ⟨by rfl, ?ys3_3⟩) hHeld ?rs3_3
            case ys3_3 => (intro w' hSw; (try dsimp only at hSw); go_simp; try (with_reducible rfl))
            simp only [Act.put, List.setIfInBounds_toArray, List.set_cons_zero, List.set_cons_succ]
            refine wpAnyH_take (i := 4) (oi := ⟨some 58, _, _, _, _, _⟩) (v := ?vs4_4) rfl (by kernel_rfl) (by kernel_rfl) (by kernel_rfl) (fun _ _ _ h => h) (Or.inl ⟨by rfl, ?ys4_4⟩) hHeld ?rs4_4
            case ys4_4 => (intro w' hSw; (try dsimp only at hSw); go_simp; try (with_reducible rfl))
            simp only [Act.put, List.setIfInBounds_toArray, List.set_cons_zero, List.set_cons_succ]
            refine wpAnyH_ready (rs := [2]) (by kernel_rfl) (by simp) ?_
            refine AllReadyH.cons (o := ⟨some 56, _, _, _, _, _⟩) rfl (fun K hK => ?_) AllReadyH.nil
            go_simp
            (with_reducible refine (HHG.out u0).mono ?_)
            rintro e u1 ⟨rfl, hb⟩
            (try dsimp only)
            have hB2 := hB.trans (hb.mono hB.size)
            refine hK.out _ _ (HKP.out _ hB2) (fun hNext => ?_)
            clear hK K hHeld
            have hHeld := hNext
            clear hNext
            clear hB
            have hB := hB2
            clear hB2
            clear hb
            try simp only [Act.put, List.setIfInBounds_toArray, List.set_cons_zero, List.set_cons_succ]
            refine wpAnyH_ready (rs := [5]) (by kernel_rfl) (by simp) ?_
            refine AllReadyH.cons (o := ⟨some 59, _, _, _, _, _⟩) rfl (fun K hK => ?_) AllReadyH.nil
            go_simp
            (with_reducible refine (HHH.out u1).mono ?_)
            rintro e u2 ⟨rfl, hb⟩
            (try dsimp only)
            have hB2 := hB.trans (hb.mono hB.size)
            refine hK.out _ _ (HKP.out _ hB2) (fun hNext => ?_)
            clear hK K hHeld
            have hHeld := hNext
            clear hNext
            clear hB
            have hB := hB2
            clear hB2
            clear hb
            try simp only [Act.put, List.setIfInBounds_toArray, List.set_cons_zero, List.set_cons_succ]
            refine wpAnyH_take (i := 6) (oi := ⟨some 60, _, _, _, _, _⟩) (v := ?vs6_5) rfl (by kernel_rfl) (by kernel_rfl) (by kernel_rfl) (fun _ _ _ h => h) (Or.inl ⟨by rfl, ?ys6_5⟩) hHeld ?rs6_5
            case ys6_5 => (intro w' hSw; (try dsimp only at hSw); go_simp; try (with_reducible rfl))
            simp only [Act.put, List.setIfInBounds_toArray, List.set_cons_zero, List.set_cons_succ]
            refine wpAnyH_done (by kernel_rfl) ?_ _
            have HB6 := Lib.hid (B5.out.trans (hB.mono B5.out.size))
            have HB62 := Lib.hid (B25.out.trans (hB.mono B25.out.size))
            clear hHeld hB HKP B5 B25
            cases x <;> cases y
            · go_wp2_with fail
              go_wp2
              go_roundg (LL.length - (j + 1))
              case measure => omega
              case rel => exact ⟨j + 1, by omega, rfl, by go_num, HEQ.out (by trivial), HB6.out, HB62.out⟩
            · go_wp2_with fail
              go_wp2
              go_ret
              exact ⟨rfl, B0.out.trans (HB6.out.mono B0.out.size)⟩
            · go_wp2_with fail
              go_wp2
              go_ret
              exact ⟨rfl, B0.out.trans (HB6.out.mono B0.out.size)⟩
            · go_wp2_with fail
              go_wp2
              go_roundg (LL.length - (j + 1))
              case measure => omega
              case rel => exact ⟨j + 1, by omega, rfl, by go_num, HEQ.out (by trivial), HB6.out, HB62.out⟩
          · have hltz : ¬ (j : Int) < (LL.length : Int) := by omega
            obtain rfl : j = LL.length := by omega
            have HAK : Hid (Alk (toldL keyC 129 L) gh gl hh hl) := by
              intro c hc
              rw [HLL.out] at hc
              exact HHA.out c (by rw [List.take_length]; exact hc)
            have HRN := Lib.hid (alk_run HWY.out HL.out h5 HIN.out HEN.out HAK.out 200)
            have B5 : Hid (Below w1.heap.size w1 wr) := HBR.out.1
            clear HHA HBR hltz HAK HLL HIN HPL2 HSN
            obtain ⟨k1, k2, k3, k4⟩ := HBX.out _ B5.out
            obtain ⟨d0, d1, d2, d3, d4⟩ := k1.five
            obtain ⟨s0, s1⟩ := k2.both
            obtain ⟨g0, g1⟩ := k3.both
            obtain ⟨h0, h1⟩ := k4.both
            clear k1 k2 k3 k4
            go_wp2_with fail
            (with_reducible refine (run200 _ _ _ _ T ten P Q BB _ _ n m gh gl _ (HT.out.on B5.out) (HP.out.on B5.out) (HQ.out.on B5.out) (HBQ.out.on B5.out) HWY.out HEN.out hn3 hm HSTA.out HR5.out).mono ?_)
            rintro e w7 ⟨⟨fin, sw, sp, H, hA, hc, rfl, hr1, ho1⟩, hb7⟩
            rw [hr1] at HRN
            have hH2 : H.length ≤ 200 := by
              have := runF_len fndI T BB 200 i2 0 (num (sF gh gl n m) 64 64) (num (sF gh gl n m) 0 64) []
              rw [hr1] at this
              simpa using this
            have hb8 := below1 w7 (.cells #[.int .i64 fin, .int .i64 sw, .int .i64 sp, .slice hA H.length hc] 63)
            have HA8 := Lib.hid (Blk.new w7 63 #[.int .i64 fin, .int .i64 sw, .int .i64 sp, .slice hA H.length hc])
            have HH8 := Lib.hid ((Hs.of_own ho1).on hb8)
            have hbw := hb7.trans (hb8.mono hb7.size)
            have B8 := Lib.hid (B5.out.trans (hbw.mono B5.out.size))
            clear d0 d1 d2 d3 d4 s0 s1 g0 g1 h0 h1
            clear hb7 hb8 hbw hr1 ho1 B5
            go_upto_region 11 with (fail)
            generalize hgen : w7.alloc (.cells #[.int .i64 fin, .int .i64 sw, .int .i64 sp, .slice hA H.length hc] 63) = w8 at HA8 HH8 B8 ⊢
            clear hgen
            generalize hgen : w7.heap.size = ba at HA8 ⊢
            clear hgen
            obtain ⟨k1, k2, k3, k4⟩ := HBX.out _ B8.out
            obtain ⟨d0, d1, d2, d3, d4⟩ := k1.five
            obtain ⟨s0, s1⟩ := k2.both
            obtain ⟨g0, g1⟩ := k3.both
            obtain ⟨h0, h1⟩ := k4.both
            clear k1 k2 k3 k4
            go_wp2_with fail
            (with_reducible refine (run200 _ _ _ _ T ten P Q BB _ _ n m hh hl _ (HT.out.on B8.out) (HP.out.on B8.out) (HQ.out.on B8.out) (HBQ.out.on B8.out) HWY.out HEN.out hn3 hm HSTA.out HR5.out).mono ?_)
            rintro e w9 ⟨⟨fin2, sw2, sp2, G, gA, gc, rfl, hr2, ho2⟩, hb9⟩
            rw [hr2] at HRN
            obtain ⟨e1, e2, e3, e4⟩ := HRN.out
            simp only at e1 e2 e3 e4
            subst e1 e2 e3
            have hlen : G.length = H.length := by
              have := congrArg List.length e4
              rw [List.length_map, List.length_map] at this
              exact this.symm
            have HWAY : Hid (∀ (q : Nat) (x z : Hp), H[q]? = some x → G[q]? = some z → x.sw = z.sw ∧ x.tb = z.tb ∧ x.rl = z.rl) := fun q x z hx hz => by
              have h1 : (H.map Hp.way)[q]? = some x.way := by rw [List.getElem?_map, hx]; rfl
              rw [e4, List.getElem?_map, hz] at h1
              injection h1 with h1
              unfold Hp.way at h1
              injection h1 with h2 h3
              injection h3 with h3 h4
              exact ⟨h2.symm, h3.symm, h4.symm⟩
            have hb10 := below1 w9 (.cells #[.int .i64 fin, .int .i64 sw, .int .i64 sp, .slice gA G.length gc] 63)
            have HG10 := Lib.hid (Blk.new w9 63 #[.int .i64 fin, .int .i64 sw, .int .i64 sp, .slice gA G.length gc])
            have HI10 := Lib.hid ((Hs.of_own ho2).on hb10)
            have hbw := hb9.trans (hb10.mono hb9.size)
            have HA10 := Lib.hid (HA8.out.on hbw)
            have HH10 := Lib.hid (HH8.out.on hbw)
            have B10 := Lib.hid (B0.out.trans ((B8.out.trans (hbw.mono B8.out.size)).mono B0.out.size))
            clear d0 d1 d2 d3 d4 s0 s1 g0 g1 h0 h1
            have HLEN := Lib.hid hlen
            clear hlen hb9 hb10 hbw hr2 ho2 B8 HA8 HH8 HRN e4 B0 HBX HT HP HQ HBQ HR5 HWY HL HEN HSTA
            go_upto_region 12 with (fail)
            generalize hgen : w9.alloc (.cells #[.int .i64 fin, .int .i64 sw, .int .i64 sp, .slice gA G.length gc] 63) = w10 at HG10 HI10 HA10 HH10 B10 ⊢
            clear hgen
            generalize hgen : w9.heap.size = bg at HG10 ⊢
            clear hgen
            obtain ⟨a0, a1, a2, a3⟩ := quad HA10.out
            obtain ⟨q0, q1, q2, q3⟩ := quad HG10.out
            have hf1 : (fin != fin) = false := by simp
            have hf2 : ((H.length : Int) != (G.length : Int)) = false := by rw [HLEN.out]; simp
            go_wp2
            clear hf1 hf2
            go_loopg [18] H.length (fun gk s18 wr => ∃ q : Nat, q ≤ H.length ∧ gk = H.length - q ∧ s18 = .int .i64 q ∧ Hid (Below w10.heap.size w10 wr))
            case atStart => exact ⟨0, Nat.zero_le _, rfl, by go_num, Below.refl _ _⟩
            case round =>
              clear a0 a1 a2 a3 q0 q1 q2 q3
              obtain ⟨q, hq, rfl, rfl, HBW⟩ := hrel
              obtain ⟨a0, a1, a2, a3⟩ := quad (HA10.out.on HBW.out)
              obtain ⟨q0, q1, q2, q3⟩ := quad (HG10.out.on HBW.out)
              by_cases hqt : q < H.length
              · have hqz : (q : Int) < (H.length : Int) := by omega
                have hqg : q < G.length := by rw [HLEN.out]; exact hqt
                have hqz2 : (q : Int) < (G.length : Int) := by omega
                obtain ⟨x, hx⟩ : ∃ x, H[q]? = some x := ⟨_, List.getElem?_eq_getElem hqt⟩
                obtain ⟨z, hz⟩ : ∃ z, G[q]? = some z := ⟨_, List.getElem?_eq_getElem hqg⟩
                obtain ⟨n1, n2, n3⟩ := HWAY.out q x z hx hz
                obtain ⟨bh, oh, rfl, -, x0, x1, x2, -, -⟩ := (HH10.out.on HBW.out).at hx
                obtain ⟨bg2, og, rfl, -, z0, z1, z2, -, -⟩ := (HI10.out.on HBW.out).at hz
                rw [← n1] at z0
                rw [← n2] at z1
                rw [← n3] at z2
                have hf1 : (x.sw != x.sw) = false := by simp
                have hf2 : (x.tb != x.tb) = false := by simp
                have hf3 : (x.rl != x.rl) = false := by simp
                clear hx hz n1 n2 n3
                go_wp2_with fail
                go_quiet (fail)
                have HB2 := Lib.hid (bldrewN HBW.out nq)
                clear HBW x0 x1 x2 z0 z1 z2 a0 a1 a2 a3 q0 q1 q2 q3 hf1 hf2 hf3
                generalize wr.drewN nq = w11 at HB2 ⊢
                clear nq
                go_wp2
                go_roundg (H.length - (q + 1))
                case measure => omega
                case rel => exact ⟨q + 1, by omega, rfl, by go_num, HB2⟩
              · have hqz : ¬ (q : Int) < (H.length : Int) := by omega
                have B11 := B10.out.trans (HBW.out.mono B10.out.size)
                clear HBW
                go_wp2
                go_ret
                exact ⟨rfl, B11⟩
    · obtain ⟨he10, hnil⟩ := HFB.out (by omega)
      subst he10 hnil
      clear HFB HFS HL
      go_wp2_with fail
      (with_reducible refine (awake13_c _).mono ?_)
      rintro e w4 ⟨rfl, hb4⟩
      have Bw4 := Lib.hid (B2.out.trans (hb4.mono B2.out.size))
      clear hb4 B2
      go_wp2_with fail
      (with_reducible refine (awake13_c _).mono ?_)
      rintro e w9 ⟨rfl, hb9⟩
      have B9 := B0.out.trans ((Bw4.out.trans (hb9.mono Bw4.out.size)).mono B0.out.size)
      clear hb9
      go_wp2
      go_ret
      exact ⟨rfl, B9⟩
  · have hyy : y ≠ 0 := hy0
    have hyz : (y != 0) = true := by simp [hy0]
    have hwz : wrgZ (cfgT T ten P Q BB) m = y := by
      rw [HWY.out]
      unfold wrgZ
      rw [if_neg hy0]
    have HWZ := Lib.hid hwz
    clear hwz
    go_wp2_with fail
    (with_reducible refine (pof_bad _ _ _ _ T ten P Q BB m y _ HT.out HP.out HQ.out HBQ.out HWZ.out hyy).mono ?_)
    rintro e w2 ⟨rfl, hb2⟩
    have B2 := Lib.hid hb2
    clear d0 d1 d2 d3 d4 s0 s1 g0 g1 h0 h1
    clear hb2
    go_wp2_with fail
    (with_reducible refine (awake13_c _).mono ?_)
    rintro e w4 ⟨rfl, hb4⟩
    have Bw4 := Lib.hid (B2.out.trans (hb4.mono B2.out.size))
    clear hb4 B2
    go_wp2_with fail
    (with_reducible refine (awake13_c _).mono ?_)
    rintro e w9 ⟨rfl, hb9⟩
    have B9 := B0.out.trans ((Bw4.out.trans (hb9.mono Bw4.out.size)).mono B0.out.size)
    clear hb9
    go_wp2
    go_ret
    exact ⟨rfl, B9⟩
theorem psal_z (tv pv wv bv : Value) (T : List (List Pt)) (ten : Int) (P : List (Int × Int)) (Q : List Wa) (BB : List (List (List Rl))) (a b : Int) (n : Int) (gh gl hh hl : BitVec 64) (w : World) (hT : PsT w tv T) (hP : Pe w pv P) (hQ : Wy w wv Q) (hB : RuQ w bv BB) (hz : Szd T P Q BB) (h0 : 0 ≤ n) (h1 : n ≤ 255) : Calls Try.prog 5 #[.agg #[tv, .int .i64 ten, pv, wv, bv], .agg #[.int .i64 a, .int .i64 b], .int .u8 n, .agg #[.int .u64 (uv gh), .int .u64 (uv gl)], .agg #[.int .u64 (uv hh), .int .u64 (uv hl)]] w fun e w' => e = .returned (.bool true) ∧ Below w.heap.size w w' := by
  obtain ⟨m, rfl⟩ : ∃ m : Nat, n = m := ⟨n.toNat, by omega⟩
  exact psal_c tv pv wv bv T ten P Q BB a b m gh gl hh hl w hT hP hQ hB hz (by omega)
end Go.Proofs

namespace Go.Proofs.Ytanliiopdhjhjaa
open Go.ChangeShapes Go.WideShapes Go.ChangeAt Go.RowKit Go.Joins Go.Proofs.Hd

theorem laidOut_psd13 : laidOutB Try.prog = true := by kernel_rfl
set_option maxRecDepth 100000 in
theorem psd13_lifted (os : Os) (started : os.Started) (H : Type) (enc : TypeId × Value → H) :
    ReturnsInHanded {} Try.checked os 5 .any (Rows.predsAlikeSpec.pre6 enc Try.prog Try.f5 Rows.predsAlikeRow.domain false) (Rows.predsAlikeSpec.post enc Try.prog Try.f5 false true false false) := by
  refine returnsInHanded_of_change_sized (C := Try.checked) own started (by kernel_rfl) Try.func5
    (ChangeSpec.witness6 (enc := enc) (C := Try.checked) false ⟨#[], #[.agg #[.slice none 0 0, .int .i64 0, .slice none 0 0, .slice none 0 0, .slice none 0 0], .agg #[.int .i64 0, .int .i64 0], .int .u8 0, .agg #[.int .u64 0, .int .u64 0], .agg #[.int .u64 0, .int .u64 0]], []⟩ 8 (by kernel_rfl) (by kernel_rfl) (by kernel_rfl) (by kernel_rfl)) ?_
  intro W base args ds gs before hval0 hW hcnd hsz _
  have hval : ∀ (j : Nat) t v, Try.f5.params[j]? = some t → args[j]? = some v → Value.okWide Try.prog W .any base t v := hval0
  have hW' := hW
  obtain ⟨p, q, hA0, hV, rfl, hfz, hnd⟩ := hW
  have hA : DataW.TrodAll enc Try.prog W 0 (fun _ => true) true Try.f5.params.toList args.toList ds p := hA0
  rw [Try.params5] at hA hval
  obtain ⟨v0, vs0, d0, ds0, p0, q0, hargs, rfl, rfl, h0, r0⟩ := trodAll_cons hA
  obtain ⟨v1, vs1, d1, ds1, p1, q1, rfl, rfl, rfl, h1, r1⟩ := trodAll_cons r0
  obtain ⟨v2, vs2, d2, ds2, p2, q2, rfl, rfl, rfl, h2, r2⟩ := trodAll_cons r1
  obtain ⟨v3, vs3, d3, ds3, p3, q3, rfl, rfl, rfl, h3, r3⟩ := trodAll_cons r2
  obtain ⟨v4, vs4, d4, ds4, p4, q4, rfl, rfl, rfl, h4, r4⟩ := trodAll_cons r3
  obtain ⟨rfl, rfl, rfl⟩ := trodAll_nil r4
  obtain rfl : args = #[v0, v1, v2, v3, v4] := by cases args; simp_all
  obtain ⟨rfl, rfl⟩ := trodVars_none hV
  have k0 := h0
  have lt0 : ∀ x ∈ p0, x.block < W.heap.size := by obtain ⟨m, hm⟩ := k0; exact DataW.trod_lt m _ _ _ hm
  obtain ⟨ctv, cT, cn, cpv, cP, cwv, cQ, cbv, cB, rfl, chT, chP, chQ, chB, cz⟩ := open_cfg (hval 0 31 v0 rfl rfl) h0
  have cs := cz fun m hm => by simpa using List.all_eq_true.1 hsz m (DataW.weights_mem_each (j := 0) (t := 31) (by rw [Try.params5]; rfl) rfl m hm)
  have k1 := h1
  have lt1 : ∀ x ∈ p1, x.block < W.heap.size := by obtain ⟨m, hm⟩ := k1; exact DataW.trod_lt m _ _ _ hm
  obtain ⟨sa, sb, rfl⟩ := open_spot (hval 1 56 v1 rfl rfl) h1
  obtain ⟨v, rfl, rfl, rfl, wf2⟩ := open_int Try.underlying5 (hval 2 5 v2 rfl rfl) h2
  obtain ⟨gh, gl, rfl, rfl, rfl, s3⟩ := open_head (hval 3 41 v3 rfl rfl) h3
  obtain ⟨hh, hl, rfl, rfl, rfl, s4⟩ := open_head (hval 4 41 v4 rfl rfl) h4
  clear hA0 hval0
  obtain ⟨bv1, bv2⟩ := bounds_u8 wf2
  refine (psal_z ctv cpv cwv cbv cT cn cP cQ cB sa sb v gh gl hh hl W chT chP chQ chB cs bv1 bv2).mono fun e W' ⟨he, hg⟩ => ?_
  subst he
  exact ⟨_, rfl, _, _, _, [], _, [], hW', trodAll_mk1 (shut_bool Try.underlying4 _), (trodAll_cons_mk (Below.trod laidOut_psd13 (by kernel_rfl) (of_decide_eq_true (by kernel_rfl)) k0 hg lt0) (trodAll_cons_mk (Below.trod laidOut_psd13 (by kernel_rfl) (of_decide_eq_true (by kernel_rfl)) k1 hg lt1) (trodAll_cons_mk (shut_int Try.underlying5 wf2) (trodAll_cons_mk (s3 _ _) (trodAll_cons_mk (s4 _ _) trodAll_mk0))))), rfl, hg.frame _, (fun h => by cases h)⟩

theorem psd13_holds : Rows.PredsAlikeSaid :=
  OpenClaim.holds_of_wide 5 Try.f5 rfl rfl rfl rfl rfl rfl rfl ⟨rfl, rfl, rfl, rfl, rfl⟩ rfl rfl rfl rfl rfl (by kernel_rfl) Try.func5 (by kernel_rfl)
    (of_decide_eq_true (by kernel_rfl)) (by unfold Func.isWrapper; first | (rw [if_pos (by decide +kernel)]; kernel_rfl) | (rw [if_neg (by decide +kernel)]; exact ⟨rfl, rfl⟩))
    (fun os started H enc _ => psd13_lifted os started H enc)
#print axioms psd13_holds
end Go.Proofs.Ytanliiopdhjhjaa
