/-
  Cubes by how many bits they care for, of as many in their order: the law's told. Conditions: all cubes are sound.
  The configuration that the law's awake of layer 8 looks at; contract of the law's small. No conditions.
  The configuration that the law's awake of layer 13 looks at; contract of the law's line, and of awake. No conditions.
  The law's rules (all rules of a configuration, by switch, then by table) and sets (all that is set, each once). Conditions as each theorem lists them.
-/
import Derived.Test.YtanliiopdhjhjaaJ12
import Derived.OrdersHeld
namespace Go.Proofs.Hd
open Go.RowKit Go.Proofs
theorem own_keptT {w w' : World} {base : Nat} {e : TypeId} {size n : Nat} {v u : Value} {xs : List Value} (h : w.ownsRow base e size u n xs) (hg : w.grownBy w' v.ownBlock) (ha : ∀ k, v.ownBlock = some k → u.ownBlock ≠ some k) : w'.ownsRow base e size u n xs := by
  refine h.kept hg ?_
  cases hu : u.ownBlock with
  | none => exact .inl rfl
  | some k => exact .inr (fun e => ha k e.symm hu)
theorem apart_grownT {w w' : World} {base : Nat} {e : TypeId} {size n : Nat} {v v' u : Value} {xs : List Value} (h : w.ownsRow base e size u n xs) (hg : Grw w w' v.ownBlock v'.ownBlock) (ha : ∀ k, v.ownBlock = some k → u.ownBlock ≠ some k) : ∀ k, v'.ownBlock = some k → u.ownBlock ≠ some k := by
  intro k hk hu
  rcases hg.2 with e | ⟨j, e, hj⟩
  · exact ha k (e ▸ hk) hu
  · have e2 : j = k := by rw [e] at hk; injection hk
    have := (h.lt k hu).2
    omega
/-- Block D holds an array of 129 slices, each a row of its own: row n has the cubes F n. -/
structure RwsK (w : World) (D : Nat) (F : Nat → List Cb) (cs : Array Value) (vs : Nat → Value) : Prop where
  blk : Blk w D 87 cs
  size : cs.size = 129
  cl : ∀ n, n < 129 → cs[n]? = some (vs n)
  own : ∀ n, n < 129 → w.ownsRow (D + 1) 43 4 (vs n) (F n).length (flat (F n))
  apart : ∀ m n, m < 129 → n < 129 → m ≠ n → ∀ g, (vs m).ownBlock = some g → (vs n).ownBlock ≠ some g
theorem RwsK.lt {w : World} {D : Nat} {F : Nat → List Cb} {cs : Array Value} {vs : Nat → Value} (h : RwsK w D F cs vs) : D + 1 ≤ w.heap.size := h.blk.lt
theorem RwsK.on {w w' : World} {D : Nat} {F : Nat → List Cb} {cs : Array Value} {vs : Nat → Value} (h : RwsK w D F cs vs) (hb : Below w.heap.size w w') : RwsK w' D F cs vs := ⟨h.blk.on hb, h.size, h.cl, fun n hn => own_on (h.own n hn) hb, h.apart⟩
theorem RwsK.congr {w : World} {D : Nat} {F G : Nat → List Cb} {cs : Array Value} {vs : Nat → Value} (h : RwsK w D F cs vs) (e : ∀ n, F n = G n) : RwsK w D G cs vs := ⟨h.blk, h.size, h.cl, fun n hn => by rw [← e n]; exact h.own n hn, h.apart⟩
theorem RwsK.app {w w1 : World} {D : Nat} {F : Nat → List Cb} {cs : Array Value} {vs : Nat → Value} (h : RwsK w D F cs vs) {n : Nat} (hn : n < 129) {v' : Value} {c : Cb} (hg : Grw w w1 (vs n).ownBlock v'.ownBlock) (ho : w1.ownsRow (D + 1) 43 4 v' ((F n).length + 1) (flat (F n ++ [c]))) :
    RwsK (w1.setCell ⟨D, n, none⟩ v') D (fun m => if m = n then F n ++ [c] else F m) (cs.setIfInBounds n v') (fun m => if m = n then v' else vs m) := by
  have hc : Ch (· = D) w1 (w1.setCell ⟨D, n, none⟩ v') := Ch.set w1 ⟨D, n, none⟩ v'
  have hD : ∀ {u : Value} {k : Nat} {xs : List Value}, w1.ownsRow (D + 1) 43 4 u k xs → (w1.setCell ⟨D, n, none⟩ v').ownsRow (D + 1) 43 4 u k xs := fun hu => hc.own hu (fun g hgg e => by
    have e2 : g = D := e
    subst e2
    have := (hu.lt g hgg).1
    omega)
  refine ⟨(h.blk.grown hg.1 (fun e => by have := ((h.own n hn).lt D e.symm).1; omega)).set n v', by rw [Array.size_setIfInBounds]; exact h.size, fun m hm => ?_, fun m hm => ?_, fun m k hm hk hne g => ?_⟩
  · rw [Array.getElem?_setIfInBounds]
    by_cases e : m = n
    · subst e
      rw [if_pos rfl, if_pos rfl, if_pos (by rw [h.size]; exact hm)]
    · rw [if_neg (fun e2 => e e2.symm), if_neg e]
      exact h.cl m hm
  · by_cases e : m = n
    · subst e
      simp only [↓reduceIte]
      rw [List.length_append]
      exact hD ho
    · simp only [if_neg e]
      exact hD (own_keptT (h.own m hm) hg.1 (h.apart n m hn hm (fun e2 => e e2.symm)))
  · by_cases e : m = n
    · subst e
      simp only [↓reduceIte, if_neg (fun e2 : k = m => hne e2.symm)]
      exact apart_grownT (h.own k hk) hg (h.apart m k hm hk hne) g
    · simp only [if_neg e]
      by_cases e2 : k = n
      · subst e2
        simp only [↓reduceIte]
        intro h1 h2
        exact apart_grownT (h.own m hm) hg (h.apart k m hk hm (fun e3 => e e3.symm)) g h2 h1
      · simp only [if_neg e2]
        exact h.apart m k hm hk hne g
/-- 129 slices of nothing. -/
def nil129 : List Value := List.replicate 129 (.slice none 0 0)
theorem nil129_len : nil129.length = 129 := by unfold nil129; rw [List.length_replicate]
theorem nil129_all : nil129.toArray.all (·.oneCell') = true := all_oneCell_toArray (fun v hv => by rw [List.eq_of_mem_replicate hv]; rfl)
theorem RwsK.start {w : World} {D : Nat} (h : Blk w D 87 nil129.toArray) : RwsK w D (fun _ => []) nil129.toArray (fun _ => .slice none 0 0) :=
  ⟨h, by rw [List.size_toArray, nil129_len], fun n hn => by rw [List.getElem?_toArray]; unfold nil129; rw [List.getElem?_replicate, if_pos hn], fun _ _ => World.ownsRow_nil _ _ _ _, fun _ _ _ _ _ g hg => by cases hg⟩
theorem told_len (key : Cb → Nat) (l : List Cb) : ∀ n, (toldL key n l).length ≤ n * l.length
  | 0 => by rw [Nat.zero_mul]; exact Nat.le_refl 0
  | n + 1 => by
    rw [toldL_snoc, List.length_append, Nat.succ_mul]
    exact Nat.add_le_add (told_len key l n) (List.length_filter_le _ _)
end Go.Proofs.Hd
namespace Go.Proofs
open Go.RowKit Go.Proofs.Hd Go.Sort Go.Shelf Go.Lib
attribute [local go_sem] uv_nonneg
theorem info129 : (Try.prog.info? 87).map (fun i => (i.zero, i.size)) = some (some (.agg nil129.toArray), 129) := by kernel_rfl
theorem zero129 (w : World) : (zeroValue 87).run Try.prog w = .ok (.agg nil129.toArray) w := (zero_of_info info129).1 w
theorem size129 : (Try.prog.info? 87).map (·.size) = some nil129.toArray.size := by rw [(zero_of_info info129).2, List.size_toArray, nil129_len]
theorem built129 : Try.prog.built 87 [] = some nil129.toArray := by kernel_rfl
theorem build129 (w : World) : (Instr.build 87 #[]).run Try.prog w = .ok (.agg nil129.toArray) w := run_build w 87 #[] _ built129
attribute [local irreducible] nil129
set_option maxHeartbeats 8000000 in
set_option maxRecDepth 100000 in
theorem told_r (v : Value) (L : List Cb) (w : World) (hl : L.length ≤ 1000000) (hs : ∀ c, c ∈ L → c.snd = true) (hv : Pl w v L) : Calls Try.prog 15 #[v] w fun e w' => (∃ v', e = .returned v' ∧ Pl w' v' (toldL keyC 129 L)) ∧ Below w.heap.size w w' := by
  have HV := Lib.hid hv
  have HSN := Lib.hid hs
  obtain ⟨A, cap, rfl, -, -⟩ := hv.form
  obtain ⟨ic, hic, hcz0, hcz1, hcz2⟩ := info_parts infoCube
  have hlz : (L.length : Int) ≤ 9223372036854775807 := by omega
  have hzv := zero129
  have hbd := build129
  have T0 : (w.alloc (.cells nil129.toArray 87)).there w.heap.size 0 nil129.toArray.size := (Nb.top (cs := nil129.toArray) (T := 87) w (Nat.le_refl _)).there
  have KS0 : Hid (RwsK ((w.alloc (.cells nil129.toArray 87)).setCells w.heap.size 0 nil129) w.heap.size (fun _ => []) nil129.toArray (fun _ => .slice none 0 0)) := RwsK.start ((Nb.top (cs := nil129.toArray) (T := 87) w (Nat.le_refl _)).put nil129 (by rw [List.size_toArray])).1
  have BB := Below.setCells nil129 0 _ (below1 w (.cells nil129.toArray 87)) (Nat.le_refl _)
  have B0 := Lib.hid BB
  clear hv hs BB
  go_enter Try.func15, Try.ntmps15
  go_upto_region 2 with (refine wpList_store_mid rfl 87 (.tmp 3) (.tmp 8) rfl w.heap.size 0 nil129.toArray rfl rfl T0 size129 nil129_all ?_)
  generalize (w.alloc (.cells nil129.toArray 87)).setCells w.heap.size 0 nil129 = w1 at KS0 B0 ⊢
  generalize hD : w.heap.size = D at KS0 B0 ⊢
  have HD := Lib.hid hD
  clear hD T0 hzv hbd
  go_wp2
  go_loopg [4] L.length (fun gk s4 wr => ∃ i : Nat, i ≤ L.length ∧ gk = L.length - i ∧ s4 = .int .i64 i ∧ (∃ cs vs, Hid (RwsK wr D (fun m => (L.take i).filter fun x => decide (keyC x = m)) cs vs)) ∧ Hid (Below D w wr))
  case atStart => exact ⟨0, Nat.zero_le _, rfl, by go_num, ⟨_, _, KS0⟩, B0⟩
  case round =>
    clear KS0 B0
    obtain ⟨i, hi, rfl, rfl, ⟨cs, vs, HKR⟩, HBR⟩ := hrel
    by_cases hlt : i < L.length
    · have hltz : (i : Int) < (L.length : Int) := by omega
      obtain ⟨c, hc⟩ : ∃ c, L[i]? = some c := ⟨_, List.getElem?_eq_getElem hlt⟩
      obtain ⟨A', c', e', -, hA⟩ := HV.out.form
      injection e' with e1 _ e3
      subst e1 e3
      obtain ⟨b, o, rfl, hbl, hpc⟩ := hA (by rintro rfl; simp at hc)
      obtain ⟨x0, x1, x2, x3⟩ := hpc i c hc
      have hBW : Hid (Below w.heap.size w wr) := by show Below _ _ _; rw [HD.out]; exact HBR.out
      have HX := Lib.hid (And.intro x0 (And.intro x1 (And.intro x2 x3)))
      replace x0 := on_some hBW.out x0
      replace x1 := on_some hBW.out x1
      replace x2 := on_some hBW.out x2
      replace x3 := on_some hBW.out x3
      have HCS := Lib.hid (HSN.out c (List.mem_of_getElem? hc))
      obtain ⟨r, hr⟩ : ∃ r, keyC c = r := ⟨_, rfl⟩
      have hr9 : r < 129 := by rw [← hr]; exact keyC_lt c
      have hrz : (r : Int) < 129 := by omega
      have HR9 := Lib.hid hr9
      have HKC := Lib.hid hr
      have HFL : Hid (((L.take i).filter fun x => decide (keyC x = r)).length ≤ 1000000) := by
        show _ ≤ _
        have := List.length_filter_le (fun x => decide (keyC x = r)) (L.take i)
        rw [List.length_take] at this
        omega
      have HF : Hid (∀ m, (fun m => if m = r then (fun m => (L.take i).filter fun x => decide (keyC x = m)) r ++ [c] else (fun m => (L.take i).filter fun x => decide (keyC x = m)) m) m = (fun m => (L.take (i + 1)).filter fun x => decide (keyC x = m)) m) := fun m => by
        simp only
        rw [List.take_add_one, hc, List.filter_append]
        by_cases e : m = r
        · subst e
          rw [if_pos rfl]
          simp [hr]
        · rw [if_neg e]
          have : ¬ keyC c = m := fun e2 => e (by rw [← e2, hr])
          simp [this]
      clear hc hpc hA hr
      go_wp2_with fail
      (with_reducible refine (ones_r c HCS.out r HKC.out _).mono ?_)
      rintro e w4 ⟨rfl, hb4⟩
      have HKI := Lib.hid (HKR.out.on hb4)
      have HBI : Hid (Below D w w4) := HBR.out.trans (hb4.mono (by have h1 := HBR.out.size; have h2 := HD.out; omega))
      clear hb4 HKR HBR hBW x0 x1 x2 x3
      go_upto_region 6 with (fail)
      have hBW4 : Below w.heap.size w w4.drew := by rw [HD.out]; exact HBI.out.drew
      have x0 := on_some hBW4 HX.out.1
      have x1 := on_some hBW4 HX.out.2.1
      have x2 := on_some hBW4 HX.out.2.2.1
      have x3 := on_some hBW4 HX.out.2.2.2
      clear hBW4
      refine wp_region_held_drew (S := fun _ => True) (by kernel_rfl) trivial (fun hHeld => ?_)
      have HK := Lib.hid (HKI.out.on (Below.refl _ _).drew)
      have HB := Lib.hid (HBI.out.trans ((Below.refl w4.heap.size w4).drew.mono (by have h1 := HBI.out.size; have h2 := HD.out; omega)))
      clear HKI HBI
      generalize w4.drew = u0 at hHeld HK HB x0 x1 x2 x3 ⊢
      refine wpAnyH_take (i := 0) (oi := ⟨some 20, _, _, _, _, _⟩) (v := ?vs0_1) rfl (by kernel_rfl) (by kernel_rfl) (by kernel_rfl) (fun _ _ _ h => h) (Or.inl ⟨by rfl, ?ys0_1⟩) hHeld ?rs0_1
      case ys0_1 => (intro w' hSw; (try dsimp only at hSw); go_simp; try (with_reducible rfl))
      simp only [Act.put, List.setIfInBounds_toArray, List.set_cons_zero, List.set_cons_succ]
      refine wpAnyH_take (i := 1) (oi := ⟨some 21, _, _, _, _, _⟩) (v := ?vs1_2) rfl (by kernel_rfl) (by kernel_rfl) (by kernel_rfl) (fun _ _ _ h => h) (Or.inl ⟨by rfl, ?ys1_2⟩) hHeld ?rs1_2
      case ys1_2 => (intro w' hSw; (try dsimp only at hSw); go_simp; try (with_reducible rfl))
      simp only [Act.put, List.setIfInBounds_toArray, List.set_cons_zero, List.set_cons_succ]
      refine wpAnyH_take (i := 2) (oi := ⟨some 22, _, _, _, _, _⟩) (v := ?vs2_3) rfl (by kernel_rfl) (by kernel_rfl) (by kernel_rfl) (fun _ _ _ h => h) (Or.inl ⟨by rfl, ?ys2_3⟩) hHeld ?rs2_3
      case ys2_3 => (intro w' hSw; (try dsimp only at hSw); go_simp; try (with_reducible rfl))
      simp only [Act.put, List.setIfInBounds_toArray, List.set_cons_zero, List.set_cons_succ]
      refine wpAnyH_take (i := 4) (oi := ⟨some 24, _, _, _, _, _⟩) (v := ?vs4_4) rfl (by kernel_rfl) (by kernel_rfl) (by kernel_rfl) (fun _ _ _ h => h) (Or.inl ⟨by rfl, ?ys4_4⟩) hHeld ?rs4_4
      case ys4_4 => (intro w' hSw; (try dsimp only at hSw); go_simp; try (with_reducible rfl))
      simp only [Act.put, List.setIfInBounds_toArray, List.set_cons_zero, List.set_cons_succ]
      refine wpAnyH_take (i := 5) (oi := ⟨some 25, _, _, _, _, _⟩) (v := ?vs5_5) rfl (by kernel_rfl) (by kernel_rfl) (by kernel_rfl) (fun _ _ _ h => h) (Or.inl ⟨by rfl, ?ys5_5⟩) hHeld ?rs5_5
      case ys5_5 => (intro w' hSw; (try dsimp only at hSw); go_simp; try (with_reducible rfl))
      simp only [Act.put, List.setIfInBounds_toArray, List.set_cons_zero, List.set_cons_succ]
      refine wpAnyH_take (i := 6) (oi := ⟨some 26, _, _, _, _, _⟩) (v := ?vs6_6) rfl (by kernel_rfl) (by kernel_rfl) (by kernel_rfl) (fun _ _ _ h => h) (Or.inl ⟨by rfl, ?ys6_6⟩) hHeld ?rs6_6
      case ys6_6 => (intro w' hSw; (try dsimp only at hSw); go_simp; try (with_reducible rfl))
      simp only [Act.put, List.setIfInBounds_toArray, List.set_cons_zero, List.set_cons_succ]
      refine wpAnyH_ready (rs := [3, 7]) (by kernel_rfl) (by simp) ?_
      refine AllReadyH.cons (o := ⟨some 23, _, _, _, _, _⟩) rfl (fun K hK => ?_) ?_
      · have kA := (HK.out.blk.cell r).trans (HK.out.cl r HR9.out)
        go_simp
        refine hK.out _ _ trivial (fun hNext => ?_)
        clear hK K hHeld
        have hHeld := hNext
        clear hNext
        clear kA
        try simp only [Act.put, List.setIfInBounds_toArray, List.set_cons_zero, List.set_cons_succ]
        refine wpAnyH_ready (rs := [7]) (by kernel_rfl) (by simp) ?_
        refine AllReadyH.cons (o := ⟨some 27, _, _, _, _, _⟩) rfl (fun K hK => ?_) AllReadyH.nil
        go_simp
        refine hK.out _ _ trivial (fun hNext => ?_)
        clear hK K hHeld
        have hHeld := hNext
        clear hNext
        clear x0 x1 x2 x3
        try simp only [Act.put, List.setIfInBounds_toArray, List.set_cons_zero, List.set_cons_succ]
        refine wpAnyH_ready (rs := [8]) (by kernel_rfl) (by simp) ?_
        refine AllReadyH.cons (o := ⟨some 28, _, _, _, _, _⟩) rfl (fun K hK => ?_) AllReadyH.nil
        go_simp
        have hb := below1 u0 (.cells #[.int .u64 (uv c.vh), .int .u64 (uv c.vl), .int .u64 (uv c.ch), .int .u64 (uv c.cl)] 43)
        refine hK.out _ _ trivial (fun hNext => ?_)
        clear hK K hHeld
        have hHeld := hNext
        clear hNext
        have kN : Blk (u0.alloc (.cells #[.int .u64 (uv c.vh), .int .u64 (uv c.vl), .int .u64 (uv c.ch), .int .u64 (uv c.cl)] 43)) u0.heap.size 43 #[.int .u64 (uv c.vh), .int .u64 (uv c.vl), .int .u64 (uv c.ch), .int .u64 (uv c.cl)] := Blk.new u0 _ _
        have HK2 := Lib.hid (HK.out.on hb)
        have HB2 := Lib.hid (HB.out.trans (hb.mono (by have h1 := HB.out.size; have h2 := HD.out; omega)))
        clear HK HB hb
        have HK := HK2
        have HB := HB2
        clear HK2 HB2
        generalize hgen : (u0.alloc (.cells #[.int .u64 (uv c.vh), .int .u64 (uv c.vl), .int .u64 (uv c.ch), .int .u64 (uv c.cl)] 43)) = u1 at HK HB kN ⊢
        clear hgen
        generalize hgen : u0.heap.size = bN at kN ⊢
        clear hgen
        try simp only [Act.put, List.setIfInBounds_toArray, List.set_cons_zero, List.set_cons_succ]
        refine wpAnyH_ready (rs := [9]) (by kernel_rfl) (by simp) ?_
        refine AllReadyH.cons (o := ⟨some 29, _, _, _, _, _⟩) rfl (fun K hK => ?_) AllReadyH.nil
        have SR := src_cbD kN
        have hDs := HK.out.lt
        refine step_appD _ rfl (.tmp 23) (.tmp 28) 32 rfl (D + 1) 43 ic _ 4 32 Try.underlying32 hic hcz0 hcz1 hcz2 rfl (by decide) (vs r) _ _ rfl (HK.out.own r HR9.out) _ 1 (flat [c]) rfl SR (by have := HFL.out; unfold maxLen; omega) (by have := HFL.out; omega) hDs ?_
        intro v2 u2 kO2 hgr
        refine hK.out _ _ trivial (fun hNext => ?_)
        clear hK K hHeld
        have hHeld := hNext
        clear hNext
        have HB2 := Lib.hid (HB.out.grown hgr.1 (by have h1 := HB.out.size; have h2 := HD.out; omega) (fun j hj => Nat.le_of_succ_le ((HK.out.own r HR9.out).lt j hj).1))
        have HK2 := Lib.hid (HK.out.app HR9.out hgr (c := c) (by rw [flat_snocD]; exact kO2))
        have HK3 := Lib.hid (HK.out.blk.grown hgr.1 (fun e => by have := ((HK.out.own r HR9.out).lt D e.symm).1; omega))
        have HO2 := Lib.hid kO2
        clear HB hgr SR hDs kN kO2
        have HB := HB2
        clear HB2
        try simp only [Act.put, List.setIfInBounds_toArray, List.set_cons_zero, List.set_cons_succ]
        refine wpAnyH_take (i := 10) (oi := ⟨some 30, _, _, _, _, _⟩) (v := ?vs10_7) rfl (by kernel_rfl) (by kernel_rfl) (by kernel_rfl) (fun _ _ _ h => h) (Or.inl ⟨by rfl, ?ys10_7⟩) hHeld ?rs10_7
        case ys10_7 => (intro w' hSw; (try dsimp only at hSw); go_simp; try (with_reducible rfl))
        simp only [Act.put, List.setIfInBounds_toArray, List.set_cons_zero, List.set_cons_succ]
        refine wpAnyH_ready (rs := [11]) (by kernel_rfl) (by simp) ?_
        refine AllReadyH.cons (o := ⟨none, _, _, _, _, _⟩) rfl (fun K hK => ?_) AllReadyH.nil
        obtain ⟨A2, cap2, hv2⟩ := own_slD HO2.out
        subst hv2
        have kA := (HK3.out.cell r).trans (HK.out.cl r HR9.out)
        have gA := HK3.out.free r
        go_simp
        clear kA gA
        refine hK.out _ _ trivial (fun hNext => ?_)
        clear hK K hHeld
        have hHeld := hNext
        clear hNext
        clear HK HK3 HO2
        try simp only [Act.put]
        refine wpAnyH_done (by kernel_rfl) ?_ _
        clear hHeld
        go_wp2
        go_roundg (L.length - (i + 1))
        case measure => omega
        case rel => exact ⟨i + 1, by omega, rfl, by go_num, ⟨_, _, HK2.out.congr HF.out⟩, HB.out.setCell (p := ⟨D, r, none⟩) (Nat.le_refl D) _⟩
      refine AllReadyH.cons (o := ⟨some 27, _, _, _, _, _⟩) rfl (fun K hK => ?_) AllReadyH.nil
      go_simp
      refine hK.out _ _ trivial (fun hNext => ?_)
      clear hK K hHeld
      have hHeld := hNext
      clear hNext
      clear x0 x1 x2 x3
      try simp only [Act.put, List.setIfInBounds_toArray, List.set_cons_zero, List.set_cons_succ]
      refine wpAnyH_ready (rs := [3, 8]) (by kernel_rfl) (by simp) ?_
      refine AllReadyH.cons (o := ⟨some 23, _, _, _, _, _⟩) rfl (fun K hK => ?_) ?_
      · have kA := (HK.out.blk.cell r).trans (HK.out.cl r HR9.out)
        go_simp
        refine hK.out _ _ trivial (fun hNext => ?_)
        clear hK K hHeld
        have hHeld := hNext
        clear hNext
        clear kA
        try simp only [Act.put, List.setIfInBounds_toArray, List.set_cons_zero, List.set_cons_succ]
        refine wpAnyH_ready (rs := [8]) (by kernel_rfl) (by simp) ?_
        refine AllReadyH.cons (o := ⟨some 28, _, _, _, _, _⟩) rfl (fun K hK => ?_) AllReadyH.nil
        go_simp
        have hb := below1 u0 (.cells #[.int .u64 (uv c.vh), .int .u64 (uv c.vl), .int .u64 (uv c.ch), .int .u64 (uv c.cl)] 43)
        refine hK.out _ _ trivial (fun hNext => ?_)
        clear hK K hHeld
        have hHeld := hNext
        clear hNext
        have kN : Blk (u0.alloc (.cells #[.int .u64 (uv c.vh), .int .u64 (uv c.vl), .int .u64 (uv c.ch), .int .u64 (uv c.cl)] 43)) u0.heap.size 43 #[.int .u64 (uv c.vh), .int .u64 (uv c.vl), .int .u64 (uv c.ch), .int .u64 (uv c.cl)] := Blk.new u0 _ _
        have HK2 := Lib.hid (HK.out.on hb)
        have HB2 := Lib.hid (HB.out.trans (hb.mono (by have h1 := HB.out.size; have h2 := HD.out; omega)))
        clear HK HB hb
        have HK := HK2
        have HB := HB2
        clear HK2 HB2
        generalize hgen : (u0.alloc (.cells #[.int .u64 (uv c.vh), .int .u64 (uv c.vl), .int .u64 (uv c.ch), .int .u64 (uv c.cl)] 43)) = u4 at HK HB kN ⊢
        clear hgen
        generalize hgen : u0.heap.size = bN at kN ⊢
        clear hgen
        try simp only [Act.put, List.setIfInBounds_toArray, List.set_cons_zero, List.set_cons_succ]
        refine wpAnyH_ready (rs := [9]) (by kernel_rfl) (by simp) ?_
        refine AllReadyH.cons (o := ⟨some 29, _, _, _, _, _⟩) rfl (fun K hK => ?_) AllReadyH.nil
        have SR := src_cbD kN
        have hDs := HK.out.lt
        refine step_appD _ rfl (.tmp 23) (.tmp 28) 32 rfl (D + 1) 43 ic _ 4 32 Try.underlying32 hic hcz0 hcz1 hcz2 rfl (by decide) (vs r) _ _ rfl (HK.out.own r HR9.out) _ 1 (flat [c]) rfl SR (by have := HFL.out; unfold maxLen; omega) (by have := HFL.out; omega) hDs ?_
        intro v2 u5 kO2 hgr
        refine hK.out _ _ trivial (fun hNext => ?_)
        clear hK K hHeld
        have hHeld := hNext
        clear hNext
        have HB2 := Lib.hid (HB.out.grown hgr.1 (by have h1 := HB.out.size; have h2 := HD.out; omega) (fun j hj => Nat.le_of_succ_le ((HK.out.own r HR9.out).lt j hj).1))
        have HK2 := Lib.hid (HK.out.app HR9.out hgr (c := c) (by rw [flat_snocD]; exact kO2))
        have HK3 := Lib.hid (HK.out.blk.grown hgr.1 (fun e => by have := ((HK.out.own r HR9.out).lt D e.symm).1; omega))
        have HO2 := Lib.hid kO2
        clear HB hgr SR hDs kN kO2
        have HB := HB2
        clear HB2
        try simp only [Act.put, List.setIfInBounds_toArray, List.set_cons_zero, List.set_cons_succ]
        refine wpAnyH_take (i := 10) (oi := ⟨some 30, _, _, _, _, _⟩) (v := ?vs10_8) rfl (by kernel_rfl) (by kernel_rfl) (by kernel_rfl) (fun _ _ _ h => h) (Or.inl ⟨by rfl, ?ys10_8⟩) hHeld ?rs10_8
        case ys10_8 => (intro w' hSw; (try dsimp only at hSw); go_simp; try (with_reducible rfl))
        simp only [Act.put, List.setIfInBounds_toArray, List.set_cons_zero, List.set_cons_succ]
        refine wpAnyH_ready (rs := [11]) (by kernel_rfl) (by simp) ?_
        refine AllReadyH.cons (o := ⟨none, _, _, _, _, _⟩) rfl (fun K hK => ?_) AllReadyH.nil
        obtain ⟨A2, cap2, hv2⟩ := own_slD HO2.out
        subst hv2
        have kA := (HK3.out.cell r).trans (HK.out.cl r HR9.out)
        have gA := HK3.out.free r
        go_simp
        clear kA gA
        refine hK.out _ _ trivial (fun hNext => ?_)
        clear hK K hHeld
        have hHeld := hNext
        clear hNext
        clear HK HK3 HO2
        try simp only [Act.put]
        refine wpAnyH_done (by kernel_rfl) ?_ _
        clear hHeld
        go_wp2
        go_roundg (L.length - (i + 1))
        case measure => omega
        case rel => exact ⟨i + 1, by omega, rfl, by go_num, ⟨_, _, HK2.out.congr HF.out⟩, HB.out.setCell (p := ⟨D, r, none⟩) (Nat.le_refl D) _⟩
      refine AllReadyH.cons (o := ⟨some 28, _, _, _, _, _⟩) rfl (fun K hK => ?_) AllReadyH.nil
      go_simp
      have hb := below1 u0 (.cells #[.int .u64 (uv c.vh), .int .u64 (uv c.vl), .int .u64 (uv c.ch), .int .u64 (uv c.cl)] 43)
      refine hK.out _ _ trivial (fun hNext => ?_)
      clear hK K hHeld
      have hHeld := hNext
      clear hNext
      have kN : Blk (u0.alloc (.cells #[.int .u64 (uv c.vh), .int .u64 (uv c.vl), .int .u64 (uv c.ch), .int .u64 (uv c.cl)] 43)) u0.heap.size 43 #[.int .u64 (uv c.vh), .int .u64 (uv c.vl), .int .u64 (uv c.ch), .int .u64 (uv c.cl)] := Blk.new u0 _ _
      have HK2 := Lib.hid (HK.out.on hb)
      have HB2 := Lib.hid (HB.out.trans (hb.mono (by have h1 := HB.out.size; have h2 := HD.out; omega)))
      clear HK HB hb
      have HK := HK2
      have HB := HB2
      clear HK2 HB2
      generalize hgen : (u0.alloc (.cells #[.int .u64 (uv c.vh), .int .u64 (uv c.vl), .int .u64 (uv c.ch), .int .u64 (uv c.cl)] 43)) = u7 at HK HB kN ⊢
      clear hgen
      generalize hgen : u0.heap.size = bN at kN ⊢
      clear hgen
      try simp only [Act.put, List.setIfInBounds_toArray, List.set_cons_zero, List.set_cons_succ]
      refine wpAnyH_ready (rs := [3]) (by kernel_rfl) (by simp) ?_
      refine AllReadyH.cons (o := ⟨some 23, _, _, _, _, _⟩) rfl (fun K hK => ?_) AllReadyH.nil
      have kA := (HK.out.blk.cell r).trans (HK.out.cl r HR9.out)
      go_simp
      refine hK.out _ _ trivial (fun hNext => ?_)
      clear hK K hHeld
      have hHeld := hNext
      clear hNext
      clear kA
      try simp only [Act.put, List.setIfInBounds_toArray, List.set_cons_zero, List.set_cons_succ]
      refine wpAnyH_ready (rs := [9]) (by kernel_rfl) (by simp) ?_
      refine AllReadyH.cons (o := ⟨some 29, _, _, _, _, _⟩) rfl (fun K hK => ?_) AllReadyH.nil
      have SR := src_cbD kN
      have hDs := HK.out.lt
      refine step_appD _ rfl (.tmp 23) (.tmp 28) 32 rfl (D + 1) 43 ic _ 4 32 Try.underlying32 hic hcz0 hcz1 hcz2 rfl (by decide) (vs r) _ _ rfl (HK.out.own r HR9.out) _ 1 (flat [c]) rfl SR (by have := HFL.out; unfold maxLen; omega) (by have := HFL.out; omega) hDs ?_
      intro v2 u8 kO2 hgr
      refine hK.out _ _ trivial (fun hNext => ?_)
      clear hK K hHeld
      have hHeld := hNext
      clear hNext
      have HB2 := Lib.hid (HB.out.grown hgr.1 (by have h1 := HB.out.size; have h2 := HD.out; omega) (fun j hj => Nat.le_of_succ_le ((HK.out.own r HR9.out).lt j hj).1))
      have HK2 := Lib.hid (HK.out.app HR9.out hgr (c := c) (by rw [flat_snocD]; exact kO2))
      have HK3 := Lib.hid (HK.out.blk.grown hgr.1 (fun e => by have := ((HK.out.own r HR9.out).lt D e.symm).1; omega))
      have HO2 := Lib.hid kO2
      clear HB hgr SR hDs kN kO2
      have HB := HB2
      clear HB2
      try simp only [Act.put, List.setIfInBounds_toArray, List.set_cons_zero, List.set_cons_succ]
      refine wpAnyH_take (i := 10) (oi := ⟨some 30, _, _, _, _, _⟩) (v := ?vs10_9) rfl (by kernel_rfl) (by kernel_rfl) (by kernel_rfl) (fun _ _ _ h => h) (Or.inl ⟨by rfl, ?ys10_9⟩) hHeld ?rs10_9
      case ys10_9 => (intro w' hSw; (try dsimp only at hSw); go_simp; try (with_reducible rfl))
      simp only [Act.put, List.setIfInBounds_toArray, List.set_cons_zero, List.set_cons_succ]
      refine wpAnyH_ready (rs := [11]) (by kernel_rfl) (by simp) ?_
      refine AllReadyH.cons (o := ⟨none, _, _, _, _, _⟩) rfl (fun K hK => ?_) AllReadyH.nil
      obtain ⟨A2, cap2, hv2⟩ := own_slD HO2.out
      subst hv2
      have kA := (HK3.out.cell r).trans (HK.out.cl r HR9.out)
      have gA := HK3.out.free r
      go_simp
      clear kA gA
      refine hK.out _ _ trivial (fun hNext => ?_)
      clear hK K hHeld
      have hHeld := hNext
      clear hNext
      clear HK HK3 HO2
      try simp only [Act.put]
      refine wpAnyH_done (by kernel_rfl) ?_ _
      clear hHeld
      go_wp2
      go_roundg (L.length - (i + 1))
      case measure => omega
      case rel => exact ⟨i + 1, by omega, rfl, by go_num, ⟨_, _, HK2.out.congr HF.out⟩, HB.out.setCell (p := ⟨D, r, none⟩) (Nat.le_refl D) _⟩
    · have hltz : ¬ (i : Int) < (L.length : Int) := by omega
      obtain rfl : i = L.length := by omega
      rw [List.take_length] at HKR
      clear hltz
      obtain ⟨w7, rfl⟩ : ∃ W : World, W = wr := ⟨_, rfl⟩
      have O0 : Hid ((w7.alloc (.cells #[] 43)).ownsRow w7.heap.size 43 4 (.slice (some ⟨w7.heap.size, 0, none⟩) 0 0) (toldL keyC 0 L).length (flat (toldL keyC 0 L))) := World.ownsRow_made w7 #[] 0 (Nat.le_refl _) (Nat.zero_le _) rfl
      have hb := below1 w7 (.cells #[] 43)
      have HBA := Lib.hid hb
      go_upto_region 8 with (fail)
      generalize w7.alloc (.cells #[] 43) = w5 at O0 HBA ⊢
      clear hb
      go_wp2
      go_loopg [6, 7] 129 (fun gk s6 s7 wr => ∃ (n : Nat) (u : Value), n ≤ 129 ∧ gk = 129 - n ∧ u = s6 ∧ s7 = .int .i64 n ∧ Hid (wr.ownsRow w7.heap.size 43 4 u (toldL keyC n L).length (flat (toldL keyC n L))) ∧ Hid (Below w7.heap.size w7 wr))
      case atStart => exact ⟨0, _, by omega, rfl, rfl, by go_num, O0, HBA⟩
      case round =>
        clear O0 HBA
        obtain ⟨n, u, hn, rfl, rfl, rfl, HO, HBQ⟩ := hrel
        by_cases hnt : n < 129
        · have hntz : (n : Int) < 129 := by omega
          have kA := on_some HBQ.out ((HKR.out.blk.cell n).trans (HKR.out.cl n hnt))
          have S4 := ((own_Pl (HKR.out.own n hnt)).on HBQ.out).src
          have O4 := HO.out
          have hzb := HBQ.out.size
          have HL1 : (toldL keyC n L).length ≤ 129000000 := by
            have h1 := told_len keyC L n
            have h2 : n * L.length ≤ 129 * 1000000 := Nat.mul_le_mul (by omega) hl
            omega
          have HL2 : (L.filter fun x => decide (keyC x = n)).length ≤ 1000000 := Nat.le_trans (List.length_filter_le _ _) hl
          have HTS := Lib.hid (toldL_snoc keyC n L)
          clear HO
          generalize hFF : toldL keyC n L = G at O4 HTS HL1
          generalize hGG : (L.filter fun x => decide (keyC x = n)) = H at S4 HTS HL2
          go_wp2_with (at_builtin; refine wpList_app _ rfl (.tmp 36) (.tmp 39) 32 rfl w7.heap.size 43 ic _ 4 32 Try.underlying32 hic hcz0 hcz1 hcz2 rfl (by decide) _ G.length (flat G) rfl O4 _ H.length (flat H) rfl S4 (by unfold maxLen; omega) (by omega) hzb ?_)
          intro v5 w6 O5 hg5
          have B5 := Lib.hid (HBQ.out.grown hg5 hzb (fun j hj => (O4.lt j hj).1))
          have O6 : Hid (w6.ownsRow w7.heap.size 43 4 v5 (toldL keyC (n + 1) L).length (flat (toldL keyC (n + 1) L))) := by
            show World.ownsRow _ _ _ _ _ _ _
            rw [HTS.out, List.length_append, flat_append]
            exact O5
          clear O5 O4 hg5 S4 hFF hGG HTS HL1 HL2 hzb kA HBQ
          go_wp2
          go_roundg (129 - (n + 1))
          case measure => omega
          case rel => exact ⟨n + 1, v5, by omega, rfl, rfl, by go_num, O6, B5⟩
        · have hntz : ¬ (n : Int) < 129 := by omega
          obtain rfl : n = 129 := by omega
          go_wp2
          go_ret
          refine ⟨⟨_, rfl, own_Pl HO.out⟩, ?_⟩
          rw [HD.out]
          exact HBR.out.trans (HBQ.out.mono (by have h1 := HBR.out.size; have h2 := HD.out; omega))
end Go.Proofs

namespace Go.Proofs.Hd
open Go.RowKit
def R8 : Rl := ⟨0, ⟨0#64, 0#64, 0#64, 0#64⟩, 1, 0, 0, ⟨0#64, 0#64, 0#64, 0#64⟩⟩
def B8 : List (List (List Rl)) := [[[R8]]]
end Go.Proofs.Hd
namespace Go.Proofs
open Go.RowKit Go.Proofs.Hd Go.Lib
end Go.Proofs

namespace Go.Proofs.Hd
open Go.RowKit Go.Sort
def T13 : List (List Pt) := [[⟨1, 0, 0, 0, 0⟩, ⟨2, 0, 1, 0, 1⟩], [⟨2, 0, 0, 1, 1⟩, ⟨1, 0, 0, 0, 0⟩]]
def M13 : Cb := ⟨0#64, 1#64, 0#64, 1#64⟩
def R13a : Rl := ⟨1, M13, 3, 1, 0, ⟨0#64, 0#64, 0#64, 0#64⟩⟩
def R13b : Rl := ⟨1, M13, 2, 1, 0, ⟨0#64, 0#64, 0#64, 0#64⟩⟩
def D13 : Rl := ⟨0, ⟨0#64, 0#64, 0#64, 0#64⟩, 1, 0, 0, ⟨0#64, 0#64, 0#64, 0#64⟩⟩
def B13 : List (List (List Rl)) := [[[R13a, D13]], [[R13b, D13]]]
theorem T13_sound : sTp T13 = 0 := by
  refine sTp_ok (by decide) fun n i L p hn hL hp => ?_
  match n, hn with
  | 0, _ =>
    injection hL with hL
    subst hL
    have hi : i < 2 := (List.getElem?_eq_some_iff.1 hp).1
    match i, hi with
    | 0, _ => injection hp with hp; subst hp; decide
    | 1, _ => injection hp with hp; subst hp; decide
  | 1, _ =>
    injection hL with hL
    subst hL
    have hi : i < 2 := (List.getElem?_eq_some_iff.1 hp).1
    match i, hi with
    | 0, _ => injection hp with hp; subst hp; decide
    | 1, _ => injection hp with hp; subst hp; decide
theorem T13_edges : eTo T13 T13.length = [(0, 0), (1, 1)] := by decide
theorem P13_ok : szP T13 1 [] [] := by
  rintro (h | h | h | h | h)
  · omega
  · omega
  · simp at h
  · simp at h
  · refine h fun j x hj hx => ?_
    rw [T13_edges] at hj hx
    have hj2 : j < 2 := hj
    match j, hj2 with
    | 0, _ => injection hx with hx; subst hx; rfl
    | 1, _ => injection hx with hx; subst hx; rfl
theorem P13_form : okPe [] 1 0 ∧ okWy [] 1 T13.length 0 := ⟨fun _ _ hj => absurd hj (Nat.not_lt_zero _), fun _ _ hj => absurd hj (Nat.not_lt_zero _)⟩
theorem C13 : cfgT T13 1 [] [] B13 = 0 := by
  unfold cfgT
  rw [if_pos T13_sound, polT_ok P13_ok P13_form, if_pos rfl]
  have h : B13.length = T13.length := rfl
  rw [if_pos h]
  decide +kernel
theorem B13_len : ∀ X ∈ B13, ∀ R ∈ X, R.length ≤ 1466015503658 := by
  intro X hX R hR
  simp [B13] at hX
  rcases hX with rfl | rfl
  · simp at hR; subst hR; decide
  · simp at hR; subst hR; decide
theorem s13 : stC 0 0 = ⟨16777216#64, 0#64, 18446744073692774400#64, 0#64⟩ := (stC_eq (n := 0) (m := 0) (by
  intro j hj
  revert j
  decide +kernel)).symm
theorem all13 : allS T13 B13 0 = [⟨16777216#64, 0#64, 18446744073692774400#64, 0#64⟩] := by
  have h : edL T13 0 = [⟨16777216#64, 0#64, 18446744073692774400#64, 0#64⟩, ⟨16777216#64, 0#64, 18446744073692774400#64, 0#64⟩] := by
    unfold edL
    rw [T13_edges, ← s13]
    rfl
  unfold allS
  rw [h]
  decide +kernel
theorem mtc13 : mtcL B13 = [M13, Cb.zero] := by decide +kernel
theorem clo13 : cloC bfC (allS T13 B13 0) 500 501 0 (mtcL B13) = [M13, Cb.zero] := by
  rw [all13, mtc13]
  have h0 : askS bfC [⟨16777216#64, 0#64, 18446744073692774400#64, 0#64⟩] M13 [M13, Cb.zero] = [M13, Cb.zero] := by decide +kernel
  have h1 : askS bfC [⟨16777216#64, 0#64, 18446744073692774400#64, 0#64⟩] Cb.zero [M13, Cb.zero] = [M13, Cb.zero] := by decide +kernel
  rw [cloC_step (k := 500) (c := M13) rfl (by decide), h0, cloC_step (k := 499) (c := Cb.zero) rfl (by decide), h1, cloC_end _ _ _ _ _ _ (by decide)]
theorem told13 : toldL keyC 129 [M13, Cb.zero] = [Cb.zero, M13] := by decide +kernel
end Go.Proofs.Hd
namespace Go.Proofs
open Go.RowKit Go.Proofs.Hd Go.Lib
attribute [local go_sem high] run_eq2 run_eq4
set_option maxRecDepth 100000 in
set_option maxHeartbeats 4000000 in
theorem line_c (w : World) : Calls Try.prog 26 #[] w fun e w' => ∃ tv bv, e = .returned (.agg #[tv, .int .i64 1, .slice none 0 0, .slice none 0 0, bv]) ∧ Cfo w.heap.size w' tv (.slice none 0 0) (.slice none 0 0) bv T13 [] [] B13 ∧ Below w.heap.size w w' := by
  have B1 := Lib.hid (below1 w (.cells #[.slice none 0 0, .int .i64 0, .slice none 0 0, .slice none 0 0, .slice none 0 0] 31))
  have R1 : Hid (Blk (w.alloc (.cells #[.slice none 0 0, .int .i64 0, .slice none 0 0, .slice none 0 0, .slice none 0 0] 31)) w.heap.size 31 #[.slice none 0 0, .int .i64 0, .slice none 0 0, .slice none 0 0, .slice none 0 0]) := Blk.new w _ _
  go_enter Try.func26, Try.ntmps26
  go_upto_region 1 with (fail)
  generalize w.alloc (.cells #[.slice none 0 0, .int .i64 0, .slice none 0 0, .slice none 0 0, .slice none 0 0] 31) = w1 at B1 R1 ⊢
  have hsz1 := B1.out.size
  have hb1 : w.heap.size < w1.heap.size := R1.out.lt
  have b2 := below1 w1 (.cells #[.slice none 0 0, .int .i64 1, .slice none 0 0, .slice none 0 0, .slice none 0 0] 31)
  have X2 : Hid (Blk (w1.alloc (.cells #[.slice none 0 0, .int .i64 1, .slice none 0 0, .slice none 0 0, .slice none 0 0] 31)) w1.heap.size 31 #[.slice none 0 0, .int .i64 1, .slice none 0 0, .slice none 0 0, .slice none 0 0]) := Blk.new w1 _ _
  have B2 := Lib.hid (B1.out.trans (b2.mono hsz1))
  have R2 := Lib.hid (R1.out.on b2)
  clear b2 B1 R1
  go_upto_region 2 with (fail)
  generalize w1.alloc (.cells #[.slice none 0 0, .int .i64 1, .slice none 0 0, .slice none 0 0, .slice none 0 0] 31) = w2 at X2 B2 R2 ⊢
  have hx2 : w1.heap.size < w2.heap.size := X2.out.lt
  have b3 := below3 w2 (.cells #[.int .i64 1, .int .i64 0, .int .i64 0, .int .i64 0, .int .i64 0, .int .i64 2, .int .i64 0, .int .i64 1, .int .i64 0, .int .i64 1] 91) (.cells #[.int .i64 2, .int .i64 0, .int .i64 0, .int .i64 1, .int .i64 1, .int .i64 1, .int .i64 0, .int .i64 0, .int .i64 0, .int .i64 0] 91) (.cells #[.slice (some ⟨w2.heap.size, 0, none⟩) 2 2, .slice (some ⟨w2.heap.size + 1, 0, none⟩) 2 2] 89)
  have X3 := X2.out.on b3
  have hf := X3.free 0
  obtain ⟨d0, d1, d2, d3, d4⟩ := X3.five
  have hO : O2P w1.heap.size (((w2.alloc (.cells #[.int .i64 1, .int .i64 0, .int .i64 0, .int .i64 0, .int .i64 0, .int .i64 2, .int .i64 0, .int .i64 1, .int .i64 0, .int .i64 1] 91)).alloc (.cells #[.int .i64 2, .int .i64 0, .int .i64 0, .int .i64 1, .int .i64 1, .int .i64 1, .int .i64 0, .int .i64 0, .int .i64 0, .int .i64 0] 91)).alloc (.cells #[.slice (some ⟨w2.heap.size, 0, none⟩) 2 2, .slice (some ⟨w2.heap.size + 1, 0, none⟩) 2 2] 89)) (.slice (some ⟨w2.heap.size + 1 + 1, 0, none⟩) 2 2) T13 := by
    have h1 : O1P w1.heap.size (w2.alloc (.cells #[.int .i64 1, .int .i64 0, .int .i64 0, .int .i64 0, .int .i64 0, .int .i64 2, .int .i64 0, .int .i64 1, .int .i64 0, .int .i64 1] 91)) (.slice (some ⟨w2.heap.size, 0, none⟩) 2 2) [⟨1, 0, 0, 0, 0⟩, ⟨2, 0, 1, 0, 1⟩] := World.ownsRow_lit w2 #[.int .i64 1, .int .i64 0, .int .i64 0, .int .i64 0, .int .i64 0, .int .i64 2, .int .i64 0, .int .i64 1, .int .i64 0, .int .i64 1] 2 (by omega) (by decide) rfl
    have h2 := World.ownsRow_lit (base := w1.heap.size) (e := 91) (size := 5) (w2.alloc (.cells #[.int .i64 1, .int .i64 0, .int .i64 0, .int .i64 0, .int .i64 0, .int .i64 2, .int .i64 0, .int .i64 1, .int .i64 0, .int .i64 1] 91)) #[.int .i64 2, .int .i64 0, .int .i64 0, .int .i64 1, .int .i64 1, .int .i64 1, .int .i64 0, .int .i64 0, .int .i64 0, .int .i64 0] 2 (by simp; omega) (by decide) rfl
    have e : (w2.alloc (.cells #[.int .i64 1, .int .i64 0, .int .i64 0, .int .i64 0, .int .i64 0, .int .i64 2, .int .i64 0, .int .i64 1, .int .i64 0, .int .i64 1] 91)).heap.size = w2.heap.size + 1 := by simp
    rw [e] at h2
    have h3 := World.ownsRow_lit (base := w1.heap.size) (e := 89) (size := 1) ((w2.alloc (.cells #[.int .i64 1, .int .i64 0, .int .i64 0, .int .i64 0, .int .i64 0, .int .i64 2, .int .i64 0, .int .i64 1, .int .i64 0, .int .i64 1] 91)).alloc (.cells #[.int .i64 2, .int .i64 0, .int .i64 0, .int .i64 1, .int .i64 1, .int .i64 1, .int .i64 0, .int .i64 0, .int .i64 0, .int .i64 0] 91)) #[.slice (some ⟨w2.heap.size, 0, none⟩) 2 2, .slice (some ⟨w2.heap.size + 1, 0, none⟩) 2 2] 2 (by simp; omega) (by decide) rfl
    have e2 : ((w2.alloc (.cells #[.int .i64 1, .int .i64 0, .int .i64 0, .int .i64 0, .int .i64 0, .int .i64 2, .int .i64 0, .int .i64 1, .int .i64 0, .int .i64 1] 91)).alloc (.cells #[.int .i64 2, .int .i64 0, .int .i64 0, .int .i64 1, .int .i64 1, .int .i64 1, .int .i64 0, .int .i64 0, .int .i64 0, .int .i64 0] 91)).heap.size = w2.heap.size + 1 + 1 := by simp
    rw [e2] at h3
    refine ⟨[.slice (some ⟨w2.heap.size, 0, none⟩) 2 2, .slice (some ⟨w2.heap.size + 1, 0, none⟩) 2 2], h3, fun i x hx => ?_⟩
    match i with
    | 0 => injection hx with hx; subst hx; exact ⟨_, rfl, O1P.on _ _ _ _ _ (below2 _ _ _) h1⟩
    | 1 => injection hx with hx; subst hx; exact ⟨_, rfl, O1P.on _ _ _ _ _ (below1 _ _) h2⟩
    | i + 2 => simp [T13] at hx
  have c3 : Cfo w1.heap.size (((w2.alloc (.cells #[.int .i64 1, .int .i64 0, .int .i64 0, .int .i64 0, .int .i64 0, .int .i64 2, .int .i64 0, .int .i64 1, .int .i64 0, .int .i64 1] 91)).alloc (.cells #[.int .i64 2, .int .i64 0, .int .i64 0, .int .i64 1, .int .i64 1, .int .i64 1, .int .i64 0, .int .i64 0, .int .i64 0, .int .i64 0] 91)).alloc (.cells #[.slice (some ⟨w2.heap.size, 0, none⟩) 2 2, .slice (some ⟨w2.heap.size + 1, 0, none⟩) 2 2] 89)) (.slice (some ⟨w2.heap.size + 1 + 1, 0, none⟩) 2 2) (.slice none 0 0) (.slice none 0 0) (.slice none 0 0) T13 [] [] [] := ⟨hO, World.ownsRow_nil _ _ _ _, World.ownsRow_nil _ _ _ _, Cfo.start.tabs⟩
  have C3 := Lib.hid (Cfo.box (i := 0) (u := .slice (some ⟨w2.heap.size + 1 + 1, 0, none⟩) 2 2) ⟨_, _, X3⟩ c3)
  have kX3 := X3.set 0 (.slice (some ⟨w2.heap.size + 1 + 1, 0, none⟩) 2 2)
  simp only [List.setIfInBounds_toArray, List.set_cons_zero] at kX3
  have HX3 := Lib.hid kX3
  have HB3 := Lib.hid ((B2.out.trans (b3.mono B2.out.size)).setCell (p := ⟨w1.heap.size, 0, none⟩) (show w.heap.size ≤ w1.heap.size by omega) (.slice (some ⟨w2.heap.size + 1 + 1, 0, none⟩) 2 2))
  have HR3 := Lib.hid ((R2.out.on b3).far (p := ⟨w1.heap.size, 0, none⟩) (show w.heap.size ≠ w1.heap.size by omega) (.slice (some ⟨w2.heap.size + 1 + 1, 0, none⟩) 2 2))
  clear X3 hO c3 b3 X2 B2 R2 kX3
  go_upto_region 3 with (fail)
  clear hf d0 d1 d2 d3 d4
  generalize (((w2.alloc (.cells #[.int .i64 1, .int .i64 0, .int .i64 0, .int .i64 0, .int .i64 0, .int .i64 2, .int .i64 0, .int .i64 1, .int .i64 0, .int .i64 1] 91)).alloc (.cells #[.int .i64 2, .int .i64 0, .int .i64 0, .int .i64 1, .int .i64 1, .int .i64 1, .int .i64 0, .int .i64 0, .int .i64 0, .int .i64 0] 91)).alloc (.cells #[.slice (some ⟨w2.heap.size, 0, none⟩) 2 2, .slice (some ⟨w2.heap.size + 1, 0, none⟩) 2 2] 89)).setCell ⟨w1.heap.size, 0, none⟩ (.slice (some ⟨w2.heap.size + 1 + 1, 0, none⟩) 2 2) = w3 at C3 HX3 HB3 HR3 ⊢
  obtain ⟨TV, hTV⟩ : ∃ TV : Value, TV = .slice (some ⟨w2.heap.size + 1 + 1, 0, none⟩) 2 2 := ⟨_, rfl⟩
  rw [← hTV] at C3 HX3
  clear hTV
  have bm := below1 w3 (.cells #[.int .u64 0, .int .u64 1, .int .u64 0, .int .u64 1] 43)
  have M4 := Lib.hid (Blk.new w3 43 #[.int .u64 0, .int .u64 1, .int .u64 0, .int .u64 1])
  have C4 := Lib.hid (C3.out.on bm)
  have HX4 := Lib.hid (HX3.out.on bm)
  have HB4 := Lib.hid (HB3.out.trans (bm.mono HB3.out.size))
  have HR4 := Lib.hid (HR3.out.on bm)
  clear bm C3 HX3 HB3 HR3
  go_upto_region 4 with (fail)
  generalize hgen : w3.alloc (.cells #[.int .u64 0, .int .u64 1, .int .u64 0, .int .u64 1] 43) = wm at M4 C4 HX4 HB4 HR4 ⊢
  clear hgen
  generalize hgen : w3.heap.size = bq at M4 ⊢
  clear hgen
  have bm := below1 wm (.cells #[.int .i64 0, .int .u64 0, .int .u64 0, .int .u64 0, .int .u64 0, .int .i64 1, .int .i64 0, .int .i64 0, .int .u64 0, .int .u64 0, .int .u64 0, .int .u64 0] 51)
  have D4 := Lib.hid (Blk.new wm 51 #[.int .i64 0, .int .u64 0, .int .u64 0, .int .u64 0, .int .u64 0, .int .i64 1, .int .i64 0, .int .i64 0, .int .u64 0, .int .u64 0, .int .u64 0, .int .u64 0])
  have kM4 := Lib.hid (M4.out.on bm)
  have kC4 := Lib.hid (C4.out.on bm)
  have kHX4 := Lib.hid (HX4.out.on bm)
  have kHB4 := Lib.hid (HB4.out.trans (bm.mono HB4.out.size))
  have kHR4 := Lib.hid (HR4.out.on bm)
  clear bm M4 C4 HX4 HB4 HR4
  go_upto_region 5 with (fail)
  generalize hgen : wm.alloc (.cells #[.int .i64 0, .int .u64 0, .int .u64 0, .int .u64 0, .int .u64 0, .int .i64 1, .int .i64 0, .int .i64 0, .int .u64 0, .int .u64 0, .int .u64 0, .int .u64 0] 51) = w4 at D4 kM4 kC4 kHX4 kHB4 kHR4 ⊢
  clear hgen
  generalize hgen : wm.heap.size = bd at D4 ⊢
  clear hgen
  have M4 := kM4
  have C4 := kC4
  have HX4 := kHX4
  have HB4 := kHB4
  have HR4 := kHR4
  clear kM4 kC4 kHX4 kHB4 kHR4
  have hx4 : w1.heap.size < w4.heap.size := HX4.out.lt
  obtain ⟨m0, m1, m2, m3⟩ := quad M4.out
  have hk := fun i => D4.out.cell i
  have k0 := (hk 0).trans rfl
  have k1 := (hk 1).trans rfl
  have k2 := (hk 2).trans rfl
  have k3 := (hk 3).trans rfl
  have k4 := (hk 4).trans rfl
  have k5 := (hk 5).trans rfl
  have k6 := (hk 6).trans rfl
  have k7 := (hk 7).trans rfl
  have k8 := (hk 8).trans rfl
  have k9 := (hk 9).trans rfl
  have k10 := (hk 10).trans rfl
  have k11 := (hk 11).trans rfl
  simp only [List.getElem?_toArray, List.getElem?_cons_succ, List.getElem?_cons_zero] at k0 k1 k2 k3 k4 k5 k6 k7 k8 k9 k10 k11
  clear hk
  
  have b5 := below4 w4 (.cells #[.int .i64 1, .int .u64 0, .int .u64 1, .int .u64 0, .int .u64 1, .int .i64 3, .int .i64 1, .int .i64 0, .int .u64 0, .int .u64 0, .int .u64 0, .int .u64 0, .int .i64 0, .int .u64 0, .int .u64 0, .int .u64 0, .int .u64 0, .int .i64 1, .int .i64 0, .int .i64 0, .int .u64 0, .int .u64 0, .int .u64 0, .int .u64 0] 51) (.cells #[.slice (some ⟨w4.heap.size, 0, none⟩) 2 2] 45) (.cells #[.int .i64 1, .int .u64 0, .int .u64 1, .int .u64 0, .int .u64 1, .int .i64 2, .int .i64 1, .int .i64 0, .int .u64 0, .int .u64 0, .int .u64 0, .int .u64 0, .int .i64 0, .int .u64 0, .int .u64 0, .int .u64 0, .int .u64 0, .int .i64 1, .int .i64 0, .int .i64 0, .int .u64 0, .int .u64 0, .int .u64 0, .int .u64 0] 51) (.cells #[.slice (some ⟨w4.heap.size + 1 + 1, 0, none⟩) 2 2] 45)
  have b6 : Below w4.heap.size w4 (((((w4.alloc (.cells #[.int .i64 1, .int .u64 0, .int .u64 1, .int .u64 0, .int .u64 1, .int .i64 3, .int .i64 1, .int .i64 0, .int .u64 0, .int .u64 0, .int .u64 0, .int .u64 0, .int .i64 0, .int .u64 0, .int .u64 0, .int .u64 0, .int .u64 0, .int .i64 1, .int .i64 0, .int .i64 0, .int .u64 0, .int .u64 0, .int .u64 0, .int .u64 0] 51)).alloc (.cells #[.slice (some ⟨w4.heap.size, 0, none⟩) 2 2] 45)).alloc (.cells #[.int .i64 1, .int .u64 0, .int .u64 1, .int .u64 0, .int .u64 1, .int .i64 2, .int .i64 1, .int .i64 0, .int .u64 0, .int .u64 0, .int .u64 0, .int .u64 0, .int .i64 0, .int .u64 0, .int .u64 0, .int .u64 0, .int .u64 0, .int .i64 1, .int .i64 0, .int .i64 0, .int .u64 0, .int .u64 0, .int .u64 0, .int .u64 0] 51)).alloc (.cells #[.slice (some ⟨w4.heap.size + 1 + 1, 0, none⟩) 2 2] 45)).alloc (.cells #[.slice (some ⟨w4.heap.size + 1, 0, none⟩) 1 1, .slice (some ⟨w4.heap.size + 1 + 1 + 1, 0, none⟩) 1 1] 84)) := b5.alloc (by simp; omega) _
  have X5 := HX4.out.on b6
  have hf := X5.free 4
  obtain ⟨d0, d1, d2, d3, d4⟩ := X5.five
  have hO : O3R w1.heap.size (((((w4.alloc (.cells #[.int .i64 1, .int .u64 0, .int .u64 1, .int .u64 0, .int .u64 1, .int .i64 3, .int .i64 1, .int .i64 0, .int .u64 0, .int .u64 0, .int .u64 0, .int .u64 0, .int .i64 0, .int .u64 0, .int .u64 0, .int .u64 0, .int .u64 0, .int .i64 1, .int .i64 0, .int .i64 0, .int .u64 0, .int .u64 0, .int .u64 0, .int .u64 0] 51)).alloc (.cells #[.slice (some ⟨w4.heap.size, 0, none⟩) 2 2] 45)).alloc (.cells #[.int .i64 1, .int .u64 0, .int .u64 1, .int .u64 0, .int .u64 1, .int .i64 2, .int .i64 1, .int .i64 0, .int .u64 0, .int .u64 0, .int .u64 0, .int .u64 0, .int .i64 0, .int .u64 0, .int .u64 0, .int .u64 0, .int .u64 0, .int .i64 1, .int .i64 0, .int .i64 0, .int .u64 0, .int .u64 0, .int .u64 0, .int .u64 0] 51)).alloc (.cells #[.slice (some ⟨w4.heap.size + 1 + 1, 0, none⟩) 2 2] 45)).alloc (.cells #[.slice (some ⟨w4.heap.size + 1, 0, none⟩) 1 1, .slice (some ⟨w4.heap.size + 1 + 1 + 1, 0, none⟩) 1 1] 84)) (.slice (some ⟨w4.heap.size + 1 + 1 + 1 + 1, 0, none⟩) 2 2) B13 := by
    have q1 : O1R w1.heap.size (w4.alloc (.cells #[.int .i64 1, .int .u64 0, .int .u64 1, .int .u64 0, .int .u64 1, .int .i64 3, .int .i64 1, .int .i64 0, .int .u64 0, .int .u64 0, .int .u64 0, .int .u64 0, .int .i64 0, .int .u64 0, .int .u64 0, .int .u64 0, .int .u64 0, .int .i64 1, .int .i64 0, .int .i64 0, .int .u64 0, .int .u64 0, .int .u64 0, .int .u64 0] 51)) (.slice (some ⟨w4.heap.size, 0, none⟩) 2 2) [R13a, D13] := World.ownsRow_lit w4 #[.int .i64 1, .int .u64 0, .int .u64 1, .int .u64 0, .int .u64 1, .int .i64 3, .int .i64 1, .int .i64 0, .int .u64 0, .int .u64 0, .int .u64 0, .int .u64 0, .int .i64 0, .int .u64 0, .int .u64 0, .int .u64 0, .int .u64 0, .int .i64 1, .int .i64 0, .int .i64 0, .int .u64 0, .int .u64 0, .int .u64 0, .int .u64 0] 2 (by omega) (by decide) rfl
    have q2 := World.ownsRow_lit (base := w1.heap.size) (e := 45) (size := 1) (w4.alloc (.cells #[.int .i64 1, .int .u64 0, .int .u64 1, .int .u64 0, .int .u64 1, .int .i64 3, .int .i64 1, .int .i64 0, .int .u64 0, .int .u64 0, .int .u64 0, .int .u64 0, .int .i64 0, .int .u64 0, .int .u64 0, .int .u64 0, .int .u64 0, .int .i64 1, .int .i64 0, .int .i64 0, .int .u64 0, .int .u64 0, .int .u64 0, .int .u64 0] 51)) #[.slice (some ⟨w4.heap.size, 0, none⟩) 2 2] 1 (by simp; omega) (by decide) rfl
    have e1 : (w4.alloc (.cells #[.int .i64 1, .int .u64 0, .int .u64 1, .int .u64 0, .int .u64 1, .int .i64 3, .int .i64 1, .int .i64 0, .int .u64 0, .int .u64 0, .int .u64 0, .int .u64 0, .int .i64 0, .int .u64 0, .int .u64 0, .int .u64 0, .int .u64 0, .int .i64 1, .int .i64 0, .int .i64 0, .int .u64 0, .int .u64 0, .int .u64 0, .int .u64 0] 51)).heap.size = w4.heap.size + 1 := by simp
    rw [e1] at q2
    have q3 : O2R w1.heap.size ((w4.alloc (.cells #[.int .i64 1, .int .u64 0, .int .u64 1, .int .u64 0, .int .u64 1, .int .i64 3, .int .i64 1, .int .i64 0, .int .u64 0, .int .u64 0, .int .u64 0, .int .u64 0, .int .i64 0, .int .u64 0, .int .u64 0, .int .u64 0, .int .u64 0, .int .i64 1, .int .i64 0, .int .i64 0, .int .u64 0, .int .u64 0, .int .u64 0, .int .u64 0] 51)).alloc (.cells #[.slice (some ⟨w4.heap.size, 0, none⟩) 2 2] 45)) (.slice (some ⟨w4.heap.size + 1, 0, none⟩) 1 1) [[R13a, D13]] := by
      refine ⟨[.slice (some ⟨w4.heap.size, 0, none⟩) 2 2], q2, fun i x hx => ?_⟩
      cases i with
      | zero => injection hx with hx; subst hx; exact ⟨_, rfl, O1R.on _ _ _ _ _ (below1 _ _) q1⟩
      | succ i => simp at hx
    have q4 := World.ownsRow_lit (base := w1.heap.size) (e := 51) (size := 12) ((w4.alloc (.cells #[.int .i64 1, .int .u64 0, .int .u64 1, .int .u64 0, .int .u64 1, .int .i64 3, .int .i64 1, .int .i64 0, .int .u64 0, .int .u64 0, .int .u64 0, .int .u64 0, .int .i64 0, .int .u64 0, .int .u64 0, .int .u64 0, .int .u64 0, .int .i64 1, .int .i64 0, .int .i64 0, .int .u64 0, .int .u64 0, .int .u64 0, .int .u64 0] 51)).alloc (.cells #[.slice (some ⟨w4.heap.size, 0, none⟩) 2 2] 45)) #[.int .i64 1, .int .u64 0, .int .u64 1, .int .u64 0, .int .u64 1, .int .i64 2, .int .i64 1, .int .i64 0, .int .u64 0, .int .u64 0, .int .u64 0, .int .u64 0, .int .i64 0, .int .u64 0, .int .u64 0, .int .u64 0, .int .u64 0, .int .i64 1, .int .i64 0, .int .i64 0, .int .u64 0, .int .u64 0, .int .u64 0, .int .u64 0] 2 (by simp; omega) (by decide) rfl
    have e2 : ((w4.alloc (.cells #[.int .i64 1, .int .u64 0, .int .u64 1, .int .u64 0, .int .u64 1, .int .i64 3, .int .i64 1, .int .i64 0, .int .u64 0, .int .u64 0, .int .u64 0, .int .u64 0, .int .i64 0, .int .u64 0, .int .u64 0, .int .u64 0, .int .u64 0, .int .i64 1, .int .i64 0, .int .i64 0, .int .u64 0, .int .u64 0, .int .u64 0, .int .u64 0] 51)).alloc (.cells #[.slice (some ⟨w4.heap.size, 0, none⟩) 2 2] 45)).heap.size = w4.heap.size + 1 + 1 := by simp
    rw [e2] at q4
    have q5 : O1R w1.heap.size (((w4.alloc (.cells #[.int .i64 1, .int .u64 0, .int .u64 1, .int .u64 0, .int .u64 1, .int .i64 3, .int .i64 1, .int .i64 0, .int .u64 0, .int .u64 0, .int .u64 0, .int .u64 0, .int .i64 0, .int .u64 0, .int .u64 0, .int .u64 0, .int .u64 0, .int .i64 1, .int .i64 0, .int .i64 0, .int .u64 0, .int .u64 0, .int .u64 0, .int .u64 0] 51)).alloc (.cells #[.slice (some ⟨w4.heap.size, 0, none⟩) 2 2] 45)).alloc (.cells #[.int .i64 1, .int .u64 0, .int .u64 1, .int .u64 0, .int .u64 1, .int .i64 2, .int .i64 1, .int .i64 0, .int .u64 0, .int .u64 0, .int .u64 0, .int .u64 0, .int .i64 0, .int .u64 0, .int .u64 0, .int .u64 0, .int .u64 0, .int .i64 1, .int .i64 0, .int .i64 0, .int .u64 0, .int .u64 0, .int .u64 0, .int .u64 0] 51)) (.slice (some ⟨w4.heap.size + 1 + 1, 0, none⟩) 2 2) [R13b, D13] := q4
    have q6 := World.ownsRow_lit (base := w1.heap.size) (e := 45) (size := 1) (((w4.alloc (.cells #[.int .i64 1, .int .u64 0, .int .u64 1, .int .u64 0, .int .u64 1, .int .i64 3, .int .i64 1, .int .i64 0, .int .u64 0, .int .u64 0, .int .u64 0, .int .u64 0, .int .i64 0, .int .u64 0, .int .u64 0, .int .u64 0, .int .u64 0, .int .i64 1, .int .i64 0, .int .i64 0, .int .u64 0, .int .u64 0, .int .u64 0, .int .u64 0] 51)).alloc (.cells #[.slice (some ⟨w4.heap.size, 0, none⟩) 2 2] 45)).alloc (.cells #[.int .i64 1, .int .u64 0, .int .u64 1, .int .u64 0, .int .u64 1, .int .i64 2, .int .i64 1, .int .i64 0, .int .u64 0, .int .u64 0, .int .u64 0, .int .u64 0, .int .i64 0, .int .u64 0, .int .u64 0, .int .u64 0, .int .u64 0, .int .i64 1, .int .i64 0, .int .i64 0, .int .u64 0, .int .u64 0, .int .u64 0, .int .u64 0] 51)) #[.slice (some ⟨w4.heap.size + 1 + 1, 0, none⟩) 2 2] 1 (by simp; omega) (by decide) rfl
    have e3 : (((w4.alloc (.cells #[.int .i64 1, .int .u64 0, .int .u64 1, .int .u64 0, .int .u64 1, .int .i64 3, .int .i64 1, .int .i64 0, .int .u64 0, .int .u64 0, .int .u64 0, .int .u64 0, .int .i64 0, .int .u64 0, .int .u64 0, .int .u64 0, .int .u64 0, .int .i64 1, .int .i64 0, .int .i64 0, .int .u64 0, .int .u64 0, .int .u64 0, .int .u64 0] 51)).alloc (.cells #[.slice (some ⟨w4.heap.size, 0, none⟩) 2 2] 45)).alloc (.cells #[.int .i64 1, .int .u64 0, .int .u64 1, .int .u64 0, .int .u64 1, .int .i64 2, .int .i64 1, .int .i64 0, .int .u64 0, .int .u64 0, .int .u64 0, .int .u64 0, .int .i64 0, .int .u64 0, .int .u64 0, .int .u64 0, .int .u64 0, .int .i64 1, .int .i64 0, .int .i64 0, .int .u64 0, .int .u64 0, .int .u64 0, .int .u64 0] 51)).heap.size = w4.heap.size + 1 + 1 + 1 := by simp
    rw [e3] at q6
    have q7 : O2R w1.heap.size ((((w4.alloc (.cells #[.int .i64 1, .int .u64 0, .int .u64 1, .int .u64 0, .int .u64 1, .int .i64 3, .int .i64 1, .int .i64 0, .int .u64 0, .int .u64 0, .int .u64 0, .int .u64 0, .int .i64 0, .int .u64 0, .int .u64 0, .int .u64 0, .int .u64 0, .int .i64 1, .int .i64 0, .int .i64 0, .int .u64 0, .int .u64 0, .int .u64 0, .int .u64 0] 51)).alloc (.cells #[.slice (some ⟨w4.heap.size, 0, none⟩) 2 2] 45)).alloc (.cells #[.int .i64 1, .int .u64 0, .int .u64 1, .int .u64 0, .int .u64 1, .int .i64 2, .int .i64 1, .int .i64 0, .int .u64 0, .int .u64 0, .int .u64 0, .int .u64 0, .int .i64 0, .int .u64 0, .int .u64 0, .int .u64 0, .int .u64 0, .int .i64 1, .int .i64 0, .int .i64 0, .int .u64 0, .int .u64 0, .int .u64 0, .int .u64 0] 51)).alloc (.cells #[.slice (some ⟨w4.heap.size + 1 + 1, 0, none⟩) 2 2] 45)) (.slice (some ⟨w4.heap.size + 1 + 1 + 1, 0, none⟩) 1 1) [[R13b, D13]] := by
      refine ⟨[.slice (some ⟨w4.heap.size + 1 + 1, 0, none⟩) 2 2], q6, fun i x hx => ?_⟩
      cases i with
      | zero => injection hx with hx; subst hx; exact ⟨_, rfl, O1R.on _ _ _ _ _ (below1 _ _) q5⟩
      | succ i => simp at hx
    have q8 := World.ownsRow_lit (base := w1.heap.size) (e := 84) (size := 1) ((((w4.alloc (.cells #[.int .i64 1, .int .u64 0, .int .u64 1, .int .u64 0, .int .u64 1, .int .i64 3, .int .i64 1, .int .i64 0, .int .u64 0, .int .u64 0, .int .u64 0, .int .u64 0, .int .i64 0, .int .u64 0, .int .u64 0, .int .u64 0, .int .u64 0, .int .i64 1, .int .i64 0, .int .i64 0, .int .u64 0, .int .u64 0, .int .u64 0, .int .u64 0] 51)).alloc (.cells #[.slice (some ⟨w4.heap.size, 0, none⟩) 2 2] 45)).alloc (.cells #[.int .i64 1, .int .u64 0, .int .u64 1, .int .u64 0, .int .u64 1, .int .i64 2, .int .i64 1, .int .i64 0, .int .u64 0, .int .u64 0, .int .u64 0, .int .u64 0, .int .i64 0, .int .u64 0, .int .u64 0, .int .u64 0, .int .u64 0, .int .i64 1, .int .i64 0, .int .i64 0, .int .u64 0, .int .u64 0, .int .u64 0, .int .u64 0] 51)).alloc (.cells #[.slice (some ⟨w4.heap.size + 1 + 1, 0, none⟩) 2 2] 45)) #[.slice (some ⟨w4.heap.size + 1, 0, none⟩) 1 1, .slice (some ⟨w4.heap.size + 1 + 1 + 1, 0, none⟩) 1 1] 2 (by simp; omega) (by decide) rfl
    have e4 : ((((w4.alloc (.cells #[.int .i64 1, .int .u64 0, .int .u64 1, .int .u64 0, .int .u64 1, .int .i64 3, .int .i64 1, .int .i64 0, .int .u64 0, .int .u64 0, .int .u64 0, .int .u64 0, .int .i64 0, .int .u64 0, .int .u64 0, .int .u64 0, .int .u64 0, .int .i64 1, .int .i64 0, .int .i64 0, .int .u64 0, .int .u64 0, .int .u64 0, .int .u64 0] 51)).alloc (.cells #[.slice (some ⟨w4.heap.size, 0, none⟩) 2 2] 45)).alloc (.cells #[.int .i64 1, .int .u64 0, .int .u64 1, .int .u64 0, .int .u64 1, .int .i64 2, .int .i64 1, .int .i64 0, .int .u64 0, .int .u64 0, .int .u64 0, .int .u64 0, .int .i64 0, .int .u64 0, .int .u64 0, .int .u64 0, .int .u64 0, .int .i64 1, .int .i64 0, .int .i64 0, .int .u64 0, .int .u64 0, .int .u64 0, .int .u64 0] 51)).alloc (.cells #[.slice (some ⟨w4.heap.size + 1 + 1, 0, none⟩) 2 2] 45)).heap.size = w4.heap.size + 1 + 1 + 1 + 1 := by simp
    rw [e4] at q8
    refine ⟨[.slice (some ⟨w4.heap.size + 1, 0, none⟩) 1 1, .slice (some ⟨w4.heap.size + 1 + 1 + 1, 0, none⟩) 1 1], q8, fun i x hx => ?_⟩
    match i with
    | 0 => injection hx with hx; subst hx; exact ⟨_, rfl, O2R.on _ _ _ _ _ (below3 _ _ _ _) q3⟩
    | 1 => injection hx with hx; subst hx; exact ⟨_, rfl, O2R.on _ _ _ _ _ (below1 _ _) q7⟩
    | i + 2 => simp [B13] at hx
  have c5 : Cfo w1.heap.size (((((w4.alloc (.cells #[.int .i64 1, .int .u64 0, .int .u64 1, .int .u64 0, .int .u64 1, .int .i64 3, .int .i64 1, .int .i64 0, .int .u64 0, .int .u64 0, .int .u64 0, .int .u64 0, .int .i64 0, .int .u64 0, .int .u64 0, .int .u64 0, .int .u64 0, .int .i64 1, .int .i64 0, .int .i64 0, .int .u64 0, .int .u64 0, .int .u64 0, .int .u64 0] 51)).alloc (.cells #[.slice (some ⟨w4.heap.size, 0, none⟩) 2 2] 45)).alloc (.cells #[.int .i64 1, .int .u64 0, .int .u64 1, .int .u64 0, .int .u64 1, .int .i64 2, .int .i64 1, .int .i64 0, .int .u64 0, .int .u64 0, .int .u64 0, .int .u64 0, .int .i64 0, .int .u64 0, .int .u64 0, .int .u64 0, .int .u64 0, .int .i64 1, .int .i64 0, .int .i64 0, .int .u64 0, .int .u64 0, .int .u64 0, .int .u64 0] 51)).alloc (.cells #[.slice (some ⟨w4.heap.size + 1 + 1, 0, none⟩) 2 2] 45)).alloc (.cells #[.slice (some ⟨w4.heap.size + 1, 0, none⟩) 1 1, .slice (some ⟨w4.heap.size + 1 + 1 + 1, 0, none⟩) 1 1] 84)) TV (.slice none 0 0) (.slice none 0 0) (.slice (some ⟨w4.heap.size + 1 + 1 + 1 + 1, 0, none⟩) 2 2) T13 [] [] B13 := ⟨O2P.on _ _ _ _ _ b6 C4.out.ports, World.ownsRow_nil _ _ _ _, World.ownsRow_nil _ _ _ _, hO⟩
  have C5 := Lib.hid (Cfo.box (i := 4) (u := .slice (some ⟨w4.heap.size + 1 + 1 + 1 + 1, 0, none⟩) 2 2) ⟨_, _, X5⟩ c5)
  have kX5 := X5.set 4 (.slice (some ⟨w4.heap.size + 1 + 1 + 1 + 1, 0, none⟩) 2 2)
  simp only [List.setIfInBounds_toArray, List.set_cons_succ, List.set_cons_zero] at kX5
  have HX5 := Lib.hid kX5
  have HB5 := Lib.hid ((HB4.out.trans (b6.mono HB4.out.size)).setCell (p := ⟨w1.heap.size, 4, none⟩) (show w.heap.size ≤ w1.heap.size by omega) (.slice (some ⟨w4.heap.size + 1 + 1 + 1 + 1, 0, none⟩) 2 2))
  have HR5 := Lib.hid ((HR4.out.on b6).far (p := ⟨w1.heap.size, 4, none⟩) (show w.heap.size ≠ w1.heap.size by omega) (.slice (some ⟨w4.heap.size + 1 + 1 + 1 + 1, 0, none⟩) 2 2))
  have n1 := on_some (below2 w4 (.cells #[.int .i64 1, .int .u64 0, .int .u64 1, .int .u64 0, .int .u64 1, .int .i64 3, .int .i64 1, .int .i64 0, .int .u64 0, .int .u64 0, .int .u64 0, .int .u64 0, .int .i64 0, .int .u64 0, .int .u64 0, .int .u64 0, .int .u64 0, .int .i64 1, .int .i64 0, .int .i64 0, .int .u64 0, .int .u64 0, .int .u64 0, .int .u64 0] 51) (.cells #[.slice (some ⟨w4.heap.size, 0, none⟩) 2 2] 45)) m0
  have n2 := on_some (below2 w4 (.cells #[.int .i64 1, .int .u64 0, .int .u64 1, .int .u64 0, .int .u64 1, .int .i64 3, .int .i64 1, .int .i64 0, .int .u64 0, .int .u64 0, .int .u64 0, .int .u64 0, .int .i64 0, .int .u64 0, .int .u64 0, .int .u64 0, .int .u64 0, .int .i64 1, .int .i64 0, .int .i64 0, .int .u64 0, .int .u64 0, .int .u64 0, .int .u64 0] 51) (.cells #[.slice (some ⟨w4.heap.size, 0, none⟩) 2 2] 45)) m1
  have n3 := on_some (below2 w4 (.cells #[.int .i64 1, .int .u64 0, .int .u64 1, .int .u64 0, .int .u64 1, .int .i64 3, .int .i64 1, .int .i64 0, .int .u64 0, .int .u64 0, .int .u64 0, .int .u64 0, .int .i64 0, .int .u64 0, .int .u64 0, .int .u64 0, .int .u64 0, .int .i64 1, .int .i64 0, .int .i64 0, .int .u64 0, .int .u64 0, .int .u64 0, .int .u64 0] 51) (.cells #[.slice (some ⟨w4.heap.size, 0, none⟩) 2 2] 45)) m2
  have n4 := on_some (below2 w4 (.cells #[.int .i64 1, .int .u64 0, .int .u64 1, .int .u64 0, .int .u64 1, .int .i64 3, .int .i64 1, .int .i64 0, .int .u64 0, .int .u64 0, .int .u64 0, .int .u64 0, .int .i64 0, .int .u64 0, .int .u64 0, .int .u64 0, .int .u64 0, .int .i64 1, .int .i64 0, .int .i64 0, .int .u64 0, .int .u64 0, .int .u64 0, .int .u64 0] 51) (.cells #[.slice (some ⟨w4.heap.size, 0, none⟩) 2 2] 45)) m3
  have j0 := on_some (below2 w4 (.cells #[.int .i64 1, .int .u64 0, .int .u64 1, .int .u64 0, .int .u64 1, .int .i64 3, .int .i64 1, .int .i64 0, .int .u64 0, .int .u64 0, .int .u64 0, .int .u64 0, .int .i64 0, .int .u64 0, .int .u64 0, .int .u64 0, .int .u64 0, .int .i64 1, .int .i64 0, .int .i64 0, .int .u64 0, .int .u64 0, .int .u64 0, .int .u64 0] 51) (.cells #[.slice (some ⟨w4.heap.size, 0, none⟩) 2 2] 45)) k0
  have j1 := on_some (below2 w4 (.cells #[.int .i64 1, .int .u64 0, .int .u64 1, .int .u64 0, .int .u64 1, .int .i64 3, .int .i64 1, .int .i64 0, .int .u64 0, .int .u64 0, .int .u64 0, .int .u64 0, .int .i64 0, .int .u64 0, .int .u64 0, .int .u64 0, .int .u64 0, .int .i64 1, .int .i64 0, .int .i64 0, .int .u64 0, .int .u64 0, .int .u64 0, .int .u64 0] 51) (.cells #[.slice (some ⟨w4.heap.size, 0, none⟩) 2 2] 45)) k1
  have j2 := on_some (below2 w4 (.cells #[.int .i64 1, .int .u64 0, .int .u64 1, .int .u64 0, .int .u64 1, .int .i64 3, .int .i64 1, .int .i64 0, .int .u64 0, .int .u64 0, .int .u64 0, .int .u64 0, .int .i64 0, .int .u64 0, .int .u64 0, .int .u64 0, .int .u64 0, .int .i64 1, .int .i64 0, .int .i64 0, .int .u64 0, .int .u64 0, .int .u64 0, .int .u64 0] 51) (.cells #[.slice (some ⟨w4.heap.size, 0, none⟩) 2 2] 45)) k2
  have j3 := on_some (below2 w4 (.cells #[.int .i64 1, .int .u64 0, .int .u64 1, .int .u64 0, .int .u64 1, .int .i64 3, .int .i64 1, .int .i64 0, .int .u64 0, .int .u64 0, .int .u64 0, .int .u64 0, .int .i64 0, .int .u64 0, .int .u64 0, .int .u64 0, .int .u64 0, .int .i64 1, .int .i64 0, .int .i64 0, .int .u64 0, .int .u64 0, .int .u64 0, .int .u64 0] 51) (.cells #[.slice (some ⟨w4.heap.size, 0, none⟩) 2 2] 45)) k3
  have j4 := on_some (below2 w4 (.cells #[.int .i64 1, .int .u64 0, .int .u64 1, .int .u64 0, .int .u64 1, .int .i64 3, .int .i64 1, .int .i64 0, .int .u64 0, .int .u64 0, .int .u64 0, .int .u64 0, .int .i64 0, .int .u64 0, .int .u64 0, .int .u64 0, .int .u64 0, .int .i64 1, .int .i64 0, .int .i64 0, .int .u64 0, .int .u64 0, .int .u64 0, .int .u64 0] 51) (.cells #[.slice (some ⟨w4.heap.size, 0, none⟩) 2 2] 45)) k4
  have j5 := on_some (below2 w4 (.cells #[.int .i64 1, .int .u64 0, .int .u64 1, .int .u64 0, .int .u64 1, .int .i64 3, .int .i64 1, .int .i64 0, .int .u64 0, .int .u64 0, .int .u64 0, .int .u64 0, .int .i64 0, .int .u64 0, .int .u64 0, .int .u64 0, .int .u64 0, .int .i64 1, .int .i64 0, .int .i64 0, .int .u64 0, .int .u64 0, .int .u64 0, .int .u64 0] 51) (.cells #[.slice (some ⟨w4.heap.size, 0, none⟩) 2 2] 45)) k5
  have j6 := on_some (below2 w4 (.cells #[.int .i64 1, .int .u64 0, .int .u64 1, .int .u64 0, .int .u64 1, .int .i64 3, .int .i64 1, .int .i64 0, .int .u64 0, .int .u64 0, .int .u64 0, .int .u64 0, .int .i64 0, .int .u64 0, .int .u64 0, .int .u64 0, .int .u64 0, .int .i64 1, .int .i64 0, .int .i64 0, .int .u64 0, .int .u64 0, .int .u64 0, .int .u64 0] 51) (.cells #[.slice (some ⟨w4.heap.size, 0, none⟩) 2 2] 45)) k6
  have j7 := on_some (below2 w4 (.cells #[.int .i64 1, .int .u64 0, .int .u64 1, .int .u64 0, .int .u64 1, .int .i64 3, .int .i64 1, .int .i64 0, .int .u64 0, .int .u64 0, .int .u64 0, .int .u64 0, .int .i64 0, .int .u64 0, .int .u64 0, .int .u64 0, .int .u64 0, .int .i64 1, .int .i64 0, .int .i64 0, .int .u64 0, .int .u64 0, .int .u64 0, .int .u64 0] 51) (.cells #[.slice (some ⟨w4.heap.size, 0, none⟩) 2 2] 45)) k7
  have j8 := on_some (below2 w4 (.cells #[.int .i64 1, .int .u64 0, .int .u64 1, .int .u64 0, .int .u64 1, .int .i64 3, .int .i64 1, .int .i64 0, .int .u64 0, .int .u64 0, .int .u64 0, .int .u64 0, .int .i64 0, .int .u64 0, .int .u64 0, .int .u64 0, .int .u64 0, .int .i64 1, .int .i64 0, .int .i64 0, .int .u64 0, .int .u64 0, .int .u64 0, .int .u64 0] 51) (.cells #[.slice (some ⟨w4.heap.size, 0, none⟩) 2 2] 45)) k8
  have j9 := on_some (below2 w4 (.cells #[.int .i64 1, .int .u64 0, .int .u64 1, .int .u64 0, .int .u64 1, .int .i64 3, .int .i64 1, .int .i64 0, .int .u64 0, .int .u64 0, .int .u64 0, .int .u64 0, .int .i64 0, .int .u64 0, .int .u64 0, .int .u64 0, .int .u64 0, .int .i64 1, .int .i64 0, .int .i64 0, .int .u64 0, .int .u64 0, .int .u64 0, .int .u64 0] 51) (.cells #[.slice (some ⟨w4.heap.size, 0, none⟩) 2 2] 45)) k9
  have j10 := on_some (below2 w4 (.cells #[.int .i64 1, .int .u64 0, .int .u64 1, .int .u64 0, .int .u64 1, .int .i64 3, .int .i64 1, .int .i64 0, .int .u64 0, .int .u64 0, .int .u64 0, .int .u64 0, .int .i64 0, .int .u64 0, .int .u64 0, .int .u64 0, .int .u64 0, .int .i64 1, .int .i64 0, .int .i64 0, .int .u64 0, .int .u64 0, .int .u64 0, .int .u64 0] 51) (.cells #[.slice (some ⟨w4.heap.size, 0, none⟩) 2 2] 45)) k10
  have j11 := on_some (below2 w4 (.cells #[.int .i64 1, .int .u64 0, .int .u64 1, .int .u64 0, .int .u64 1, .int .i64 3, .int .i64 1, .int .i64 0, .int .u64 0, .int .u64 0, .int .u64 0, .int .u64 0, .int .i64 0, .int .u64 0, .int .u64 0, .int .u64 0, .int .u64 0, .int .i64 1, .int .i64 0, .int .i64 0, .int .u64 0, .int .u64 0, .int .u64 0, .int .u64 0] 51) (.cells #[.slice (some ⟨w4.heap.size, 0, none⟩) 2 2] 45)) k11
  clear X5 hO c5 b5 b6 HX4 C4 HB4 HR4 kX5
  go_upto_region 6 with (fail)
  clear hf d0 d1 d2 d3 d4 m0 m1 m2 m3 n1 n2 n3 n4 k0 j0 k1 j1 k2 j2 k3 j3 k4 j4 k5 j5 k6 j6 k7 j7 k8 j8 k9 j9 k10 j10 k11 j11
  generalize (((((w4.alloc (.cells #[.int .i64 1, .int .u64 0, .int .u64 1, .int .u64 0, .int .u64 1, .int .i64 3, .int .i64 1, .int .i64 0, .int .u64 0, .int .u64 0, .int .u64 0, .int .u64 0, .int .i64 0, .int .u64 0, .int .u64 0, .int .u64 0, .int .u64 0, .int .i64 1, .int .i64 0, .int .i64 0, .int .u64 0, .int .u64 0, .int .u64 0, .int .u64 0] 51)).alloc (.cells #[.slice (some ⟨w4.heap.size, 0, none⟩) 2 2] 45)).alloc (.cells #[.int .i64 1, .int .u64 0, .int .u64 1, .int .u64 0, .int .u64 1, .int .i64 2, .int .i64 1, .int .i64 0, .int .u64 0, .int .u64 0, .int .u64 0, .int .u64 0, .int .i64 0, .int .u64 0, .int .u64 0, .int .u64 0, .int .u64 0, .int .i64 1, .int .i64 0, .int .i64 0, .int .u64 0, .int .u64 0, .int .u64 0, .int .u64 0] 51)).alloc (.cells #[.slice (some ⟨w4.heap.size + 1 + 1, 0, none⟩) 2 2] 45)).alloc (.cells #[.slice (some ⟨w4.heap.size + 1, 0, none⟩) 1 1, .slice (some ⟨w4.heap.size + 1 + 1 + 1, 0, none⟩) 1 1] 84)).setCell ⟨w1.heap.size, 4, none⟩ (.slice (some ⟨w4.heap.size + 1 + 1 + 1 + 1, 0, none⟩) 2 2) = w5 at C5 HX5 HB5 HR5 ⊢
  obtain ⟨BV, hBV⟩ : ∃ BV : Value, BV = .slice (some ⟨w4.heap.size + 1 + 1 + 1 + 1, 0, none⟩) 2 2 := ⟨_, rfl⟩
  rw [← hBV] at C5 HX5
  clear hBV
  obtain ⟨tA, tc, rfl, -⟩ := OwG.rd C5.out.ports
  obtain ⟨xA, xc, rfl, -⟩ := OwG.rd C5.out.tabs
  obtain ⟨d0, d1, d2, d3, d4⟩ := HX5.out.five
  have K5 := HR5.out.put5 (.slice tA T13.length tc) (.int .i64 1) (.slice none 0 0) (.slice none 0 0) (.slice xA B13.length xc)
  obtain ⟨q0, q1, q2, q3, q4⟩ := K5.five
  obtain ⟨z0, z1, z2, z3, z4⟩ := HR5.out.five
  have f0 := HR5.out.free 0
  have f1 := HR5.out.free 1
  have f2 := HR5.out.free 2
  have f3 := HR5.out.free 3
  have f4 := HR5.out.free 4
  have HCE := Lib.hid (Cfo.put5 hb1 C5.out (.slice tA T13.length tc) (.int .i64 1) (.slice none 0 0) (.slice none 0 0) (.slice xA B13.length xc))
  have HBE := Lib.hid (HB5.out.trans (below_put5 (w := w5) (B := w.heap.size) (g := w.heap.size) (Nat.le_refl _) (.slice tA T13.length tc) (.int .i64 1) (.slice none 0 0) (.slice none 0 0) (.slice xA B13.length xc)))
  clear K5 HR5 HX5 C5 HB5
  go_wp2
  exact bodyPost_ret (v := .agg #[.slice tA T13.length tc, .int .i64 1, .slice none 0 0, .slice none 0 0, .slice xA B13.length xc]) (by simp [results, Try.results26, go_sem, q0, q1, q2, q3, q4]) rfl ⟨_, _, rfl, Cfo.mono hsz1 HCE.out, HBE.out⟩
theorem of13 (tv pv wv bv : Value) (w : World) (hT : PsT w tv T13) (hP : Pe w pv []) (hQ : Wy w wv []) (hB : RuQ w bv B13) : Calls Try.prog 11 #[.agg #[tv, .int .i64 1, pv, wv, bv], .int .i64 0] w (OfR w [M13, Cb.zero]) :=
  pof_ok tv pv wv bv T13 1 [] [] B13 0 [M13, Cb.zero] w hT hP hQ hB C13 (by decide) B13_len clo13
theorem sets13 (tv pv wv bv : Value) (w : World) (hT : PsT w tv T13) (hP : Pe w pv []) (hQ : Wy w wv []) (hB : RuQ w bv B13) : Calls Try.prog 7 #[.agg #[tv, .int .i64 1, pv, wv, bv], .int .i64 0] w (GotCs w (allS T13 B13 0)) :=
  psets_ok tv pv wv bv T13 1 [] [] B13 0 w hT hP hQ hB C13 (by decide) B13_len
set_option maxRecDepth 100000 in
set_option maxHeartbeats 4000000 in
theorem awake13_c (w : World) : Calls Try.prog 9 #[] w fun e w' => e = .returned (.bool true) ∧ Below w.heap.size w w' := by
  go_enter Try.func9, Try.ntmps9
  go_wp2_with fail
  (with_reducible refine (line_c _).mono ?_)
  rintro e w1 ⟨tv, bv, rfl, hcf, hb1⟩
  have HRD := hcf.rd
  obtain ⟨tA, tc, rfl, -⟩ := OwG.rd hcf.ports
  obtain ⟨xA, xc, rfl, -⟩ := OwG.rd hcf.tabs
  have bx := below1 w1 (.cells #[.slice tA T13.length tc, .int .i64 1, .slice none 0 0, .slice none 0 0, .slice xA B13.length xc] 31)
  have X2 := Lib.hid (Blk.new w1 31 #[.slice tA T13.length tc, .int .i64 1, .slice none 0 0, .slice none 0 0, .slice xA B13.length xc])
  have HCF := Lib.hid (hcf.on bx).rd
  have HB2 := Lib.hid (hb1.trans (bx.mono hb1.size))
  clear hcf hb1 bx HRD
  go_upto_region 2 with (fail)
  generalize w1.alloc (.cells #[.slice tA T13.length tc, .int .i64 1, .slice none 0 0, .slice none 0 0, .slice xA B13.length xc] 31) = w2 at X2 HCF HB2 ⊢
  obtain ⟨d0, d1, d2, d3, d4⟩ := X2.out.five
  go_wp2_with fail
  (with_reducible refine (of13 _ _ _ _ _ HCF.out.1 HCF.out.2.1 HCF.out.2.2.1 HCF.out.2.2.2).mono ?_)
  rintro e w3 ⟨h1, -, hb3⟩
  obtain ⟨lv, rfl, hl⟩ := h1 (by decide)
  rw [told13] at hl
  obtain ⟨lA, lc, rfl, -, hlA⟩ := hl.form
  obtain ⟨lb, lo, rfl, -, hla⟩ := hlA (by decide)
  rw [show [Cb.zero, M13].length = 2 from rfl]
  have HLA := Lib.hid hla
  have HB3 := Lib.hid (HB2.out.trans (hb3.mono HB2.out.size))
  have X3 := Lib.hid (X2.out.on hb3)
  have HT3 := Lib.hid (HCF.out.1.on hb3)
  have HP3 := Lib.hid (HCF.out.2.1.on hb3)
  have HQ3 := Lib.hid (HCF.out.2.2.1.on hb3)
  have HR3 := Lib.hid (HCF.out.2.2.2.on hb3)
  clear h1 hl hlA hla hb3 d0 d1 d2 d3 d4 X2 HCF HB2
  obtain ⟨d0, d1, d2, d3, d4⟩ := X3.out.five
  go_wp2_with fail
  (with_reducible refine (sets13 _ _ _ _ _ HT3.out HP3.out HQ3.out HR3.out).mono ?_)
  rintro e w4 ⟨sv, rfl, hs, hb4⟩
  rw [all13] at hs
  obtain ⟨sA, sc, rfl⟩ := own_slD hs
  rw [show [(⟨16777216#64, 0#64, 18446744073692774400#64, 0#64⟩ : Cb)].length = 1 from rfl]
  have HB4 := Lib.hid (HB3.out.trans (hb4.mono HB3.out.size))
  obtain ⟨x0, x1, x2, x3⟩ := HLA.out 0 Cb.zero rfl
  obtain ⟨y0, y1, y2, y3⟩ := HLA.out 1 M13 rfl
  replace x0 := on_some hb4 x0
  replace x1 := on_some hb4 x1
  replace x2 := on_some hb4 x2
  replace x3 := on_some hb4 x3
  replace y2 := on_some hb4 y2
  replace y3 := on_some hb4 y3
  clear hb4 hs HB3 X3 HT3 HP3 HQ3 HR3 d0 d1 d2 d3 d4 HLA y0 y1
  simp only [show uv Cb.zero.vh = 0 from rfl, show uv Cb.zero.vl = 0 from rfl, show uv Cb.zero.ch = 0 from rfl, show uv Cb.zero.cl = 0 from rfl, show uv M13.ch = 0 from rfl, show uv M13.cl = 1 from rfl] at x0 x1 x2 x3 y2 y3
  rw [show lo + 0 * 4 = lo from rfl] at x0 x1 x2 x3
  rw [show lo + 1 * 4 = lo + 4 from rfl] at y2 y3
  have z2 := y2
  have z3 := y3
  rw [show lo + 4 + 2 = lo + 6 from rfl] at z2
  rw [show lo + 4 + 3 = lo + 7 from rfl] at z3
  have he4 := eq4_self 0 0 0 0
  have he2 := eq2_self 0 1
  go_wp2
  go_ret
  exact ⟨rfl, HB4.out⟩
end Go.Proofs

namespace Go.Proofs.Hd
open Go Go.RowKit Go.Proofs
theorem flatK_append (A B : List Rl) : flatR (A ++ B) = flatR A ++ flatR B := by simp [flatR]
theorem flatK_one (L : List Rl) : ∀ u ∈ flatR L, u.oneCell' = true := by
  intro u hu
  unfold flatR at hu
  obtain ⟨r, _, h⟩ := List.mem_flatMap.1 hu
  exact Rl.cs_one r u h
theorem flatK_at {L : List Rl} {j : Nat} {u : Value} (h : (flatR L)[j]? = some u) : ∃ r, L[j / 12]? = some r ∧ r.cs[j % 12]? = some u := by
  have hl : j < L.length * 12 := by have := (List.getElem?_eq_some_iff.1 h).1; rwa [flatR_len] at this
  have hd := Nat.div_add_mod j 12
  have hm := Nat.mod_lt j (show 0 < 12 by omega)
  obtain ⟨r, hr⟩ : ∃ r, L[j / 12]? = some r := ⟨_, List.getElem?_eq_getElem (by omega)⟩
  refine ⟨r, hr, ?_⟩
  have := flatR_get hr hm
  rw [show j / 12 * 12 + j % 12 = j by omega, h] at this
  exact this.symm
theorem Ru.srcK {w : World} {v : Value} {L : List Rl} (h : Ru w v L) : Src w 12 v L.length (flatR L) := by
  refine ⟨flatR_len L, flatK_one L, ?_⟩
  rcases h with ⟨rfl, A, cap, rfl⟩ | ⟨b, o, cap, rfl, _, hc⟩
  · cases A with
    | none => exact .inl ⟨rfl, _, rfl⟩
    | some a => exact .inr ⟨a, cap, rfl, fun j u hj => by simp [flatR] at hj⟩
  · refine .inr ⟨_, cap, rfl, fun j u hj => ?_⟩
    obtain ⟨r, hr, hu⟩ := flatK_at hj
    have hd := Nat.div_add_mod j 12
    have := hc _ r hr _ u hu
    rw [show o + j / 12 * 12 + j % 12 = o + j by omega] at this
    have e : (⟨b, o, none⟩ : Addr).add j = ⟨b, o + j, none⟩ := by unfold Addr.add; by_cases h0 : j = 0 <;> simp [h0]
    rw [e]
    exact this
theorem rulL_pre2 {BB : List (List (List Rl))} {k j : Nat} {X : List (List Rl)} {R : List Rl} (hX : BB[k]? = some X) (hR : X[j]? = some R) : rulL (BB.take k) ++ (X.take j).flatten ++ R <+: rulL BB := by
  have h2 : (X.take j).flatten ++ R <+: X.flatten := by
    rw [← flatten_take hR]
    refine ⟨(X.drop (j + 1)).flatten, ?_⟩
    rw [← List.flatten_append, List.take_append_drop]
  rw [List.append_assoc]
  refine ((List.prefix_append_right_inj _).2 h2).trans ?_
  rw [← rulL_take hX]
  refine ⟨rulL (BB.drop (k + 1)), ?_⟩
  unfold rulL
  rw [← List.flatMap_append, List.take_append_drop]
end Go.Proofs.Hd
namespace Go.Proofs
open Go.RowKit Go.Proofs.Hd Go.Sort Go.Shelf Go.Lib
attribute [local go_sem] uv_nonneg
attribute [local go_sem high] run_eq4
theorem infoRuK : (Try.prog.info? 51).map (fun i => (i.zero, i.size, i.bytes)) = some (some (.agg #[.int .i64 0, .int .u64 0, .int .u64 0, .int .u64 0, .int .u64 0, .int .i64 0, .int .i64 0, .int .i64 0, .int .u64 0, .int .u64 0, .int .u64 0, .int .u64 0]), 12, 96) := by kernel_rfl
set_option maxHeartbeats 8000000 in
set_option maxRecDepth 100000 in
theorem rules_r (tv pv wv bv : Value) (T : List (List Pt)) (ten : Int) (P : List (Int × Int)) (Q : List Wa) (BB : List (List (List Rl))) (w : World) (hT : PsT w tv T) (hP : Pe w pv P) (hQ : Wy w wv Q) (hB : RuQ w bv BB) (h5 : (rulL BB).length ≤ 576) :
    Calls Try.prog 12 #[.agg #[tv, .int .i64 ten, pv, wv, bv]] w fun e w' => (∃ v, e = .returned v ∧ Ru w' v (rulL BB)) ∧ Below w.heap.size w w' := by
  have H5 := Lib.hid h5
  obtain ⟨ic, hic, hcz0, hcz1, hcz2⟩ := info_parts infoRuK
  obtain ⟨A, cap, rfl, -, -⟩ := hT
  obtain ⟨pA, pc, rfl, -, -⟩ := hP
  obtain ⟨wA, wc, rfl, -, -⟩ := hQ
  obtain ⟨bA, bc, rfl, hbm, hBA⟩ := hB
  have HA := Lib.hid hBA
  have hbz : (BB.length : Int) ≤ 9223372036854775807 := by unfold maxLen at hbm; omega
  have B0 := Lib.hid (below1 w (.cells #[.slice A T.length cap, .int .i64 ten, .slice pA P.length pc, .slice wA Q.length wc, .slice bA BB.length bc] 31))
  have N0 : Hid (Blk (w.alloc (.cells #[.slice A T.length cap, .int .i64 ten, .slice pA P.length pc, .slice wA Q.length wc, .slice bA BB.length bc] 31)) w.heap.size 31 #[.slice A T.length cap, .int .i64 ten, .slice pA P.length pc, .slice wA Q.length wc, .slice bA BB.length bc]) := Blk.new w _ _
  clear hBA h5
  go_enter Try.func12, Try.ntmps12
  go_upto_region 1 with (fail)
  generalize (w.alloc (.cells #[.slice A T.length cap, .int .i64 ten, .slice pA P.length pc, .slice wA Q.length wc, .slice bA BB.length bc] 31)) = w1 at B0 N0 ⊢
  have O0 : Hid ((w1.alloc (.cells #[] 51)).ownsRow w.heap.size 51 12 (.slice (some ⟨w1.heap.size, 0, none⟩) 0 0) (rulL (BB.take 0)).length (flatR (rulL (BB.take 0)))) := World.ownsRow_made w1 #[] 0 B0.out.size (Nat.zero_le _) rfl
  have B1 := Lib.hid (B0.out.trans ((below1 w1 (.cells #[] 51)).mono B0.out.size))
  have N1 := Lib.hid (N0.out.on (below1 w1 (.cells #[] 51)))
  go_upto_region 2 with (fail)
  generalize w1.alloc (.cells #[] 51) = w2 at O0 B1 N1 ⊢
  clear B0 N0
  go_wp2
  go_loopg [3, 4] BB.length (fun gk s3 s4 wr => ∃ (k : Nat) (v : Value), k ≤ BB.length ∧ gk = BB.length - k ∧ v = s3 ∧ s4 = .int .i64 k ∧ Hid (wr.ownsRow w.heap.size 51 12 v (rulL (BB.take k)).length (flatR (rulL (BB.take k)))) ∧ Hid (Below w.heap.size w wr) ∧ Hid (Blk wr w.heap.size 31 #[.slice A T.length cap, .int .i64 ten, .slice pA P.length pc, .slice wA Q.length wc, .slice bA BB.length bc]))
  case atStart => exact ⟨0, _, Nat.zero_le _, rfl, rfl, by go_num, O0, B1, N1⟩
  case round =>
    clear O0 B1 N1
    obtain ⟨k, v, hk, rfl, rfl, rfl, HO, HB, HN⟩ := hrel
    obtain ⟨d0, d1, d2, d3, d4⟩ := HN.out.five
    by_cases hlt : k < BB.length
    · have hltz : (k : Int) < (BB.length : Int) := by omega
      obtain ⟨X, hX⟩ : ∃ X, BB[k]? = some X := ⟨_, List.getElem?_eq_getElem hlt⟩
      obtain ⟨b, o, rfl, hb, hc⟩ := HA.out (by intro h; rw [h] at hlt; simp at hlt)
      obtain ⟨s, hs, hT⟩ := hc k X hX
      obtain ⟨A1, c1, rfl, hXm, hXl, hXA⟩ := hT
      have hs1 := on_some HB.out hs
      have HS := Lib.hid hs
      have HXA := Lib.hid hXA
      have HX := Lib.hid hX
      have hxz : (X.length : Int) ≤ 9223372036854775807 := by unfold maxLen at hXm; omega
      have HO2 : Hid (wr.ownsRow w.heap.size 51 12 v (rulL (BB.take k) ++ (X.take 0).flatten).length (flatR (rulL (BB.take k) ++ (X.take 0).flatten))) := by show World.ownsRow _ _ _ _ _ _ _; simpa using HO.out
      clear hX hc hs hXA hXl HO
      go_wp2
      clear d0 d1 d2 d3 d4
      go_loopg [3, 5] X.length (fun gk s3 s5 wr => ∃ (j : Nat) (v : Value), j ≤ X.length ∧ gk = X.length - j ∧ v = s3 ∧ s5 = .int .i64 j ∧ Hid (wr.ownsRow w.heap.size 51 12 v (rulL (BB.take k) ++ (X.take j).flatten).length (flatR (rulL (BB.take k) ++ (X.take j).flatten))) ∧ Hid (Below w.heap.size w wr) ∧ Hid (Blk wr w.heap.size 31 #[.slice A T.length cap, .int .i64 ten, .slice pA P.length pc, .slice wA Q.length wc, .slice (some ⟨b, o, none⟩) BB.length bc]))
      case atStart => exact ⟨0, _, Nat.zero_le _, rfl, rfl, by go_num, HO2, HB, HN⟩
      case round =>
        clear HO2 HB HN hs1
        obtain ⟨j, v, hj, rfl, rfl, rfl, HO, HB, HN⟩ := hrel
        obtain ⟨d0, d1, d2, d3, d4⟩ := HN.out.five
        have hs1 := on_some HB.out HS.out
        by_cases hjlt : j < X.length
        · have hjz : (j : Int) < (X.length : Int) := by omega
          obtain ⟨R, hR⟩ : ∃ R, X[j]? = some R := ⟨_, List.getElem?_eq_getElem hjlt⟩
          obtain ⟨b1, o1, rfl, hb1, hc1⟩ := HXA.out (by intro h; rw [h] at hjlt; simp at hjlt)
          obtain ⟨s1, hq1, hRu⟩ := hc1 j R hR
          have hq2 := on_some HB.out hq1
          have S4 := (hRu.on HB.out).srcK
          have hpre := (rulL_pre2 HX.out hR).length_le
          have HT2 : Hid (rulL (BB.take k) ++ (X.take (j + 1)).flatten = rulL (BB.take k) ++ (X.take j).flatten ++ R) := by show _ = _; rw [flatten_take hR, List.append_assoc]
          have h5 := H5.out
          have hzb := HB.out.size
          have O4 := HO.out
          have hap := own_apart O4 HN.out (by decide)
          have HAP := Lib.hid hap
          rw [List.length_append] at hpre
          clear hap hR hc1 hq1 hRu HO
          generalize hFF : rulL (BB.take k) ++ (X.take j).flatten = F at O4 HT2 hpre
          go_wp2_with (at_builtin; refine wpList_app _ rfl (.tmp 24) (.tmp 32) 45 rfl w.heap.size 51 ic _ 12 96 Try.underlying45 hic hcz0 hcz1 hcz2 rfl (by decide) _ F.length (flatR F) rfl O4 _ R.length (flatR R) rfl S4 (by unfold maxLen; omega) (by omega) hzb ?_)
          intro v5 w5 O5 hg5
          have B5 := Lib.hid (HB.out.grown hg5 hzb (fun j hj => (O4.lt j hj).1))
          have N5 := Lib.hid (HN.out.grown hg5 HAP.out)
          have O6 : Hid (w5.ownsRow w.heap.size 51 12 v5 (rulL (BB.take k) ++ (X.take (j + 1)).flatten).length (flatR (rulL (BB.take k) ++ (X.take (j + 1)).flatten))) := by
            show World.ownsRow _ _ _ _ _ _ _
            rw [HT2.out, flatK_append, List.length_append]
            exact O5
          clear O5 O4 hg5 S4 hFF HT2 hpre h5 hzb hq2 hs1 d0 d1 d2 d3 d4 HB HN HAP
          go_wp2
          go_roundg (X.length - (j + 1))
          case measure => omega
          case rel => exact ⟨j + 1, v5, by omega, rfl, rfl, by go_num, O6, B5, N5⟩
        · have hjz : ¬ (j : Int) < (X.length : Int) := by omega
          obtain rfl : j = X.length := by omega
          have HO3 : Hid (wr.ownsRow w.heap.size 51 12 v (rulL (BB.take (k + 1))).length (flatR (rulL (BB.take (k + 1))))) := by
            have := HO.out
            rw [List.take_length, ← rulL_take HX.out] at this
            exact this
          clear HO
          go_wp2
          clear d0 d1 d2 d3 d4
          go_roundg (BB.length - (k + 1))
          case measure => omega
          case rel => exact ⟨k + 1, _, by omega, rfl, rfl, by go_num, HO3, HB, HN⟩
    · have hltz : ¬ (k : Int) < (BB.length : Int) := by omega
      obtain rfl : k = BB.length := by omega
      rw [List.take_length] at HO
      go_wp2
      go_ret
      exact ⟨⟨_, rfl, own_Ru HO.out⟩, HB.out⟩
set_option maxHeartbeats 8000000 in
set_option maxRecDepth 100000 in
theorem lsets_r (tv pv wv bv : Value) (T : List (List Pt)) (ten : Int) (P : List (Int × Int)) (Q : List Wa) (BB : List (List (List Rl))) (m : Nat) (w : World) (hT : PsT w tv T) (hP : Pe w pv P) (hQ : Wy w wv Q) (hB : RuQ w bv BB) (hc : cfgT T ten P Q BB = 0) (hm : m ≤ 255) (hz : ∀ X ∈ BB, ∀ R ∈ X, R.length ≤ 1466015503658) :
    Calls Try.prog 10 #[.agg #[tv, .int .i64 ten, pv, wv, bv], .int .i64 (m : Int)] w fun e w' => (∃ v, e = .returned v ∧ Pl w' v (allS T BB m)) ∧ Below w.heap.size w w' := by
  have HT := Lib.hid hT
  have HP := Lib.hid hP
  have HQ := Lib.hid hQ
  have HBQ := Lib.hid hB
  have HN := Lib.hid (ports_sound (cfg_parts hc).1)
  have HST := Lib.hid (cfg_parts hc).1
  have HE36 := Lib.hid (edge_len (cfg_parts hc).1)
  have H576 := Lib.hid (rul_len hc hz)
  have HRS := Lib.hid (fun r (hr : r ∈ rulL BB) => (rul_snd hc hr).2)
  obtain ⟨A, cap, rfl, -, -⟩ := hT
  obtain ⟨pA, pc, rfl, -, -⟩ := hP
  obtain ⟨wA, wc, rfl, -, -⟩ := hQ
  obtain ⟨bA, bc, rfl, -, -⟩ := hB
  have B0 := Lib.hid (below1 w (.cells #[.slice A T.length cap, .int .i64 ten, .slice pA P.length pc, .slice wA Q.length wc, .slice bA BB.length bc] 31))
  have N0 : Hid (Blk (w.alloc (.cells #[.slice A T.length cap, .int .i64 ten, .slice pA P.length pc, .slice wA Q.length wc, .slice bA BB.length bc] 31)) w.heap.size 31 #[.slice A T.length cap, .int .i64 ten, .slice pA P.length pc, .slice wA Q.length wc, .slice bA BB.length bc]) := Blk.new w _ _
  clear hc hz
  go_enter Try.func10, Try.ntmps10
  go_upto_region 1 with (fail)
  generalize (w.alloc (.cells #[.slice A T.length cap, .int .i64 ten, .slice pA P.length pc, .slice wA Q.length wc, .slice bA BB.length bc] 31)) = w1 at B0 N0 ⊢
  have O0 : Hid (Pl (w1.alloc (.cells #[] 43)) (.slice (some ⟨w1.heap.size, 0, none⟩) 0 0) (addsC [] ((edL T m).take 0))) := .inl ⟨rfl, _, _, rfl⟩
  have B2 := Lib.hid (B0.out.trans ((below1 w1 (.cells #[] 43)).mono B0.out.size))
  have N2 := Lib.hid (N0.out.on (below1 w1 (.cells #[] 43)))
  go_upto_region 2 with (fail)
  generalize w1.alloc (.cells #[] 43) = w2 at O0 B2 N2 ⊢
  clear B0 N0
  obtain ⟨d0, d1, d2, d3, d4⟩ := N2.out.five
  go_wp2_with fail
  (with_reducible refine (redges_c _ T _ (HT.out.on B2.out) HN.out).mono ?_)
  rintro e w4 ⟨ev, rfl, OE, hb4⟩
  obtain ⟨eA, ec, rfl, hE⟩ := Spt.of OE
  obtain ⟨E, hEE⟩ : ∃ E, eTo T T.length = E := ⟨_, rfl⟩
  have HEE := Lib.hid hEE
  have HOE := Lib.hid OE
  rw [hEE] at hE
  have HE := Lib.hid hE
  have HO4 := Lib.hid (O0.out.on hb4)
  have B4 := Lib.hid (B2.out.trans (hb4.mono B2.out.size))
  have N4 := Lib.hid (N2.out.on hb4)
  rw [hEE]
  have h36 : E.length ≤ 36 := by rw [← hEE]; exact HE36.out
  clear hEE hb4 O0 B2 N2 d0 d1 d2 d3 d4 OE hE
  go_wp2
  go_loopg [5, 7] E.length (fun gk s5 s7 wr => ∃ (k : Nat) (v : Value), k ≤ E.length ∧ gk = E.length - k ∧ v = s5 ∧ s7 = .int .i64 k ∧ Hid (Pl wr v (addsC [] ((edL T m).take k))) ∧ Hid (Below w4.heap.size w4 wr))
  case atStart => exact ⟨0, _, Nat.zero_le _, rfl, rfl, by go_num, HO4, Below.refl _ _⟩
  case round =>
    clear HO4
    obtain ⟨k, v, hk, rfl, rfl, rfl, HO, HBW⟩ := hrel
    have HNR := Lib.hid (N4.out.on HBW.out)
    have BR := Lib.hid (B4.out.trans (HBW.out.mono B4.out.size))
    by_cases hlt : k < E.length
    · have hltz : (k : Int) < (E.length : Int) := by omega
      obtain ⟨⟨xa, xb⟩, hx⟩ : ∃ x, E[k]? = some x := ⟨_, List.getElem?_eq_getElem hlt⟩
      obtain ⟨b, rfl, hcE⟩ := HE.out (by intro h; rw [h] at hlt; simp at hlt)
      obtain ⟨hx1, hx2⟩ := hcE k _ hx
      have y1 := on_some HBW.out hx1
      have y2 := on_some HBW.out hx2
      obtain ⟨Lp, p, hL, hp, hkd⟩ := eTo_mem.1 (by rw [HEE.out]; exact List.mem_of_getElem? hx : ((xa, xb) : Rc) ∈ eTo T T.length)
      simp only at hL hp
      obtain ⟨nt, hn3, hpt⟩ := edge_sound HST.out hL hp hkd
      have hed := (edgT_edge hL hp hkd).trans hpt
      obtain ⟨cq, hcq⟩ : ∃ c, stC nt m = c := ⟨_, rfl⟩
      have HCQ := Lib.hid hcq
      have HT4 := Lib.hid (HT.out.on BR.out)
      have HTK : Hid (addsC [] ((edL T m).take (k + 1)) = addC (addsC [] ((edL T m).take k)) cq) := by
        show _ = _
        rw [edL_take (x := (xa, xb)) (by rw [HEE.out]; exact hx), addsC_snoc]
        simp only
        rw [hed, ← hcq]
        rfl
      have HED : Hid (∀ W : World, PsT W (.slice A T.length cap) T → Calls Try.prog 16 #[.agg #[.slice A T.length cap], .agg #[.int .i64 (xa : Int), .int .i64 (xb : Int)]] W fun e w' => e = .returned (.int .i64 (nt : Int)) ∧ Below W.heap.size W w') := fun W h => by
        have := redge_c _ T xa xb W h
        rwa [hed] at this
      have HLN : Hid ((addsC [] ((edL T m).take k)).length ≤ 1000000) := by
        show _ ≤ _
        have h1 := addsC_len ((edL T m).take k) []
        rw [List.length_take] at h1
        simp only [List.length_nil] at h1
        omega
      have KP : ∀ W, Below wr.heap.size wr W → (Below wr.heap.size wr W ∧ W.cell? ⟨w.heap.size, 0, none⟩ = some (.slice A T.length cap) ∧ W.cell? ⟨b, k * 2, none⟩ = some (.int .i64 (xa : Int)) ∧ W.cell? ⟨b, k * 2 + 1, none⟩ = some (.int .i64 (xb : Int))) := fun W hb => ⟨hb, (HNR.out.on hb).five.1, on_some hb y1, on_some hb y2⟩
      have HKP := Lib.hid KP
      clear KP hx hx1 hx2 y1 y2 hcE hL hp hkd hpt hed hcq
      go_upto_region 6 with (fail)
      refine wp_region_held_drew (S := fun w' => Below wr.heap.size wr w' ∧ w'.cell? ⟨w.heap.size, 0, none⟩ = some (.slice A T.length cap) ∧ w'.cell? ⟨b, k * 2, none⟩ = some (.int .i64 (xa : Int)) ∧ w'.cell? ⟨b, k * 2 + 1, none⟩ = some (.int .i64 (xb : Int))) (by kernel_rfl) (HKP.out _ (Below.refl _ wr).drew) (fun hHeld => ?_)
      have hB : Below wr.heap.size wr wr.drew := (Below.refl _ wr).drew
      generalize wr.drew = u0 at hHeld hB ⊢
      refine wpAnyH_take (i := 0) (oi := ⟨some 20, _, _, _, _, _⟩) (v := ?vs0_1) rfl (by kernel_rfl) (by kernel_rfl) (by kernel_rfl) (fun _ _ _ h => h) (Or.inl ⟨by rfl, ?ys0_1⟩) hHeld ?rs0_1
      case ys0_1 => (intro w' hSw; (try dsimp only at hSw); go_simp; try (with_reducible rfl))
      simp only [Act.put, List.setIfInBounds_toArray, List.set_cons_zero, List.set_cons_succ]
      refine wpAnyH_take (i := 1) (oi := ⟨some 21, _, _, _, _, _⟩) (v := ?vs1_2) rfl (by kernel_rfl) (by kernel_rfl) (by kernel_rfl) (fun _ _ _ h => h) (Or.inl ⟨by rfl, ?ys1_2⟩) hHeld ?rs1_2
      case ys1_2 => (intro w' hSw; (try dsimp only at hSw); go_simp; try (with_reducible rfl))
      simp only [Act.put, List.setIfInBounds_toArray, List.set_cons_zero, List.set_cons_succ]
      refine wpAnyH_take (i := 2) (oi := ⟨some 22, _, _, _, _, _⟩) (v := ?vs2_3) rfl (by kernel_rfl) (by kernel_rfl) (by kernel_rfl) (fun _ _ _ h => h) (Or.inl ⟨by rfl, ?ys2_3⟩) hHeld ?rs2_3
      case ys2_3 => (intro w' hSw; (try dsimp only at hSw); go_simp; try (with_reducible rfl))
      simp only [Act.put, List.setIfInBounds_toArray, List.set_cons_zero, List.set_cons_succ]
      refine wpAnyH_take (i := 3) (oi := ⟨some 23, _, _, _, _, _⟩) (v := ?vs3_4) rfl (by kernel_rfl) (by kernel_rfl) (by kernel_rfl) (fun _ _ _ h => h) (Or.inl ⟨by rfl, ?ys3_4⟩) hHeld ?rs3_4
      case ys3_4 => (intro w' hSw; (try dsimp only at hSw); go_simp; try (with_reducible rfl))
      simp only [Act.put, List.setIfInBounds_toArray, List.set_cons_zero, List.set_cons_succ]
      refine wpAnyH_take (i := 4) (oi := ⟨some 24, _, _, _, _, _⟩) (v := ?vs4_5) rfl (by kernel_rfl) (by kernel_rfl) (by kernel_rfl) (fun _ _ _ h => h) (Or.inl ⟨by rfl, ?ys4_5⟩) hHeld ?rs4_5
      case ys4_5 => (intro w' hSw; (try dsimp only at hSw); go_simp; try (with_reducible rfl))
      simp only [Act.put, List.setIfInBounds_toArray, List.set_cons_zero, List.set_cons_succ]
      refine wpAnyH_take (i := 5) (oi := ⟨some 25, _, _, _, _, _⟩) (v := ?vs5_6) rfl (by kernel_rfl) (by kernel_rfl) (by kernel_rfl) (fun _ _ _ h => h) (Or.inl ⟨by rfl, ?ys5_6⟩) hHeld ?rs5_6
      case ys5_6 => (intro w' hSw; (try dsimp only at hSw); go_simp; try (with_reducible rfl))
      simp only [Act.put, List.setIfInBounds_toArray, List.set_cons_zero, List.set_cons_succ]
      refine wpAnyH_take (i := 6) (oi := ⟨some 26, _, _, _, _, _⟩) (v := ?vs6_7) rfl (by kernel_rfl) (by kernel_rfl) (by kernel_rfl) (fun _ _ _ h => h) (Or.inl ⟨by rfl, ?ys6_7⟩) hHeld ?rs6_7
      case ys6_7 => (intro w' hSw; (try dsimp only at hSw); go_simp; try (with_reducible rfl))
      simp only [Act.put, List.setIfInBounds_toArray, List.set_cons_zero, List.set_cons_succ]
      refine wpAnyH_take (i := 8) (oi := ⟨some 28, _, _, _, _, _⟩) (v := ?vs8_8) rfl (by kernel_rfl) (by kernel_rfl) (by kernel_rfl) (fun _ _ _ h => h) (Or.inl ⟨by rfl, ?ys8_8⟩) hHeld ?rs8_8
      case ys8_8 => (intro w' hSw; (try dsimp only at hSw); go_simp; try (with_reducible rfl))
      simp only [Act.put, List.setIfInBounds_toArray, List.set_cons_zero, List.set_cons_succ]
      refine wpAnyH_ready (rs := [7]) (by kernel_rfl) (by simp) ?_
      refine AllReadyH.cons (o := ⟨some 27, _, _, _, _, _⟩) rfl (fun K hK => ?_) AllReadyH.nil
      go_simp
      (with_reducible refine (HED.out u0 (HT4.out.on hB)).mono ?_)
      rintro e u1 ⟨rfl, hb⟩
      (try dsimp only)
      have hB2 := hB.trans (hb.mono hB.size)
      refine hK.out _ _ (HKP.out _ hB2) (fun hNext => ?_)
      clear hK K hHeld
      have hHeld := hNext
      clear hNext
      clear hB
      have hB := hB2
      clear hB2
      clear hb
      try simp only [Act.put, List.setIfInBounds_toArray, List.set_cons_zero, List.set_cons_succ]
      refine wpAnyH_ready (rs := [9]) (by kernel_rfl) (by simp) ?_
      refine AllReadyH.cons (o := ⟨some 29, _, _, _, _, _⟩) rfl (fun K hK => ?_) AllReadyH.nil
      go_simp
      (with_reducible refine (mask_r nt m hn3 hm cq HCQ.out u1).mono ?_)
      rintro e u2 ⟨rfl, hb⟩
      (try dsimp only)
      have hB2 := hB.trans (hb.mono hB.size)
      refine hK.out _ _ (HKP.out _ hB2) (fun hNext => ?_)
      clear hK K hHeld
      have hHeld := hNext
      clear hNext
      clear hB
      have hB := hB2
      clear hB2
      clear hb
      try simp only [Act.put, List.setIfInBounds_toArray, List.set_cons_zero, List.set_cons_succ]
      refine wpAnyH_ready (rs := [10]) (by kernel_rfl) (by simp) ?_
      refine AllReadyH.cons (o := ⟨some 30, _, _, _, _, _⟩) rfl (fun K hK => ?_) AllReadyH.nil
      go_simp
      (with_reducible refine (ladd_r v (addsC [] ((edL T m).take k)) cq u2 HLN.out (HO.out.on hB)).mono ?_)
      rintro e u3 ⟨⟨v9, rfl, hp9⟩, hb⟩
      (try dsimp only)
      have hB2 := hB.trans (hb.mono hB.size)
      refine hK.out _ _ (HKP.out _ hB2) (fun hNext => ?_)
      clear hK K hHeld
      have hHeld := hNext
      clear hNext
      clear hB
      have hB := hB2
      clear hB2
      clear hb
      try simp only [Act.put, List.setIfInBounds_toArray, List.set_cons_zero, List.set_cons_succ]
      refine wpAnyH_take (i := 11) (oi := ⟨some 5, _, _, _, _, _⟩) (v := ?vs11_9) rfl (by kernel_rfl) (by kernel_rfl) (by kernel_rfl) (fun _ _ _ h => h) (Or.inl ⟨by rfl, ?ys11_9⟩) hHeld ?rs11_9
      case ys11_9 => (intro w' hSw; (try dsimp only at hSw); go_simp; try (with_reducible rfl))
      simp only [Act.put, List.setIfInBounds_toArray, List.set_cons_zero, List.set_cons_succ]
      refine wpAnyH_done (by kernel_rfl) ?_ _
      clear hHeld HKP
      have HB9 := Lib.hid hB
      have HP9 := Lib.hid hp9
      clear hB hp9
      rw [← HTK.out] at HP9
      go_wp2_with fail
      go_wp2
      go_roundg (E.length - (k + 1))
      case measure => omega
      case rel => exact ⟨k + 1, v9, by omega, rfl, rfl, by go_num, HP9, HBW.out.trans (HB9.out.mono HBW.out.size)⟩
    · have hltz : ¬ (k : Int) < (E.length : Int) := by omega
      obtain rfl : k = E.length := by omega
      have hta : (edL T m).take E.length = edL T m := by rw [← HEE.out, ← edL_len T m]; exact List.take_length
      rw [hta] at HO
      have HL1 : Hid ((addsC [] (edL T m)).length ≤ 36) := by
        show _ ≤ _
        have h1 := addsC_len (edL T m) []
        rw [edL_len, HEE.out] at h1
        simp only [List.length_nil] at h1
        omega
      obtain ⟨d0, d1, d2, d3, d4⟩ := HNR.out.five
      clear hta hltz HEE HE HOE HST HN h36 hk HE36
      go_wp2_with fail
      (with_reducible refine (rules_r _ _ _ _ T ten P Q BB _ (HT.out.on BR.out) (HP.out.on BR.out) (HQ.out.on BR.out) (HBQ.out.on BR.out) H576.out).mono ?_)
      rintro e w6 ⟨⟨rv, rfl, hR⟩, hb6⟩
      obtain ⟨rA, rc, rfl, hRA⟩ := hR.form
      obtain ⟨R, hRR⟩ : ∃ R, rulL BB = R := ⟨_, rfl⟩
      rw [hRR] at hRA ⊢
      have HRR := Lib.hid hRR
      have HR := Lib.hid hRA
      have hr5 : R.length ≤ 576 := by rw [← hRR]; exact H576.out
      have B6 := Lib.hid (BR.out.trans (hb6.mono BR.out.size))
      have HO6 : Hid (Pl w6 v (addsC (addsC [] (edL T m)) (rsL (R.take 0)))) := HO.out.on hb6
      clear hb6 hRA hR hRR HO HNR BR d0 d1 d2 d3 d4
      go_wp2
      go_loopg [5, 9] R.length (fun gk s5 s9 wr => ∃ (k : Nat) (v : Value), k ≤ R.length ∧ gk = R.length - k ∧ v = s5 ∧ s9 = .int .i64 k ∧ Hid (Pl wr v (addsC (addsC [] (edL T m)) (rsL (R.take k)))) ∧ Hid (Below w6.heap.size w6 wr))
      case atStart => exact ⟨0, _, Nat.zero_le _, rfl, rfl, by go_num, HO6, Below.refl _ _⟩
      case round =>
        clear HO6
        obtain ⟨k, v, hk, rfl, rfl, rfl, HO, HBW⟩ := hrel
        have BR := Lib.hid (B6.out.trans (HBW.out.mono B6.out.size))
        by_cases hlt : k < R.length
        · have hltz : (k : Int) < (R.length : Int) := by omega
          obtain ⟨r, hr⟩ : ∃ r, R[k]? = some r := ⟨_, List.getElem?_eq_getElem hlt⟩
          obtain ⟨b, o, rfl, _, hc⟩ := HR.out (by intro h; rw [h] at hlt; simp at hlt)
          obtain ⟨-, -, -, -, -, -, -, -, c8, c9, c10, c11⟩ := ((hc k r hr).on HBW.out).out
          have hsn := HRS.out r (by rw [HRR.out]; exact List.mem_of_getElem? hr)
          have HSNC : Hid (rsL (R.take (k + 1)) = rsL (R.take k) ++ (if r.s.cares then [r.s] else [])) := by
            show _ = _
            rw [List.take_add_one, hr]
            exact rsL_snoc _ _
          have HCI := Lib.hid (cares_iff hsn)
          have HLN : Hid ((addsC (addsC [] (edL T m)) (rsL (R.take k))).length ≤ 1000000) := by
            show _ ≤ _
            have h1 := addsC_len (rsL (R.take k)) (addsC [] (edL T m))
            have h2 := HL1.out
            have h3 := rsL_len (R.take k)
            rw [List.length_take] at h3
            omega
          clear hr hc hsn
          cases he : eq4 (uv r.s.vh) (uv r.s.vl) (uv r.s.ch) (uv r.s.cl) 0 0 0 0
          · have HNX : Hid (addsC (addsC [] (edL T m)) (rsL (R.take (k + 1))) = addC (addsC (addsC [] (edL T m)) (rsL (R.take k))) r.s) := by
              show _ = _
              have hne : r.s ≠ Cb.zero := eq4_ne (c := Cb.zero) he
              rw [HSNC.out, HCI.out.2 hne, if_pos rfl, addsC_snoc]
            go_wp2_with fail
            (with_reducible refine (ladd_r _ _ r.s _ HLN.out HO.out).mono ?_)
            rintro e w8 ⟨⟨v8, rfl, hp8⟩, hb8⟩
            rw [← HNX.out] at hp8
            have HP8 := Lib.hid hp8
            have HB8 := Lib.hid (HBW.out.trans (hb8.mono HBW.out.size))
            clear hp8 hb8 HO HBW BR c8 c9 c10 c11 he HNX HSNC HCI HLN
            go_wp2
            go_roundg (R.length - (k + 1))
            case measure => omega
            case rel => exact ⟨k + 1, v8, by omega, rfl, rfl, by go_num, HP8, HB8⟩
          · have HNX : Hid (addsC (addsC [] (edL T m)) (rsL (R.take (k + 1))) = addsC (addsC [] (edL T m)) (rsL (R.take k))) := by
              show _ = _
              have hne : r.s = Cb.zero := eq4_eq (c := Cb.zero) he
              rw [HSNC.out, hne, zero_cares, if_neg (by decide), List.append_nil]
            have HP8 : Hid (Pl wr v (addsC (addsC [] (edL T m)) (rsL (R.take (k + 1))))) := by show Pl _ _ _; rw [HNX.out]; exact HO.out
            clear HO HNX HSNC HCI HLN
            go_wp2
            go_roundg (R.length - (k + 1))
            case measure => omega
            case rel => exact ⟨k + 1, _, by omega, rfl, rfl, by go_num, HP8, HBW⟩
        · have hltz : ¬ (k : Int) < (R.length : Int) := by omega
          obtain rfl : k = R.length := by omega
          have HF : Hid (addsC (addsC [] (edL T m)) (rsL (R.take R.length)) = allS T BB m) := by
            show _ = _
            rw [List.take_length, ← HRR.out]
            rfl
          go_wp2
          go_ret
          exact ⟨⟨_, rfl, by rw [← HF.out]; exact HO.out⟩, BR.out⟩
end Go.Proofs
