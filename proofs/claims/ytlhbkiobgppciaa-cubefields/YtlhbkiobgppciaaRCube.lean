/-
  Contract: Cube of the reference of layer 2 returns the cube of a text. Conditions: the text is that of a sound cube.
-/
import Derived.Test.YtlhbkiobgppciaaRMeet
import Derived.Test.YtlhbkiobgppciaaArrRow
namespace Go.Proofs
open Go.RowKit Go.Proofs.Hd
attribute [local go_sem] uv_nonneg
/-- The bits from bit 128 - k on. -/
def upB (f : Nat → Bool) (k : Nat) : Nat → Bool := fun j => decide (128 ≤ j + k) && f j
theorem upB_zero (f : Nat → Bool) : bl (fun _ => false) = bl (upB f 0) := bl_congr fun j hj => by simp [upB]; omega
theorem upB_put (f : Nat → Bool) (k m : Nat) (hm : m + k = 127) (x : Bool) (hx : f m = x) : (bl (upB f k)).set m (.bool x) = bl (upB f (k + 1)) := by
  subst hx
  rw [bl_set]
  apply bl_congr
  intro j hj
  unfold upB
  by_cases e : j = m
  · subst e; rw [if_pos rfl]; simp; omega
  · rw [if_neg e]
    have : (128 ≤ j + (k + 1)) ↔ (128 ≤ j + k) := by omega
    simp [this]
theorem upB_num (h l : BitVec 64) : num (upB (hbit h l) 128) 64 64 = h ∧ num (upB (hbit h l) 128) 0 64 = l := num_of_bits fun j hj => by simp [upB]
theorem zfar {w : World} {r : Nat} {p : Addr} {v : Value} (h : Zero4 w r) (hp : p.block ≠ r) : Zero4 (w.setCell p v) r := fun i hi =>
  ⟨(World.cell?_setCell_far w p ⟨r, i, none⟩ v hp).trans (h i hi).1, by rw [World.frozen?_setCell]; exact (h i hi).2⟩
theorem zcells {w : World} {r b : Nat} {vs : List Value} (h : Zero4 w r) (hp : r < b) : Zero4 (w.setCells b 0 vs) r := by
  have hb : Below b w (w.setCells b 0 vs) := Below.setCells vs 0 w (Below.refl _ _) (Nat.le_refl _)
  exact fun i hi => ⟨(hb.cell (p := ⟨r, i, none⟩) hp).trans (h i hi).1, (hb.frozen (p := ⟨r, i, none⟩) hp).trans (h i hi).2⟩

theorem rhead_is (f : Nat → Bool) (h l : BitVec 64) (w : World) (hn : num f 64 64 = h ∧ num f 0 64 = l) : Calls Try.prog 24 #[.agg (bl f).toArray] w fun e w' => e = .returned (.agg #[.int .u64 (uv h), .int .u64 (uv l)]) ∧ Below w.heap.size w w' := by
  obtain ⟨rfl, rfl⟩ := hn; exact refhead_c f w
theorem range_apart4 {b r : Nat} {f : Nat → Bool} {w : World} {a0 a1 a2 a3 : Value} (h : w.rangeAt b 0 (bl f)) (hne : r ≠ b) : ((((w.setCell ⟨r, 0, none⟩ a0).setCell ⟨r, 1, none⟩ a1).setCell ⟨r, 2, none⟩ a2).setCell ⟨r, 3, none⟩ a3).rangeAt b 0 (bl f) := by
  intro j v hv
  rw [World.cell?_setCell_far _ _ _ _ hne, World.cell?_setCell_far _ _ _ _ hne, World.cell?_setCell_far _ _ _ _ hne, World.cell?_setCell_far _ _ _ _ hne]
  exact h j v hv
theorem range_on {b : Nat} {f : Nat → Bool} {w w' : World} (hb : Below w.heap.size w w') (h : w.rangeAt b 0 (bl f)) : w'.rangeAt b 0 (bl f) := range_below hb h (World.block_lt_of_cell? w ⟨b, 0, none⟩ (range_cell h (by omega : 0 < 128)))
set_option maxRecDepth 100000 in
set_option maxHeartbeats 4000000 in
theorem rcube_s (s : ByteArray) (c : Cb) (w : World) (hc : c.snd = true) (hs : txt c = s) :
    Calls Try.prog 20 #[.string s] w fun e w' => e = .returned (.agg #[.int .u64 (uv c.vh), .int .u64 (uv c.vl), .int .u64 (uv c.ch), .int .u64 (uv c.cl)]) ∧ Below w.heap.size w w' := by
  have hz := zero25
  have hbd := build25
  have l1 : s.size ≤ 128 := by rw [text_len hs]; omega
  have l2 : 128 ≤ s.size := by rw [text_len hs]; omega
  have HS := Lib.hid hs
  have HC := Lib.hid hc
  clear hs hc
  have T3 : (((w.alloc (.cells #[.int .u64 0, .int .u64 0, .int .u64 0, .int .u64 0] 26)).alloc (.cells (bl (fun _ => false)).toArray 43)).alloc (.cells (bl (fun _ => false)).toArray 43)).there (w.heap.size + 1) 0 128 := by
    have h := World.there_alloc (there_of_alloc (w.alloc (.cells #[.int .u64 0, .int .u64 0, .int .u64 0, .int .u64 0] 26)) (fun _ => false) 43) (.cells (bl (fun _ => false)).toArray 43)
    simpa only [World.size_alloc] using h
  have T4 : (((w.alloc (.cells #[.int .u64 0, .int .u64 0, .int .u64 0, .int .u64 0] 26)).alloc (.cells (bl (fun _ => false)).toArray 43)).alloc (.cells (bl (fun _ => false)).toArray 43)).there (w.heap.size + 1 + 1) 0 128 := by
    have h := there_of_alloc ((w.alloc (.cells #[.int .u64 0, .int .u64 0, .int .u64 0, .int .u64 0] 26)).alloc (.cells (bl (fun _ => false)).toArray 43)) (fun _ => false) 43
    simpa only [World.size_alloc] using h
  have T4' : ((((w.alloc (.cells #[.int .u64 0, .int .u64 0, .int .u64 0, .int .u64 0] 26)).alloc (.cells (bl (fun _ => false)).toArray 43)).alloc (.cells (bl (fun _ => false)).toArray 43)).setCells (w.heap.size + 1) 0 (bl (fun _ => false))).there (w.heap.size + 1 + 1) 0 128 := World.there_setCells T4 _ 0 _
  have Z1 : Zero4 (((w.alloc (.cells #[.int .u64 0, .int .u64 0, .int .u64 0, .int .u64 0] 26)).alloc (.cells (bl (fun _ => false)).toArray 43)).alloc (.cells (bl (fun _ => false)).toArray 43)) w.heap.size := ((zero4_new w).on (below1 _ _)).on (below1 _ _)
  have BB := below3 w (.cells #[.int .u64 0, .int .u64 0, .int .u64 0, .int .u64 0] 26) (.cells (bl (fun _ => false)).toArray 43) (.cells (bl (fun _ => false)).toArray 43)
  go_enter Try.func20, Try.ntmps20
  go_wp2_with (first
    | refine wpList_store_mid rfl 43 (.tmp 3) (.tmp 6) rfl (w.heap.size + 1) 0 (bl (fun _ => false)).toArray rfl rfl (by rw [bl_size]; exact T3) (size25 _) (bl_all _) ?_
    | refine wpList_store_mid rfl 43 (.tmp 4) (.tmp 7) rfl (w.heap.size + 1 + 1) 0 (bl (fun _ => false)).toArray rfl rfl (by rw [bl_size]; exact T4') (size25 _) (bl_all _) ?_)
  have RR := two_Rows (fun _ => false) (fun _ => false) T3 T4 (by omega)
  have ZZ : Zero4 (((((w.alloc (.cells #[.int .u64 0, .int .u64 0, .int .u64 0, .int .u64 0] 26)).alloc (.cells (bl (fun _ => false)).toArray 43)).alloc (.cells (bl (fun _ => false)).toArray 43)).setCells (w.heap.size + 1) 0 (bl (fun _ => false))).setCells (w.heap.size + 1 + 1) 0 (bl (fun _ => false))) w.heap.size := zcells (zcells Z1 (by omega)) (by omega)
  have BBB : Below w.heap.size w (((((w.alloc (.cells #[.int .u64 0, .int .u64 0, .int .u64 0, .int .u64 0] 26)).alloc (.cells (bl (fun _ => false)).toArray 43)).alloc (.cells (bl (fun _ => false)).toArray 43)).setCells (w.heap.size + 1) 0 (bl (fun _ => false))).setCells (w.heap.size + 1 + 1) 0 (bl (fun _ => false))) := Below.setCells _ _ _ (Below.setCells _ _ _ BB (by omega)) (by omega)
  have HI := Lib.hid (And.intro RR (And.intro ZZ BBB))
  clear RR ZZ BBB T3 T4 T4' Z1 BB
  go_loopg [5] 128 (fun g i wr => ∃ k : Nat, k ≤ 128 ∧ g = 128 - k ∧ i = .int .i64 k ∧ Below w.heap.size w wr ∧ Zero4 wr w.heap.size ∧ Row wr (w.heap.size + 1) (upB c.V k) ∧ Row wr (w.heap.size + 1 + 1) (upB c.K k))
  case atStart => exact ⟨0, by omega, rfl, rfl, HI.out.2.2, HI.out.2.1, HI.out.1.1.congr (upB_zero _), HI.out.1.2.congr (upB_zero _)⟩
  case round =>
    clear HI
    obtain ⟨k, hk, rfl, rfl, BW, ZW, RV, RK⟩ := hrel
    by_cases hlt : k < 128
    · have hlt' : (k : Int) < 128 := by omega
      have hks : k < s.size := by omega
      have hks' : (k : Int) < (s.size : Int) := by omega
      obtain ⟨m, hm⟩ : ∃ m, m + k = 127 := ⟨127 - k, by omega⟩
      have hi : (127 : Int) - (k : Int) = (m : Int) := by omega
      have hm1 : m < 128 := by omega
      have hm2 : (m : Int) < 128 := by omega
      have HM := Lib.hid hm
      clear hm
      have cv := RV.cell hm1
      have fv := RV.froz hm1
      have ck := RK.cell hm1
      have fk := RK.froz hm1
      cases hK : c.K m
      · cases hV : c.V m
        · have sg := sign_x HS.out k m HM.out hks hK
          have HK := Lib.hid hK
          have HV := Lib.hid hV
          clear hK hV
          go_wp2
          go_roundg (128 - (k + 1))
          case measure => omega
          case rel => exact ⟨k + 1, by omega, rfl, by go_num, (BW.setCell (by dsimp only; omega) _).setCell (by dsimp only; omega) _, zfar (zfar ZW (by dsimp only; omega)) (by dsimp only; omega), ((RV.set hm1 (upB_put c.V k m HM.out _ HV.out))).far (by dsimp only; omega), (RK.far (by dsimp only; omega)).set hm1 (upB_put c.K k m HM.out _ HK.out)⟩
        · exfalso
          have := (Cb.snd_iff c).1 HC.out m hm1 hV
          rw [hK] at this; cases this
      · cases hV : c.V m
        · have sg := sign_0 HS.out k m HM.out hks hK hV
          have HK := Lib.hid hK
          have HV := Lib.hid hV
          clear hK hV
          go_wp2
          go_roundg (128 - (k + 1))
          case measure => omega
          case rel => exact ⟨k + 1, by omega, rfl, by go_num, (BW.setCell (by dsimp only; omega) _).setCell (by dsimp only; omega) _, zfar (zfar ZW (by dsimp only; omega)) (by dsimp only; omega), ((RV.set hm1 (upB_put c.V k m HM.out _ HV.out))).far (by dsimp only; omega), (RK.far (by dsimp only; omega)).set hm1 (upB_put c.K k m HM.out _ HK.out)⟩
        · have sg := sign_1 HS.out k m HM.out hks hK hV
          have HK := Lib.hid hK
          have HV := Lib.hid hV
          clear hK hV
          go_wp2
          go_roundg (128 - (k + 1))
          case measure => omega
          case rel => exact ⟨k + 1, by omega, rfl, by go_num, (BW.setCell (by dsimp only; omega) _).setCell (by dsimp only; omega) _, zfar (zfar ZW (by dsimp only; omega)) (by dsimp only; omega), ((RV.set hm1 (upB_put c.V k m HM.out _ HV.out))).far (by dsimp only; omega), (RK.far (by dsimp only; omega)).set hm1 (upB_put c.K k m HM.out _ HK.out)⟩
    · obtain rfl : k = 128 := by omega
      have hu1 := Try.underlying43
      have hi1 : ∀ f : Nat → Bool, (Try.prog.info? 43).map (·.size) = some (bl f).length := fun f => by rw [(zero_of_info info25).2, bl_len]
      have n1 : num (upB c.V 128) 64 64 = c.vh ∧ num (upB c.V 128) 0 64 = c.vl := upB_num c.vh c.vl
      have n2 : num (upB c.K 128) 64 64 = c.ch ∧ num (upB c.K 128) 0 64 = c.cl := upB_num c.ch c.cl
      have N1 := Lib.hid n1
      have N2 := Lib.hid n2
      clear n1 n2
      go_wp2_with fail
      refine wp_region_held_drew (S := fun w' => Below w.heap.size w w' ∧ w'.rangeAt (w.heap.size + 1) 0 (bl (upB c.V 128)) ∧ w'.rangeAt (w.heap.size + 1 + 1) 0 (bl (upB c.K 128))) (by kernel_rfl) ⟨BW.drew, RV.1, RK.1⟩ (fun hHeld => ?_)
      have Z0 : Zero4 wr.drew w.heap.size := ZW
      clear BW RV RK ZW
      refine wpAnyH_take (i := 0) (oi := ⟨some 32, _, _, _, _, _⟩) (v := .agg (bl (upB c.V 128)).toArray) rfl (by kernel_rfl) (by kernel_rfl) (by kernel_rfl) (fun _ _ _ h => h) (yieldsIf_load_mid (by rfl) 43 _ rfl (w.heap.size + 1) 0 rfl (bl (upB c.V 128)) _ (fun _ hw => hw.2.1) hu1 rfl (hi1 _)) hHeld ?_
      simp only [Act.put, List.setIfInBounds_toArray, List.set_cons_zero, List.set_cons_succ]
      refine wpAnyH_take (i := 2) (oi := ⟨some 34, _, _, _, _, _⟩) (v := .agg (bl (upB c.K 128)).toArray) rfl (by kernel_rfl) (by kernel_rfl) (by kernel_rfl) (fun _ _ _ h => h) (yieldsIf_load_mid (by rfl) 43 _ rfl (w.heap.size + 1 + 1) 0 rfl (bl (upB c.K 128)) _ (fun _ hw => hw.2.2) hu1 rfl (hi1 _)) hHeld ?_
      simp only [Act.put, List.setIfInBounds_toArray, List.set_cons_zero, List.set_cons_succ]
      refine wpAnyH_ready (rs := [1]) (by kernel_rfl) (by simp) ?_
      refine AllReadyH.cons (o := ⟨some 33, _, _, _, _, _⟩) rfl (fun K hK => ?_) AllReadyH.nil
      go_simp
      (with_reducible refine (rhead_is (upB c.V 128) c.vh c.vl _ N1.out).mono ?_)
      rintro e w1 ⟨rfl, hb⟩
      (try dsimp only)
      refine hK.out _ _ ⟨hHeld.1.trans (hb.mono hHeld.1.size), range_on hb hHeld.2.1, range_on hb hHeld.2.2⟩ (fun hNext => ?_)
      have Z1 := Zero4.on hb Z0
      clear hK K hHeld hb Z0
      have hHeld := hNext
      clear hNext
      try simp only [Act.put, List.setIfInBounds_toArray, List.set_cons_zero, List.set_cons_succ]
      refine wpAnyH_ready (rs := [3]) (by kernel_rfl) (by simp) ?_
      refine AllReadyH.cons (o := ⟨some 35, _, _, _, _, _⟩) rfl (fun K hK => ?_) AllReadyH.nil
      go_simp
      (with_reducible refine (rhead_is (upB c.K 128) c.ch c.cl _ N2.out).mono ?_)
      rintro e w2 ⟨rfl, hb⟩
      (try dsimp only)
      refine hK.out _ _ ⟨hHeld.1.trans (hb.mono hHeld.1.size), range_on hb hHeld.2.1, range_on hb hHeld.2.2⟩ (fun hNext => ?_)
      have Z2 := Zero4.on hb Z1
      clear hK K hHeld hb Z1
      have hHeld := hNext
      clear hNext
      try simp only [Act.put, List.setIfInBounds_toArray, List.set_cons_zero, List.set_cons_succ]
      refine wpAnyH_take (i := 4) (oi := ⟨some 36, _, _, _, _, _⟩) (v := ?v4) rfl (by kernel_rfl) (by kernel_rfl) (by kernel_rfl) (fun _ _ _ h => h) (Or.inl ⟨by rfl, ?y4⟩) hHeld ?r4
      case y4 => (intro w' hSw; clear hSw; go_simp; try (with_reducible rfl))
      simp only [Act.put, List.setIfInBounds_toArray, List.set_cons_zero, List.set_cons_succ]
      have Y2 := Z2.out
      refine wpAnyH_ready (rs := [5]) (by kernel_rfl) (by simp) ?_
      refine AllReadyH.cons (o := ⟨none, _, _, _, _, _⟩) rfl (fun K hK => ?_) AllReadyH.nil
      go_simp
      refine hK.out _ _ ⟨hHeld.1.trans ((sets4 _ _ _ _ _ _).mono (Nat.le_refl _)), range_apart4 hHeld.2.1 (by omega), range_apart4 hHeld.2.2 (by omega)⟩ (fun hNext => ?_)
      have BE := hHeld.1
      clear hK K hHeld hNext
      try simp only [Act.put]
      refine wpAnyH_done (by kernel_rfl) ?_ _
      go_wp2
      exact bodyPost_ret (v := .agg #[.int .u64 (uv c.vh), .int .u64 (uv c.vl), .int .u64 (uv c.ch), .int .u64 (uv c.cl)]) (by simp [results, Try.results20, go_sem, Y2]) rfl ⟨rfl, BE.trans ((sets4 _ _ _ _ _ _).mono (Nat.le_refl _))⟩
end Go.Proofs
