/-
  Contract: Cube of the reference of layer 2 returns the cube of a text. Conditions: the text is that of a sound cube.
  The law CubeMeets returns true for all cubes, and changes nothing that was there. No conditions.
  The statement 'l, v, care := Bits(..), Bits(..), Bits(..)' of the reference's Set, in whatever order its arrays are made. Conditions as each theorem lists them.
  Contract: Set of the reference of layer 2: a header some bits of which are set. No conditions.
  The law CubeSets returns true for all cubes and headers, and changes nothing that was there. No conditions.
  Plain mathematics: headers that are in the same ones of a list of cubes; setting what the list is closed under keeps them so. No program in sight. Conditions as each theorem lists them.
  What a call changes at most. No program in sight. No conditions.
  A set of cubes in memory (a map from cubes to nothing), as a list; what the operations on it do. Conditions as each theorem lists them.
  A row that grows, and where it lies then. No program in sight. No conditions.
  Plain mathematics on lists of cubes: which cubes are spare, and that a list without them has the same headers. No program in sight. Conditions as each theorem lists them.
  A slice of cubes in memory, wherever it lies; contracts of slices.IndexFunc and slices.ContainsFunc over cubes, and of pile.Sound and pile.Has. Conditions as each theorem lists them.
  Appending a slice of cubes, wherever it lies, to a row of the call's own; contracts of slices.Clone, slices.Grow (of nil) and slices.Concat (of two) over cubes. Conditions as each theorem lists them.
-/
import Derived.Test.YtanliiopdhjhjaaJ6
import Derived.Deep.MidRow
import Derived.Deep.Light
import Derived.Lib.Hide
import Derived.Maps.OwnSet
import Derived.DeepKeys4
import Derived.Test.YtanliiopdhjhjaaProg
import Derived.Deep.LoopGhost
import Derived.Shelf.GgClosure.Gives
import Derived.Maps.AppendAt
import Derived.Lib.AppendZeros
import Derived.Laws.AppendOwnNone
namespace Go.Proofs
open Go.RowKit Go.Proofs.Hd
attribute [local go_sem] uv_nonneg
/-- The bits from bit 128 - k on. -/
def upB (f : Nat → Bool) (k : Nat) : Nat → Bool := fun j => decide (128 ≤ j + k) && f j
theorem upB_zero (f : Nat → Bool) : bl (fun _ => false) = bl (upB f 0) := bl_congr fun j hj => by simp [upB]; omega
theorem upB_put (f : Nat → Bool) (k m : Nat) (hm : m + k = 127) (x : Bool) (hx : f m = x) : (bl (upB f k)).set m (.bool x) = bl (upB f (k + 1)) := by
  subst hx
  rw [bl_set]
  apply bl_congr
  intro j hj
  unfold upB
  by_cases e : j = m
  · subst e; rw [if_pos rfl]; simp; omega
  · rw [if_neg e]
    have : (128 ≤ j + (k + 1)) ↔ (128 ≤ j + k) := by omega
    simp [this]
theorem upB_num (h l : BitVec 64) : num (upB (hbit h l) 128) 64 64 = h ∧ num (upB (hbit h l) 128) 0 64 = l := num_of_bits fun j hj => by simp [upB]
theorem zfar {w : World} {r : Nat} {p : Addr} {v : Value} (h : Zero4 w r) (hp : p.block ≠ r) : Zero4 (w.setCell p v) r := fun i hi =>
  ⟨(World.cell?_setCell_far w p ⟨r, i, none⟩ v hp).trans (h i hi).1, by rw [World.frozen?_setCell]; exact (h i hi).2⟩
theorem zcells {w : World} {r b : Nat} {vs : List Value} (h : Zero4 w r) (hp : r < b) : Zero4 (w.setCells b 0 vs) r := by
  have hb : Below b w (w.setCells b 0 vs) := Below.setCells vs 0 w (Below.refl _ _) (Nat.le_refl _)
  exact fun i hi => ⟨(hb.cell (p := ⟨r, i, none⟩) hp).trans (h i hi).1, (hb.frozen (p := ⟨r, i, none⟩) hp).trans (h i hi).2⟩

theorem rhead_is (f : Nat → Bool) (h l : BitVec 64) (w : World) (hn : num f 64 64 = h ∧ num f 0 64 = l) : Calls Try.prog 54 #[.agg (bl f).toArray] w fun e w' => e = .returned (.agg #[.int .u64 (uv h), .int .u64 (uv l)]) ∧ Below w.heap.size w w' := by
  obtain ⟨rfl, rfl⟩ := hn; exact refhead_c f w
theorem range_apart4 {b r : Nat} {f : Nat → Bool} {w : World} {a0 a1 a2 a3 : Value} (h : w.rangeAt b 0 (bl f)) (hne : r ≠ b) : ((((w.setCell ⟨r, 0, none⟩ a0).setCell ⟨r, 1, none⟩ a1).setCell ⟨r, 2, none⟩ a2).setCell ⟨r, 3, none⟩ a3).rangeAt b 0 (bl f) := by
  intro j v hv
  rw [World.cell?_setCell_far _ _ _ _ hne, World.cell?_setCell_far _ _ _ _ hne, World.cell?_setCell_far _ _ _ _ hne, World.cell?_setCell_far _ _ _ _ hne]
  exact h j v hv
theorem range_on {b : Nat} {f : Nat → Bool} {w w' : World} (hb : Below w.heap.size w w') (h : w.rangeAt b 0 (bl f)) : w'.rangeAt b 0 (bl f) := range_below hb h (World.block_lt_of_cell? w ⟨b, 0, none⟩ (range_cell h (by omega : 0 < 128)))
set_option maxRecDepth 100000 in
set_option maxHeartbeats 4000000 in
set_option maxRecDepth 100000 in
theorem rcube_s (s : ByteArray) (c : Cb) (w : World) (hc : c.snd = true) (hs : txt c = s) :
    Calls Try.prog 32 #[.string s] w fun e w' => e = .returned (.agg #[.int .u64 (uv c.vh), .int .u64 (uv c.vl), .int .u64 (uv c.ch), .int .u64 (uv c.cl)]) ∧ Below w.heap.size w w' := by
  have hz := zero25
  have hbd := build25
  have l1 : s.size ≤ 128 := by rw [text_len hs]; omega
  have l2 : 128 ≤ s.size := by rw [text_len hs]; omega
  have HS := Lib.hid hs
  have HC := Lib.hid hc
  clear hs hc
  have T3 : (((w.alloc (.cells #[.int .u64 0, .int .u64 0, .int .u64 0, .int .u64 0] 43)).alloc (.cells (bl (fun _ => false)).toArray 92)).alloc (.cells (bl (fun _ => false)).toArray 92)).there (w.heap.size + 1) 0 128 := by
    have h := World.there_alloc (there_of_alloc (w.alloc (.cells #[.int .u64 0, .int .u64 0, .int .u64 0, .int .u64 0] 43)) (fun _ => false) 92) (.cells (bl (fun _ => false)).toArray 92)
    simpa only [World.size_alloc] using h
  have T4 : (((w.alloc (.cells #[.int .u64 0, .int .u64 0, .int .u64 0, .int .u64 0] 43)).alloc (.cells (bl (fun _ => false)).toArray 92)).alloc (.cells (bl (fun _ => false)).toArray 92)).there (w.heap.size + 1 + 1) 0 128 := by
    have h := there_of_alloc ((w.alloc (.cells #[.int .u64 0, .int .u64 0, .int .u64 0, .int .u64 0] 43)).alloc (.cells (bl (fun _ => false)).toArray 92)) (fun _ => false) 92
    simpa only [World.size_alloc] using h
  have T4' : ((((w.alloc (.cells #[.int .u64 0, .int .u64 0, .int .u64 0, .int .u64 0] 43)).alloc (.cells (bl (fun _ => false)).toArray 92)).alloc (.cells (bl (fun _ => false)).toArray 92)).setCells (w.heap.size + 1) 0 (bl (fun _ => false))).there (w.heap.size + 1 + 1) 0 128 := World.there_setCells T4 _ 0 _
  have Z1 : Zero4 (((w.alloc (.cells #[.int .u64 0, .int .u64 0, .int .u64 0, .int .u64 0] 43)).alloc (.cells (bl (fun _ => false)).toArray 92)).alloc (.cells (bl (fun _ => false)).toArray 92)) w.heap.size := ((zero4_new w).on (below1 _ _)).on (below1 _ _)
  have BB := below3 w (.cells #[.int .u64 0, .int .u64 0, .int .u64 0, .int .u64 0] 43) (.cells (bl (fun _ => false)).toArray 92) (.cells (bl (fun _ => false)).toArray 92)
  go_enter Try.func32, Try.ntmps32
  go_wp2_with (first
    | refine wpList_store_mid rfl 92 (.tmp 3) (.tmp 6) rfl (w.heap.size + 1) 0 (bl (fun _ => false)).toArray rfl rfl (by rw [bl_size]; exact T3) (size25 _) (bl_all _) ?_
    | refine wpList_store_mid rfl 92 (.tmp 4) (.tmp 7) rfl (w.heap.size + 1 + 1) 0 (bl (fun _ => false)).toArray rfl rfl (by rw [bl_size]; exact T4') (size25 _) (bl_all _) ?_)
  have RR := two_Rows (fun _ => false) (fun _ => false) T3 T4 (by omega)
  have ZZ : Zero4 (((((w.alloc (.cells #[.int .u64 0, .int .u64 0, .int .u64 0, .int .u64 0] 43)).alloc (.cells (bl (fun _ => false)).toArray 92)).alloc (.cells (bl (fun _ => false)).toArray 92)).setCells (w.heap.size + 1) 0 (bl (fun _ => false))).setCells (w.heap.size + 1 + 1) 0 (bl (fun _ => false))) w.heap.size := zcells (zcells Z1 (by omega)) (by omega)
  have BBB : Below w.heap.size w (((((w.alloc (.cells #[.int .u64 0, .int .u64 0, .int .u64 0, .int .u64 0] 43)).alloc (.cells (bl (fun _ => false)).toArray 92)).alloc (.cells (bl (fun _ => false)).toArray 92)).setCells (w.heap.size + 1) 0 (bl (fun _ => false))).setCells (w.heap.size + 1 + 1) 0 (bl (fun _ => false))) := Below.setCells _ _ _ (Below.setCells _ _ _ BB (by omega)) (by omega)
  have HI := Lib.hid (And.intro RR (And.intro ZZ BBB))
  clear RR ZZ BBB T3 T4 T4' Z1 BB
  go_loopg [5] 128 (fun g i wr => ∃ k : Nat, k ≤ 128 ∧ g = 128 - k ∧ i = .int .i64 k ∧ Below w.heap.size w wr ∧ Zero4 wr w.heap.size ∧ Row wr (w.heap.size + 1) (upB c.V k) ∧ Row wr (w.heap.size + 1 + 1) (upB c.K k))
  case atStart => exact ⟨0, by omega, rfl, rfl, HI.out.2.2, HI.out.2.1, HI.out.1.1.congr (upB_zero _), HI.out.1.2.congr (upB_zero _)⟩
  case round =>
    clear HI
    obtain ⟨k, hk, rfl, rfl, BW, ZW, RV, RK⟩ := hrel
    by_cases hlt : k < 128
    · have hlt' : (k : Int) < 128 := by omega
      have hks : k < s.size := by omega
      have hks' : (k : Int) < (s.size : Int) := by omega
      obtain ⟨m, hm⟩ : ∃ m, m + k = 127 := ⟨127 - k, by omega⟩
      have hi : (127 : Int) - (k : Int) = (m : Int) := by omega
      have hm1 : m < 128 := by omega
      have hm2 : (m : Int) < 128 := by omega
      have HM := Lib.hid hm
      clear hm
      have cv := RV.cell hm1
      have fv := RV.froz hm1
      have ck := RK.cell hm1
      have fk := RK.froz hm1
      cases hK : c.K m
      · cases hV : c.V m
        · have sg := sign_x HS.out k m HM.out hks hK
          have HK := Lib.hid hK
          have HV := Lib.hid hV
          clear hK hV
          go_wp2
          go_roundg (128 - (k + 1))
          case measure => omega
          case rel => exact ⟨k + 1, by omega, rfl, by go_num, (BW.setCell (by dsimp only; omega) _).setCell (by dsimp only; omega) _, zfar (zfar ZW (by dsimp only; omega)) (by dsimp only; omega), ((RV.set hm1 (upB_put c.V k m HM.out _ HV.out))).far (by dsimp only; omega), (RK.far (by dsimp only; omega)).set hm1 (upB_put c.K k m HM.out _ HK.out)⟩
        · exfalso
          have := (Cb.snd_iff c).1 HC.out m hm1 hV
          rw [hK] at this; cases this
      · cases hV : c.V m
        · have sg := sign_0 HS.out k m HM.out hks hK hV
          have HK := Lib.hid hK
          have HV := Lib.hid hV
          clear hK hV
          go_wp2
          go_roundg (128 - (k + 1))
          case measure => omega
          case rel => exact ⟨k + 1, by omega, rfl, by go_num, (BW.setCell (by dsimp only; omega) _).setCell (by dsimp only; omega) _, zfar (zfar ZW (by dsimp only; omega)) (by dsimp only; omega), ((RV.set hm1 (upB_put c.V k m HM.out _ HV.out))).far (by dsimp only; omega), (RK.far (by dsimp only; omega)).set hm1 (upB_put c.K k m HM.out _ HK.out)⟩
        · have sg := sign_1 HS.out k m HM.out hks hK hV
          have HK := Lib.hid hK
          have HV := Lib.hid hV
          clear hK hV
          go_wp2
          go_roundg (128 - (k + 1))
          case measure => omega
          case rel => exact ⟨k + 1, by omega, rfl, by go_num, (BW.setCell (by dsimp only; omega) _).setCell (by dsimp only; omega) _, zfar (zfar ZW (by dsimp only; omega)) (by dsimp only; omega), ((RV.set hm1 (upB_put c.V k m HM.out _ HV.out))).far (by dsimp only; omega), (RK.far (by dsimp only; omega)).set hm1 (upB_put c.K k m HM.out _ HK.out)⟩
    · obtain rfl : k = 128 := by omega
      have hu1 := Try.underlying92
      have hi1 : ∀ f : Nat → Bool, (Try.prog.info? 92).map (·.size) = some (bl f).length := fun f => by rw [(zero_of_info info25).2, bl_len]
      have n1 : num (upB c.V 128) 64 64 = c.vh ∧ num (upB c.V 128) 0 64 = c.vl := upB_num c.vh c.vl
      have n2 : num (upB c.K 128) 64 64 = c.ch ∧ num (upB c.K 128) 0 64 = c.cl := upB_num c.ch c.cl
      have N1 := Lib.hid n1
      have N2 := Lib.hid n2
      clear n1 n2
      go_wp2_with fail
      refine wp_region_held_drew (S := fun w' => Below w.heap.size w w' ∧ w'.rangeAt (w.heap.size + 1) 0 (bl (upB c.V 128)) ∧ w'.rangeAt (w.heap.size + 1 + 1) 0 (bl (upB c.K 128))) (by kernel_rfl) ⟨BW.drew, RV.1, RK.1⟩ (fun hHeld => ?_)
      have Z0 : Zero4 wr.drew w.heap.size := ZW
      clear BW RV RK ZW
      refine wpAnyH_take (i := 0) (oi := ⟨some 32, _, _, _, _, _⟩) (v := .agg (bl (upB c.V 128)).toArray) rfl (by kernel_rfl) (by kernel_rfl) (by kernel_rfl) (fun _ _ _ h => h) (yieldsIf_load_mid (by rfl) 92 _ rfl (w.heap.size + 1) 0 rfl (bl (upB c.V 128)) _ (fun _ hw => hw.2.1) hu1 rfl (hi1 _)) hHeld ?_
      simp only [Act.put, List.setIfInBounds_toArray, List.set_cons_zero, List.set_cons_succ]
      refine wpAnyH_take (i := 2) (oi := ⟨some 34, _, _, _, _, _⟩) (v := .agg (bl (upB c.K 128)).toArray) rfl (by kernel_rfl) (by kernel_rfl) (by kernel_rfl) (fun _ _ _ h => h) (yieldsIf_load_mid (by rfl) 92 _ rfl (w.heap.size + 1 + 1) 0 rfl (bl (upB c.K 128)) _ (fun _ hw => hw.2.2) hu1 rfl (hi1 _)) hHeld ?_
      simp only [Act.put, List.setIfInBounds_toArray, List.set_cons_zero, List.set_cons_succ]
      refine wpAnyH_ready (rs := [1]) (by kernel_rfl) (by simp) ?_
      refine AllReadyH.cons (o := ⟨some 33, _, _, _, _, _⟩) rfl (fun K hK => ?_) AllReadyH.nil
      go_simp
      (with_reducible refine (rhead_is (upB c.V 128) c.vh c.vl _ N1.out).mono ?_)
      rintro e w1 ⟨rfl, hb⟩
      (try dsimp only)
      refine hK.out _ _ ⟨hHeld.1.trans (hb.mono hHeld.1.size), range_on hb hHeld.2.1, range_on hb hHeld.2.2⟩ (fun hNext => ?_)
      have Z1 := Zero4.on hb Z0
      clear hK K hHeld hb Z0
      have hHeld := hNext
      clear hNext
      try simp only [Act.put, List.setIfInBounds_toArray, List.set_cons_zero, List.set_cons_succ]
      refine wpAnyH_ready (rs := [3]) (by kernel_rfl) (by simp) ?_
      refine AllReadyH.cons (o := ⟨some 35, _, _, _, _, _⟩) rfl (fun K hK => ?_) AllReadyH.nil
      go_simp
      (with_reducible refine (rhead_is (upB c.K 128) c.ch c.cl _ N2.out).mono ?_)
      rintro e w2 ⟨rfl, hb⟩
      (try dsimp only)
      refine hK.out _ _ ⟨hHeld.1.trans (hb.mono hHeld.1.size), range_on hb hHeld.2.1, range_on hb hHeld.2.2⟩ (fun hNext => ?_)
      have Z2 := Zero4.on hb Z1
      clear hK K hHeld hb Z1
      have hHeld := hNext
      clear hNext
      try simp only [Act.put, List.setIfInBounds_toArray, List.set_cons_zero, List.set_cons_succ]
      refine wpAnyH_take (i := 4) (oi := ⟨some 36, _, _, _, _, _⟩) (v := ?v4) rfl (by kernel_rfl) (by kernel_rfl) (by kernel_rfl) (fun _ _ _ h => h) (Or.inl ⟨by rfl, ?y4⟩) hHeld ?r4
      case y4 => (intro w' hSw; clear hSw; go_simp; try (with_reducible rfl))
      simp only [Act.put, List.setIfInBounds_toArray, List.set_cons_zero, List.set_cons_succ]
      have Y2 := Z2.out
      refine wpAnyH_ready (rs := [5]) (by kernel_rfl) (by simp) ?_
      refine AllReadyH.cons (o := ⟨none, _, _, _, _, _⟩) rfl (fun K hK => ?_) AllReadyH.nil
      go_simp
      refine hK.out _ _ ⟨hHeld.1.trans ((sets4 _ _ _ _ _ _).mono (Nat.le_refl _)), range_apart4 hHeld.2.1 (by omega), range_apart4 hHeld.2.2 (by omega)⟩ (fun hNext => ?_)
      have BE := hHeld.1
      clear hK K hHeld hNext
      try simp only [Act.put]
      refine wpAnyH_done (by kernel_rfl) ?_ _
      go_wp2
      exact bodyPost_ret (v := .agg #[.int .u64 (uv c.vh), .int .u64 (uv c.vl), .int .u64 (uv c.ch), .int .u64 (uv c.cl)]) (by simp [results, Try.results32, go_sem, Y2]) rfl ⟨rfl, BE.trans ((sets4 _ _ _ _ _ _).mono (Nat.le_refl _))⟩
end Go.Proofs

namespace Go.Proofs
open Go.RowKit Go.Proofs.Hd
attribute [local go_sem] uv_nonneg eq4_self eq2_self
attribute [local go_sem high] run_eq2 run_eq4
end Go.Proofs

namespace Go.Proofs
open Go.RowKit Go.Proofs.Hd
end Go.Proofs

namespace Go.Proofs
open Go.RowKit Go.Proofs.Hd
attribute [local go_sem] uv_nonneg
theorem z2far {w : World} {r : Nat} {p : Addr} {v : Value} (h : Zero2 w r) (hp : p.block ≠ r) : Zero2 (w.setCell p v) r := fun i hi =>
  ⟨(World.cell?_setCell_far w p ⟨r, i, none⟩ v hp).trans (h i hi).1, by rw [World.frozen?_setCell]; exact (h i hi).2⟩

end Go.Proofs

namespace Go.Proofs
open Go.RowKit Go.Proofs.Hd
attribute [local go_sem] uv_nonneg eq4_self eq2_self
attribute [local go_sem high] run_eq2 run_eq4
def Cb.bef (c d : Cb) : Cb := ⟨c.vh &&& (c.ch &&& ~~~d.ch), c.vl &&& (c.cl &&& ~~~d.cl), c.ch &&& ~~~d.ch, c.cl &&& ~~~d.cl⟩
theorem bef_V (c d : Cb) (j : Nat) (hj : j < 128) : (Cb.bef c d).V j = (c.V j && (c.K j && !d.K j)) := by
  unfold Cb.V Cb.bef; dsimp only; rw [hbit_and, hbit_andNot _ _ _ _ _ hj]; rfl
theorem bef_K (c d : Cb) (j : Nat) (hj : j < 128) : (Cb.bef c d).K j = (c.K j && !d.K j) := hbit_andNot _ _ _ _ _ hj
theorem bef_snd (c d : Cb) : (Cb.bef c d).snd = true := by
  rw [Cb.snd_iff]
  intro j hj h
  rw [bef_V c d j hj] at h
  rw [bef_K c d j hj]
  revert h
  cases c.V j <;> cases c.K j <;> cases d.K j <;> simp
def Cb.zero : Cb := ⟨0#64, 0#64, 0#64, 0#64⟩
theorem cbef_t (c d : Cb) (w : World) (h1 : c.snd = true) (h3 : c.agr d = true) : Calls Try.prog 29 #[.agg #[.int .u64 (uv c.vh), .int .u64 (uv c.vl), .int .u64 (uv c.ch), .int .u64 (uv c.cl)], .agg #[.int .u64 (uv d.vh), .int .u64 (uv d.vl), .int .u64 (uv d.ch), .int .u64 (uv d.cl)]] w fun e w' => e = .returned (.tuple #[.agg #[.int .u64 (uv (c.vh &&& (c.ch &&& ~~~d.ch))), .int .u64 (uv (c.vl &&& (c.cl &&& ~~~d.cl))), .int .u64 (uv (c.ch &&& ~~~d.ch)), .int .u64 (uv (c.cl &&& ~~~d.cl))], .bool true]) ∧ Below w.heap.size w w' := before_yes _ _ _ _ _ _ _ _ w h1 h3
theorem cbef_f (c d : Cb) (w : World) (h : c.snd = false ∨ (c.snd = true ∧ c.agr d = false)) : Calls Try.prog 29 #[.agg #[.int .u64 (uv c.vh), .int .u64 (uv c.vl), .int .u64 (uv c.ch), .int .u64 (uv c.cl)], .agg #[.int .u64 (uv d.vh), .int .u64 (uv d.vl), .int .u64 (uv d.ch), .int .u64 (uv d.cl)]] w fun e w' => e = .returned (.tuple #[.agg #[.int .u64 0, .int .u64 0, .int .u64 0, .int .u64 0], .bool false]) ∧ Below w.heap.size w w' := by
  rcases h with h | ⟨h1, h2⟩
  · exact before_no1 _ _ _ _ _ _ _ _ w h
  · exact before_no2 _ _ _ _ _ _ _ _ w h1 h2
end Go.Proofs

namespace Go.Proofs.Hd
open Go.RowKit Go.Proofs
instance : DecidableEq Cb := fun a b => decidable_of_iff (a.vh = b.vh ∧ a.vl = b.vl ∧ a.ch = b.ch ∧ a.cl = b.cl) (by
  cases a; cases b; simp)
/-- What a cube asks ahead of a setting of d, if anything. -/
def bfC (c d : Cb) : Option Cb := if c.snd = true ∧ c.agr d = true then some (Cb.bef c d) else none
theorem bfC_some {c d : Cb} (h1 : c.snd = true) (h2 : c.agr d = true) : bfC c d = some (Cb.bef c d) := by unfold bfC; rw [if_pos ⟨h1, h2⟩]
theorem bfC_none {c d : Cb} (h : ¬ (c.snd = true ∧ c.agr d = true)) : bfC c d = none := by unfold bfC; rw [if_neg h]
theorem bfC_snd {c d p : Cb} (h : bfC c d = some p) : p.snd = true := by
  by_cases hc : c.snd = true ∧ c.agr d = true
  · rw [bfC_some hc.1 hc.2] at h
    cases h
    exact bef_snd c d
  · rw [bfC_none hc] at h; cases h
end Go.Proofs.Hd

namespace Go.Proofs.Hd
open Go.RowKit
/-- From w to w' at most the blocks of S have changed, and new ones may be there. -/
structure Ch (S : Nat → Prop) (w w' : World) : Prop where
  os : w'.os = w.os
  tape : w'.tape = w.tape
  output : w'.output = w.output
  size : w.heap.size ≤ w'.heap.size
  block : ∀ k, k < w.heap.size → ¬ S k → w'.heap[k]? = w.heap[k]?
theorem Ch.refl (S : Nat → Prop) (w : World) : Ch S w w := ⟨rfl, rfl, rfl, Nat.le_refl _, fun _ _ _ => rfl⟩
theorem Ch.trans {S : Nat → Prop} {a b c : World} (h : Ch S a b) (k : Ch S b c) : Ch S a c :=
  ⟨k.os.trans h.os, k.tape.trans h.tape, k.output.trans h.output, Nat.le_trans h.size k.size, fun i hi hs => (k.block i (Nat.lt_of_lt_of_le hi h.size) hs).trans (h.block i hi hs)⟩
theorem Ch.mono {S S' : Nat → Prop} {w w' : World} (h : Ch S w w') (hs : ∀ k, k < w.heap.size → S k → S' k) : Ch S' w w' := ⟨h.os, h.tape, h.output, h.size, fun k hk hn => h.block k hk (fun c => hn (hs k hk c))⟩
theorem Ch.of_below {S : Nat → Prop} {w w' : World} (h : Below w.heap.size w w') : Ch S w w' := ⟨h.os, h.tape, h.output, h.size, fun k hk _ => h.block k hk⟩
theorem Ch.below {S : Nat → Prop} {B : Nat} {w w' : World} (h : Ch S w w') (hB : B ≤ w.heap.size) (hs : ∀ k, k < B → ¬ S k) : Below B w w' := ⟨h.os, h.tape, h.output, h.size, fun k hk => h.block k (by omega) (hs k hk)⟩
theorem Ch.set (w : World) (p : Addr) (u : Value) : Ch (· = p.block) w (w.setCell p u) := ⟨rfl, rfl, rfl, by simp [World.setCell], fun k _ hn => Below.heap_setCell _ _ _ _ hn⟩
theorem Ch.blk {S : Nat → Prop} {w w' : World} {g : Nat} {t : TypeId} {cs : Array Value} (h : Ch S w w') (b : Blk w g t cs) (hn : ¬ S g) : Blk w' g t cs := (h.block g b.lt hn).trans b
theorem Ch.cell {S : Nat → Prop} {w w' : World} {p : Addr} {v : Value} (h : Ch S w w') (hc : w.cell? p = some v) (hn : ¬ S p.block) : w'.cell? p = some v :=
  (World.cell?_of_block (h.block p.block (World.block_lt_of_cell? w p hc) hn)).trans hc
theorem Ch.own {S : Nat → Prop} {w w' : World} {base e size n : Nat} {v : Value} {xs : List Value} (h : Ch S w w') (r : w.ownsRow base e size v n xs) (hn : ∀ g, v.ownBlock = some g → ¬ S g) : w'.ownsRow base e size v n xs := by
  refine ⟨r.1, ?_⟩
  rcases r.2 with r | ⟨g, cap, cur, rfl, hb, hg, rest⟩
  · exact .inl r
  · exact .inr ⟨g, cap, cur, rfl, hb, (h.block g (Array.getElem?_eq_some_iff.1 hg).1 (hn g rfl)).trans hg, rest⟩
end Go.Proofs.Hd

namespace Go.Proofs.Hd
open Go.RowKit Go.Maps
/-- A cube as a value. -/
def cbV (c : Cb) : Value := .agg #[.int .u64 (uv c.vh), .int .u64 (uv c.vl), .int .u64 (uv c.ch), .int .u64 (uv c.cl)]
theorem uvK_wf (x : BitVec 64) : (Lit.int .u64 (uv x)).wf = true := by
  have h1 := uv_nonneg x
  have h2 := uv_lt x
  simp only [Lit.wf, Bool.and_eq_true, decide_eq_true_eq]
  exact ⟨h1, by show uv x ≤ 18446744073709551615; omega⟩
theorem cbV_inj {a b : Cb} (h : cbV a = cbV b) : a = b := by
  unfold cbV at h
  simp only [Value.agg.injEq, Array.mk.injEq, List.cons.injEq, Value.int.injEq, true_and, and_true] at h
  obtain ⟨h1, h2, h3, h4⟩ := h
  have uvi : ∀ {x y : BitVec 64}, uv x = uv y → x = y := fun {x y} e => by
    unfold uv at e
    exact BitVec.eq_of_toNat_eq (by omega)
  cases a; cases b
  simp only [Cb.mk.injEq]
  exact ⟨uvi h1, uvi h2, uvi h3, uvi h4⟩
end Go.Proofs.Hd
namespace Go.Proofs
open Go.RowKit Go.Proofs.Hd Go.Maps
theorem keyB_laid : laidOutB Try.prog = true := by kernel_rfl
theorem keyB_row : (43 : TypeId) < Try.prog.types.size := of_decide_eq_true (by kernel_rfl)
theorem keyB_type : Try.prog.keyType 43 = true := by kernel_rfl
theorem keyB_at : Try.prog.keyTypeAt 4 43 = true := by kernel_rfl
theorem keyB : Keyed Try.prog 43 := Keyed.of_law (deep_law_laid keyB_laid (m := 4) (by omega) keyB_row keyB_at (by kernel_rfl))
theorem kc1 : Try.prog.cellsOf 39 = 1 := by kernel_rfl
theorem kc2 : Try.prog.cellsOf 41 = 2 := by kernel_rfl
theorem kc4 : Try.prog.cellsOf 43 = 4 := by kernel_rfl
theorem kl1 (d : Nat) (x : BitVec 64) : Try.prog.keyLits (d + 1) 39 [.int .u64 (uv x)] = some [.int .u64 (uv x)] := by
  unfold Program.keyLits
  simp only [Try.underlying39]
  rw [if_pos ⟨trivial, uvK_wf x⟩]
theorem kl2 (d : Nat) (x y : BitVec 64) : Try.prog.keyLits (d + 1 + 1) 41 [.int .u64 (uv x), .int .u64 (uv y)] = some [.int .u64 (uv x), .int .u64 (uv y)] := by
  unfold Program.keyLits
  simp only [Try.underlying41, kc2]
  rw [if_pos ⟨rfl, by simp⟩]
  simp only [List.mapM_cons, List.mapM_nil, kc1]
  simp [kl1]
theorem kl4 (d : Nat) (x y z t : BitVec 64) : Try.prog.keyLits (d + 1 + 1 + 1) 43 [.int .u64 (uv x), .int .u64 (uv y), .int .u64 (uv z), .int .u64 (uv t)] = some [.int .u64 (uv x), .int .u64 (uv y), .int .u64 (uv z), .int .u64 (uv t)] := by
  unfold Program.keyLits
  simp only [Try.underlying43, kc4]
  rw [if_pos ⟨rfl, by simp⟩]
  simp only [List.mapM_cons, List.mapM_nil, kc2]
  simp [kl2]
theorem keyB_ok (c : Cb) : ∃ kl, keyOf Try.prog 43 (cbV c) = some kl := by
  have hs : Try.prog.types.size + 1 = (Try.prog.types.size - 2) + 1 + 1 + 1 := by
    have : 2 ≤ Try.prog.types.size := of_decide_eq_true (by kernel_rfl)
    omega
  unfold keyOf cbV
  simp only [Try.underlying43]
  rw [if_pos (by simp [keyB_type, Value.formed, Try.underlying43, kc4]), hs]
  simp only [Value.cells]
  rw [kl4]
  exact ⟨_, rfl⟩
end Go.Proofs
namespace Go.Proofs.Hd
open Go.RowKit Go.Maps
/-- What a cube reads as, as a key. -/
noncomputable def kyC (c : Cb) : Lit := (keyB_ok c).choose
theorem kyC_ok (c : Cb) : keyOf Try.prog 43 (cbV c) = some (kyC c) := (keyB_ok c).choose_spec
theorem kyC_ne {a b : Cb} (h : a ≠ b) : kyC a ≠ kyC b := fun e => h (cbV_inj (keyB.inj (kyC_ok a) (by rw [e]; exact kyC_ok b)))
/-- The block of a map. -/
def mBk : Value → Option Nat
  | .map b => b
  | _ => none
/-- v is a set of just the cubes of the list. -/
def StAt (w : World) (v : Value) (l : List Cb) : Prop :=
  (v = .map none ∧ l = []) ∨ ∃ M D, v = .map (some M) ∧ w.ownsMap Try.prog 43 (unitElem (H := Unit)) M l.length D ∧ ∀ c : Cb, Maps.has D (kyC c) = decide (c ∈ l)
theorem StAt.ch {Q : Nat → Prop} {w w' : World} {v : Value} {l : List Cb} (h : StAt w v l) (hc : Ch Q w w') (hn : ∀ M, mBk v = some M → ¬ Q M) : StAt w' v l := by
  rcases h with h | ⟨M, D, rfl, h1, h2⟩
  · exact .inl h
  · obtain ⟨es, clock, hb, r⟩ := h1
    exact .inr ⟨M, D, rfl, ⟨es, clock, (hc.block M (Array.getElem?_eq_some_iff.1 hb).1 (hn M rfl)).trans hb, r⟩, h2⟩
theorem StAt.lt {w : World} {v : Value} {l : List Cb} (h : StAt w v l) : ∀ M, mBk v = some M → M < w.heap.size := fun M hM => by
  rcases h with ⟨rfl, _⟩ | ⟨M', D, rfl, h1, _⟩
  · cases hM
  · have e : M' = M := by simpa [mBk] using hM
    subst e
    exact h1.lt
theorem StAt.form {w : World} {v : Value} {l : List Cb} (h : StAt w v l) : ∃ b, v = .map b := by
  rcases h with ⟨rfl, _⟩ | ⟨M', D, rfl, h1, _⟩
  · exact ⟨none, rfl⟩
  · exact ⟨some M', rfl⟩
theorem StAt.made (w : World) : StAt (w.alloc (.map #[] 0)) (.map (some w.heap.size)) [] := by
  refine .inr ⟨w.heap.size, .map [], rfl, World.ownsMap_made w _ _ _, fun c => ?_⟩
  simp [Maps.has]
end Go.Proofs.Hd
namespace Go.Proofs
open Go.RowKit Go.Proofs.Hd Go.Maps
theorem zeroUn (w : World) : (zeroValue 105).run Try.prog w = .ok (.agg #[]) w := Try.zeroValue105 w
theorem st_look {w : World} {v : Value} {l : List Cb} (c : Cb) (h : StAt w v l) : (Instr.lookup 70 v (cbV c) true).run Try.prog w = .ok (.tuple #[.agg #[], .bool (decide (c ∈ l))]) w := by
  rcases h with ⟨rfl, rfl⟩ | ⟨M, D, rfl, h1, h2⟩
  · have := Maps.look_nil true keyB Try.underlying70 (zeroUn w) (kyC_ok c)
    simpa using this
  · obtain ⟨u, ps, hr, hu⟩ := h1.look_ok keyB Try.underlying70 (zeroUn w) unitElem_mk (kyC_ok c)
    rw [hr, (unitElem_inv hu).1, h2]
theorem st_put {w : World} {M : Nat} {l : List Cb} {c : Cb} (h : StAt w (.map (some M)) l) (hm : c ∉ l) (hn : l.length < maxLen) :
    ∃ w', (Instr.mapUpdate 70 (.map (some M)) (cbV c) (.agg #[])).run Try.prog w = .ok () w' ∧ StAt w' (.map (some M)) (l ++ [c]) ∧ Ch (· = M) w w' := by
  rcases h with ⟨h, _⟩ | ⟨M', D, e, h1, h2⟩
  · cases h
  · injection e with e
    injection e with e
    subst e
    obtain ⟨w', hr, k1, k2⟩ := h1.update keyB Try.underlying70 hn (kyC_ok c) unitElem_mk
    have hk : WideAt.IsKeyLit (kyC c) := keyB.key (kyC_ok c)
    refine ⟨w', hr, .inr ⟨M, D.put (kyC c) (.agg []), rfl, ?_, fun y => ?_⟩, ⟨k2.os, k2.tape, k2.output, k2.size, fun k hk hn => k2.block k hk (fun e => hn (by injection e))⟩⟩
    · rw [List.length_append]; exact k1
    · by_cases e : y = c
      · subst e
        rw [has_put_same h1.isMap hk]
        simp
      · rw [has_put_other (kyC_ne e), h2]
        simp [e]
end Go.Proofs

namespace Go.Proofs.Hd
open Go.RowKit
/-- A row that lay at o has grown and lies at o' now: nothing else has changed. -/
def Grw (w w' : World) (o o' : Option Nat) : Prop := w.grownBy w' o ∧ (o' = o ∨ ∃ k, o' = some k ∧ w.heap.size ≤ k)
theorem Grw.refl (w : World) (o : Option Nat) : Grw w w o o := ⟨World.grownBy.refl w o, .inl rfl⟩
section
variable {P : Program} (w : World)
theorem run_app2 (base : Nat) (t ty e : TypeId) (i : TypeInfo) (z : Value) (size bytes : Nat) (ht : P.underlying t = some (.slice e)) (hi : P.info? e = some i) (hz : i.zero = some z)
    (hsize : i.size = size) (hby : i.bytes = bytes) (hzs : z.cells.size = size) (hsz : 0 < size) (v : Value) (n : Nat) (xs : List Value) (hown : w.ownsRow base e size v n xs)
    (x : Value) (m : Nat) (news : List Value) (hx : Src w size x m news) (h63 : n + m ≤ maxLen) (hbytes : (n + m) * bytes ≤ 140737488355328) (hbase : base ≤ w.heap.size) :
    ∃ v' w', (Builtin.append_ #[t, t] ty #[v, x]).run P w = .ok v' w' ∧ w'.ownsRow base e size v' (n + m) (xs ++ news) ∧ Grw w w' v.ownBlock v'.ownBlock := by
  obtain ⟨hl, h1, ⟨rfl, c, rfl⟩ | ⟨ad, c, rfl, hc⟩⟩ := hx
  · obtain rfl : news = [] := List.eq_nil_of_length_eq_zero (by simpa using hl)
    refine ⟨v, w, ?_, by simpa using hown, Grw.refl w _⟩
    rcases hown.2 with ⟨rfl, rfl⟩ | ⟨g, cap, cur, rfl, _, _, hnc, _⟩
    · simp [Builtin.append_, run_underlying ht, sizeOf, typeInfo, hi, Builtin.lenOf, Builtin.firstCells]
    · simp [Builtin.append_, run_underlying ht, sizeOf, typeInfo, hi, Builtin.lenOf, Builtin.firstCells, hnc, storeCells]
  · obtain ⟨v', w', hr, h2, h3, _, h5⟩ := run_append_own_at (P := P) w base t ty e i z size bytes ht hi hz hsize hby hzs hsz v n xs hown ad m c news hl hc h1 h63 hbytes hbase
    exact ⟨v', w', hr, h2, h3, h5.imp id fun h => ⟨_, h, Nat.le_refl _⟩⟩
end
end Go.Proofs.Hd

namespace Go.Proofs.Hd
open Go.RowKit
/-- How many bits a cube cares for. -/
def Cb.size (c : Cb) : Nat := cnt c.K 128
end Go.Proofs.Hd

namespace Go.Proofs.Hd
open Go.RowKit
/-- The four words of a cube lie in block b from place o on. -/
def At4 (w : World) (b o : Nat) (c : Cb) : Prop := w.cell? ⟨b, o, none⟩ = some (.int .u64 (uv c.vh)) ∧ w.cell? ⟨b, o + 1, none⟩ = some (.int .u64 (uv c.vl)) ∧ w.cell? ⟨b, o + 2, none⟩ = some (.int .u64 (uv c.ch)) ∧ w.cell? ⟨b, o + 3, none⟩ = some (.int .u64 (uv c.cl))
theorem At4.on {w w' : World} {b o : Nat} {c : Cb} (h : At4 w b o c) (hb : Below w.heap.size w w') : At4 w' b o c := ⟨on_some hb h.1, on_some hb h.2.1, on_some hb h.2.2.1, on_some hb h.2.2.2⟩
/-- v is a slice that reads as the cubes L. -/
def Pl (w : World) (v : Value) (L : List Cb) : Prop := (L = [] ∧ ∃ A cap, v = .slice A 0 cap) ∨ ∃ b off cap, v = .slice (some ⟨b, off, none⟩) L.length cap ∧ L.length ≤ maxLen ∧ b < w.heap.size ∧ ∀ k c, L[k]? = some c → At4 w b (off + k * 4) c
theorem Pl.on {w w' : World} {v : Value} {L : List Cb} (h : Pl w v L) (hb : Below w.heap.size w w') : Pl w' v L := by
  rcases h with h | ⟨b, off, cap, e, hl, hs, h⟩
  · exact .inl h
  · exact .inr ⟨b, off, cap, e, hl, Nat.lt_of_lt_of_le hs hb.size, fun k c hk => (h k c hk).on hb⟩
end Go.Proofs.Hd
namespace Go.Proofs
open Go.RowKit Go.Proofs.Hd Go.Shelf Go.Lib
attribute [local go_sem] uv_nonneg
end Go.Proofs

namespace Go.Proofs.Hd
open Go.RowKit
theorem flat_one (L : List Cb) : ∀ u ∈ flat L, u.oneCell' = true := by
  induction L with
  | nil => intro u hu; simp [flat] at hu
  | cons c L ih =>
    intro u hu
    have : u ∈ c.cells ++ flat L := by simpa [flat] using hu
    rcases List.mem_append.1 this with h | h
    · simp only [Cb.cells, List.mem_cons, List.not_mem_nil, or_false] at h
      rcases h with rfl | rfl | rfl | rfl <;> rfl
    · exact ih u h
theorem Pl.src {w : World} {v : Value} {L : List Cb} (h : Pl w v L) : Src w 4 v L.length (flat L) := by
  refine ⟨flat_len L, flat_one L, ?_⟩
  rcases h with ⟨rfl, A, cap, rfl⟩ | ⟨b, off, cap, rfl, hlen, hb, hc⟩
  · cases A with
    | none => exact .inl ⟨rfl, cap, rfl⟩
    | some ad => exact .inr ⟨ad, cap, rfl, fun j u hu => by simp [flat] at hu⟩
  · refine .inr ⟨_, cap, rfl, fun j u hu => ?_⟩
    have hj : j < L.length * 4 := by rw [← flat_len]; exact (List.getElem?_eq_some_iff.1 hu).1
    have hk : j / 4 < L.length := by omega
    have hg := flat_get L (j / 4) hk (j % 4) (Nat.mod_lt _ (by omega))
    rw [show j / 4 * 4 + j % 4 = j by omega, hu] at hg
    have h4 := hc (j / 4) _ (List.getElem?_eq_getElem hk)
    have e : (⟨b, off, none⟩ : Addr).add j = ⟨b, off + j / 4 * 4 + j % 4, none⟩ := by
      unfold Addr.add
      by_cases h0 : j = 0
      · subst h0; rfl
      · rw [if_neg h0]; simp; omega
    rw [e]
    obtain ⟨h0, h1, h2, h3⟩ := h4
    have hm : j % 4 = 0 ∨ j % 4 = 1 ∨ j % 4 = 2 ∨ j % 4 = 3 := by omega
    rcases hm with hm | hm | hm | hm <;> rw [hm] at hg ⊢
    · rw [Nat.add_zero, h0]; exact hg.symm
    · rw [h1]; exact hg.symm
    · rw [h2]; exact hg.symm
    · rw [h3]; exact hg.symm
theorem Pl.form {w : World} {v : Value} {L : List Cb} (h : Pl w v L) : ∃ A cap, v = .slice A L.length cap ∧ L.length ≤ maxLen ∧ (L ≠ [] → ∃ b off, A = some ⟨b, off, none⟩ ∧ b < w.heap.size ∧ ∀ (k : Nat) (c : Cb), L[k]? = some c → At4 w b (off + k * 4) c) := by
  rcases h with ⟨rfl, A, cap, rfl⟩ | ⟨b, off, cap, rfl, hlen, hb, hc⟩
  · exact ⟨A, cap, rfl, by simp [maxLen], fun h => absurd rfl h⟩
  · exact ⟨_, cap, rfl, hlen, fun _ => ⟨b, off, rfl, hb, hc⟩⟩
theorem Pl.take {w : World} {A : Option Addr} {cap : Nat} {L : List Cb} (h : Pl w (.slice A L.length cap) L) (n : Nat) : Pl w (.slice A (L.take n).length cap) (L.take n) := by
  rcases h with ⟨rfl, B, cap', e⟩ | ⟨b, off, cap', e, hlen, hb, hc⟩
  · exact .inl ⟨by simp, A, cap, by simp⟩
  · injection e with e1 e2 e3
    subst e1 e3
    refine .inr ⟨b, off, cap, rfl, Nat.le_trans (by simp; omega) hlen, hb, fun k c hk => hc k c ?_⟩
    have hkn := (List.getElem?_eq_some_iff.1 hk).1
    rw [List.getElem?_take_of_lt (by simp at hkn; omega)] at hk
    exact hk
theorem own_Pl {w : World} {base : Nat} {v : Value} {L : List Cb} (h : w.ownsRow base 43 4 v L.length (flat L)) : Pl w v L := by
  rcases h.2 with ⟨rfl, h0⟩ | ⟨g, cap, cur, hv, hge, hheap, hlc, hcm, _⟩
  · exact .inl ⟨List.eq_nil_of_length_eq_zero h0, _, _, rfl⟩
  · subst hv
    refine .inr ⟨g, 0, cap, rfl, Nat.le_trans hlc hcm, (h.lt g rfl).2, fun k c hc => ?_⟩
    rw [Nat.zero_add]
    exact ⟨own_at h k hc 0 (by omega), own_at h k hc 1 (by omega), own_at h k hc 2 (by omega), own_at h k hc 3 (by omega)⟩
end Go.Proofs.Hd
