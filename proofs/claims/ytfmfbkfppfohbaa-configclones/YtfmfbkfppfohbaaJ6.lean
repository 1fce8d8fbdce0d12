/-
  How a topology and a spot handed in by value read. No conditions.
  Policies in memory; contracts of the reference's tenant and Allowed of layer 8. Conditions as each theorem lists them.
  Contract of the reference's Edge of layer 7. Conditions as the theorem lists them.
  The contract of the reference's Edges of layer 7. Conditions as the theorem lists them.
  Contract of the reference's Policy of layer 8. Conditions as the theorem lists them.
-/
import Derived.Test.YtfmfbkfppfohbaaJ5
import Derived.Deep.Slices
import Derived.Deep.Strs
import Derived.Deep.RegionHeld3
import Derived.Deep.DeepCutAuto
import Derived.Deep.Light
namespace Go.Proofs.Ytfmfbkfppfohbaa
open Go.ChangeShapes Go.WideShapes Go.ChangeAt Go.RowKit Go.Joins Go.Deep Go.Proofs.Hd
theorem cellsPt : Try.prog.cellsOf 65 = 5 := by kernel_rfl
theorem cellsPts : Try.prog.cellsOf 63 = 1 := by kernel_rfl
theorem cellsPtt : Try.prog.cellsOf 22 = 1 := by kernel_rfl
theorem cellsTopo : Try.prog.cellsOf 24 = 1 := by kernel_rfl
theorem cellsSpot : Try.prog.cellsOf 41 = 2 := by kernel_rfl
theorem cellsI : Try.prog.cellsOf 3 = 1 := by kernel_rfl
theorem add_plainW (b o n : Nat) : (⟨b, o, none⟩ : Addr).add n = ⟨b, o + n, none⟩ := by unfold Addr.add; by_cases hn : n = 0 <;> simp [hn]
instance : Inhabited Pt := ⟨⟨0, 0, 0, 0, 0⟩⟩
section
variable {H : Type} {enc : TypeId × Value → H} {W : World} {base : Nat} {sp : Nat → Bool}
theorem int_of {n : Nat} {c : Value} {y : DataW H × List MemPlace} (h : DataW.trod enc Try.prog W base sp true n 3 [c] = some y) : ∃ k : Int, c = .int .i64 k := by
  obtain ⟨k, e0, _, _⟩ := DataW.trod_int Try.underlying3 h
  simp at e0
  exact ⟨k, e0⟩
set_option maxRecDepth 100000 in
theorem read_pt {n : Nat} {cs : List Value} {y : DataW H × List MemPlace} (hl : cs.length = 5) (h0 : DataW.trod enc Try.prog W base sp true n 65 cs = some y) : ∃ p : Pt, cs = p.cs := by
  obtain ⟨xs, m, _, _, _, hxs, hf⟩ := DataW.trod_struct Try.underlying65 h0
  have hx5 : xs.length = 5 := hxs
  match cs, hl with
  | [c0, c1, c2, c3, c4], _ =>
    match xs, hx5 with
    | [x0, x1, x2, x3, x4], _ =>
      have q0 := hf 0 _ rfl
      have q1 := hf 1 _ rfl
      have q2 := hf 2 _ rfl
      have q3 := hf 3 _ rfl
      have q4 := hf 4 _ rfl
      simp [cellsI] at q0 q1 q2 q3 q4
      obtain ⟨k0, rfl⟩ := int_of q0
      obtain ⟨k1, rfl⟩ := int_of q1
      obtain ⟨k2, rfl⟩ := int_of q2
      obtain ⟨k3, rfl⟩ := int_of q3
      obtain ⟨k4, rfl⟩ := int_of q4
      exact ⟨⟨k0, k1, k2, k3, k4⟩, rfl⟩
end
/-- How many values a datum of ports has. -/
def wide {H : Type} (d : DataW H) (n : Nat) : Prop := n = 0 ∨ ∃ el sp, d = .slice el sp ∧ el.length = n
set_option maxRecDepth 100000 in
/-- A slice of ports that lies in memory. -/
theorem read_pts {H : Type} {enc : TypeId × Value → H} {W : World} {n : Nat} {cs : List Value} {y : DataW H × List MemPlace} (hf : DataW.trod enc Try.prog W 0 (fun _ => true) true n 63 cs = some y) :
    ∃ (A : Option Addr) (cap : Nat) (L : List Pt), cs = [.slice A L.length cap] ∧ Ps W (.slice A L.length cap) L ∧ wide y.1 L.length := by
  rcases open_slice Try.underlying63 hf with ⟨h1, _⟩ | ⟨a, len, cap, m, n, D, Pl, hcs, _, hlc, hcm, hm, hx, hel⟩
  · exact ⟨none, 0, [], h1, ⟨none, 0, rfl, Nat.zero_le _, fun h => absurd rfl h⟩, .inl rfl⟩
  · rw [cellsPt] at hel
    have hm' : m = cap := by simpa using hm
    subst hm'
    obtain ⟨f, hfr⟩ := choose_lt (α := Pt) (p := fun i r => ∀ (j : Nat) (u : Value), r.cs[j]? = some u → W.cell? ((a.add (i * 5)).add j) = some u) (fun i (hi : i < m) => by
      obtain ⟨cs', hc, ht⟩ := hel i hi
      obtain ⟨_, hl, hat⟩ := World.cells?_some hc
      obtain ⟨r, rfl⟩ := read_pt hl ht
      refine ⟨r, fun j u hj => ?_⟩
      have hj' : j < 5 := by have := (List.getElem?_eq_some_iff.1 hj).1; rwa [Pt.cs_len] at this
      exact (hat j hj').trans hj)
    have hlen : ((List.range len).map f).length = len := by simp
    have hd := congrArg Prod.fst hx
    refine ⟨some a, m, (List.range len).map f, by rw [hlen]; exact hcs, ⟨some a, m, rfl, by rw [hlen]; exact Nat.le_trans hlc hcm, fun hne => ?_⟩, .inr ⟨_, _, hd, by simp⟩⟩
    have h0 : 0 < len := by
      rcases Nat.eq_zero_or_pos len with h | h
      · subst h; exact absurd (by simp) hne
      · exact h
    have h1 := hfr 0 (by omega) 0 _ rfl
    obtain ⟨b, off, spot⟩ := a
    have hs : spot = none := by
      have := World.cell?_spot h1
      simpa [Addr.add] using this
    subst hs
    have hlt := World.block_lt_of_cell? W _ h1
    rw [add_plainW, add_plainW] at hlt
    refine ⟨b, off, rfl, hlt, fun k r hk => ?_⟩
    obtain ⟨hkl, rfl⟩ := List.getElem?_eq_some_iff.1 hk
    simp only [List.length_map, List.length_range] at hkl
    simp only [List.getElem_map, List.getElem_range]
    have key : ∀ j u, (f k).cs[j]? = some u → W.cell? ⟨b, off + k * 5 + j, none⟩ = some u := fun j u hj => by
      have := hfr k (by omega) j u hj
      rw [add_plainW, add_plainW] at this
      exact this
    exact ⟨key 0 _ rfl, key 1 _ rfl, key 2 _ rfl, key 3 _ rfl, key 4 _ rfl⟩
set_option maxRecDepth 100000 in
/-- A topology by value. -/
theorem open_topo {H : Type} {enc : TypeId × Value → H} {W : World} {base : Nat} {v : Value} {d : DataW H} {p : List MemPlace} (hok : Value.okWide Try.prog W .any base 24 v)
    (h0 : DataW.Trod enc Try.prog W 0 (fun _ => true) true 24 v d p) : ∃ (tv : Value) (T : List (List Pt)), v = .agg #[tv] ∧ PsT W tv T ∧ ∃ dp : DataW H, d = .agg [dp] ∧ (T = [] ∨ ∃ el sp, dp = .slice el sp ∧ el.length = T.length ∧ ∀ (k : Nat) (L : List Pt), T[k]? = some L → ∃ e, el[k]? = some e ∧ wide e L.length) := by
  obtain ⟨cs, rfl, hsz⟩ := okWide_struct Try.underlying24 hok
  obtain ⟨fuel, hf0⟩ := h0
  have hf : DataW.trod enc Try.prog W 0 (fun _ => true) true fuel 24 cs.toList = some (d, p) := by simpa [Value.cells] using hf0
  obtain ⟨xs, m0, _, hd0, _, hxs, hff⟩ := DataW.trod_struct Try.underlying24 hf
  have hx1 : xs.length = 1 := hxs
  have hc1 : cs.toList.length = 1 := by simpa using hsz.trans cellsTopo
  match xs, hx1 with
  | [x0], _ =>
    have hd : d = .agg [x0.1] := congrArg Prod.fst hd0
    have q0 := hff 0 _ rfl
    obtain ⟨c0, hcs0⟩ : ∃ c0, cs.toList = [c0] := List.length_eq_one_iff.1 hc1
    rw [hcs0] at q0
    simp [cellsPtt] at q0
    have hv : Value.agg cs = .agg #[c0] := by
      congr 1
      apply Array.toList_inj.1
      rw [hcs0]
    rcases open_slice Try.underlying22 q0 with ⟨h1, _⟩ | ⟨a, len, cap, m, n, D, Pl, hcs, _, hlc, hcm, hm, hx, hel⟩
    · injection h1 with h1
      subst h1
      exact ⟨_, [], hv, ⟨none, 0, rfl, Nat.zero_le _, fun h => absurd rfl h⟩, _, hd, .inl rfl⟩
    · injection hcs with hcs
      subst hcs
      rw [cellsPts] at hel
      have hm' : m = cap := by simpa using hm
      subst hm'
      obtain ⟨f, hfr⟩ := choose_lt (α := List Pt) (p := fun i L => (∃ s, W.cell? ((a.add (i * 1)).add 0) = some s ∧ Ps W s L) ∧ wide (D i) L.length) (fun i (hi : i < m) => by
        obtain ⟨cs', hc, ht⟩ := hel i hi
        obtain ⟨_, hl, hat⟩ := World.cells?_some hc
        obtain ⟨A, cap, L, rfl, hr, hw⟩ := read_pts ht
        exact ⟨L, ⟨_, hat 0 (by omega), hr⟩, hw⟩)
      have hlen : ((List.range len).map f).length = len := by simp
      have hd2 := congrArg Prod.fst hx
      refine ⟨_, (List.range len).map f, hv, ⟨some a, m, by rw [hlen], by rw [hlen]; exact Nat.le_trans hlc hcm, fun hne => ?_⟩, _, hd, .inr ⟨_, _, hd2, by simp, fun k L hk => ?_⟩⟩
      · have h0 : 0 < len := by
          rcases Nat.eq_zero_or_pos len with h | h
          · subst h; exact absurd (by simp) hne
          · exact h
        obtain ⟨⟨s, h1, _⟩, _⟩ := hfr 0 (by omega)
        obtain ⟨b, off, spot⟩ := a
        have hs : spot = none := by
          have := World.cell?_spot h1
          simpa [Addr.add] using this
        subst hs
        have hlt := World.block_lt_of_cell? W _ h1
        rw [add_plainW, add_plainW] at hlt
        refine ⟨b, off, rfl, hlt, fun k L hk => ?_⟩
        obtain ⟨hkl, rfl⟩ := List.getElem?_eq_some_iff.1 hk
        simp only [List.length_map, List.length_range] at hkl
        simp only [List.getElem_map, List.getElem_range]
        obtain ⟨⟨s, h2, h3⟩, _⟩ := hfr k (by omega)
        rw [add_plainW, add_plainW, Nat.add_zero, Nat.mul_one] at h2
        exact ⟨s, h2, h3⟩
      · obtain ⟨hkl, rfl⟩ := List.getElem?_eq_some_iff.1 hk
        simp only [List.length_map, List.length_range] at hkl
        simp only [List.getElem_map, List.getElem_range]
        exact ⟨D k, by simp [hkl], (hfr k (by omega)).2⟩
set_option maxRecDepth 100000 in
/-- A spot by value. -/
theorem open_spot {H : Type} {enc : TypeId × Value → H} {W : World} {base : Nat} {v : Value} {d : DataW H} {p : List MemPlace} (hok : Value.okWide Try.prog W .any base 41 v)
    (h0 : DataW.Trod enc Try.prog W 0 (fun _ => true) true 41 v d p) : ∃ a b : Int, v = .agg #[.int .i64 a, .int .i64 b] := by
  obtain ⟨c0, c1, y0, y1, m, rfl, rfl, rfl, hy0, hy1⟩ := open_agg2 Try.underlying41 (by kernel_rfl) cellsSpot hok h0
  obtain ⟨a, rfl⟩ := int_of hy0
  obtain ⟨b, rfl⟩ := int_of hy1
  exact ⟨a, b, rfl⟩
end Go.Proofs.Ytfmfbkfppfohbaa

namespace Go.Proofs.Hd
open Go.RowKit
/-- v is a slice that reads as the pairs P. -/
def Pe (w : World) (v : Value) (P : List (Int × Int)) : Prop := ∃ A cap, v = .slice A P.length cap ∧ P.length ≤ maxLen ∧ (P ≠ [] → ∃ b o, A = some ⟨b, o, none⟩ ∧ b < w.heap.size ∧ ∀ (k : Nat) (x : Int × Int), P[k]? = some x → w.cell? ⟨b, o + k * 2, none⟩ = some (.int .i64 x.1) ∧ w.cell? ⟨b, o + k * 2 + 1, none⟩ = some (.int .i64 x.2))
theorem Pe.on {w w' : World} {v : Value} {P : List (Int × Int)} (h : Pe w v P) (hb : Below w.heap.size w w') : Pe w' v P := by
  obtain ⟨A, cap, e, hl, h⟩ := h
  refine ⟨A, cap, e, hl, fun hne => ?_⟩
  obtain ⟨b, o, e2, hlt, hc⟩ := h hne
  exact ⟨b, o, e2, Nat.lt_of_lt_of_le hlt hb.size, fun k x hk => ⟨on_some hb (hc k x hk).1, on_some hb (hc k x hk).2⟩⟩
/-- A way that packets must take. -/
structure Wa where
  frm : Int
  too : Int
  via : Int
/-- v is a slice that reads as the ways Q. -/
def Wy (w : World) (v : Value) (Q : List Wa) : Prop := ∃ A cap, v = .slice A Q.length cap ∧ Q.length ≤ maxLen ∧ (Q ≠ [] → ∃ b o, A = some ⟨b, o, none⟩ ∧ b < w.heap.size ∧ ∀ (k : Nat) (x : Wa), Q[k]? = some x → w.cell? ⟨b, o + k * 3, none⟩ = some (.int .i64 x.frm) ∧ w.cell? ⟨b, o + k * 3 + 1, none⟩ = some (.int .i64 x.too) ∧ w.cell? ⟨b, o + k * 3 + 2, none⟩ = some (.int .i64 x.via))
theorem Wy.on {w w' : World} {v : Value} {Q : List Wa} (h : Wy w v Q) (hb : Below w.heap.size w w') : Wy w' v Q := by
  obtain ⟨A, cap, e, hl, h⟩ := h
  refine ⟨A, cap, e, hl, fun hne => ?_⟩
  obtain ⟨b, o, e2, hlt, hc⟩ := h hne
  exact ⟨b, o, e2, Nat.lt_of_lt_of_le hlt hb.size, fun k x hk => ⟨on_some hb (hc k x hk).1, on_some hb (hc k x hk).2.1, on_some hb (hc k x hk).2.2⟩⟩
theorem Blk.three {w : World} {g : Nat} {t : TypeId} {x0 x1 x2 : Value} (h : Blk w g t #[x0, x1, x2]) : w.cell? ⟨g, 0, none⟩ = some x0 ∧ w.cell? ⟨g, 1, none⟩ = some x1 ∧ w.cell? ⟨g, 2, none⟩ = some x2 := ⟨(h.cell 0).trans rfl, (h.cell 1).trans rfl, (h.cell 2).trans rfl⟩
/-- Does a pair join a and b? -/
def joinsB (a b : Int) (x : Int × Int) : Bool := ((x.1 == a) && (x.2 == b)) || ((x.1 == b) && (x.2 == a))
/-- May a reach b? -/
def alwB (ten : Int) (P : List (Int × Int)) (a b : Int) : Bool := inB a ten && inB b ten && ((a == b) || P.any (joinsB a b))
/-- What a scan over the first k pairs knows. -/
def alwK (P : List (Int × Int)) (a b : Int) (k : Nat) : Bool := (a == b) || (P.take k).any (joinsB a b)
theorem alwK_succ {P : List (Int × Int)} {a b : Int} {k : Nat} {x : Int × Int} (h : P[k]? = some x) : alwK P a b (k + 1) = (alwK P a b k || joinsB a b x) := by
  unfold alwK
  rw [List.take_add_one, h, List.any_append, ← Bool.or_assoc]
  simp
theorem alwK_all (P : List (Int × Int)) (a b : Int) : alwK P a b P.length = ((a == b) || P.any (joinsB a b)) := by unfold alwK; rw [List.take_length]
end Go.Proofs.Hd
namespace Go.Proofs
open Go.RowKit Go.Proofs.Hd Go.Lib
theorem rtenant_c (x : Bool) (ten n : Int) (pv wv : Value) (w : World) (hx : inB n ten = x) : Calls Try.prog 34 #[.agg #[.int .i64 ten, pv, wv], .int .i64 n] w fun e w' => e = .returned (.bool x) ∧ Below w.heap.size w w' := by
  have B0 := below1 w (.cells #[.int .i64 ten, pv, wv] 28)
  unfold inB at hx
  by_cases h0 : 0 ≤ n
  · by_cases h1 : n < ten
    · rw [decide_eq_true h0, decide_eq_true h1] at hx
      subst hx
      go_enter Try.func34, Try.ntmps34
      go_wp2
      go_ret
      exact ⟨rfl, B0⟩
    · rw [decide_eq_true h0, decide_eq_false h1] at hx
      subst hx
      go_enter Try.func34, Try.ntmps34
      go_wp2
      go_ret
      exact ⟨rfl, B0⟩
  · rw [decide_eq_false h0] at hx
    subst hx
    go_enter Try.func34, Try.ntmps34
    go_wp2
    go_ret
    exact ⟨rfl, B0⟩
set_option maxRecDepth 100000 in
set_option maxHeartbeats 2000000 in
theorem rallow_c (x : Bool) (ten : Int) (pv : Value) (wA : Option Addr) (wn wc : Nat) (P : List (Int × Int)) (a b : Int) (w : World) (hP : Pe w pv P) (hx : alwB ten P a b = x) : Calls Try.prog 14 #[.agg #[.int .i64 ten, pv, .slice wA wn wc], .int .i64 a, .int .i64 b] w fun e w' => e = .returned (.bool x) ∧ Below w.heap.size w w' := by
  obtain ⟨A, cap, rfl, hpm, hA⟩ := hP
  have hpz : (P.length : Int) ≤ 9223372036854775807 := by unfold maxLen at hpm; omega
  have B0 := below1 w (.cells #[.int .i64 ten, .slice A P.length cap, .slice wA wn wc] 28)
  have N0 : Hid (Blk (w.alloc (.cells #[.int .i64 ten, .slice A P.length cap, .slice wA wn wc] 28)) w.heap.size 28 #[.int .i64 ten, .slice A P.length cap, .slice wA wn wc]) := Blk.new w _ _
  have HA := Lib.hid hA
  have HX := Lib.hid hx
  clear hA hx
  cases h1 : inB a ten with
  | false =>
    have HE : Hid (x = false) := by show _ = _; rw [← HX.out]; simp [alwB, h1]
    go_enter Try.func14, Try.ntmps14
    go_wp2_with fail
    (with_reducible refine (rtenant_c false ten a _ _ _ h1).mono ?_)
    rintro e w1 ⟨rfl, hb1⟩
    have HB1 := Lib.hid (B0.trans (hb1.mono B0.size))
    clear hb1 B0 N0
    go_wp2
    go_ret
    exact ⟨by rw [HE.out]; rfl, HB1.out⟩
  | true =>
    cases h2 : inB b ten with
    | false =>
      have HE : Hid (x = false) := by show _ = _; rw [← HX.out]; simp [alwB, h2]
      go_enter Try.func14, Try.ntmps14
      go_wp2_with fail
      (with_reducible refine (rtenant_c true ten a _ _ _ h1).mono ?_)
      rintro e w1 ⟨rfl, hb1⟩
      have HB1 := Lib.hid (B0.trans (hb1.mono B0.size))
      obtain ⟨d0, d1, d2⟩ := (N0.out.on hb1).three
      clear hb1 B0 N0
      go_wp2_with fail
      (with_reducible refine (rtenant_c false ten b _ _ _ h2).mono ?_)
      rintro e w2 ⟨rfl, hb2⟩
      have HB2 := Lib.hid (HB1.out.trans (hb2.mono HB1.out.size))
      clear hb2 HB1 d0 d1 d2
      go_wp2
      go_ret
      exact ⟨by rw [HE.out]; rfl, HB2.out⟩
    | true =>
      have HE : Hid (alwK P a b P.length = x) := by show _ = _; rw [alwK_all, ← HX.out]; simp [alwB, h1, h2]
      go_enter Try.func14, Try.ntmps14
      go_wp2_with fail
      (with_reducible refine (rtenant_c true ten a _ _ _ h1).mono ?_)
      rintro e w1 ⟨rfl, hb1⟩
      have HB1 := Lib.hid (B0.trans (hb1.mono B0.size))
      have N1 := Lib.hid (N0.out.on hb1)
      obtain ⟨d0, d1, d2⟩ := N1.out.three
      clear hb1 B0 N0
      go_wp2_with fail
      (with_reducible refine (rtenant_c true ten b _ _ _ h2).mono ?_)
      rintro e w2 ⟨rfl, hb2⟩
      have HB2 := Lib.hid (HB1.out.trans (hb2.mono HB1.out.size))
      have N2 := Lib.hid (N1.out.on hb2)
      clear hb2 HB1 d0 d1 d2 N1 HX
      have K0 : Hid (alwK P a b 0 = (a == b)) := by show _ = _; simp [alwK]
      go_wp2
      go_loopg [7, 8, 9, 10] P.length (fun gk s7 s8 _ _ wr => ∃ (k : Nat), k ≤ P.length ∧ gk = P.length - k ∧ s8 = .int .i64 k ∧ s7 = .bool (alwK P a b k) ∧ Hid (Blk wr w.heap.size 28 #[.int .i64 ten, .slice A P.length cap, .slice wA wn wc]) ∧ Hid (Below w.heap.size w wr))
      case atStart => exact ⟨0, Nat.zero_le _, rfl, rfl, by rw [K0.out], N2, HB2⟩
      case round =>
        clear N2 HB2 K0
        obtain ⟨k, hk, rfl, rfl, rfl, N3, HB3⟩ := hrel
        obtain ⟨d0, d1, d2⟩ := N3.out.three
        by_cases hlt : k < P.length
        · have hltz : (k : Int) < (P.length : Int) := by omega
          obtain ⟨y, hy⟩ : ∃ y, P[k]? = some y := ⟨_, List.getElem?_eq_getElem hlt⟩
          obtain ⟨pb, po, rfl, _, hc⟩ := HA.out (by rintro rfl; simp at hlt)
          have y0 := on_some HB3.out (hc k y hy).1
          have y1 := on_some HB3.out (hc k y hy).2
          have HS := Lib.hid (alwK_succ (a := a) (b := b) hy)
          obtain ⟨y1', y2'⟩ := y
          simp only at y0 y1
          obtain ⟨ok, hok⟩ : ∃ ok, alwK P a b k = ok := ⟨_, rfl⟩
          rw [hok] at HS ⊢
          have HO := Lib.hid hok
          clear hc hy hok
          go_wp2_with fail
          go_quiet (fail)
          have HB4 := Lib.hid (bldrewN HB3.out nq)
          have N4 := Lib.hid (N3.out.drewN nq)
          clear HB3 N3 y0 y1 d0 d1 d2
          generalize wr.drewN nq = w4 at HB4 N4 ⊢
          cases ok with
          | true =>
            cases e0 : y1' == a with
            | true =>
              cases e1 : y2' == b with
              | true =>
                cases e2 : y1' == b with
                | true =>
                  cases e3 : y2' == a with
                  | true =>
                    have HV : Hid (alwK P a b (k + 1) = true) := by show _ = _; rw [HS.out]; unfold joinsB; dsimp only; rw [e0, e1, e2, e3]; rfl
                    clear HS HO
                    go_wp2
                    go_roundg (P.length - (k + 1))
                    case measure => omega
                    case rel => exact ⟨k + 1, by omega, rfl, by go_num, by rw [HV.out], N4, HB4⟩
                  | false =>
                    have HV : Hid (alwK P a b (k + 1) = true) := by show _ = _; rw [HS.out]; unfold joinsB; dsimp only; rw [e0, e1, e2, e3]; rfl
                    clear HS HO
                    go_wp2
                    go_roundg (P.length - (k + 1))
                    case measure => omega
                    case rel => exact ⟨k + 1, by omega, rfl, by go_num, by rw [HV.out], N4, HB4⟩
                | false =>
                  cases e3 : y2' == a with
                  | true =>
                    have HV : Hid (alwK P a b (k + 1) = true) := by show _ = _; rw [HS.out]; unfold joinsB; dsimp only; rw [e0, e1, e2, e3]; rfl
                    clear HS HO
                    go_wp2
                    go_roundg (P.length - (k + 1))
                    case measure => omega
                    case rel => exact ⟨k + 1, by omega, rfl, by go_num, by rw [HV.out], N4, HB4⟩
                  | false =>
                    have HV : Hid (alwK P a b (k + 1) = true) := by show _ = _; rw [HS.out]; unfold joinsB; dsimp only; rw [e0, e1, e2, e3]; rfl
                    clear HS HO
                    go_wp2
                    go_roundg (P.length - (k + 1))
                    case measure => omega
                    case rel => exact ⟨k + 1, by omega, rfl, by go_num, by rw [HV.out], N4, HB4⟩
              | false =>
                cases e2 : y1' == b with
                | true =>
                  cases e3 : y2' == a with
                  | true =>
                    have HV : Hid (alwK P a b (k + 1) = true) := by show _ = _; rw [HS.out]; unfold joinsB; dsimp only; rw [e0, e1, e2, e3]; rfl
                    clear HS HO
                    go_wp2
                    go_roundg (P.length - (k + 1))
                    case measure => omega
                    case rel => exact ⟨k + 1, by omega, rfl, by go_num, by rw [HV.out], N4, HB4⟩
                  | false =>
                    have HV : Hid (alwK P a b (k + 1) = true) := by show _ = _; rw [HS.out]; unfold joinsB; dsimp only; rw [e0, e1, e2, e3]; rfl
                    clear HS HO
                    go_wp2
                    go_roundg (P.length - (k + 1))
                    case measure => omega
                    case rel => exact ⟨k + 1, by omega, rfl, by go_num, by rw [HV.out], N4, HB4⟩
                | false =>
                  cases e3 : y2' == a with
                  | true =>
                    have HV : Hid (alwK P a b (k + 1) = true) := by show _ = _; rw [HS.out]; unfold joinsB; dsimp only; rw [e0, e1, e2, e3]; rfl
                    clear HS HO
                    go_wp2
                    go_roundg (P.length - (k + 1))
                    case measure => omega
                    case rel => exact ⟨k + 1, by omega, rfl, by go_num, by rw [HV.out], N4, HB4⟩
                  | false =>
                    have HV : Hid (alwK P a b (k + 1) = true) := by show _ = _; rw [HS.out]; unfold joinsB; dsimp only; rw [e0, e1, e2, e3]; rfl
                    clear HS HO
                    go_wp2
                    go_roundg (P.length - (k + 1))
                    case measure => omega
                    case rel => exact ⟨k + 1, by omega, rfl, by go_num, by rw [HV.out], N4, HB4⟩
            | false =>
              cases e1 : y2' == b with
              | true =>
                cases e2 : y1' == b with
                | true =>
                  cases e3 : y2' == a with
                  | true =>
                    have HV : Hid (alwK P a b (k + 1) = true) := by show _ = _; rw [HS.out]; unfold joinsB; dsimp only; rw [e0, e1, e2, e3]; rfl
                    clear HS HO
                    go_wp2
                    go_roundg (P.length - (k + 1))
                    case measure => omega
                    case rel => exact ⟨k + 1, by omega, rfl, by go_num, by rw [HV.out], N4, HB4⟩
                  | false =>
                    have HV : Hid (alwK P a b (k + 1) = true) := by show _ = _; rw [HS.out]; unfold joinsB; dsimp only; rw [e0, e1, e2, e3]; rfl
                    clear HS HO
                    go_wp2
                    go_roundg (P.length - (k + 1))
                    case measure => omega
                    case rel => exact ⟨k + 1, by omega, rfl, by go_num, by rw [HV.out], N4, HB4⟩
                | false =>
                  cases e3 : y2' == a with
                  | true =>
                    have HV : Hid (alwK P a b (k + 1) = true) := by show _ = _; rw [HS.out]; unfold joinsB; dsimp only; rw [e0, e1, e2, e3]; rfl
                    clear HS HO
                    go_wp2
                    go_roundg (P.length - (k + 1))
                    case measure => omega
                    case rel => exact ⟨k + 1, by omega, rfl, by go_num, by rw [HV.out], N4, HB4⟩
                  | false =>
                    have HV : Hid (alwK P a b (k + 1) = true) := by show _ = _; rw [HS.out]; unfold joinsB; dsimp only; rw [e0, e1, e2, e3]; rfl
                    clear HS HO
                    go_wp2
                    go_roundg (P.length - (k + 1))
                    case measure => omega
                    case rel => exact ⟨k + 1, by omega, rfl, by go_num, by rw [HV.out], N4, HB4⟩
              | false =>
                cases e2 : y1' == b with
                | true =>
                  cases e3 : y2' == a with
                  | true =>
                    have HV : Hid (alwK P a b (k + 1) = true) := by show _ = _; rw [HS.out]; unfold joinsB; dsimp only; rw [e0, e1, e2, e3]; rfl
                    clear HS HO
                    go_wp2
                    go_roundg (P.length - (k + 1))
                    case measure => omega
                    case rel => exact ⟨k + 1, by omega, rfl, by go_num, by rw [HV.out], N4, HB4⟩
                  | false =>
                    have HV : Hid (alwK P a b (k + 1) = true) := by show _ = _; rw [HS.out]; unfold joinsB; dsimp only; rw [e0, e1, e2, e3]; rfl
                    clear HS HO
                    go_wp2
                    go_roundg (P.length - (k + 1))
                    case measure => omega
                    case rel => exact ⟨k + 1, by omega, rfl, by go_num, by rw [HV.out], N4, HB4⟩
                | false =>
                  cases e3 : y2' == a with
                  | true =>
                    have HV : Hid (alwK P a b (k + 1) = true) := by show _ = _; rw [HS.out]; unfold joinsB; dsimp only; rw [e0, e1, e2, e3]; rfl
                    clear HS HO
                    go_wp2
                    go_roundg (P.length - (k + 1))
                    case measure => omega
                    case rel => exact ⟨k + 1, by omega, rfl, by go_num, by rw [HV.out], N4, HB4⟩
                  | false =>
                    have HV : Hid (alwK P a b (k + 1) = true) := by show _ = _; rw [HS.out]; unfold joinsB; dsimp only; rw [e0, e1, e2, e3]; rfl
                    clear HS HO
                    go_wp2
                    go_roundg (P.length - (k + 1))
                    case measure => omega
                    case rel => exact ⟨k + 1, by omega, rfl, by go_num, by rw [HV.out], N4, HB4⟩
          | false =>
            cases e0 : y1' == a with
            | true =>
              cases e1 : y2' == b with
              | true =>
                cases e2 : y1' == b with
                | true =>
                  cases e3 : y2' == a with
                  | true =>
                    have HV : Hid (alwK P a b (k + 1) = true) := by show _ = _; rw [HS.out]; unfold joinsB; dsimp only; rw [e0, e1, e2, e3]; rfl
                    clear HS HO
                    go_wp2
                    go_roundg (P.length - (k + 1))
                    case measure => omega
                    case rel => exact ⟨k + 1, by omega, rfl, by go_num, by rw [HV.out], N4, HB4⟩
                  | false =>
                    have HV : Hid (alwK P a b (k + 1) = true) := by show _ = _; rw [HS.out]; unfold joinsB; dsimp only; rw [e0, e1, e2, e3]; rfl
                    clear HS HO
                    go_wp2
                    go_roundg (P.length - (k + 1))
                    case measure => omega
                    case rel => exact ⟨k + 1, by omega, rfl, by go_num, by rw [HV.out], N4, HB4⟩
                | false =>
                  cases e3 : y2' == a with
                  | true =>
                    have HV : Hid (alwK P a b (k + 1) = true) := by show _ = _; rw [HS.out]; unfold joinsB; dsimp only; rw [e0, e1, e2, e3]; rfl
                    clear HS HO
                    go_wp2
                    go_roundg (P.length - (k + 1))
                    case measure => omega
                    case rel => exact ⟨k + 1, by omega, rfl, by go_num, by rw [HV.out], N4, HB4⟩
                  | false =>
                    have HV : Hid (alwK P a b (k + 1) = true) := by show _ = _; rw [HS.out]; unfold joinsB; dsimp only; rw [e0, e1, e2, e3]; rfl
                    clear HS HO
                    go_wp2
                    go_roundg (P.length - (k + 1))
                    case measure => omega
                    case rel => exact ⟨k + 1, by omega, rfl, by go_num, by rw [HV.out], N4, HB4⟩
              | false =>
                cases e2 : y1' == b with
                | true =>
                  cases e3 : y2' == a with
                  | true =>
                    have HV : Hid (alwK P a b (k + 1) = true) := by show _ = _; rw [HS.out]; unfold joinsB; dsimp only; rw [e0, e1, e2, e3]; rfl
                    clear HS HO
                    go_wp2
                    go_roundg (P.length - (k + 1))
                    case measure => omega
                    case rel => exact ⟨k + 1, by omega, rfl, by go_num, by rw [HV.out], N4, HB4⟩
                  | false =>
                    have HV : Hid (alwK P a b (k + 1) = false) := by show _ = _; rw [HS.out]; unfold joinsB; dsimp only; rw [e0, e1, e2, e3]; rfl
                    clear HS HO
                    go_wp2
                    go_roundg (P.length - (k + 1))
                    case measure => omega
                    case rel => exact ⟨k + 1, by omega, rfl, by go_num, by rw [HV.out], N4, HB4⟩
                | false =>
                  cases e3 : y2' == a with
                  | true =>
                    have HV : Hid (alwK P a b (k + 1) = false) := by show _ = _; rw [HS.out]; unfold joinsB; dsimp only; rw [e0, e1, e2, e3]; rfl
                    clear HS HO
                    go_wp2
                    go_roundg (P.length - (k + 1))
                    case measure => omega
                    case rel => exact ⟨k + 1, by omega, rfl, by go_num, by rw [HV.out], N4, HB4⟩
                  | false =>
                    have HV : Hid (alwK P a b (k + 1) = false) := by show _ = _; rw [HS.out]; unfold joinsB; dsimp only; rw [e0, e1, e2, e3]; rfl
                    clear HS HO
                    go_wp2
                    go_roundg (P.length - (k + 1))
                    case measure => omega
                    case rel => exact ⟨k + 1, by omega, rfl, by go_num, by rw [HV.out], N4, HB4⟩
            | false =>
              cases e1 : y2' == b with
              | true =>
                cases e2 : y1' == b with
                | true =>
                  cases e3 : y2' == a with
                  | true =>
                    have HV : Hid (alwK P a b (k + 1) = true) := by show _ = _; rw [HS.out]; unfold joinsB; dsimp only; rw [e0, e1, e2, e3]; rfl
                    clear HS HO
                    go_wp2
                    go_roundg (P.length - (k + 1))
                    case measure => omega
                    case rel => exact ⟨k + 1, by omega, rfl, by go_num, by rw [HV.out], N4, HB4⟩
                  | false =>
                    have HV : Hid (alwK P a b (k + 1) = false) := by show _ = _; rw [HS.out]; unfold joinsB; dsimp only; rw [e0, e1, e2, e3]; rfl
                    clear HS HO
                    go_wp2
                    go_roundg (P.length - (k + 1))
                    case measure => omega
                    case rel => exact ⟨k + 1, by omega, rfl, by go_num, by rw [HV.out], N4, HB4⟩
                | false =>
                  cases e3 : y2' == a with
                  | true =>
                    have HV : Hid (alwK P a b (k + 1) = false) := by show _ = _; rw [HS.out]; unfold joinsB; dsimp only; rw [e0, e1, e2, e3]; rfl
                    clear HS HO
                    go_wp2
                    go_roundg (P.length - (k + 1))
                    case measure => omega
                    case rel => exact ⟨k + 1, by omega, rfl, by go_num, by rw [HV.out], N4, HB4⟩
                  | false =>
                    have HV : Hid (alwK P a b (k + 1) = false) := by show _ = _; rw [HS.out]; unfold joinsB; dsimp only; rw [e0, e1, e2, e3]; rfl
                    clear HS HO
                    go_wp2
                    go_roundg (P.length - (k + 1))
                    case measure => omega
                    case rel => exact ⟨k + 1, by omega, rfl, by go_num, by rw [HV.out], N4, HB4⟩
              | false =>
                cases e2 : y1' == b with
                | true =>
                  cases e3 : y2' == a with
                  | true =>
                    have HV : Hid (alwK P a b (k + 1) = true) := by show _ = _; rw [HS.out]; unfold joinsB; dsimp only; rw [e0, e1, e2, e3]; rfl
                    clear HS HO
                    go_wp2
                    go_roundg (P.length - (k + 1))
                    case measure => omega
                    case rel => exact ⟨k + 1, by omega, rfl, by go_num, by rw [HV.out], N4, HB4⟩
                  | false =>
                    have HV : Hid (alwK P a b (k + 1) = false) := by show _ = _; rw [HS.out]; unfold joinsB; dsimp only; rw [e0, e1, e2, e3]; rfl
                    clear HS HO
                    go_wp2
                    go_roundg (P.length - (k + 1))
                    case measure => omega
                    case rel => exact ⟨k + 1, by omega, rfl, by go_num, by rw [HV.out], N4, HB4⟩
                | false =>
                  cases e3 : y2' == a with
                  | true =>
                    have HV : Hid (alwK P a b (k + 1) = false) := by show _ = _; rw [HS.out]; unfold joinsB; dsimp only; rw [e0, e1, e2, e3]; rfl
                    clear HS HO
                    go_wp2
                    go_roundg (P.length - (k + 1))
                    case measure => omega
                    case rel => exact ⟨k + 1, by omega, rfl, by go_num, by rw [HV.out], N4, HB4⟩
                  | false =>
                    have HV : Hid (alwK P a b (k + 1) = false) := by show _ = _; rw [HS.out]; unfold joinsB; dsimp only; rw [e0, e1, e2, e3]; rfl
                    clear HS HO
                    go_wp2
                    go_roundg (P.length - (k + 1))
                    case measure => omega
                    case rel => exact ⟨k + 1, by omega, rfl, by go_num, by rw [HV.out], N4, HB4⟩
        · have hltz : ¬ (k : Int) < (P.length : Int) := by omega
          obtain rfl : k = P.length := by omega
          rw [HE.out]
          go_wp2
          go_ret
          exact ⟨rfl, HB3.out⟩
end Go.Proofs

namespace Go.Proofs.Hd
open Go.RowKit
/-- The tenant at a spot; -1 where there is no edge. -/
def edgT (T : List (List Pt)) (n i : Int) : Int := match ptAt T n i with
  | some p => if p.kind = 1 then p.ten else -1
  | none => -1
theorem edgT_none {T : List (List Pt)} {n i : Int} (h : ptAt T n i = none) : edgT T n i = -1 := by unfold edgT; rw [h]
theorem Blk.duo {w : World} {g : Nat} {t : TypeId} {x0 x1 : Value} (h : Blk w g t #[x0, x1]) : w.cell? ⟨g, 0, none⟩ = some x0 ∧ w.cell? ⟨g, 1, none⟩ = some x1 := ⟨(h.cell 0).trans rfl, (h.cell 1).trans rfl⟩
theorem Blk.single {w : World} {g : Nat} {t : TypeId} {x0 : Value} (h : Blk w g t #[x0]) : w.cell? ⟨g, 0, none⟩ = some x0 := (h.cell 0).trans rfl
end Go.Proofs.Hd
namespace Go.Proofs
open Go.RowKit Go.Proofs.Hd Go.Lib
set_option maxRecDepth 100000 in
set_option maxHeartbeats 2000000 in
theorem redge_c (tv : Value) (T : List (List Pt)) (n i : Int) (w : World) (hT : PsT w tv T) : Calls Try.prog 17 #[.agg #[tv], .agg #[.int .i64 n, .int .i64 i]] w fun e w' => e = .returned (.int .i64 (edgT T n i)) ∧ Below w.heap.size w w' := by
  obtain ⟨A, cap, rfl, htm, hA⟩ := hT
  have B0 : Below w.heap.size w ((w.alloc (.cells #[.slice A T.length cap] 24)).alloc (.cells #[.int .i64 n, .int .i64 i] 41)) := below2 w _ _
  have N0 : Blk ((w.alloc (.cells #[.slice A T.length cap] 24)).alloc (.cells #[.int .i64 n, .int .i64 i] 41)) w.heap.size 24 #[.slice A T.length cap] := (Blk.new w _ _).on (below1 _ _)
  have M0 : Blk ((w.alloc (.cells #[.slice A T.length cap] 24)).alloc (.cells #[.int .i64 n, .int .i64 i] 41)) (w.heap.size + 1) 41 #[.int .i64 n, .int .i64 i] := Blk.new2 w _ _ _
  have t0 := N0.single
  obtain ⟨s0, s1⟩ := M0.duo
  by_cases a1 : n < 0
  · have a1b : decide (n < 0) = true := decide_eq_true a1
    have HE := Lib.hid (edgT_none (T := T) (n := n) (i := i) (ptAt_far1 (by simp [inB]; omega)))
    clear hA N0 M0
    go_enter Try.func17, Try.ntmps17
    go_wp2_with fail
    go_quiet (fail)
    go_wp2
    go_ret
    exact ⟨by rw [HE.out]; rfl, bldrewN B0 _⟩
  have a1b : decide (n < 0) = false := decide_eq_false a1
  by_cases a2 : (T.length : Int) ≤ n
  · have a2b : decide ((T.length : Int) ≤ n) = true := decide_eq_true a2
    have HE := Lib.hid (edgT_none (T := T) (n := n) (i := i) (ptAt_far1 (by simp [inB]; omega)))
    clear hA N0 M0
    go_enter Try.func17, Try.ntmps17
    go_wp2_with fail
    go_quiet (fail)
    go_wp2
    go_ret
    exact ⟨by rw [HE.out]; rfl, bldrewN B0 _⟩
  obtain ⟨n', rfl⟩ : ∃ n' : Nat, n = (n' : Int) := ⟨n.toNat, by omega⟩
  have hn : n' < T.length := by omega
  have hnz : (n' : Int) < (T.length : Int) := by omega
  have a2b : decide ((T.length : Int) ≤ (n' : Int)) = false := decide_eq_false a2
  have a2c : decide (T.length ≤ n') = false := decide_eq_false (by omega)
  obtain ⟨L, hL⟩ : ∃ L, T[n']? = some L := ⟨_, List.getElem?_eq_getElem hn⟩
  obtain ⟨tb, tof, rfl, _, hcc⟩ := hA (by rintro rfl; simp at hn)
  obtain ⟨s, hs, A3, c3, rfl, hLm, hA3⟩ := hcc n' L hL
  have cs := on_some B0 hs
  by_cases a3 : i < 0
  · have a3b : decide (i < 0) = true := decide_eq_true a3
    have HE := Lib.hid (edgT_none (T := T) (n := n') (i := i) (ptAt_far2 hL (by simp [inB]; omega)))
    clear hA N0 M0 hs hcc hA3 hL
    go_enter Try.func17, Try.ntmps17
    go_wp2_with fail
    go_quiet (fail)
    go_wp2
    go_ret
    exact ⟨by rw [HE.out]; rfl, bldrewN B0 _⟩
  have a3b : decide (i < 0) = false := decide_eq_false a3
  by_cases a4 : (L.length : Int) ≤ i
  · have a4b : decide ((L.length : Int) ≤ i) = true := decide_eq_true a4
    have HE := Lib.hid (edgT_none (T := T) (n := n') (i := i) (ptAt_far2 hL (by simp [inB]; omega)))
    clear hA N0 M0 hs hcc hA3 hL
    go_enter Try.func17, Try.ntmps17
    go_wp2_with fail
    go_quiet (fail)
    go_wp2
    go_ret
    exact ⟨by rw [HE.out]; rfl, bldrewN B0 _⟩
  obtain ⟨i', rfl⟩ : ∃ i' : Nat, i = (i' : Int) := ⟨i.toNat, by omega⟩
  have hi : i' < L.length := by omega
  have hiz : (i' : Int) < (L.length : Int) := by omega
  have a4b : decide ((L.length : Int) ≤ (i' : Int)) = false := decide_eq_false a4
  have a4c : decide (L.length ≤ i') = false := decide_eq_false (by omega)
  obtain ⟨p, hp⟩ : ∃ p, L[i']? = some p := ⟨_, List.getElem?_eq_getElem hi⟩
  obtain ⟨b3, o3, rfl, _, hpc⟩ := hA3 (by rintro rfl; simp at hp)
  have hpt := ptAt_nat hL hp
  have hap := hpc i' p hp
  obtain ⟨kd, tn, pr, sp, co⟩ := p
  obtain ⟨u0, u1, u2, u3, u4⟩ := hap.on B0
  by_cases a5 : kd = 1
  · subst a5
    have HE : Hid (edgT T n' i' = tn) := by show _ = _; unfold edgT; rw [hpt]; rfl
    have HN := Lib.hid N0
    have HM := Lib.hid M0
    have HCS := Lib.hid hs
    have HAP := Lib.hid hap
    clear hA N0 M0 hs hcc hA3 hL hp hpc hap hpt
    go_enter Try.func17, Try.ntmps17
    go_wp2_with fail
    go_quiet (fail)
    have HB1 := Lib.hid (bldrewN B0 nq)
    have N1 := HN.out.drewN nq
    have M1 := HM.out.drewN nq
    clear t0 s0 s1 cs u0 u1 u2 u3 u4 B0 HN HM
    generalize ((w.alloc (.cells #[.slice (some ⟨tb, tof, none⟩) T.length cap] 24)).alloc (.cells #[.int .i64 (n' : Int), .int .i64 (i' : Int)] 41)).drewN nq = w1 at HB1 N1 M1 ⊢
    have t0 := N1.single
    obtain ⟨s0, s1⟩ := M1.duo
    have cs := on_some HB1.out HCS.out
    obtain ⟨u0, u1, u2, u3, u4⟩ := HAP.out.on HB1.out
    clear N1 M1 nq
    go_wp2_with fail
    go_quiet (fail)
    go_wp2
    go_ret
    exact ⟨by rw [HE.out]; rfl, bldrewN HB1.out _⟩
  · have HE : Hid (edgT T n' i' = -1) := by show _ = _; unfold edgT; rw [hpt]; simp only; rw [if_neg a5]
    have a5b : (kd != 1) = true := by simp [a5]
    clear hA N0 M0 hs hcc hA3 hL hp hpc hap hpt
    go_enter Try.func17, Try.ntmps17
    go_wp2_with fail
    go_quiet (fail)
    go_wp2
    go_ret
    exact ⟨by rw [HE.out]; rfl, bldrewN B0 _⟩
end Go.Proofs

namespace Go.Proofs
open Go.RowKit Go.Proofs.Hd Go.Lib
set_option maxRecDepth 100000 in
set_option maxHeartbeats 2000000 in
theorem redges_c (tv : Value) (T : List (List Pt)) (w : World) (hT : PsT w tv T) (hP : ports T ≤ 2000000) : Calls Try.prog 56 #[.agg #[tv]] w (GotE w (eTo T T.length)) := by
  obtain ⟨i2, hi2, hz0, hz1, hz2⟩ := info_parts infoSpot
  obtain ⟨A, cap, rfl, htm, hA⟩ := hT
  have htz : (T.length : Int) ≤ 9223372036854775807 := by unfold maxLen at htm; omega
  have HB := Lib.hid (below2 w (.cells #[.slice A T.length cap] 24) (.cells #[] 41))
  have NB : Hid (Blk ((w.alloc (.cells #[.slice A T.length cap] 24)).alloc (.cells #[] 41)) w.heap.size 24 #[.slice A T.length cap]) := (Blk.new w _ _).on (below1 _ _)
  have HA := Lib.hid hA
  have O0 : Hid (((w.alloc (.cells #[.slice A T.length cap] 24)).alloc (.cells #[] 41)).ownsRow w.heap.size 41 2 (.slice (some ⟨w.heap.size + 1, 0, none⟩) 0 0) (eTo T 0).length (flS (eTo T 0))) := by
    have h : ((w.alloc (.cells #[.slice A T.length cap] 24)).alloc (.cells #[] 41)).ownsRow w.heap.size 41 2 (.slice (some ⟨(w.alloc (.cells #[.slice A T.length cap] 24)).heap.size, 0, none⟩) 0 0) (eTo T 0).length (flS (eTo T 0)) := World.ownsRow_made (w.alloc (.cells #[.slice A T.length cap] 24)) #[] 0 (below1 _ _).size (Nat.zero_le _) rfl
    have e : (w.alloc (.cells #[.slice A T.length cap] 24)).heap.size = w.heap.size + 1 := by simp
    rw [e] at h
    exact h
  clear hA
  go_enter Try.func56, Try.ntmps56
  go_wp2
  go_loopg [3, 4, 5] T.length (fun gn s3 s4 _ wn => ∃ (n : Nat), n ≤ T.length ∧ gn = T.length - n ∧ s4 = .int .i64 n ∧ Hid (Blk wn w.heap.size 24 #[.slice A T.length cap]) ∧ Hid (wn.ownsRow w.heap.size 41 2 s3 (eTo T n).length (flS (eTo T n))) ∧ Hid (Below w.heap.size w wn))
  case atStart => exact ⟨0, Nat.zero_le _, rfl, rfl, NB, O0, HB⟩
  case round =>
    clear HB O0 NB
    obtain ⟨n, hn, rfl, rfl, NB, HO, HB⟩ := hrel
    have cb := NB.out.one
    by_cases hnt : n < T.length
    · have hntz : (n : Int) < (T.length : Int) := by omega
      obtain ⟨L, hTL⟩ : ∃ L, T[n]? = some L := ⟨_, List.getElem?_eq_getElem hnt⟩
      obtain ⟨b, o, rfl, _, hc⟩ := HA.out (by rintro rfl; simp at hnt)
      obtain ⟨s, hcell0, A1, c1, rfl, hLm, hA1⟩ := hc n L hTL
      have HCE := Lib.hid hcell0
      have HA1 := Lib.hid hA1
      have HTL := Lib.hid hTL
      have hLz : (L.length : Int) ≤ 9223372036854775807 := by unfold maxLen at hLm; omega
      have HO1 := HO
      rw [show eTo T n = eTo T n ++ eUp n L 0 from (List.append_nil _).symm] at HO1
      clear hTL hcell0 hA1 hc HO
      go_wp2
      clear cb
      go_loopg [3, 5] L.length (fun gi s3 s5 wi => ∃ (i : Nat), i ≤ L.length ∧ gi = L.length - i ∧ s5 = .int .i64 i ∧ Hid (Blk wi w.heap.size 24 #[.slice (some ⟨b, o, none⟩) T.length cap]) ∧ Hid (wi.ownsRow w.heap.size 41 2 s3 (eTo T n ++ eUp n L i).length (flS (eTo T n ++ eUp n L i))) ∧ Hid (Below w.heap.size w wi))
      case atStart => exact ⟨0, Nat.zero_le _, rfl, rfl, NB, HO1, HB⟩
      case round =>
        clear HB HO1 NB
        obtain ⟨i, hi, rfl, rfl, NB, HO, HB⟩ := hrel
        have cb := NB.out.one
        have hcell := on_some HB.out HCE.out
        by_cases hit : i < L.length
        · have hitz : (i : Int) < (L.length : Int) := by omega
          obtain ⟨p, hp⟩ : ∃ p, L[i]? = some p := ⟨_, List.getElem?_eq_getElem hit⟩
          obtain ⟨b1, o1, rfl, _, hpc⟩ := HA1.out (by rintro rfl; simp at hit)
          have hap := (hpc i p hp).on HB.out
          have hes := eUp_succ (n := n) hp
          have hlen := edges_le HTL.out (Nat.le_of_lt hit)
          obtain ⟨E, hE⟩ : ∃ E, Hid (eTo T n ++ eUp n L i = E) := ⟨_, rfl⟩
          rw [hE.out] at HO hlen
          obtain ⟨kd, tn, pr, sp, co⟩ := p
          obtain ⟨d0, d1, d2, d3, d4⟩ := hap
          have HB1 := HB
          have HO1 := HO
          clear hp hpc HB HO
          by_cases hk : kd = 1
          · simp only [hk, if_true] at hes
            subst hk
            have HE2 : Hid (eTo T n ++ eUp n L (i + 1) = E ++ [(n, i)]) := by show _ = _; rw [hes, ← List.append_assoc, hE.out]
            have hb2 := below1 wr (.cells #[.int .i64 n, .int .i64 i] 41)
            have HB2 := Lib.hid (HB1.out.trans (hb2.mono HB1.out.size))
            have O2 := own_on HO1.out hb2
            have SR := src_spot (Blk.new wr 41 #[.int .i64 n, .int .i64 i])
            have NB2 := NB.out.on hb2
            have hz3 := HB2.out.size
            clear hes HO1 HB1 hb2
            go_wp2_with (at_builtin; refine wpList_app _ rfl (.tmp 34) (.tmp 38) 78 rfl w.heap.size 41 i2 _ 2 16 Try.underlying78 hi2 hz0 hz1 hz2 rfl (by decide) _ E.length (flS E) rfl O2 _ 1 [.int .i64 n, .int .i64 i] rfl SR (by unfold maxLen; omega) (by omega) hz3 ?_)
            intro v3 w3 O3 hg3
            have NB3 := Lib.hid (NB2.grown hg3 (own_apart O2 NB2 (by decide)))
            have HB3 := Lib.hid (HB2.out.grown hg3 hz3 (fun j hj => (O2.lt j hj).1))
            have HO3 : Hid (w3.ownsRow w.heap.size 41 2 v3 (eTo T n ++ eUp n L (i + 1)).length (flS (eTo T n ++ eUp n L (i + 1)))) := by
              show World.ownsRow _ _ _ _ _ _ _
              rw [HE2.out, flS_append, List.length_append]; exact O3
            clear O2 SR O3 hg3 HB2 hz3 d0 d1 d2 d3 d4 NB2
            go_wp2
            go_roundg (L.length - (i + 1))
            case measure => omega
            case rel => exact ⟨i + 1, by omega, rfl, by go_num, NB3, HO3, HB3⟩
          · simp only [hk, if_false, List.append_nil] at hes
            have HO3 := HO1
            rw [show E = eTo T n ++ eUp n L (i + 1) from by rw [hes, hE.out]] at HO3
            clear hes HO1
            go_wp2
            go_roundg (L.length - (i + 1))
            case measure => omega
            case rel => exact ⟨i + 1, by omega, rfl, by go_num, NB, HO3, HB1⟩
        · have hitz : ¬ (i : Int) < (L.length : Int) := by omega
          obtain rfl : i = L.length := by omega
          have HO2 := HO
          rw [← eTo_succ HTL.out] at HO2
          clear HO
          go_wp2
          go_roundg (T.length - (n + 1))
          case measure => omega
          case rel => exact ⟨n + 1, by omega, rfl, by go_num, NB, HO2, HB⟩
    · have hntz : ¬ (n : Int) < (T.length : Int) := by omega
      obtain rfl : n = T.length := by omega
      go_wp2
      go_ret
      exact ⟨_, rfl, HO.out, HB.out⟩
end Go.Proofs

namespace Go.Proofs.Hd
open Go.RowKit
/-- v is a slice that reads as the spots E. -/
def Spt (w : World) (v : Value) (E : List Rc) : Prop := ∃ A cap, v = .slice A E.length cap ∧ (E ≠ [] → ∃ b, A = some ⟨b, 0, none⟩ ∧ ∀ (k : Nat) (x : Rc), E[k]? = some x → w.cell? ⟨b, k * 2, none⟩ = some (.int .i64 x.1) ∧ w.cell? ⟨b, k * 2 + 1, none⟩ = some (.int .i64 x.2))
theorem Spt.of {w : World} {base : Nat} {v : Value} {E : List Rc} (h : w.ownsRow base 41 2 v E.length (flS E)) : Spt w v E := by
  rcases h.2 with ⟨rfl, h0⟩ | ⟨g, cap, cur, rfl, _⟩
  · exact ⟨none, 0, by rw [h0], fun hne => absurd (List.eq_nil_of_length_eq_zero h0) hne⟩
  · refine ⟨_, cap, rfl, fun _ => ⟨g, rfl, fun k x hk => ?_⟩⟩
    have hkl := (List.getElem?_eq_some_iff.1 hk).1
    exact ⟨(h.cellAt (k * 2) (by omega)).trans (flS_get hk).1, (h.cellAt (k * 2 + 1) (by omega)).trans (flS_get hk).2⟩
/-- Are the edges' tenants there? -/
def okE (T : List (List Pt)) (ten : Int) (k : Nat) : Prop := ∀ (j : Nat) (x : Rc), j < k → (eTo T T.length)[j]? = some x → inB (edgT T x.1 x.2) ten = true
/-- Are the peers tenants? -/
def okPe (P : List (Int × Int)) (ten : Int) (k : Nat) : Prop := ∀ (j : Nat) (x : Int × Int), j < k → P[j]? = some x → inB x.1 ten = true ∧ inB x.2 ten = true
/-- May the ways be? -/
def okWy (Q : List Wa) (ten : Int) (N k : Nat) : Prop := ∀ (j : Nat) (x : Wa), j < k → Q[j]? = some x → inB x.frm ten = true ∧ inB x.too ten = true ∧ inB x.via N = true
open Classical in
/-- What is said of a policy. -/
noncomputable def polT (T : List (List Pt)) (ten : Int) (P : List (Int × Int)) (Q : List Wa) : Int :=
  if ten < 1 ∨ 4 < ten ∨ 16 < P.length ∨ 4 < Q.length ∨ ¬ okE T ten (eTo T T.length).length then 4 else if ¬ okPe P ten P.length ∨ ¬ okWy Q ten T.length Q.length then 2 else 0
end Go.Proofs.Hd
namespace Go.Proofs
open Go.RowKit Go.Proofs.Hd Go.Lib
set_option maxRecDepth 100000 in
set_option maxHeartbeats 4000000 in
theorem rpolicy_c (tv pv wv : Value) (T : List (List Pt)) (ten : Int) (P : List (Int × Int)) (Q : List Wa) (w : World) (hT : PsT w tv T) (hP : Pe w pv P) (hQ : Wy w wv Q) (hn : ports T ≤ 2000000) : Calls Try.prog 31 #[.agg #[tv], .agg #[.int .i64 ten, pv, wv]] w fun e w' => e = .returned (.int .i64 (polT T ten P Q)) ∧ Below w.heap.size w w' := by
  have HT := Lib.hid hT
  obtain ⟨A, cap, rfl, htm, -⟩ := hT
  obtain ⟨pA, pc, rfl, hpm, hPA⟩ := hP
  obtain ⟨wA, wc, rfl, hwm, hWA⟩ := hQ
  have hpz : (P.length : Int) ≤ 9223372036854775807 := by unfold maxLen at hpm; omega
  have hwz : (Q.length : Int) ≤ 9223372036854775807 := by unfold maxLen at hwm; omega
  have B0 : Below w.heap.size w ((w.alloc (.cells #[.slice A T.length cap] 24)).alloc (.cells #[.int .i64 ten, .slice pA P.length pc, .slice wA Q.length wc] 28)) := below2 w _ _
  have N0 : Hid (Blk ((w.alloc (.cells #[.slice A T.length cap] 24)).alloc (.cells #[.int .i64 ten, .slice pA P.length pc, .slice wA Q.length wc] 28)) w.heap.size 24 #[.slice A T.length cap]) := (Blk.new w _ _).on (below1 _ _)
  have M0 : Hid (Blk ((w.alloc (.cells #[.slice A T.length cap] 24)).alloc (.cells #[.int .i64 ten, .slice pA P.length pc, .slice wA Q.length wc] 28)) (w.heap.size + 1) 28 #[.int .i64 ten, .slice pA P.length pc, .slice wA Q.length wc]) := Blk.new2 w _ _ _
  have HPA := Lib.hid hPA
  have HWA := Lib.hid hWA
  clear hPA hWA
  have bad4 : ∀ h : (ten < 1 ∨ 4 < ten ∨ 16 < P.length ∨ 4 < Q.length ∨ ¬ okE T ten (eTo T T.length).length), polT T ten P Q = 4 := fun h => by unfold polT; rw [if_pos h]
  by_cases h1 : ten < 1
  · have HE := Lib.hid (bad4 (.inl h1))
    clear bad4 HPA HWA
    go_enter Try.func31, Try.ntmps31
    go_wp2
    go_ret
    exact ⟨by rw [HE.out]; rfl, B0⟩
  by_cases h2 : 4 < ten
  · have HE := Lib.hid (bad4 (.inr (.inl h2)))
    clear bad4 HPA HWA
    go_enter Try.func31, Try.ntmps31
    go_wp2
    go_ret
    exact ⟨by rw [HE.out]; rfl, B0⟩
  by_cases h3 : 16 < P.length
  · have HE := Lib.hid (bad4 (.inr (.inr (.inl h3))))
    have h3z : (16 : Int) < (P.length : Int) := by omega
    clear bad4 HPA HWA
    go_enter Try.func31, Try.ntmps31
    go_wp2
    go_ret
    exact ⟨by rw [HE.out]; rfl, B0⟩
  have h3z : ¬ (16 : Int) < (P.length : Int) := by omega
  by_cases h4 : 4 < Q.length
  · have HE := Lib.hid (bad4 (.inr (.inr (.inr (.inl h4)))))
    have h4z : (4 : Int) < (Q.length : Int) := by omega
    clear bad4 HPA HWA
    go_enter Try.func31, Try.ntmps31
    go_wp2
    go_ret
    exact ⟨by rw [HE.out]; rfl, B0⟩
  have h4z : ¬ (4 : Int) < (Q.length : Int) := by omega
  have HBAD := Lib.hid bad4
  clear bad4
  go_enter Try.func31, Try.ntmps31
  go_wp2_with fail
  (with_reducible refine (redges_c _ T _ (HT.out.on B0) hn).mono ?_)
  rintro e w1 ⟨ev, rfl, OE, hb1⟩
  obtain ⟨EE, hEE⟩ : ∃ EE, Hid (eTo T T.length = EE) := ⟨_, rfl⟩
  have hEl : (eTo T T.length).length ≤ 2000000 := Nat.le_trans (eTo_len T T.length (Nat.le_refl _)) (Nat.le_trans (take_le T _) hn)
  rw [hEE.out] at OE hEl
  obtain ⟨eA, ec, rfl, hE⟩ := Spt.of OE
  have HES := Lib.hid hE
  have HB1 := Lib.hid (B0.trans (hb1.mono B0.size))
  have N1 := Lib.hid (N0.out.on hb1)
  have M1 := Lib.hid (M0.out.on hb1)
  have hEz : (EE.length : Int) ≤ 2000000 := by omega
  clear hb1 B0 N0 M0 OE hE
  go_wp2
  go_loopg [6] EE.length (fun gk s6 wr => ∃ k : Nat, k ≤ EE.length ∧ gk = EE.length - k ∧ s6 = .int .i64 k ∧ Hid (okE T ten k) ∧ Hid (Below w1.heap.size w1 wr))
  case atStart => exact ⟨0, Nat.zero_le _, rfl, rfl, fun j x hj => absurd hj (Nat.not_lt_zero _), Below.refl _ _⟩
  case round =>
    obtain ⟨k, hk, rfl, rfl, HO, HW⟩ := hrel
    have HB2 := Lib.hid (HB1.out.trans (HW.out.mono HB1.out.size))
    have N2 := Lib.hid (N1.out.on HW.out)
    have M2 := Lib.hid (M1.out.on HW.out)
    have t2 := N2.out.single
    obtain ⟨d0, d1, d2⟩ := M2.out.three
    by_cases hlt : k < EE.length
    · have hltz : (k : Int) < (EE.length : Int) := by omega
      obtain ⟨x, hx⟩ : ∃ x, EE[k]? = some x := ⟨_, List.getElem?_eq_getElem hlt⟩
      obtain ⟨eb, rfl, hec⟩ := HES.out (by rintro rfl; simp at hlt)
      have x0 := on_some HW.out (hec k x hx).1
      have x1 := on_some HW.out (hec k x hx).2
      obtain ⟨xa, xb⟩ := x
      simp only at x0 x1
      have KP : ∀ W, Below wr.heap.size wr W → (Below wr.heap.size wr W ∧ W.cell? ⟨w.heap.size, 0, none⟩ = some (.slice A T.length cap) ∧ W.cell? ⟨w.heap.size + 1, 0, none⟩ = some (.int .i64 ten) ∧ W.cell? ⟨w.heap.size + 1, 1, none⟩ = some (.slice pA P.length pc) ∧ W.cell? ⟨w.heap.size + 1, 2, none⟩ = some (.slice wA Q.length wc) ∧ W.cell? ⟨eb, k * 2, none⟩ = some (.int .i64 xa) ∧ W.cell? ⟨eb, k * 2 + 1, none⟩ = some (.int .i64 xb)) := fun W hb => ⟨hb, on_some hb t2, on_some hb d0, on_some hb d1, on_some hb d2, on_some hb x0, on_some hb x1⟩
      have HKP := Lib.hid KP
      have HXX := Lib.hid hx
      clear KP t2 d0 d1 d2 x0 x1 hec hx N2 M2
      cases hin : inB (edgT T xa xb) ten with
        | false =>
          go_upto_region 7 with (fail)
          refine wp_region_held_drew (S := fun w' => Below wr.heap.size wr w' ∧ w'.cell? ⟨w.heap.size, 0, none⟩ = some (.slice A T.length cap) ∧ w'.cell? ⟨w.heap.size + 1, 0, none⟩ = some (.int .i64 ten) ∧ w'.cell? ⟨w.heap.size + 1, 1, none⟩ = some (.slice pA P.length pc) ∧ w'.cell? ⟨w.heap.size + 1, 2, none⟩ = some (.slice wA Q.length wc) ∧ w'.cell? ⟨eb, k * 2, none⟩ = some (.int .i64 xa) ∧ w'.cell? ⟨eb, k * 2 + 1, none⟩ = some (.int .i64 xb)) (by kernel_rfl) (HKP.out _ (Below.refl _ wr).drew) (fun hHeld => ?_)
          refine wpAnyH_take (i := 0) (oi := ⟨some 38, _, _, _, _, _⟩) (v := ?vb0) rfl (by kernel_rfl) (by kernel_rfl) (by kernel_rfl) (fun _ _ _ h => h) (Or.inl ⟨by rfl, ?yb0⟩) hHeld ?rb0
          case yb0 => (intro w' hSw; (try dsimp only at hSw); go_simp; try (with_reducible rfl))
          simp only [Act.put, List.setIfInBounds_toArray, List.set_cons_zero, List.set_cons_succ]
          refine wpAnyH_take (i := 1) (oi := ⟨some 39, _, _, _, _, _⟩) (v := ?vb1) rfl (by kernel_rfl) (by kernel_rfl) (by kernel_rfl) (fun _ _ _ h => h) (Or.inl ⟨by rfl, ?yb1⟩) hHeld ?rb1
          case yb1 => (intro w' hSw; (try dsimp only at hSw); go_simp; try (with_reducible rfl))
          simp only [Act.put, List.setIfInBounds_toArray, List.set_cons_zero, List.set_cons_succ]
          refine wpAnyH_take (i := 2) (oi := ⟨some 40, _, _, _, _, _⟩) (v := ?vb2) rfl (by kernel_rfl) (by kernel_rfl) (by kernel_rfl) (fun _ _ _ h => h) (Or.inl ⟨by rfl, ?yb2⟩) hHeld ?rb2
          case yb2 => (intro w' hSw; (try dsimp only at hSw); go_simp; try (with_reducible rfl))
          simp only [Act.put, List.setIfInBounds_toArray, List.set_cons_zero, List.set_cons_succ]
          refine wpAnyH_take (i := 3) (oi := ⟨some 41, _, _, _, _, _⟩) (v := ?vb3) rfl (by kernel_rfl) (by kernel_rfl) (by kernel_rfl) (fun _ _ _ h => h) (Or.inl ⟨by rfl, ?yb3⟩) hHeld ?rb3
          case yb3 => (intro w' hSw; (try dsimp only at hSw); go_simp; try (with_reducible rfl))
          simp only [Act.put, List.setIfInBounds_toArray, List.set_cons_zero, List.set_cons_succ]
          refine wpAnyH_take (i := 4) (oi := ⟨some 42, _, _, _, _, _⟩) (v := ?vb4) rfl (by kernel_rfl) (by kernel_rfl) (by kernel_rfl) (fun _ _ _ h => h) (Or.inl ⟨by rfl, ?yb4⟩) hHeld ?rb4
          case yb4 => (intro w' hSw; (try dsimp only at hSw); go_simp; try (with_reducible rfl))
          simp only [Act.put, List.setIfInBounds_toArray, List.set_cons_zero, List.set_cons_succ]
          refine wpAnyH_take (i := 5) (oi := ⟨some 43, _, _, _, _, _⟩) (v := ?vb5) rfl (by kernel_rfl) (by kernel_rfl) (by kernel_rfl) (fun _ _ _ h => h) (Or.inl ⟨by rfl, ?yb5⟩) hHeld ?rb5
          case yb5 => (intro w' hSw; (try dsimp only at hSw); go_simp; try (with_reducible rfl))
          simp only [Act.put, List.setIfInBounds_toArray, List.set_cons_zero, List.set_cons_succ]
          refine wpAnyH_ready (rs := [6]) (by kernel_rfl) (by simp) ?_
          refine AllReadyH.cons (o := ⟨some 44, _, _, _, _, _⟩) rfl (fun K hK => ?_) AllReadyH.nil
          go_simp
          (with_reducible refine (redge_c _ T _ _ _ (HT.out.on (HB2.out.trans (hHeld.1.mono HB2.out.size)))).mono ?_)
          rintro e w5 ⟨rfl, hb⟩
          (try dsimp only)
          refine hK.out _ _ (HKP.out _ (hHeld.1.trans (hb.mono hHeld.1.size))) (fun hNext => ?_)
          clear hK K hHeld
          have hHeld := hNext
          clear hNext
          try simp only [Act.put, List.setIfInBounds_toArray, List.set_cons_zero, List.set_cons_succ]
          refine wpAnyH_ready (rs := [7]) (by kernel_rfl) (by simp) ?_
          refine AllReadyH.cons (o := ⟨some 45, _, _, _, _, _⟩) rfl (fun K hK => ?_) AllReadyH.nil
          go_simp
          (with_reducible refine (rtenant_c false ten _ _ _ _ hin).mono ?_)
          rintro e w6 ⟨rfl, hb⟩
          (try dsimp only)
          refine hK.out _ _ (HKP.out _ (hHeld.1.trans (hb.mono hHeld.1.size))) (fun hNext => ?_)
          clear hK K hHeld
          have hHeld := hNext
          clear hNext
          try simp only [Act.put, List.setIfInBounds_toArray, List.set_cons_zero, List.set_cons_succ]
          refine wpAnyH_take (i := 8) (oi := ⟨some 46, _, _, _, _, _⟩) (v := ?vb8) rfl (by kernel_rfl) (by kernel_rfl) (by kernel_rfl) (fun _ _ _ h => h) (Or.inl ⟨by rfl, ?yb8⟩) hHeld ?rb8
          case yb8 => (intro w' hSw; (try dsimp only at hSw); go_simp; try (with_reducible rfl))
          simp only [Act.put, List.setIfInBounds_toArray, List.set_cons_zero, List.set_cons_succ]
          refine wpAnyH_done (by kernel_rfl) ?_ _
          have HE : Hid (polT T ten P Q = 4) := HBAD.out (.inr (.inr (.inr (.inr fun h => by
            rw [hEE.out] at h
            have := h k (xa, xb) hlt (by rw [hEE.out]; exact HXX.out)
            simp only at this
            rw [hin] at this
            cases this))))
          have HBE := Lib.hid (HB2.out.trans (hHeld.1.mono HB2.out.size))
          clear hHeld HKP
          go_wp2
          go_ret
          exact ⟨by rw [HE.out]; rfl, HBE.out⟩
        | true =>
          go_upto_region 7 with (fail)
          refine wp_region_held_drew (S := fun w' => Below wr.heap.size wr w' ∧ w'.cell? ⟨w.heap.size, 0, none⟩ = some (.slice A T.length cap) ∧ w'.cell? ⟨w.heap.size + 1, 0, none⟩ = some (.int .i64 ten) ∧ w'.cell? ⟨w.heap.size + 1, 1, none⟩ = some (.slice pA P.length pc) ∧ w'.cell? ⟨w.heap.size + 1, 2, none⟩ = some (.slice wA Q.length wc) ∧ w'.cell? ⟨eb, k * 2, none⟩ = some (.int .i64 xa) ∧ w'.cell? ⟨eb, k * 2 + 1, none⟩ = some (.int .i64 xb)) (by kernel_rfl) (HKP.out _ (Below.refl _ wr).drew) (fun hHeld => ?_)
          refine wpAnyH_take (i := 0) (oi := ⟨some 38, _, _, _, _, _⟩) (v := ?va0) rfl (by kernel_rfl) (by kernel_rfl) (by kernel_rfl) (fun _ _ _ h => h) (Or.inl ⟨by rfl, ?ya0⟩) hHeld ?ra0
          case ya0 => (intro w' hSw; (try dsimp only at hSw); go_simp; try (with_reducible rfl))
          simp only [Act.put, List.setIfInBounds_toArray, List.set_cons_zero, List.set_cons_succ]
          refine wpAnyH_take (i := 1) (oi := ⟨some 39, _, _, _, _, _⟩) (v := ?va1) rfl (by kernel_rfl) (by kernel_rfl) (by kernel_rfl) (fun _ _ _ h => h) (Or.inl ⟨by rfl, ?ya1⟩) hHeld ?ra1
          case ya1 => (intro w' hSw; (try dsimp only at hSw); go_simp; try (with_reducible rfl))
          simp only [Act.put, List.setIfInBounds_toArray, List.set_cons_zero, List.set_cons_succ]
          refine wpAnyH_take (i := 2) (oi := ⟨some 40, _, _, _, _, _⟩) (v := ?va2) rfl (by kernel_rfl) (by kernel_rfl) (by kernel_rfl) (fun _ _ _ h => h) (Or.inl ⟨by rfl, ?ya2⟩) hHeld ?ra2
          case ya2 => (intro w' hSw; (try dsimp only at hSw); go_simp; try (with_reducible rfl))
          simp only [Act.put, List.setIfInBounds_toArray, List.set_cons_zero, List.set_cons_succ]
          refine wpAnyH_take (i := 3) (oi := ⟨some 41, _, _, _, _, _⟩) (v := ?va3) rfl (by kernel_rfl) (by kernel_rfl) (by kernel_rfl) (fun _ _ _ h => h) (Or.inl ⟨by rfl, ?ya3⟩) hHeld ?ra3
          case ya3 => (intro w' hSw; (try dsimp only at hSw); go_simp; try (with_reducible rfl))
          simp only [Act.put, List.setIfInBounds_toArray, List.set_cons_zero, List.set_cons_succ]
          refine wpAnyH_take (i := 4) (oi := ⟨some 42, _, _, _, _, _⟩) (v := ?va4) rfl (by kernel_rfl) (by kernel_rfl) (by kernel_rfl) (fun _ _ _ h => h) (Or.inl ⟨by rfl, ?ya4⟩) hHeld ?ra4
          case ya4 => (intro w' hSw; (try dsimp only at hSw); go_simp; try (with_reducible rfl))
          simp only [Act.put, List.setIfInBounds_toArray, List.set_cons_zero, List.set_cons_succ]
          refine wpAnyH_take (i := 5) (oi := ⟨some 43, _, _, _, _, _⟩) (v := ?va5) rfl (by kernel_rfl) (by kernel_rfl) (by kernel_rfl) (fun _ _ _ h => h) (Or.inl ⟨by rfl, ?ya5⟩) hHeld ?ra5
          case ya5 => (intro w' hSw; (try dsimp only at hSw); go_simp; try (with_reducible rfl))
          simp only [Act.put, List.setIfInBounds_toArray, List.set_cons_zero, List.set_cons_succ]
          refine wpAnyH_ready (rs := [6]) (by kernel_rfl) (by simp) ?_
          refine AllReadyH.cons (o := ⟨some 44, _, _, _, _, _⟩) rfl (fun K hK => ?_) AllReadyH.nil
          go_simp
          (with_reducible refine (redge_c _ T _ _ _ (HT.out.on (HB2.out.trans (hHeld.1.mono HB2.out.size)))).mono ?_)
          rintro e w5 ⟨rfl, hb⟩
          (try dsimp only)
          refine hK.out _ _ (HKP.out _ (hHeld.1.trans (hb.mono hHeld.1.size))) (fun hNext => ?_)
          clear hK K hHeld
          have hHeld := hNext
          clear hNext
          try simp only [Act.put, List.setIfInBounds_toArray, List.set_cons_zero, List.set_cons_succ]
          refine wpAnyH_ready (rs := [7]) (by kernel_rfl) (by simp) ?_
          refine AllReadyH.cons (o := ⟨some 45, _, _, _, _, _⟩) rfl (fun K hK => ?_) AllReadyH.nil
          go_simp
          (with_reducible refine (rtenant_c true ten _ _ _ _ hin).mono ?_)
          rintro e w6 ⟨rfl, hb⟩
          (try dsimp only)
          refine hK.out _ _ (HKP.out _ (hHeld.1.trans (hb.mono hHeld.1.size))) (fun hNext => ?_)
          clear hK K hHeld
          have hHeld := hNext
          clear hNext
          try simp only [Act.put, List.setIfInBounds_toArray, List.set_cons_zero, List.set_cons_succ]
          refine wpAnyH_take (i := 8) (oi := ⟨some 46, _, _, _, _, _⟩) (v := ?va8) rfl (by kernel_rfl) (by kernel_rfl) (by kernel_rfl) (fun _ _ _ h => h) (Or.inl ⟨by rfl, ?ya8⟩) hHeld ?ra8
          case ya8 => (intro w' hSw; (try dsimp only at hSw); go_simp; try (with_reducible rfl))
          simp only [Act.put, List.setIfInBounds_toArray, List.set_cons_zero, List.set_cons_succ]
          refine wpAnyH_done (by kernel_rfl) ?_ _
          have HO2 : Hid (okE T ten (k + 1)) := fun j x hj hx => by
            by_cases e : j = k
            · subst e
              rw [hEE.out, HXX.out] at hx
              injection hx with hx
              subst hx
              exact hin
            · exact HO.out j x (by omega) hx
          have HW2 := Lib.hid (HW.out.trans (hHeld.1.mono HW.out.size))
          clear hHeld HKP HW HB2
          go_wp2
          go_roundg (EE.length - (k + 1))
          case measure => omega
          case rel => exact ⟨k + 1, by omega, rfl, by go_num, HO2, HW2⟩
    · have hltz : ¬ (k : Int) < (EE.length : Int) := by omega
      obtain rfl : k = EE.length := by omega
      have HOE : Hid (okE T ten (eTo T T.length).length) := by show okE _ _ _; rw [hEE.out]; exact HO.out
      clear HO HES HW HB1 N1 M1 HBAD
      go_wp2
      clear t2 d0 d1 d2
      go_loopg [7] P.length (fun gk s7 wq => ∃ k : Nat, k ≤ P.length ∧ gk = P.length - k ∧ s7 = .int .i64 k ∧ Hid (okPe P ten k) ∧ Hid (Below wr.heap.size wr wq))
      case atStart => exact ⟨0, Nat.zero_le _, rfl, rfl, fun j x hj => absurd hj (Nat.not_lt_zero _), Below.refl _ _⟩
      case round =>
        rename_i wr0
        obtain ⟨k, hk, rfl, rfl, HO, HW⟩ := hrel
        have HB3 := Lib.hid (HB2.out.trans (HW.out.mono HB2.out.size))
        have N3 := Lib.hid (N2.out.on HW.out)
        have M3 := Lib.hid (M2.out.on HW.out)
        have t3 := N3.out.single
        obtain ⟨d0, d1, d2⟩ := M3.out.three
        by_cases hlt : k < P.length
        · have hltz : (k : Int) < (P.length : Int) := by omega
          obtain ⟨x, hx⟩ : ∃ x, P[k]? = some x := ⟨_, List.getElem?_eq_getElem hlt⟩
          obtain ⟨pb, po, rfl, _, hpc⟩ := HPA.out (by rintro rfl; simp at hlt)
          have x0 := on_some HB3.out (hpc k x hx).1
          have x1 := on_some HB3.out (hpc k x hx).2
          obtain ⟨xa, xb⟩ := x
          simp only at x0 x1
          have KP : ∀ W, Below wr.heap.size wr W → (Below wr.heap.size wr W ∧ W.cell? ⟨w.heap.size + 1, 0, none⟩ = some (.int .i64 ten) ∧ W.cell? ⟨w.heap.size + 1, 1, none⟩ = some (.slice (some ⟨pb, po, none⟩) P.length pc) ∧ W.cell? ⟨w.heap.size + 1, 2, none⟩ = some (.slice wA Q.length wc) ∧ W.cell? ⟨pb, po + k * 2, none⟩ = some (.int .i64 xa) ∧ W.cell? ⟨pb, po + k * 2 + 1, none⟩ = some (.int .i64 xb)) := fun W hb => ⟨hb, on_some hb d0, on_some hb d1, on_some hb d2, on_some hb x0, on_some hb x1⟩
          have HKP := Lib.hid KP
          have HXX := Lib.hid hx
          clear KP t3 x0 x1 hpc hx
          cases hi1 : inB xa ten with
          | false =>
            go_upto_region 12 with (fail)
            refine wp_region_held_drew (S := fun w' => Below wr.heap.size wr w' ∧ w'.cell? ⟨w.heap.size + 1, 0, none⟩ = some (.int .i64 ten) ∧ w'.cell? ⟨w.heap.size + 1, 1, none⟩ = some (.slice (some ⟨pb, po, none⟩) P.length pc) ∧ w'.cell? ⟨w.heap.size + 1, 2, none⟩ = some (.slice wA Q.length wc) ∧ w'.cell? ⟨pb, po + k * 2, none⟩ = some (.int .i64 xa) ∧ w'.cell? ⟨pb, po + k * 2 + 1, none⟩ = some (.int .i64 xb)) (by kernel_rfl) (HKP.out _ (Below.refl _ wr).drew) (fun hHeld => ?_)
            refine wpAnyH_take (i := 0) (oi := ⟨some 54, _, _, _, _, _⟩) (v := ?vc0) rfl (by kernel_rfl) (by kernel_rfl) (by kernel_rfl) (fun _ _ _ h => h) (Or.inl ⟨by rfl, ?yc0⟩) hHeld ?rc0
            case yc0 => (intro w' hSw; (try dsimp only at hSw); go_simp; try (with_reducible rfl))
            simp only [Act.put, List.setIfInBounds_toArray, List.set_cons_zero, List.set_cons_succ]
            refine wpAnyH_take (i := 1) (oi := ⟨some 55, _, _, _, _, _⟩) (v := ?vc1) rfl (by kernel_rfl) (by kernel_rfl) (by kernel_rfl) (fun _ _ _ h => h) (Or.inl ⟨by rfl, ?yc1⟩) hHeld ?rc1
            case yc1 => (intro w' hSw; (try dsimp only at hSw); go_simp; try (with_reducible rfl))
            simp only [Act.put, List.setIfInBounds_toArray, List.set_cons_zero, List.set_cons_succ]
            refine wpAnyH_take (i := 2) (oi := ⟨some 56, _, _, _, _, _⟩) (v := ?vc2) rfl (by kernel_rfl) (by kernel_rfl) (by kernel_rfl) (fun _ _ _ h => h) (Or.inl ⟨by rfl, ?yc2⟩) hHeld ?rc2
            case yc2 => (intro w' hSw; (try dsimp only at hSw); go_simp; try (with_reducible rfl))
            simp only [Act.put, List.setIfInBounds_toArray, List.set_cons_zero, List.set_cons_succ]
            refine wpAnyH_take (i := 3) (oi := ⟨some 57, _, _, _, _, _⟩) (v := ?vc3) rfl (by kernel_rfl) (by kernel_rfl) (by kernel_rfl) (fun _ _ _ h => h) (Or.inl ⟨by rfl, ?yc3⟩) hHeld ?rc3
            case yc3 => (intro w' hSw; (try dsimp only at hSw); go_simp; try (with_reducible rfl))
            simp only [Act.put, List.setIfInBounds_toArray, List.set_cons_zero, List.set_cons_succ]
            refine wpAnyH_take (i := 4) (oi := ⟨some 58, _, _, _, _, _⟩) (v := ?vc4) rfl (by kernel_rfl) (by kernel_rfl) (by kernel_rfl) (fun _ _ _ h => h) (Or.inl ⟨by rfl, ?yc4⟩) hHeld ?rc4
            case yc4 => (intro w' hSw; (try dsimp only at hSw); go_simp; try (with_reducible rfl))
            simp only [Act.put, List.setIfInBounds_toArray, List.set_cons_zero, List.set_cons_succ]
            refine wpAnyH_take (i := 5) (oi := ⟨some 59, _, _, _, _, _⟩) (v := ?vc5) rfl (by kernel_rfl) (by kernel_rfl) (by kernel_rfl) (fun _ _ _ h => h) (Or.inl ⟨by rfl, ?yc5⟩) hHeld ?rc5
            case yc5 => (intro w' hSw; (try dsimp only at hSw); go_simp; try (with_reducible rfl))
            simp only [Act.put, List.setIfInBounds_toArray, List.set_cons_zero, List.set_cons_succ]
            refine wpAnyH_take (i := 6) (oi := ⟨some 60, _, _, _, _, _⟩) (v := ?vc6) rfl (by kernel_rfl) (by kernel_rfl) (by kernel_rfl) (fun _ _ _ h => h) (Or.inl ⟨by rfl, ?yc6⟩) hHeld ?rc6
            case yc6 => (intro w' hSw; (try dsimp only at hSw); go_simp; try (with_reducible rfl))
            simp only [Act.put, List.setIfInBounds_toArray, List.set_cons_zero, List.set_cons_succ]
            refine wpAnyH_ready (rs := [7]) (by kernel_rfl) (by simp) ?_
            refine AllReadyH.cons (o := ⟨some 61, _, _, _, _, _⟩) rfl (fun K hK => ?_) AllReadyH.nil
            go_simp
            (with_reducible refine (rtenant_c false ten _ _ _ _ hi1).mono ?_)
            rintro e w5 ⟨rfl, hb⟩
            (try dsimp only)
            refine hK.out _ _ (HKP.out _ (hHeld.1.trans (hb.mono hHeld.1.size))) (fun hNext => ?_)
            clear hK K hHeld
            have hHeld := hNext
            clear hNext
            try simp only [Act.put, List.setIfInBounds_toArray, List.set_cons_zero, List.set_cons_succ]
            refine wpAnyH_take (i := 8) (oi := ⟨some 62, _, _, _, _, _⟩) (v := ?vc8) rfl (by kernel_rfl) (by kernel_rfl) (by kernel_rfl) (fun _ _ _ h => h) (Or.inl ⟨by rfl, ?yc8⟩) hHeld ?rc8
            case yc8 => (intro w' hSw; (try dsimp only at hSw); go_simp; try (with_reducible rfl))
            simp only [Act.put, List.setIfInBounds_toArray, List.set_cons_zero, List.set_cons_succ]
            refine wpAnyH_take (i := 9) (oi := ⟨some 63, _, _, _, _, _⟩) (v := ?vc9) rfl (by kernel_rfl) (by kernel_rfl) (by kernel_rfl) (fun _ _ _ h => h) (Or.inl ⟨by rfl, ?yc9⟩) hHeld ?rc9
            case yc9 => (intro w' hSw; (try dsimp only at hSw); go_simp; try (with_reducible rfl))
            simp only [Act.put, List.setIfInBounds_toArray, List.set_cons_zero, List.set_cons_succ]
            refine wpAnyH_take (i := 10) (oi := ⟨some 64, _, _, _, _, _⟩) (v := undef) rfl (by kernel_rfl) (by kernel_rfl) (by kernel_rfl) (fun _ _ _ h => h) (Or.inr ⟨by rfl, rfl⟩) hHeld ?_
            simp only [Act.put, List.setIfInBounds_toArray, List.set_cons_zero, List.set_cons_succ]
            refine wpAnyH_take (i := 11) (oi := ⟨some 65, _, _, _, _, _⟩) (v := undef) rfl (by kernel_rfl) (by kernel_rfl) (by kernel_rfl) (fun _ _ _ h => h) (Or.inr ⟨by rfl, rfl⟩) hHeld ?_
            simp only [Act.put, List.setIfInBounds_toArray, List.set_cons_zero, List.set_cons_succ]
            refine wpAnyH_take (i := 12) (oi := ⟨some 66, _, _, _, _, _⟩) (v := undef) rfl (by kernel_rfl) (by kernel_rfl) (by kernel_rfl) (fun _ _ _ h => h) (Or.inr ⟨by rfl, rfl⟩) hHeld ?_
            simp only [Act.put, List.setIfInBounds_toArray, List.set_cons_zero, List.set_cons_succ]
            refine wpAnyH_take (i := 13) (oi := ⟨some 67, _, _, _, _, _⟩) (v := undef) rfl (by kernel_rfl) (by kernel_rfl) (by kernel_rfl) (fun _ _ _ h => h) (Or.inr ⟨by rfl, rfl⟩) hHeld ?_
            simp only [Act.put, List.setIfInBounds_toArray, List.set_cons_zero, List.set_cons_succ]
            refine wpAnyH_take (i := 14) (oi := ⟨some 68, _, _, _, _, _⟩) (v := undef) rfl (by kernel_rfl) (by kernel_rfl) (by kernel_rfl) (fun _ _ _ h => h) (Or.inr ⟨by rfl, rfl⟩) hHeld ?_
            simp only [Act.put, List.setIfInBounds_toArray, List.set_cons_zero, List.set_cons_succ]
            refine wpAnyH_take (i := 15) (oi := ⟨some 69, _, _, _, _, _⟩) (v := undef) rfl (by kernel_rfl) (by kernel_rfl) (by kernel_rfl) (fun _ _ _ h => h) (Or.inr ⟨by rfl, rfl⟩) hHeld ?_
            simp only [Act.put, List.setIfInBounds_toArray, List.set_cons_zero, List.set_cons_succ]
            refine wpAnyH_take (i := 16) (oi := ⟨some 70, _, _, _, _, _⟩) (v := undef) rfl (by kernel_rfl) (by kernel_rfl) (by kernel_rfl) (fun _ _ _ h => h) (Or.inr ⟨by rfl, rfl⟩) hHeld ?_
            simp only [Act.put, List.setIfInBounds_toArray, List.set_cons_zero, List.set_cons_succ]
            refine wpAnyH_ready (rs := [17]) (by kernel_rfl) (by simp) ?_
            refine AllReadyH.cons (o := ⟨some 71, _, _, _, _, _⟩) rfl (fun K hK => ?_) AllReadyH.nil
            go_simp
            refine hK.out _ _ hHeld (fun hNext => ?_)
            clear hK K hHeld
            have hHeld := hNext
            clear hNext
            try simp only [Act.put, List.setIfInBounds_toArray, List.set_cons_zero, List.set_cons_succ]
            refine wpAnyH_take (i := 18) (oi := ⟨some 72, _, _, _, _, _⟩) (v := undef) rfl (by kernel_rfl) (by kernel_rfl) (by kernel_rfl) (fun _ _ _ h => h) (Or.inr ⟨by rfl, rfl⟩) hHeld ?_
            simp only [Act.put, List.setIfInBounds_toArray, List.set_cons_zero, List.set_cons_succ]
            refine wpAnyH_take (i := 19) (oi := ⟨some 73, _, _, _, _, _⟩) (v := ?vc19) rfl (by kernel_rfl) (by kernel_rfl) (by kernel_rfl) (fun _ _ _ h => h) (Or.inl ⟨by rfl, ?yc19⟩) hHeld ?rc19
            case yc19 => (intro w' hSw; (try dsimp only at hSw); go_simp; try (with_reducible rfl))
            simp only [Act.put, List.setIfInBounds_toArray, List.set_cons_zero, List.set_cons_succ]
            refine wpAnyH_done (by kernel_rfl) ?_ _
            have HE : Hid (polT T ten P Q = 2) := by
              show _ = _
              unfold polT
              rw [if_neg (by rintro (h | h | h | h | h) <;> first | omega | exact h HOE.out), if_pos (.inl fun h => by
                have := (h k (xa, xb) hlt HXX.out).1
                simp only at this
                rw [hi1] at this
                cases this)]
            have HBE := Lib.hid (HB3.out.trans (hHeld.1.mono HB3.out.size))
            clear hHeld HKP
            go_wp2
            go_ret
            exact ⟨by rw [HE.out]; rfl, HBE.out⟩
          | true =>
            cases hi2 : inB xb ten with
            | false =>
              go_upto_region 12 with (fail)
              refine wp_region_held_drew (S := fun w' => Below wr.heap.size wr w' ∧ w'.cell? ⟨w.heap.size + 1, 0, none⟩ = some (.int .i64 ten) ∧ w'.cell? ⟨w.heap.size + 1, 1, none⟩ = some (.slice (some ⟨pb, po, none⟩) P.length pc) ∧ w'.cell? ⟨w.heap.size + 1, 2, none⟩ = some (.slice wA Q.length wc) ∧ w'.cell? ⟨pb, po + k * 2, none⟩ = some (.int .i64 xa) ∧ w'.cell? ⟨pb, po + k * 2 + 1, none⟩ = some (.int .i64 xb)) (by kernel_rfl) (HKP.out _ (Below.refl _ wr).drew) (fun hHeld => ?_)
              refine wpAnyH_take (i := 0) (oi := ⟨some 54, _, _, _, _, _⟩) (v := ?vd0) rfl (by kernel_rfl) (by kernel_rfl) (by kernel_rfl) (fun _ _ _ h => h) (Or.inl ⟨by rfl, ?yd0⟩) hHeld ?rd0
              case yd0 => (intro w' hSw; (try dsimp only at hSw); go_simp; try (with_reducible rfl))
              simp only [Act.put, List.setIfInBounds_toArray, List.set_cons_zero, List.set_cons_succ]
              refine wpAnyH_take (i := 1) (oi := ⟨some 55, _, _, _, _, _⟩) (v := ?vd1) rfl (by kernel_rfl) (by kernel_rfl) (by kernel_rfl) (fun _ _ _ h => h) (Or.inl ⟨by rfl, ?yd1⟩) hHeld ?rd1
              case yd1 => (intro w' hSw; (try dsimp only at hSw); go_simp; try (with_reducible rfl))
              simp only [Act.put, List.setIfInBounds_toArray, List.set_cons_zero, List.set_cons_succ]
              refine wpAnyH_take (i := 2) (oi := ⟨some 56, _, _, _, _, _⟩) (v := ?vd2) rfl (by kernel_rfl) (by kernel_rfl) (by kernel_rfl) (fun _ _ _ h => h) (Or.inl ⟨by rfl, ?yd2⟩) hHeld ?rd2
              case yd2 => (intro w' hSw; (try dsimp only at hSw); go_simp; try (with_reducible rfl))
              simp only [Act.put, List.setIfInBounds_toArray, List.set_cons_zero, List.set_cons_succ]
              refine wpAnyH_take (i := 3) (oi := ⟨some 57, _, _, _, _, _⟩) (v := ?vd3) rfl (by kernel_rfl) (by kernel_rfl) (by kernel_rfl) (fun _ _ _ h => h) (Or.inl ⟨by rfl, ?yd3⟩) hHeld ?rd3
              case yd3 => (intro w' hSw; (try dsimp only at hSw); go_simp; try (with_reducible rfl))
              simp only [Act.put, List.setIfInBounds_toArray, List.set_cons_zero, List.set_cons_succ]
              refine wpAnyH_take (i := 4) (oi := ⟨some 58, _, _, _, _, _⟩) (v := ?vd4) rfl (by kernel_rfl) (by kernel_rfl) (by kernel_rfl) (fun _ _ _ h => h) (Or.inl ⟨by rfl, ?yd4⟩) hHeld ?rd4
              case yd4 => (intro w' hSw; (try dsimp only at hSw); go_simp; try (with_reducible rfl))
              simp only [Act.put, List.setIfInBounds_toArray, List.set_cons_zero, List.set_cons_succ]
              refine wpAnyH_take (i := 5) (oi := ⟨some 59, _, _, _, _, _⟩) (v := ?vd5) rfl (by kernel_rfl) (by kernel_rfl) (by kernel_rfl) (fun _ _ _ h => h) (Or.inl ⟨by rfl, ?yd5⟩) hHeld ?rd5
              case yd5 => (intro w' hSw; (try dsimp only at hSw); go_simp; try (with_reducible rfl))
              simp only [Act.put, List.setIfInBounds_toArray, List.set_cons_zero, List.set_cons_succ]
              refine wpAnyH_take (i := 6) (oi := ⟨some 60, _, _, _, _, _⟩) (v := ?vd6) rfl (by kernel_rfl) (by kernel_rfl) (by kernel_rfl) (fun _ _ _ h => h) (Or.inl ⟨by rfl, ?yd6⟩) hHeld ?rd6
              case yd6 => (intro w' hSw; (try dsimp only at hSw); go_simp; try (with_reducible rfl))
              simp only [Act.put, List.setIfInBounds_toArray, List.set_cons_zero, List.set_cons_succ]
              refine wpAnyH_ready (rs := [7]) (by kernel_rfl) (by simp) ?_
              refine AllReadyH.cons (o := ⟨some 61, _, _, _, _, _⟩) rfl (fun K hK => ?_) AllReadyH.nil
              go_simp
              (with_reducible refine (rtenant_c true ten _ _ _ _ hi1).mono ?_)
              rintro e w5 ⟨rfl, hb⟩
              (try dsimp only)
              refine hK.out _ _ (HKP.out _ (hHeld.1.trans (hb.mono hHeld.1.size))) (fun hNext => ?_)
              clear hK K hHeld
              have hHeld := hNext
              clear hNext
              try simp only [Act.put, List.setIfInBounds_toArray, List.set_cons_zero, List.set_cons_succ]
              refine wpAnyH_take (i := 8) (oi := ⟨some 62, _, _, _, _, _⟩) (v := ?vd8) rfl (by kernel_rfl) (by kernel_rfl) (by kernel_rfl) (fun _ _ _ h => h) (Or.inl ⟨by rfl, ?yd8⟩) hHeld ?rd8
              case yd8 => (intro w' hSw; (try dsimp only at hSw); go_simp; try (with_reducible rfl))
              simp only [Act.put, List.setIfInBounds_toArray, List.set_cons_zero, List.set_cons_succ]
              refine wpAnyH_take (i := 9) (oi := ⟨some 63, _, _, _, _, _⟩) (v := ?vd9) rfl (by kernel_rfl) (by kernel_rfl) (by kernel_rfl) (fun _ _ _ h => h) (Or.inl ⟨by rfl, ?yd9⟩) hHeld ?rd9
              case yd9 => (intro w' hSw; (try dsimp only at hSw); go_simp; try (with_reducible rfl))
              simp only [Act.put, List.setIfInBounds_toArray, List.set_cons_zero, List.set_cons_succ]
              refine wpAnyH_take (i := 10) (oi := ⟨some 64, _, _, _, _, _⟩) (v := ?vd10) rfl (by kernel_rfl) (by kernel_rfl) (by kernel_rfl) (fun _ _ _ h => h) (Or.inl ⟨by rfl, ?yd10⟩) hHeld ?rd10
              case yd10 => (intro w' hSw; (try dsimp only at hSw); go_simp; try (with_reducible rfl))
              simp only [Act.put, List.setIfInBounds_toArray, List.set_cons_zero, List.set_cons_succ]
              refine wpAnyH_take (i := 11) (oi := ⟨some 65, _, _, _, _, _⟩) (v := ?vd11) rfl (by kernel_rfl) (by kernel_rfl) (by kernel_rfl) (fun _ _ _ h => h) (Or.inl ⟨by rfl, ?yd11⟩) hHeld ?rd11
              case yd11 => (intro w' hSw; (try dsimp only at hSw); go_simp; try (with_reducible rfl))
              simp only [Act.put, List.setIfInBounds_toArray, List.set_cons_zero, List.set_cons_succ]
              refine wpAnyH_take (i := 12) (oi := ⟨some 66, _, _, _, _, _⟩) (v := ?vd12) rfl (by kernel_rfl) (by kernel_rfl) (by kernel_rfl) (fun _ _ _ h => h) (Or.inl ⟨by rfl, ?yd12⟩) hHeld ?rd12
              case yd12 => (intro w' hSw; (try dsimp only at hSw); go_simp; try (with_reducible rfl))
              simp only [Act.put, List.setIfInBounds_toArray, List.set_cons_zero, List.set_cons_succ]
              refine wpAnyH_take (i := 13) (oi := ⟨some 67, _, _, _, _, _⟩) (v := ?vd13) rfl (by kernel_rfl) (by kernel_rfl) (by kernel_rfl) (fun _ _ _ h => h) (Or.inl ⟨by rfl, ?yd13⟩) hHeld ?rd13
              case yd13 => (intro w' hSw; (try dsimp only at hSw); go_simp; try (with_reducible rfl))
              simp only [Act.put, List.setIfInBounds_toArray, List.set_cons_zero, List.set_cons_succ]
              refine wpAnyH_take (i := 14) (oi := ⟨some 68, _, _, _, _, _⟩) (v := ?vd14) rfl (by kernel_rfl) (by kernel_rfl) (by kernel_rfl) (fun _ _ _ h => h) (Or.inl ⟨by rfl, ?yd14⟩) hHeld ?rd14
              case yd14 => (intro w' hSw; (try dsimp only at hSw); go_simp; try (with_reducible rfl))
              simp only [Act.put, List.setIfInBounds_toArray, List.set_cons_zero, List.set_cons_succ]
              refine wpAnyH_take (i := 15) (oi := ⟨some 69, _, _, _, _, _⟩) (v := ?vd15) rfl (by kernel_rfl) (by kernel_rfl) (by kernel_rfl) (fun _ _ _ h => h) (Or.inl ⟨by rfl, ?yd15⟩) hHeld ?rd15
              case yd15 => (intro w' hSw; (try dsimp only at hSw); go_simp; try (with_reducible rfl))
              simp only [Act.put, List.setIfInBounds_toArray, List.set_cons_zero, List.set_cons_succ]
              refine wpAnyH_take (i := 16) (oi := ⟨some 70, _, _, _, _, _⟩) (v := ?vd16) rfl (by kernel_rfl) (by kernel_rfl) (by kernel_rfl) (fun _ _ _ h => h) (Or.inl ⟨by rfl, ?yd16⟩) hHeld ?rd16
              case yd16 => (intro w' hSw; (try dsimp only at hSw); go_simp; try (with_reducible rfl))
              simp only [Act.put, List.setIfInBounds_toArray, List.set_cons_zero, List.set_cons_succ]
              refine wpAnyH_ready (rs := [17]) (by kernel_rfl) (by simp) ?_
              refine AllReadyH.cons (o := ⟨some 71, _, _, _, _, _⟩) rfl (fun K hK => ?_) AllReadyH.nil
              go_simp
              (with_reducible refine (rtenant_c false ten _ _ _ _ hi2).mono ?_)
              rintro e w6 ⟨rfl, hb⟩
              (try dsimp only)
              refine hK.out _ _ (HKP.out _ (hHeld.1.trans (hb.mono hHeld.1.size))) (fun hNext => ?_)
              clear hK K hHeld
              have hHeld := hNext
              clear hNext
              try simp only [Act.put, List.setIfInBounds_toArray, List.set_cons_zero, List.set_cons_succ]
              refine wpAnyH_take (i := 18) (oi := ⟨some 72, _, _, _, _, _⟩) (v := ?vd18) rfl (by kernel_rfl) (by kernel_rfl) (by kernel_rfl) (fun _ _ _ h => h) (Or.inl ⟨by rfl, ?yd18⟩) hHeld ?rd18
              case yd18 => (intro w' hSw; (try dsimp only at hSw); go_simp; try (with_reducible rfl))
              simp only [Act.put, List.setIfInBounds_toArray, List.set_cons_zero, List.set_cons_succ]
              refine wpAnyH_take (i := 19) (oi := ⟨some 73, _, _, _, _, _⟩) (v := ?vd19) rfl (by kernel_rfl) (by kernel_rfl) (by kernel_rfl) (fun _ _ _ h => h) (Or.inl ⟨by rfl, ?yd19⟩) hHeld ?rd19
              case yd19 => (intro w' hSw; (try dsimp only at hSw); go_simp; try (with_reducible rfl))
              simp only [Act.put, List.setIfInBounds_toArray, List.set_cons_zero, List.set_cons_succ]
              refine wpAnyH_done (by kernel_rfl) ?_ _
              have HE : Hid (polT T ten P Q = 2) := by
                show _ = _
                unfold polT
                rw [if_neg (by rintro (h | h | h | h | h) <;> first | omega | exact h HOE.out), if_pos (.inl fun h => by
                  have := (h k (xa, xb) hlt HXX.out).2
                  simp only at this
                  rw [hi2] at this
                  cases this)]
              have HBE := Lib.hid (HB3.out.trans (hHeld.1.mono HB3.out.size))
              clear hHeld HKP
              go_wp2
              go_ret
              exact ⟨by rw [HE.out]; rfl, HBE.out⟩
            | true =>
              go_upto_region 12 with (fail)
              refine wp_region_held_drew (S := fun w' => Below wr.heap.size wr w' ∧ w'.cell? ⟨w.heap.size + 1, 0, none⟩ = some (.int .i64 ten) ∧ w'.cell? ⟨w.heap.size + 1, 1, none⟩ = some (.slice (some ⟨pb, po, none⟩) P.length pc) ∧ w'.cell? ⟨w.heap.size + 1, 2, none⟩ = some (.slice wA Q.length wc) ∧ w'.cell? ⟨pb, po + k * 2, none⟩ = some (.int .i64 xa) ∧ w'.cell? ⟨pb, po + k * 2 + 1, none⟩ = some (.int .i64 xb)) (by kernel_rfl) (HKP.out _ (Below.refl _ wr).drew) (fun hHeld => ?_)
              refine wpAnyH_take (i := 0) (oi := ⟨some 54, _, _, _, _, _⟩) (v := ?ve0) rfl (by kernel_rfl) (by kernel_rfl) (by kernel_rfl) (fun _ _ _ h => h) (Or.inl ⟨by rfl, ?ye0⟩) hHeld ?re0
              case ye0 => (intro w' hSw; (try dsimp only at hSw); go_simp; try (with_reducible rfl))
              simp only [Act.put, List.setIfInBounds_toArray, List.set_cons_zero, List.set_cons_succ]
              refine wpAnyH_take (i := 1) (oi := ⟨some 55, _, _, _, _, _⟩) (v := ?ve1) rfl (by kernel_rfl) (by kernel_rfl) (by kernel_rfl) (fun _ _ _ h => h) (Or.inl ⟨by rfl, ?ye1⟩) hHeld ?re1
              case ye1 => (intro w' hSw; (try dsimp only at hSw); go_simp; try (with_reducible rfl))
              simp only [Act.put, List.setIfInBounds_toArray, List.set_cons_zero, List.set_cons_succ]
              refine wpAnyH_take (i := 2) (oi := ⟨some 56, _, _, _, _, _⟩) (v := ?ve2) rfl (by kernel_rfl) (by kernel_rfl) (by kernel_rfl) (fun _ _ _ h => h) (Or.inl ⟨by rfl, ?ye2⟩) hHeld ?re2
              case ye2 => (intro w' hSw; (try dsimp only at hSw); go_simp; try (with_reducible rfl))
              simp only [Act.put, List.setIfInBounds_toArray, List.set_cons_zero, List.set_cons_succ]
              refine wpAnyH_take (i := 3) (oi := ⟨some 57, _, _, _, _, _⟩) (v := ?ve3) rfl (by kernel_rfl) (by kernel_rfl) (by kernel_rfl) (fun _ _ _ h => h) (Or.inl ⟨by rfl, ?ye3⟩) hHeld ?re3
              case ye3 => (intro w' hSw; (try dsimp only at hSw); go_simp; try (with_reducible rfl))
              simp only [Act.put, List.setIfInBounds_toArray, List.set_cons_zero, List.set_cons_succ]
              refine wpAnyH_take (i := 4) (oi := ⟨some 58, _, _, _, _, _⟩) (v := ?ve4) rfl (by kernel_rfl) (by kernel_rfl) (by kernel_rfl) (fun _ _ _ h => h) (Or.inl ⟨by rfl, ?ye4⟩) hHeld ?re4
              case ye4 => (intro w' hSw; (try dsimp only at hSw); go_simp; try (with_reducible rfl))
              simp only [Act.put, List.setIfInBounds_toArray, List.set_cons_zero, List.set_cons_succ]
              refine wpAnyH_take (i := 5) (oi := ⟨some 59, _, _, _, _, _⟩) (v := ?ve5) rfl (by kernel_rfl) (by kernel_rfl) (by kernel_rfl) (fun _ _ _ h => h) (Or.inl ⟨by rfl, ?ye5⟩) hHeld ?re5
              case ye5 => (intro w' hSw; (try dsimp only at hSw); go_simp; try (with_reducible rfl))
              simp only [Act.put, List.setIfInBounds_toArray, List.set_cons_zero, List.set_cons_succ]
              refine wpAnyH_take (i := 6) (oi := ⟨some 60, _, _, _, _, _⟩) (v := ?ve6) rfl (by kernel_rfl) (by kernel_rfl) (by kernel_rfl) (fun _ _ _ h => h) (Or.inl ⟨by rfl, ?ye6⟩) hHeld ?re6
              case ye6 => (intro w' hSw; (try dsimp only at hSw); go_simp; try (with_reducible rfl))
              simp only [Act.put, List.setIfInBounds_toArray, List.set_cons_zero, List.set_cons_succ]
              refine wpAnyH_ready (rs := [7]) (by kernel_rfl) (by simp) ?_
              refine AllReadyH.cons (o := ⟨some 61, _, _, _, _, _⟩) rfl (fun K hK => ?_) AllReadyH.nil
              go_simp
              (with_reducible refine (rtenant_c true ten _ _ _ _ hi1).mono ?_)
              rintro e w5 ⟨rfl, hb⟩
              (try dsimp only)
              refine hK.out _ _ (HKP.out _ (hHeld.1.trans (hb.mono hHeld.1.size))) (fun hNext => ?_)
              clear hK K hHeld
              have hHeld := hNext
              clear hNext
              try simp only [Act.put, List.setIfInBounds_toArray, List.set_cons_zero, List.set_cons_succ]
              refine wpAnyH_take (i := 8) (oi := ⟨some 62, _, _, _, _, _⟩) (v := ?ve8) rfl (by kernel_rfl) (by kernel_rfl) (by kernel_rfl) (fun _ _ _ h => h) (Or.inl ⟨by rfl, ?ye8⟩) hHeld ?re8
              case ye8 => (intro w' hSw; (try dsimp only at hSw); go_simp; try (with_reducible rfl))
              simp only [Act.put, List.setIfInBounds_toArray, List.set_cons_zero, List.set_cons_succ]
              refine wpAnyH_take (i := 9) (oi := ⟨some 63, _, _, _, _, _⟩) (v := ?ve9) rfl (by kernel_rfl) (by kernel_rfl) (by kernel_rfl) (fun _ _ _ h => h) (Or.inl ⟨by rfl, ?ye9⟩) hHeld ?re9
              case ye9 => (intro w' hSw; (try dsimp only at hSw); go_simp; try (with_reducible rfl))
              simp only [Act.put, List.setIfInBounds_toArray, List.set_cons_zero, List.set_cons_succ]
              refine wpAnyH_take (i := 10) (oi := ⟨some 64, _, _, _, _, _⟩) (v := ?ve10) rfl (by kernel_rfl) (by kernel_rfl) (by kernel_rfl) (fun _ _ _ h => h) (Or.inl ⟨by rfl, ?ye10⟩) hHeld ?re10
              case ye10 => (intro w' hSw; (try dsimp only at hSw); go_simp; try (with_reducible rfl))
              simp only [Act.put, List.setIfInBounds_toArray, List.set_cons_zero, List.set_cons_succ]
              refine wpAnyH_take (i := 11) (oi := ⟨some 65, _, _, _, _, _⟩) (v := ?ve11) rfl (by kernel_rfl) (by kernel_rfl) (by kernel_rfl) (fun _ _ _ h => h) (Or.inl ⟨by rfl, ?ye11⟩) hHeld ?re11
              case ye11 => (intro w' hSw; (try dsimp only at hSw); go_simp; try (with_reducible rfl))
              simp only [Act.put, List.setIfInBounds_toArray, List.set_cons_zero, List.set_cons_succ]
              refine wpAnyH_take (i := 12) (oi := ⟨some 66, _, _, _, _, _⟩) (v := ?ve12) rfl (by kernel_rfl) (by kernel_rfl) (by kernel_rfl) (fun _ _ _ h => h) (Or.inl ⟨by rfl, ?ye12⟩) hHeld ?re12
              case ye12 => (intro w' hSw; (try dsimp only at hSw); go_simp; try (with_reducible rfl))
              simp only [Act.put, List.setIfInBounds_toArray, List.set_cons_zero, List.set_cons_succ]
              refine wpAnyH_take (i := 13) (oi := ⟨some 67, _, _, _, _, _⟩) (v := ?ve13) rfl (by kernel_rfl) (by kernel_rfl) (by kernel_rfl) (fun _ _ _ h => h) (Or.inl ⟨by rfl, ?ye13⟩) hHeld ?re13
              case ye13 => (intro w' hSw; (try dsimp only at hSw); go_simp; try (with_reducible rfl))
              simp only [Act.put, List.setIfInBounds_toArray, List.set_cons_zero, List.set_cons_succ]
              refine wpAnyH_take (i := 14) (oi := ⟨some 68, _, _, _, _, _⟩) (v := ?ve14) rfl (by kernel_rfl) (by kernel_rfl) (by kernel_rfl) (fun _ _ _ h => h) (Or.inl ⟨by rfl, ?ye14⟩) hHeld ?re14
              case ye14 => (intro w' hSw; (try dsimp only at hSw); go_simp; try (with_reducible rfl))
              simp only [Act.put, List.setIfInBounds_toArray, List.set_cons_zero, List.set_cons_succ]
              refine wpAnyH_take (i := 15) (oi := ⟨some 69, _, _, _, _, _⟩) (v := ?ve15) rfl (by kernel_rfl) (by kernel_rfl) (by kernel_rfl) (fun _ _ _ h => h) (Or.inl ⟨by rfl, ?ye15⟩) hHeld ?re15
              case ye15 => (intro w' hSw; (try dsimp only at hSw); go_simp; try (with_reducible rfl))
              simp only [Act.put, List.setIfInBounds_toArray, List.set_cons_zero, List.set_cons_succ]
              refine wpAnyH_take (i := 16) (oi := ⟨some 70, _, _, _, _, _⟩) (v := ?ve16) rfl (by kernel_rfl) (by kernel_rfl) (by kernel_rfl) (fun _ _ _ h => h) (Or.inl ⟨by rfl, ?ye16⟩) hHeld ?re16
              case ye16 => (intro w' hSw; (try dsimp only at hSw); go_simp; try (with_reducible rfl))
              simp only [Act.put, List.setIfInBounds_toArray, List.set_cons_zero, List.set_cons_succ]
              refine wpAnyH_ready (rs := [17]) (by kernel_rfl) (by simp) ?_
              refine AllReadyH.cons (o := ⟨some 71, _, _, _, _, _⟩) rfl (fun K hK => ?_) AllReadyH.nil
              go_simp
              (with_reducible refine (rtenant_c true ten _ _ _ _ hi2).mono ?_)
              rintro e w6 ⟨rfl, hb⟩
              (try dsimp only)
              refine hK.out _ _ (HKP.out _ (hHeld.1.trans (hb.mono hHeld.1.size))) (fun hNext => ?_)
              clear hK K hHeld
              have hHeld := hNext
              clear hNext
              try simp only [Act.put, List.setIfInBounds_toArray, List.set_cons_zero, List.set_cons_succ]
              refine wpAnyH_take (i := 18) (oi := ⟨some 72, _, _, _, _, _⟩) (v := ?ve18) rfl (by kernel_rfl) (by kernel_rfl) (by kernel_rfl) (fun _ _ _ h => h) (Or.inl ⟨by rfl, ?ye18⟩) hHeld ?re18
              case ye18 => (intro w' hSw; (try dsimp only at hSw); go_simp; try (with_reducible rfl))
              simp only [Act.put, List.setIfInBounds_toArray, List.set_cons_zero, List.set_cons_succ]
              refine wpAnyH_take (i := 19) (oi := ⟨some 73, _, _, _, _, _⟩) (v := ?ve19) rfl (by kernel_rfl) (by kernel_rfl) (by kernel_rfl) (fun _ _ _ h => h) (Or.inl ⟨by rfl, ?ye19⟩) hHeld ?re19
              case ye19 => (intro w' hSw; (try dsimp only at hSw); go_simp; try (with_reducible rfl))
              simp only [Act.put, List.setIfInBounds_toArray, List.set_cons_zero, List.set_cons_succ]
              refine wpAnyH_done (by kernel_rfl) ?_ _
              have HO2 : Hid (okPe P ten (k + 1)) := fun j x hj hx => by
                by_cases e : j = k
                · subst e
                  rw [HXX.out] at hx
                  injection hx with hx
                  subst hx
                  exact ⟨hi1, hi2⟩
                · exact HO.out j x (by omega) hx
              have HW2 := Lib.hid (HW.out.trans (hHeld.1.mono HW.out.size))
              clear hHeld HKP HW HB3 N3 M3
              go_wp2
              go_roundg (P.length - (k + 1))
              case measure => omega
              case rel => exact ⟨k + 1, by omega, rfl, by go_num, HO2, HW2⟩
        · have hltz : ¬ (k : Int) < (P.length : Int) := by omega
          obtain rfl : k = P.length := by omega
          have HOP := HO
          clear HO HW
          go_wp2
          clear t3 d0 d1 d2 N2 M2 HB2
          go_loopg [8, 9] Q.length (fun gk s8 _ wq => ∃ k : Nat, k ≤ Q.length ∧ gk = Q.length - k ∧ s8 = .int .i64 k ∧ Hid (okWy Q ten T.length k) ∧ Hid (Below wr.heap.size wr wq))
          case atStart => exact ⟨0, Nat.zero_le _, rfl, rfl, fun j x hj => absurd hj (Nat.not_lt_zero _), Below.refl _ _⟩
          case round =>
            obtain ⟨k, hk, rfl, rfl, HO, HW⟩ := hrel
            have HB4 := Lib.hid (HB3.out.trans (HW.out.mono HB3.out.size))
            have N4 := Lib.hid (N3.out.on HW.out)
            have M4 := Lib.hid (M3.out.on HW.out)
            obtain ⟨d0, d1, d2⟩ := M4.out.three
            by_cases hlt : k < Q.length
            · have hltz : (k : Int) < (Q.length : Int) := by omega
              obtain ⟨x, hx⟩ : ∃ x, Q[k]? = some x := ⟨_, List.getElem?_eq_getElem hlt⟩
              obtain ⟨qb, qo, rfl, _, hqc⟩ := HWA.out (by rintro rfl; simp at hlt)
              have x0 := on_some HB4.out (hqc k x hx).1
              have x1 := on_some HB4.out (hqc k x hx).2.1
              have x2 := on_some HB4.out (hqc k x hx).2.2
              obtain ⟨fr, tt, vi⟩ := x
              simp only at x0 x1 x2
              have hb5 := below1 wr (.cells #[.int .i64 fr, .int .i64 tt, .int .i64 vi] 68)
              have HB5 := Lib.hid (HB4.out.trans (hb5.mono HB4.out.size))
              have HW5 := Lib.hid (HW.out.trans (hb5.mono HW.out.size))
              have N5 := Lib.hid (N4.out.on hb5)
              have M5 := Lib.hid (M4.out.on hb5)
              have NW : Hid (Blk (wr.alloc (.cells #[.int .i64 fr, .int .i64 tt, .int .i64 vi] 68)) wr.heap.size 68 #[.int .i64 fr, .int .i64 tt, .int .i64 vi]) := Blk.new wr _ _
              have hz5 := M4.out.lt
              have hz5n := Nat.ne_of_lt hz5
              have hz6 := N4.out.lt
              have hz6n := Nat.ne_of_lt hz6
              have HXX := Lib.hid hx
              have HBADW : Hid (∀ h : ¬ (inB fr ten = true ∧ inB tt ten = true ∧ inB vi T.length = true), polT T ten P Q = 2) := fun h => by
                unfold polT
                rw [if_neg (by rintro (h | h | h | h | h) <;> first | omega | exact h HOE.out), if_pos (.inr fun g => h (g k _ hlt HXX.out))]
              obtain ⟨g0, g1, g2⟩ := M5.out.three
              clear hqc hx hb5 HB4 N4 M4 HW
              cases hi1 : inB fr ten with
              | false =>
                have HE := Lib.hid (HBADW.out (fun h => by rw [hi1] at h; cases h.1))
                go_wp2_with fail
                (with_reducible refine (rtenant_c false ten fr _ _ _ hi1).mono ?_)
                rintro e w6 ⟨rfl, hb6⟩
                have HB6 := Lib.hid (HB5.out.trans (hb6.mono HB5.out.size))
                clear hb6 HB5 N5 M5 NW d0 d1 d2 g0 g1 g2 x0 x1 x2
                go_wp2
                go_ret
                exact ⟨by rw [HE.out]; rfl, HB6.out⟩
              | true =>
                cases hi2 : inB tt ten with
                | false =>
                  have HE := Lib.hid (HBADW.out (fun h => by rw [hi2] at h; cases h.2.1))
                  go_wp2_with fail
                  (with_reducible refine (rtenant_c true ten fr _ _ _ hi1).mono ?_)
                  rintro e w6 ⟨rfl, hb6⟩
                  have HB6 := Lib.hid (HB5.out.trans (hb6.mono HB5.out.size))
                  obtain ⟨r0, r1, r2⟩ := (M5.out.on hb6).three
                  obtain ⟨v0, v1, v2⟩ := (NW.out.on hb6).three
                  clear hb6 HB5 N5 M5 NW d0 d1 d2 g0 g1 g2 x0 x1 x2
                  go_wp2_with fail
                  (with_reducible refine (rtenant_c false ten tt _ _ _ hi2).mono ?_)
                  rintro e w7 ⟨rfl, hb7⟩
                  have HB7 := Lib.hid (HB6.out.trans (hb7.mono HB6.out.size))
                  clear hb7 HB6 r0 r1 r2 v0 v1 v2
                  go_wp2
                  go_ret
                  exact ⟨by rw [HE.out]; rfl, HB7.out⟩
                | true =>
                  go_wp2_with fail
                  (with_reducible refine (rtenant_c true ten fr _ _ _ hi1).mono ?_)
                  rintro e w6 ⟨rfl, hb6⟩
                  have HB6 := Lib.hid (HB5.out.trans (hb6.mono HB5.out.size))
                  have HW6 := Lib.hid (HW5.out.trans (hb6.mono HW5.out.size))
                  have N6 := Lib.hid (N5.out.on hb6)
                  have NW6 := Lib.hid (NW.out.on hb6)
                  obtain ⟨r0, r1, r2⟩ := (M5.out.on hb6).three
                  obtain ⟨v0, v1, v2⟩ := NW6.out.three
                  clear hb6 HB5 N5 M5 NW d0 d1 d2 g0 g1 g2 x0 x1 x2 HW5
                  go_wp2_with fail
                  (with_reducible refine (rtenant_c true ten tt _ _ _ hi2).mono ?_)
                  rintro e w7 ⟨rfl, hb7⟩
                  have HB7 := Lib.hid (HB6.out.trans (hb7.mono HB6.out.size))
                  have HW7 := Lib.hid (HW6.out.trans (hb7.mono HW6.out.size))
                  have t7 := (N6.out.on hb7).single
                  obtain ⟨y0, y1, y2⟩ := (NW6.out.on hb7).three
                  clear hb7 HB6 r0 r1 r2 v0 v1 v2 HW6 N6 NW6
                  by_cases h5 : vi < 0
                  · have HE := Lib.hid (HBADW.out (fun h => by have := h.2.2; simp [inB] at this; omega))
                    go_wp2
                    go_ret
                    exact ⟨by rw [HE.out]; rfl, HB7.out⟩
                  · by_cases h6 : (T.length : Int) ≤ vi
                    · have HE := Lib.hid (HBADW.out (fun h => by have := h.2.2; simp [inB] at this; omega))
                      go_wp2
                      go_ret
                      exact ⟨by rw [HE.out]; rfl, HB7.out⟩
                    · have HO2 : Hid (okWy Q ten T.length (k + 1)) := fun j x hj hx => by
                        by_cases e : j = k
                        · subst e
                          rw [HXX.out] at hx
                          injection hx with hx
                          subst hx
                          exact ⟨hi1, hi2, by simp [inB]; omega⟩
                        · exact HO.out j x (by omega) hx
                      go_wp2
                      go_roundg (Q.length - (k + 1))
                      case measure => omega
                      case rel => exact ⟨k + 1, by omega, rfl, by go_num, HO2, HW7⟩
            · have hltz : ¬ (k : Int) < (Q.length : Int) := by omega
              obtain rfl : k = Q.length := by omega
              have HE : Hid (polT T ten P Q = 0) := by
                show _ = _
                unfold polT
                rw [if_neg (by rintro (h | h | h | h | h) <;> first | omega | exact h HOE.out), if_neg (by rintro (h | h); exact h HOP.out; exact h HO.out)]
              go_wp2
              go_ret
              exact ⟨by rw [HE.out]; rfl, HB4.out⟩
end Go.Proofs
