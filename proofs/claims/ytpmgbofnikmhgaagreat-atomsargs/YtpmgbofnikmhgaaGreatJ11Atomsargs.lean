/-
  The row of customhouselaw11.AtomsArgs: for every input it returns true, and each argument reads as it did. No conditions.
  How a slice of numbers that is handed in reads. No conditions.
  How a slice of atoms that is handed in reads. No conditions.
  The walk of customhouselaw11.AtomsArgs: it returns true. Conditions as each theorem lists them.
-/
import Derived.Test.YtpmgbofnikmhgaaGreatJ10
import Derived.Deep.Slices
import Derived.Deep.Strs
import Derived.Test.YtpmgbofnikmhgaaGreatRows
import Derived.Below
namespace Go.Proofs.YtpmgbofnikmhgaaGreat
open Go.ChangeShapes Go.WideShapes Go.ChangeAt Go.RowKit Go.Joins Go.Deep Go.Proofs.Hd
theorem cellsIntY : Tryz.prog.cellsOf 3 = 1 := by kernel_rfl
theorem add_plainY (b o n : Nat) : (⟨b, o, none⟩ : Addr).add n = ⟨b, o + n, none⟩ := by unfold Addr.add; by_cases hn : n = 0 <;> simp [hn]
set_option maxRecDepth 100000 in
/-- A slice of numbers. -/
theorem open_nums {H : Type} {enc : TypeId × Value → H} {W : World} {base : Nat} {v : Value} {d : DataW H} {p : List MemPlace} (hok : Value.okWide Tryz.prog W .any base 36 v)
    (h0 : DataW.Trod enc Tryz.prog W 0 (fun _ => true) true 36 v d p) : ∃ (A : Option Addr) (cap : Nat) (L : List Int), v = .slice A L.length cap ∧ Nm W v L ∧ (L.length = 0 ∨ ∃ el sp, d = .slice el sp ∧ el.length = L.length) := by
  obtain ⟨fuel, hf⟩ := h0
  obtain ⟨va, vl, vc, rfl⟩ := okWide_slice Tryz.underlying36 hok
  rcases open_slice Tryz.underlying36 hf with ⟨h1, _⟩ | ⟨a, len, cap, m, n, D, Pl, hcs, _, hlc, hcm, hm, hx, hel⟩
  · have : va = none ∧ vl = 0 ∧ vc = 0 := by simpa [Value.cells] using h1
    obtain ⟨rfl, rfl, rfl⟩ := this
    exact ⟨none, 0, [], rfl, Nm.nil _, .inl rfl⟩
  · have hv : va = some a ∧ vl = len ∧ vc = cap := by simpa [Value.cells] using hcs
    obtain ⟨rfl, rfl, rfl⟩ := hv
    rw [cellsIntY] at hel
    have hm' : m = vc := by simpa using hm
    subst hm'
    obtain ⟨f, hfr⟩ := choose_lt (α := Int) (p := fun i x => W.cell? (a.add (i * 1)) = some (.int .i64 x)) (fun i (hi : i < m) => by
      obtain ⟨cs', hc, ht⟩ := hel i hi
      obtain ⟨_, hl, hat⟩ := World.cells?_some hc
      match cs', hl with
      | [c0], _ =>
        obtain ⟨x, e0, _, _⟩ := DataW.trod_int Tryz.underlying3 ht
        have e1 : c0 = .int .i64 x := by simpa using e0
        refine ⟨x, ?_⟩
        have := hat 0 (by simp)
        simpa [e1, Addr.add] using this)
    have hd := congrArg Prod.fst hx
    refine ⟨some a, m, (List.range vl).map f, by simp, ⟨some a, m, by simp, by simpa using hlc, hcm, ?_⟩, .inr ⟨_, _, hd, by simp⟩⟩
    by_cases h0 : vl = 0
    · subst h0
      exact .inl (by simp)
    · have h1 := hfr 0 (by omega)
      obtain ⟨b, off, spot⟩ := a
      have hs : spot = none := by
        have := World.cell?_spot h1
        simpa [Addr.add] using this
      subst hs
      have hlt := World.block_lt_of_cell? W _ h1
      rw [add_plainY] at hlt
      refine .inr ⟨b, off, rfl, hlt, fun k x hk => ?_⟩
      obtain ⟨hkl, rfl⟩ := List.getElem?_eq_some_iff.1 hk
      simp only [List.length_map, List.length_range] at hkl
      simp only [List.getElem_map, List.getElem_range]
      have := hfr k (by omega)
      rw [add_plainY, Nat.mul_one] at this
      exact this
end Go.Proofs.YtpmgbofnikmhgaaGreat

namespace Go.Proofs.YtpmgbofnikmhgaaGreat
open Go.ChangeShapes Go.WideShapes Go.ChangeAt Go.RowKit Go.Joins Go.Deep Go.Proofs.Hd
theorem cellsAtom : Tryz.prog.cellsOf 42 = 4 := by kernel_rfl
theorem cellsHeadA : Tryz.prog.cellsOf 25 = 2 := by kernel_rfl
theorem cellsNumsA : Tryz.prog.cellsOf 36 = 1 := by kernel_rfl
theorem cellsPileA : Tryz.prog.cellsOf 22 = 1 := by kernel_rfl
instance : Inhabited AtC := ⟨⟨[], (0#64, 0#64), []⟩⟩
section
variable {H : Type} {enc : TypeId × Value → H} {W : World}
set_option maxRecDepth 100000 in
/-- A slice of numbers that lies in memory. -/
theorem rd_nums {n : Nat} {cs : List Value} {y : DataW H × List MemPlace} (hf : DataW.trod enc Tryz.prog W 0 (fun _ => true) true n 36 cs = some y) : ∃ (A : Option Addr) (cap : Nat) (L : List Int), cs = [.slice A L.length cap] ∧ Nm W (.slice A L.length cap) L := by
  rcases open_slice Tryz.underlying36 hf with ⟨h1, _⟩ | ⟨a, len, cap, m, n, D, Pl, hcs, _, hlc, hcm, hm, hx, hel⟩
  · exact ⟨none, 0, [], h1, Nm.nil _⟩
  · rw [cellsIntY] at hel
    have hm' : m = cap := by simpa using hm
    subst hm'
    obtain ⟨f, hfr⟩ := choose_lt (α := Int) (p := fun i x => W.cell? (a.add (i * 1)) = some (.int .i64 x)) (fun i (hi : i < m) => by
      obtain ⟨cs', hc, ht⟩ := hel i hi
      obtain ⟨_, hl, hat⟩ := World.cells?_some hc
      match cs', hl with
      | [c0], _ =>
        obtain ⟨x, e0, _, _⟩ := DataW.trod_int Tryz.underlying3 ht
        have e1 : c0 = .int .i64 x := by simpa using e0
        refine ⟨x, ?_⟩
        have := hat 0 (by simp)
        simpa [e1, Addr.add] using this)
    have hlen : ((List.range len).map f).length = len := by simp
    refine ⟨some a, m, (List.range len).map f, by rw [hlen]; exact hcs, ⟨some a, m, rfl, by rw [hlen]; exact hlc, hcm, ?_⟩⟩
    by_cases h0 : len = 0
    · subst h0
      exact .inl (by simp)
    · have h1 := hfr 0 (by omega)
      obtain ⟨b, off, spot⟩ := a
      have hs : spot = none := by
        have := World.cell?_spot h1
        simpa [Addr.add] using this
      subst hs
      have hlt := World.block_lt_of_cell? W _ h1
      rw [add_plainY] at hlt
      refine .inr ⟨b, off, rfl, hlt, fun k x hk => ?_⟩
      obtain ⟨hkl, rfl⟩ := List.getElem?_eq_some_iff.1 hk
      simp only [List.length_map, List.length_range] at hkl
      simp only [List.getElem_map, List.getElem_range]
      have := hfr k (by omega)
      rw [add_plainY, Nat.mul_one] at this
      exact this
set_option maxRecDepth 100000 in
/-- A slice of cubes that lies in memory. -/
theorem rd_pile {n : Nat} {cs : List Value} {y : DataW H × List MemPlace} (hf : DataW.trod enc Tryz.prog W 0 (fun _ => true) true n 22 cs = some y) : ∃ (A : Option Addr) (cap : Nat) (L : List Cb), cs = [.slice A L.length cap] ∧ Pl W (.slice A L.length cap) L := by
  rcases open_slice Tryz.underlying22 hf with ⟨h1, _⟩ | ⟨a, len, cap, m, n, D, Pl, hcs, _, hlc, hcm, hm, hx, hel⟩
  · exact ⟨none, 0, [], h1, .inl ⟨rfl, none, 0, rfl⟩⟩
  · rw [cellsCube] at hel
    have hm' : m = cap := by simpa using hm
    subst hm'
    obtain ⟨f, hfour⟩ := choose_lt (α := Cb) (p := fun i c => Four W (a.add (i * 4)) c) (fun i (hi : i < m) => by
      obtain ⟨cs', hc, ht⟩ := hel i hi
      obtain ⟨c, h4, _⟩ := read_cube hc ht
      exact ⟨c, h4⟩)
    have hlen : ((List.range len).map f).length = len := by simp
    refine ⟨some a, m, (List.range len).map f, by rw [hlen]; exact hcs, ?_⟩
    by_cases h0 : len = 0
    · subst h0
      exact .inl ⟨by simp, _, _, rfl⟩
    · have h1 := (hfour 0 (by omega)).1
      obtain ⟨b, off, spot⟩ := a
      have hs : spot = none := by
        have := World.cell?_spot h1
        simpa [Addr.add] using this
      subst hs
      have hlt := World.block_lt_of_cell? W _ h1
      rw [add_plainY, add_plainY] at hlt
      refine .inr ⟨b, off, m, rfl, by rw [hlen]; exact Nat.le_trans hlc hcm, hlt, fun k c hk => ?_⟩
      obtain ⟨hkl, rfl⟩ := List.getElem?_eq_some_iff.1 hk
      simp only [List.length_map, List.length_range] at hkl
      simp only [List.getElem_map, List.getElem_range]
      exact four_at (hfour k (by omega))
set_option maxRecDepth 100000 in
/-- An atom that lies in memory. -/
theorem rd_atom {n : Nat} {cs : List Value} {y : DataW H × List MemPlace} (hl : cs.length = 4) (h0 : DataW.trod enc Tryz.prog W 0 (fun _ => true) true n 42 cs = some y) : ∃ (iv pv : Value) (a : AtC), cs = [iv, .int .u64 (uv a.hd.1), .int .u64 (uv a.hd.2), pv] ∧ Nm W iv a.ids ∧ Pl W pv a.pl := by
  obtain ⟨xs, m, _, _, _, hxs, hf⟩ := DataW.trod_struct Tryz.underlying42 h0
  have hx3 : xs.length = 3 := hxs
  match cs, hl with
  | [c0, c1, c2, c3], _ =>
    match xs, hx3 with
    | [x0, x1, x2], _ =>
      have q0 := hf 0 _ rfl
      have q1 := hf 1 _ rfl
      have q2 := hf 2 _ rfl
      simp [cellsHeadA, cellsNumsA, cellsPileA] at q0 q1 q2
      obtain ⟨A, cap, I, e0, hI⟩ := rd_nums q0
      obtain ⟨h, l, rfl, rfl, _⟩ := read_head q1
      obtain ⟨A2, cap2, P, e2, hP⟩ := rd_pile q2
      simp only [List.cons.injEq, and_true] at e0 e2
      subst e0 e2
      exact ⟨_, _, ⟨I, (h, l), P⟩, rfl, hI, hP⟩
set_option maxRecDepth 100000 in
/-- A slice of atoms. -/
theorem open_atoms {base : Nat} {v : Value} {d : DataW H} {p : List MemPlace} (hok : Value.okWide Tryz.prog W .any base 30 v) (h0 : DataW.Trod enc Tryz.prog W 0 (fun _ => true) true 30 v d p) : ∃ (A : Option Addr) (cap : Nat) (al : List AtC), v = .slice A al.length cap ∧ At W v al := by
  obtain ⟨fuel, hf⟩ := h0
  obtain ⟨va, vl, vc, rfl⟩ := okWide_slice Tryz.underlying30 hok
  rcases open_slice Tryz.underlying30 hf with ⟨h1, _⟩ | ⟨a, len, cap, m, n, D, Pl, hcs, _, hlc, hcm, hm, hx, hel⟩
  · have : va = none ∧ vl = 0 ∧ vc = 0 := by simpa [Value.cells] using h1
    obtain ⟨rfl, rfl, rfl⟩ := this
    exact ⟨none, 0, [], rfl, At.nil _⟩
  · have hv : va = some a ∧ vl = len ∧ vc = cap := by simpa [Value.cells] using hcs
    obtain ⟨rfl, rfl, rfl⟩ := hv
    rw [cellsAtom] at hel
    have hm' : m = vc := by simpa using hm
    subst hm'
    obtain ⟨f, hfr⟩ := choose_lt (α := AtC) (p := fun i x => ∃ iv pv, W.cell? ((a.add (i * 4)).add 0) = some iv ∧ W.cell? ((a.add (i * 4)).add 1) = some (.int .u64 (uv x.hd.1)) ∧ W.cell? ((a.add (i * 4)).add 2) = some (.int .u64 (uv x.hd.2)) ∧ W.cell? ((a.add (i * 4)).add 3) = some pv ∧ Nm W iv x.ids ∧ Hd.Pl W pv x.pl) (fun i (hi : i < m) => by
      obtain ⟨cs', hc, ht⟩ := hel i hi
      obtain ⟨_, hl, hat⟩ := World.cells?_some hc
      obtain ⟨iv, pv, x, rfl, h1, h2⟩ := rd_atom hl ht
      exact ⟨x, iv, pv, (hat 0 (by omega)).trans rfl, (hat 1 (by omega)).trans rfl, (hat 2 (by omega)).trans rfl, (hat 3 (by omega)).trans rfl, h1, h2⟩)
    have hlen : ((List.range vl).map f).length = vl := by simp
    refine ⟨some a, m, (List.range vl).map f, by rw [hlen], ⟨some a, m, by rw [hlen], by rw [hlen]; exact hlc, hcm, fun hne => ?_⟩⟩
    have h0 : 0 < vl := by
      rcases Nat.eq_zero_or_pos vl with h | h
      · subst h; exact absurd (by simp) hne
      · exact h
    obtain ⟨_, _, h1, _⟩ := hfr 0 (by omega)
    obtain ⟨b, off, spot⟩ := a
    have hs : spot = none := by
      have := World.cell?_spot h1
      simpa [Addr.add] using this
    subst hs
    have hlt := World.block_lt_of_cell? W _ h1
    rw [add_plainY, add_plainY] at hlt
    refine ⟨b, off, rfl, hlt, fun k x hk => ?_⟩
    obtain ⟨hkl, rfl⟩ := List.getElem?_eq_some_iff.1 hk
    simp only [List.length_map, List.length_range] at hkl
    simp only [List.getElem_map, List.getElem_range]
    obtain ⟨iv, pv, c0, c1, c2, c3, h2, h3⟩ := hfr k (by omega)
    simp only [add_plainY, Nat.add_zero] at c0 c1 c2 c3
    exact ⟨iv, pv, c0, c1, c2, c3, h2, h3⟩
end
end Go.Proofs.YtpmgbofnikmhgaaGreat

namespace Go.Proofs.Hd
open Go.RowKit
theorem ofL_step {al : List AtC} {id : Int} {k : Nat} {a : AtC} (h : al[k]? = some a) : decide (ofL al id (k + 1) ≠ []) = (decide (ofL al id k ≠ []) || decide (id ∈ a.ids)) := by
  rw [ofL_succ h]
  by_cases h1 : id ∈ a.ids
  · rw [if_pos h1]; simp [h1]
  · rw [if_neg h1, List.append_nil]; simp [h1]
theorem mem_take_step {I : List Int} {id y : Int} {k : Nat} (h : I[k]? = some y) : decide (id ∈ I.take (k + 1)) = (decide (id ∈ I.take k) || (y == id)) := by
  rw [List.take_add_one, h]
  simp only [Option.toList, List.mem_append, List.mem_singleton]
  by_cases h1 : id ∈ I.take k
  · simp [h1]
  · by_cases h2 : y = id
    · subst h2; simp
    · have h3 : ¬ id = y := fun e => h2 e.symm
      simp [h1, h2, h3]
theorem snd_step {al : List AtC} {k : Nat} {a : AtC} (h : al[k]? = some a) : ((al.take (k + 1)).all fun a => sndL a.pl) = (((al.take k).all fun a => sndL a.pl) && sndL a.pl) := by
  rw [List.take_add_one, h, List.all_append]
  simp
end Go.Proofs.Hd
namespace Go.Proofs
open Go.RowKit Go.Proofs.Hd Go.Lib Go.Shelf
attribute [local go_sem] uv_nonneg
set_option maxHeartbeats 16000000 in
set_option maxRecDepth 100000 in
theorem aargs_c (A : Option Addr) (cap : Nat) (al : List AtC) (id : Int) (c : Cb) (w : World) (hv : At w (.slice A al.length cap) al) :
    Calls Tryz.prog 7 #[.slice A al.length cap, .int .i64 id, .agg #[.int .u64 (uv c.vh), .int .u64 (uv c.vl), .int .u64 (uv c.ch), .int .u64 (uv c.cl)]] w fun e w' => e = .returned (.bool true) ∧ Below w.heap.size w w' := by
  have b1 := below1 w (.cells #[.int .u64 (uv c.vh), .int .u64 (uv c.vl), .int .u64 (uv c.ch), .int .u64 (uv c.cl)] 53)
  have x1 : Blk (w.alloc (.cells #[.int .u64 (uv c.vh), .int .u64 (uv c.vl), .int .u64 (uv c.ch), .int .u64 (uv c.cl)] 53)) w.heap.size 53 c.arr := Blk.new w _ _
  have hv1 := hv.on b1
  have hcl : al.length ≤ cap ∧ cap ≤ maxLen := by
    obtain ⟨A2, c2, e, h1, h2, -⟩ := hv
    injection e with e1 e2 e3
    subst e3
    exact ⟨h1, h2⟩
  obtain ⟨hcl1, hcl2⟩ := hcl
  have hcz : (al.length : Int) ≤ (cap : Int) := by omega
  have hmz : (cap : Int) ≤ 9223372036854775807 := by unfold maxLen at hcl2; omega
  clear hv
  by_cases h20 : al.length ≤ 20
  · have h20z : ¬ (20 : Int) < (al.length : Int) := by omega
    go_enter Tryz.func7, Tryz.ntmps7
    go_upto_region 3 with (fail)
    clear hcl1 hcl2 hcz hmz h20z
    generalize (w.alloc (.cells #[.int .u64 (uv c.vh), .int .u64 (uv c.vl), .int .u64 (uv c.ch), .int .u64 (uv c.cl)] 53)) = w1 at x1 b1 hv1 ⊢
    obtain ⟨A1, c1, e1, hlm, hA⟩ := hv1.form
    injection e1 with e1 e2 e3
    subst e1 e3
    clear e2
    have BB := Lib.hid b1
    have XC := Lib.hid x1
    have HV := Lib.hid hv1
    have HA := Lib.hid hA
    have H20 := Lib.hid h20
    have hlz : (al.length : Int) ≤ 20 := by omega
    have BR := Lib.hid (Below.refl w1.heap.size w1)
    clear b1 x1 hv1 hlm hA h20
    go_wp2
    go_loopg [7, 8, 9, 10, 11, 12] al.length (fun gk s7 s8 s9 _ _ _ wr => ∃ (k : Nat) (ok th : Bool), k ≤ al.length ∧ gk = al.length - k ∧ s7 = .bool ok ∧ s8 = .bool th ∧ s9 = .int .i64 k ∧ Hid (Below w1.heap.size w1 wr) ∧ Hid (ok = (al.take k).all fun a => sndL a.pl) ∧ Hid (th = decide (ofL al id k ≠ [])) ∧ Hid (∀ (j : Nat) (d : AtC), j < k → al[j]? = some d → d.pl.length ≤ 20 ∧ d.ids.length ≤ 100))
    case atStart => exact ⟨0, true, false, Nat.zero_le _, rfl, rfl, rfl, rfl, BR, rfl, rfl, fun j d hj => absurd hj (Nat.not_lt_zero _)⟩
    case round =>
      clear BR
      obtain ⟨k, ok, th, hk, rfl, rfl, rfl, rfl, B1, HOK, HTH, HJ⟩ := hrel
      have B0 := Lib.hid (BB.out.trans (B1.out.mono BB.out.size))
      by_cases hlt : k < al.length
      · have hltz : (k : Int) < (al.length : Int) := by omega
        obtain ⟨a, ha⟩ : ∃ a, al[k]? = some a := ⟨_, List.getElem?_eq_getElem hlt⟩
        obtain ⟨b, off, rfl, hb, hcc⟩ := HA.out (ne_nil_of ha)
        obtain ⟨I1, I2, I3, P1, P2, P3, ⟨c0, d1, d2, c3⟩, hN, hP, rfl, rfl⟩ := ((hcc k a ha).on (w' := wr) B1.out).cells
        clear d1 d2 hcc
        have HAK := Lib.hid ha
        have HNI := Lib.hid hN
        clear ha hN
        by_cases hp20 : a.pl.length ≤ 20
        · have hp20z : ¬ (20 : Int) < (a.pl.length : Int) := by omega
          by_cases hi100 : a.ids.length ≤ 100
          · have hi100z : ¬ (100 : Int) < (a.ids.length : Int) := by omega
            have HBD := Lib.hid (And.intro hp20 hi100)
            have htx := texts_c _ a.pl wr (by omega) hP
            have hsl : sndL a.pl = a.pl.all Cb.snd := by unfold sndL; rw [decide_eq_true (by omega)]; rfl
            have hd200 : decide (a.pl.length ≤ 200) = true := decide_eq_true (by omega)
            have HSL := Lib.hid hsl
            clear hP hsl
            go_wp2_with fail
            (with_reducible refine htx.mono ?_)
            rintro e w2 ht
            obtain ⟨tv, rfl, hb2⟩ : ∃ tv, e = .returned (.tuple #[tv, .bool (sndL a.pl)]) ∧ Below wr.heap.size wr w2 := by
              rw [HSL.out]
              cases hs : a.pl.all Cb.snd with
              | true =>
                obtain ⟨v, rfl, _, hb⟩ := ht.1 hs
                exact ⟨v, by rw [hd200], hb⟩
              | false =>
                obtain ⟨rfl, hb⟩ := ht.2 hs
                exact ⟨_, rfl, hb⟩
            have c0' := on_some hb2 c0
            have N2 := Lib.hid (HNI.out.on hb2)
            have B2 := Lib.hid (B1.out.trans (hb2.mono B1.out.size))
            have HOK2 : Hid ((ok && sndL a.pl) = (al.take (k + 1)).all fun a => sndL a.pl) := by show _ = _; rw [snd_step HAK.out, HOK.out]
            have HIL : Hid (a.ids.length ≤ 100) := hi100
            have hiz : (a.ids.length : Int) ≤ 100 := by omega
            have HTS := Lib.hid (ofL_step (id := id) HAK.out)
            have HJ2 : Hid (∀ (j : Nat) (d : AtC), j < k + 1 → al[j]? = some d → d.pl.length ≤ 20 ∧ d.ids.length ≤ 100) := fun j d hj hd => by
              by_cases e : j = k
              · subst e
                rw [HAK.out] at hd
                injection hd with hd
                subst hd
                exact HBD.out
              · exact HJ.out j d (by omega) hd
            clear htx ht hb2 c0 c3 B0 B1 HNI hd200 hp20 hi100 hp20z hi100z HOK HJ
            generalize hoo : (ok && sndL a.pl) = ok2 at HOK2
            generalize sndL a.pl = sl at hoo HSL ⊢
            have hoo2 : ok2 = (ok && sl) := hoo.symm
            clear hoo
            cases ok with
            | false =>
              go_wp2
              go_loopg [8, 12] a.ids.length (fun gk s8 s12 wz => ∃ (k2 : Nat) (t2 : Bool), k2 ≤ a.ids.length ∧ gk = a.ids.length - k2 ∧ s8 = .bool t2 ∧ s12 = .int .i64 k2 ∧ wz = w2 ∧ Hid (t2 = (th || decide (id ∈ a.ids.take k2))))
              case atStart => exact ⟨0, th, Nat.zero_le _, rfl, rfl, rfl, rfl, by show _ = _; simp⟩
              case round =>
                obtain ⟨k2, t2, hk2, rfl, rfl, rfl, rfl, HT2⟩ := hrel
                by_cases hlt2 : k2 < a.ids.length
                · have hltz2 : (k2 : Int) < (a.ids.length : Int) := by omega
                  obtain ⟨y, hy⟩ : ∃ y, a.ids[k2]? = some y := ⟨_, List.getElem?_eq_getElem hlt2⟩
                  have HMS := Lib.hid (mem_take_step (id := id) hy)
                  obtain ⟨b2, o2, rfl, hy2⟩ : ∃ b2 o2, I1 = some ⟨b2, o2, none⟩ ∧ wr.cell? ⟨b2, o2 + k2, none⟩ = some (.int .i64 y) := by
                    obtain ⟨A9, c9, e, -, -, h⟩ := N2.out
                    injection e with e1 e2 e3
                    rcases h with h | ⟨b2, o2, e4, -, h⟩
                    · rw [h] at hy; simp at hy
                    · exact ⟨b2, o2, by rw [e1, e4], h k2 y hy⟩
                  cases t2 with
                  | true =>
                    have HT3 : Hid (true = (th || decide (id ∈ a.ids.take (k2 + 1)))) := by show _ = _; rw [HMS.out, ← Bool.or_assoc, ← HT2.out]; rfl
                    clear HT2 HMS hy hy2
                    go_wp2
                    go_roundg (a.ids.length - (k2 + 1))
                    case measure => omega
                    case rel => exact ⟨k2 + 1, true, by omega, rfl, rfl, by go_num, rfl, HT3⟩
                  | false =>
                    obtain ⟨t3, ht3⟩ : ∃ t3, (y == id) = t3 := ⟨_, rfl⟩
                    have HT3 : Hid (t3 = (th || decide (id ∈ a.ids.take (k2 + 1)))) := by show _ = _; rw [HMS.out, ← Bool.or_assoc, ← HT2.out, ht3]; rfl
                    clear HT2 HMS hy
                    go_wp2
                    go_roundg (a.ids.length - (k2 + 1))
                    case measure => omega
                    case rel => exact ⟨k2 + 1, t3, by omega, rfl, by rw [← ht3], by go_num, rfl, HT3⟩
                · have hltz2 : ¬ (k2 : Int) < (a.ids.length : Int) := by omega
                  have HT3 : Hid (t2 = decide (ofL al id (k + 1) ≠ [])) := by
                    show _ = _
                    rw [HTS.out, ← HTH.out, HT2.out, List.take_of_length_le (by omega)]
                  clear HT2 HTH HTS
                  go_wp2
                  go_roundg (al.length - (k + 1))
                  case measure => omega
                  case rel => exact ⟨k + 1, ok2, t2, by omega, rfl, by rw [hoo2]; rfl, rfl, by go_num, B2, HOK2, HT3, HJ2⟩
            | true =>
              go_wp2
              go_loopg [8, 12] a.ids.length (fun gk s8 s12 wz => ∃ (k2 : Nat) (t2 : Bool), k2 ≤ a.ids.length ∧ gk = a.ids.length - k2 ∧ s8 = .bool t2 ∧ s12 = .int .i64 k2 ∧ wz = w2 ∧ Hid (t2 = (th || decide (id ∈ a.ids.take k2))))
              case atStart => exact ⟨0, th, Nat.zero_le _, rfl, rfl, rfl, rfl, by show _ = _; simp⟩
              case round =>
                obtain ⟨k2, t2, hk2, rfl, rfl, rfl, rfl, HT2⟩ := hrel
                by_cases hlt2 : k2 < a.ids.length
                · have hltz2 : (k2 : Int) < (a.ids.length : Int) := by omega
                  obtain ⟨y, hy⟩ : ∃ y, a.ids[k2]? = some y := ⟨_, List.getElem?_eq_getElem hlt2⟩
                  have HMS := Lib.hid (mem_take_step (id := id) hy)
                  obtain ⟨b2, o2, rfl, hy2⟩ : ∃ b2 o2, I1 = some ⟨b2, o2, none⟩ ∧ wr.cell? ⟨b2, o2 + k2, none⟩ = some (.int .i64 y) := by
                    obtain ⟨A9, c9, e, -, -, h⟩ := N2.out
                    injection e with e1 e2 e3
                    rcases h with h | ⟨b2, o2, e4, -, h⟩
                    · rw [h] at hy; simp at hy
                    · exact ⟨b2, o2, by rw [e1, e4], h k2 y hy⟩
                  cases t2 with
                  | true =>
                    have HT3 : Hid (true = (th || decide (id ∈ a.ids.take (k2 + 1)))) := by show _ = _; rw [HMS.out, ← Bool.or_assoc, ← HT2.out]; rfl
                    clear HT2 HMS hy hy2
                    go_wp2
                    go_roundg (a.ids.length - (k2 + 1))
                    case measure => omega
                    case rel => exact ⟨k2 + 1, true, by omega, rfl, rfl, by go_num, rfl, HT3⟩
                  | false =>
                    obtain ⟨t3, ht3⟩ : ∃ t3, (y == id) = t3 := ⟨_, rfl⟩
                    have HT3 : Hid (t3 = (th || decide (id ∈ a.ids.take (k2 + 1)))) := by show _ = _; rw [HMS.out, ← Bool.or_assoc, ← HT2.out, ht3]; rfl
                    clear HT2 HMS hy
                    go_wp2
                    go_roundg (a.ids.length - (k2 + 1))
                    case measure => omega
                    case rel => exact ⟨k2 + 1, t3, by omega, rfl, by rw [← ht3], by go_num, rfl, HT3⟩
                · have hltz2 : ¬ (k2 : Int) < (a.ids.length : Int) := by omega
                  have HT3 : Hid (t2 = decide (ofL al id (k + 1) ≠ [])) := by
                    show _ = _
                    rw [HTS.out, ← HTH.out, HT2.out, List.take_of_length_le (by omega)]
                  clear HT2 HTH HTS
                  go_wp2
                  go_roundg (al.length - (k + 1))
                  case measure => omega
                  case rel => exact ⟨k + 1, ok2, t2, by omega, rfl, by rw [hoo2]; rfl, rfl, by go_num, B2, HOK2, HT3, HJ2⟩
          · have hi100z : (100 : Int) < (a.ids.length : Int) := by omega
            clear hP
            have hcall := awake11_c wr
            go_wp2_with fail
            (with_reducible refine hcall.mono ?_)
            rintro e w1 ⟨rfl, hb⟩
            have B1 := Lib.hid (B0.out.trans (hb.mono B0.out.size))
            clear hb hcall c0 c3 B0 
            go_wp2
            go_ret
            exact ⟨rfl, B1.out⟩
        · have hp20z : (20 : Int) < (a.pl.length : Int) := by omega
          clear hP
          have hcall := awake11_c wr
          go_wp2_with fail
          (with_reducible refine hcall.mono ?_)
          rintro e w2 ⟨rfl, hb⟩
          have B2 := Lib.hid (B0.out.trans (hb.mono B0.out.size))
          clear hb hcall c0 c3 B0 
          go_wp2
          go_ret
          exact ⟨rfl, B2.out⟩
      · have hltz : ¬ (k : Int) < (al.length : Int) := by omega
        obtain rfl : k = al.length := by omega
        have HOK2 : Hid (ok = sndA al) := by show _ = _; rw [HOK.out, List.take_length]; rfl
        have HTH2 : Hid (th = decide (ofL al id al.length ≠ [])) := HTH
        have HIL : Hid (∀ a ∈ al, a.ids.length ≤ 4398046511104) := fun a ha => by
          obtain ⟨j, hj⟩ := List.mem_iff_getElem?.1 ha
          have := (HJ.out j a (List.getElem?_eq_some_iff.1 hj).1 hj).2
          omega
        have XC_0 := Lib.hid (XC.out.on B1.out)
        have AL_0 := Lib.hid (HV.out.on B1.out)
        clear HOK HTH HJ
        cases hcs : c.snd with
        | false =>
          obtain ⟨y0, y1, y2, y3⟩ : At4 wr w.heap.size 0 c := ⟨XC_0.out.cell 0, XC_0.out.cell 1, XC_0.out.cell 2, XC_0.out.cell 3⟩
          have hcall := text_no c wr hcs
          go_wp2_with fail
          (with_reducible refine hcall.mono ?_)
          rintro e w3 ⟨rfl, hb⟩
          have B3 := Lib.hid (B0.out.trans (hb.mono B0.out.size))
          have XC_3 := Lib.hid (XC_0.out.on hb)
          have AL_3 := Lib.hid (AL_0.out.on hb)
          clear hb hcall y0 y1 y2 y3 B0 XC_0 AL_0
          obtain ⟨y0, y1, y2, y3⟩ : At4 w3 w.heap.size 0 c := ⟨XC_3.out.cell 0, XC_3.out.cell 1, XC_3.out.cell 2, XC_3.out.cell 3⟩
          have hcall := arefine_r (.slice A al.length cap) al id c w3 (by have := H20.out; omega) HIL.out AL_3.out
          go_wp2_with fail
          (with_reducible refine hcall.mono ?_)
          rintro e w4 hr
          clear hcall
          have hcall := trivial
          cases hr with
          | err kk hk hb =>
            rcases hk with ⟨rfl, h0⟩ | ⟨rfl, h0, h1⟩ | ⟨rfl, h0, h1, h2⟩ | ⟨rfl, h0, h1, h2⟩
            · have hidz : id < 0 := h0
              have B4 := Lib.hid (B3.out.trans (hb.mono B3.out.size))
              have XC_4 := Lib.hid (XC_3.out.on hb)
              have AL_4 := Lib.hid (AL_3.out.on hb)
              clear hb hcall y0 y1 y2 y3 B3 XC_3 AL_3
              have hcall := acoarsen_r (.slice A al.length cap) al id w4 (by have := H20.out; omega) HIL.out AL_4.out
              go_wp2_with fail
              (with_reducible refine hcall.mono ?_)
              rintro e w5 hr
              clear hcall
              have hcall := trivial
              cases hr with
              | err ck hck hb =>
                rcases hck with ⟨rfl, hsa⟩ | ⟨rfl, hsa⟩
                · have hokv : ok = false := by rw [HOK2.out, hsa]
                  subst hokv
                  have B5 := Lib.hid (B4.out.trans (hb.mono B4.out.size))
                  have XC_5 := Lib.hid (XC_4.out.on hb)
                  have AL_5 := Lib.hid (AL_4.out.on hb)
                  clear hb hcall hsa B4 XC_4 AL_4
                  have hcall := awake11_c w5
                  go_wp2_with fail
                  (with_reducible refine hcall.mono ?_)
                  rintro e w6 ⟨rfl, hb⟩
                  have B6 := Lib.hid (B5.out.trans (hb.mono B5.out.size))
                  have XC_6 := Lib.hid (XC_5.out.on hb)
                  have AL_6 := Lib.hid (AL_5.out.on hb)
                  clear hb hcall  B5 XC_5 AL_5
                  go_wp2
                  go_ret
                  exact ⟨rfl, B6.out⟩
                · have hokv : ok = true := by rw [HOK2.out, hsa]
                  subst hokv
                  have B5 := Lib.hid (B4.out.trans (hb.mono B4.out.size))
                  have XC_5 := Lib.hid (XC_4.out.on hb)
                  have AL_5 := Lib.hid (AL_4.out.on hb)
                  clear hb hcall hsa B4 XC_4 AL_4
                  have hcall := awake11_c w5
                  go_wp2_with fail
                  (with_reducible refine hcall.mono ?_)
                  rintro e w7 ⟨rfl, hb⟩
                  have B7 := Lib.hid (B5.out.trans (hb.mono B5.out.size))
                  have XC_7 := Lib.hid (XC_5.out.on hb)
                  have AL_7 := Lib.hid (AL_5.out.on hb)
                  clear hb hcall  B5 XC_5 AL_5
                  go_wp2
                  go_ret
                  exact ⟨rfl, B7.out⟩
              | some v9 dl h8 h9 hA9 hb =>
                have hokv : ok = true := by rw [HOK2.out, h8]
                obtain ⟨A9, c9, rfl, -, -⟩ := hA9.form
                subst hokv
                have B5 := Lib.hid (B4.out.trans (hb.mono B4.out.size))
                have XC_5 := Lib.hid (XC_4.out.on hb)
                have AL_5 := Lib.hid (AL_4.out.on hb)
                clear hb hcall h8 h9 hA9 B4 XC_4 AL_4
                have hcall := awake11_c w5
                go_wp2_with fail
                (with_reducible refine hcall.mono ?_)
                rintro e w8 ⟨rfl, hb⟩
                have B8 := Lib.hid (B5.out.trans (hb.mono B5.out.size))
                have XC_8 := Lib.hid (XC_5.out.on hb)
                have AL_8 := Lib.hid (AL_5.out.on hb)
                clear hb hcall  B5 XC_5 AL_5
                go_wp2
                go_ret
                exact ⟨rfl, B8.out⟩
            · have hidz : ¬ id < 0 := h0
              have B4 := Lib.hid (B3.out.trans (hb.mono B3.out.size))
              have XC_4 := Lib.hid (XC_3.out.on hb)
              have AL_4 := Lib.hid (AL_3.out.on hb)
              clear hb hcall y0 y1 y2 y3 B3 XC_3 AL_3
              have hcall := acoarsen_r (.slice A al.length cap) al id w4 (by have := H20.out; omega) HIL.out AL_4.out
              go_wp2_with fail
              (with_reducible refine hcall.mono ?_)
              rintro e w9 hr
              clear hcall
              have hcall := trivial
              cases hr with
              | err ck hck hb =>
                rcases hck with ⟨rfl, hsa⟩ | ⟨rfl, hsa⟩
                · have hokv : ok = false := by rw [HOK2.out, hsa]
                  subst hokv
                  have B9 := Lib.hid (B4.out.trans (hb.mono B4.out.size))
                  have XC_9 := Lib.hid (XC_4.out.on hb)
                  have AL_9 := Lib.hid (AL_4.out.on hb)
                  clear hb hcall hsa B4 XC_4 AL_4
                  have hcall := awake11_c w9
                  go_wp2_with fail
                  (with_reducible refine hcall.mono ?_)
                  rintro e w10 ⟨rfl, hb⟩
                  have B10 := Lib.hid (B9.out.trans (hb.mono B9.out.size))
                  have XC_10 := Lib.hid (XC_9.out.on hb)
                  have AL_10 := Lib.hid (AL_9.out.on hb)
                  clear hb hcall  B9 XC_9 AL_9
                  go_wp2
                  go_ret
                  exact ⟨rfl, B10.out⟩
                · have hokv : ok = true := by rw [HOK2.out, hsa]
                  subst hokv
                  have B9 := Lib.hid (B4.out.trans (hb.mono B4.out.size))
                  have XC_9 := Lib.hid (XC_4.out.on hb)
                  have AL_9 := Lib.hid (AL_4.out.on hb)
                  clear hb hcall hsa B4 XC_4 AL_4
                  have hcall := awake11_c w9
                  go_wp2_with fail
                  (with_reducible refine hcall.mono ?_)
                  rintro e w11 ⟨rfl, hb⟩
                  have B11 := Lib.hid (B9.out.trans (hb.mono B9.out.size))
                  have XC_11 := Lib.hid (XC_9.out.on hb)
                  have AL_11 := Lib.hid (AL_9.out.on hb)
                  clear hb hcall  B9 XC_9 AL_9
                  go_wp2
                  go_ret
                  exact ⟨rfl, B11.out⟩
              | some v9 dl h8 h9 hA9 hb =>
                have hokv : ok = true := by rw [HOK2.out, h8]
                obtain ⟨A9, c9, rfl, -, -⟩ := hA9.form
                subst hokv
                have B9 := Lib.hid (B4.out.trans (hb.mono B4.out.size))
                have XC_9 := Lib.hid (XC_4.out.on hb)
                have AL_9 := Lib.hid (AL_4.out.on hb)
                clear hb hcall h8 h9 hA9 B4 XC_4 AL_4
                have hcall := awake11_c w9
                go_wp2_with fail
                (with_reducible refine hcall.mono ?_)
                rintro e w12 ⟨rfl, hb⟩
                have B12 := Lib.hid (B9.out.trans (hb.mono B9.out.size))
                have XC_12 := Lib.hid (XC_9.out.on hb)
                have AL_12 := Lib.hid (AL_9.out.on hb)
                clear hb hcall  B9 XC_9 AL_9
                go_wp2
                go_ret
                exact ⟨rfl, B12.out⟩
            · have hidz : ¬ id < 0 := h0
              rw [hcs] at h1
              simp at h1
            · have hidz : ¬ id < 0 := h0
              rw [hcs] at h1
              simp at h1
          | some v4 bs h0 h1 h2 h3 hA4 hb =>
            rw [hcs] at h1
            simp at h1
        | true =>
          obtain ⟨y0, y1, y2, y3⟩ : At4 wr w.heap.size 0 c := ⟨XC_0.out.cell 0, XC_0.out.cell 1, XC_0.out.cell 2, XC_0.out.cell 3⟩
          have hcall := text_yes c wr hcs
          go_wp2_with fail
          (with_reducible refine hcall.mono ?_)
          rintro e w13 ⟨rfl, hb⟩
          have B13 := Lib.hid (B0.out.trans (hb.mono B0.out.size))
          have XC_13 := Lib.hid (XC_0.out.on hb)
          have AL_13 := Lib.hid (AL_0.out.on hb)
          clear hb hcall y0 y1 y2 y3 B0 XC_0 AL_0
          obtain ⟨y0, y1, y2, y3⟩ : At4 w13 w.heap.size 0 c := ⟨XC_13.out.cell 0, XC_13.out.cell 1, XC_13.out.cell 2, XC_13.out.cell 3⟩
          have hcall := arefine_r (.slice A al.length cap) al id c w13 (by have := H20.out; omega) HIL.out AL_13.out
          go_wp2_with fail
          (with_reducible refine hcall.mono ?_)
          rintro e w14 hr
          clear hcall
          have hcall := trivial
          cases hr with
          | err kk hk hb =>
            rcases hk with ⟨rfl, h0⟩ | ⟨rfl, h0, h1⟩ | ⟨rfl, h0, h1, h2⟩ | ⟨rfl, h0, h1, h2⟩
            · have hidz : id < 0 := h0
              have B14 := Lib.hid (B13.out.trans (hb.mono B13.out.size))
              have XC_14 := Lib.hid (XC_13.out.on hb)
              have AL_14 := Lib.hid (AL_13.out.on hb)
              clear hb hcall y0 y1 y2 y3 B13 XC_13 AL_13
              have hcall := acoarsen_r (.slice A al.length cap) al id w14 (by have := H20.out; omega) HIL.out AL_14.out
              go_wp2_with fail
              (with_reducible refine hcall.mono ?_)
              rintro e w15 hr
              clear hcall
              have hcall := trivial
              cases hr with
              | err ck hck hb =>
                rcases hck with ⟨rfl, hsa⟩ | ⟨rfl, hsa⟩
                · have hokv : ok = false := by rw [HOK2.out, hsa]
                  subst hokv
                  have B15 := Lib.hid (B14.out.trans (hb.mono B14.out.size))
                  have XC_15 := Lib.hid (XC_14.out.on hb)
                  have AL_15 := Lib.hid (AL_14.out.on hb)
                  clear hb hcall hsa B14 XC_14 AL_14
                  have hcall := awake11_c w15
                  go_wp2_with fail
                  (with_reducible refine hcall.mono ?_)
                  rintro e w16 ⟨rfl, hb⟩
                  have B16 := Lib.hid (B15.out.trans (hb.mono B15.out.size))
                  have XC_16 := Lib.hid (XC_15.out.on hb)
                  have AL_16 := Lib.hid (AL_15.out.on hb)
                  clear hb hcall  B15 XC_15 AL_15
                  go_wp2
                  go_ret
                  exact ⟨rfl, B16.out⟩
                · have hokv : ok = true := by rw [HOK2.out, hsa]
                  subst hokv
                  have B15 := Lib.hid (B14.out.trans (hb.mono B14.out.size))
                  have XC_15 := Lib.hid (XC_14.out.on hb)
                  have AL_15 := Lib.hid (AL_14.out.on hb)
                  clear hb hcall hsa B14 XC_14 AL_14
                  have hcall := awake11_c w15
                  go_wp2_with fail
                  (with_reducible refine hcall.mono ?_)
                  rintro e w17 ⟨rfl, hb⟩
                  have B17 := Lib.hid (B15.out.trans (hb.mono B15.out.size))
                  have XC_17 := Lib.hid (XC_15.out.on hb)
                  have AL_17 := Lib.hid (AL_15.out.on hb)
                  clear hb hcall  B15 XC_15 AL_15
                  go_wp2
                  go_ret
                  exact ⟨rfl, B17.out⟩
              | some v9 dl h8 h9 hA9 hb =>
                have hokv : ok = true := by rw [HOK2.out, h8]
                obtain ⟨A9, c9, rfl, -, -⟩ := hA9.form
                subst hokv
                have B15 := Lib.hid (B14.out.trans (hb.mono B14.out.size))
                have XC_15 := Lib.hid (XC_14.out.on hb)
                have AL_15 := Lib.hid (AL_14.out.on hb)
                clear hb hcall h8 h9 hA9 B14 XC_14 AL_14
                have hcall := awake11_c w15
                go_wp2_with fail
                (with_reducible refine hcall.mono ?_)
                rintro e w18 ⟨rfl, hb⟩
                have B18 := Lib.hid (B15.out.trans (hb.mono B15.out.size))
                have XC_18 := Lib.hid (XC_15.out.on hb)
                have AL_18 := Lib.hid (AL_15.out.on hb)
                clear hb hcall  B15 XC_15 AL_15
                go_wp2
                go_ret
                exact ⟨rfl, B18.out⟩
            · have hidz : ¬ id < 0 := h0
              have B14 := Lib.hid (B13.out.trans (hb.mono B13.out.size))
              have XC_14 := Lib.hid (XC_13.out.on hb)
              have AL_14 := Lib.hid (AL_13.out.on hb)
              clear hb hcall y0 y1 y2 y3 B13 XC_13 AL_13
              have hcall := acoarsen_r (.slice A al.length cap) al id w14 (by have := H20.out; omega) HIL.out AL_14.out
              go_wp2_with fail
              (with_reducible refine hcall.mono ?_)
              rintro e w19 hr
              clear hcall
              have hcall := trivial
              cases hr with
              | err ck hck hb =>
                rcases hck with ⟨rfl, hsa⟩ | ⟨rfl, hsa⟩
                · have hokv : ok = false := by rw [HOK2.out, hsa]
                  subst hokv
                  have B19 := Lib.hid (B14.out.trans (hb.mono B14.out.size))
                  have XC_19 := Lib.hid (XC_14.out.on hb)
                  have AL_19 := Lib.hid (AL_14.out.on hb)
                  clear hb hcall hsa B14 XC_14 AL_14
                  have hcall := awake11_c w19
                  go_wp2_with fail
                  (with_reducible refine hcall.mono ?_)
                  rintro e w20 ⟨rfl, hb⟩
                  have B20 := Lib.hid (B19.out.trans (hb.mono B19.out.size))
                  have XC_20 := Lib.hid (XC_19.out.on hb)
                  have AL_20 := Lib.hid (AL_19.out.on hb)
                  clear hb hcall  B19 XC_19 AL_19
                  go_wp2
                  go_ret
                  exact ⟨rfl, B20.out⟩
                · have hokv : ok = true := by rw [HOK2.out, hsa]
                  rw [hsa] at h1
                  simp [hcs] at h1
              | some v9 dl h8 h9 hA9 hb =>
                have hokv : ok = true := by rw [HOK2.out, h8]
                rw [h8] at h1
                simp [hcs] at h1
            · have hidz : ¬ id < 0 := h0
              have hthv : th = true := by rw [HTH2.out]; simp [h2]
              subst hthv
              have B14 := Lib.hid (B13.out.trans (hb.mono B13.out.size))
              have XC_14 := Lib.hid (XC_13.out.on hb)
              have AL_14 := Lib.hid (AL_13.out.on hb)
              clear hb hcall y0 y1 y2 y3 B13 XC_13 AL_13
              have hcall := acoarsen_r (.slice A al.length cap) al id w14 (by have := H20.out; omega) HIL.out AL_14.out
              go_wp2_with fail
              (with_reducible refine hcall.mono ?_)
              rintro e w21 hr
              clear hcall
              have hcall := trivial
              cases hr with
              | err ck hck hb =>
                rcases hck with ⟨rfl, hsa⟩ | ⟨rfl, hsa⟩
                · have hokv : ok = false := by rw [HOK2.out, hsa]
                  rw [hsa] at h1
                  simp [hcs] at h1
                · have hokv : ok = true := by rw [HOK2.out, hsa]
                  subst hokv
                  have B21 := Lib.hid (B14.out.trans (hb.mono B14.out.size))
                  have XC_21 := Lib.hid (XC_14.out.on hb)
                  have AL_21 := Lib.hid (AL_14.out.on hb)
                  clear hb hcall hsa B14 XC_14 AL_14
                  have hcall := awake11_c w21
                  go_wp2_with fail
                  (with_reducible refine hcall.mono ?_)
                  rintro e w22 ⟨rfl, hb⟩
                  have B22 := Lib.hid (B21.out.trans (hb.mono B21.out.size))
                  have XC_22 := Lib.hid (XC_21.out.on hb)
                  have AL_22 := Lib.hid (AL_21.out.on hb)
                  clear hb hcall  B21 XC_21 AL_21
                  go_wp2
                  go_ret
                  exact ⟨rfl, B22.out⟩
              | some v9 dl h8 h9 hA9 hb =>
                have hokv : ok = true := by rw [HOK2.out, h8]
                obtain ⟨A9, c9, rfl, -, -⟩ := hA9.form
                subst hokv
                have B21 := Lib.hid (B14.out.trans (hb.mono B14.out.size))
                have XC_21 := Lib.hid (XC_14.out.on hb)
                have AL_21 := Lib.hid (AL_14.out.on hb)
                clear hb hcall h8 h9 hA9 B14 XC_14 AL_14
                have hcall := awake11_c w21
                go_wp2_with fail
                (with_reducible refine hcall.mono ?_)
                rintro e w23 ⟨rfl, hb⟩
                have B23 := Lib.hid (B21.out.trans (hb.mono B21.out.size))
                have XC_23 := Lib.hid (XC_21.out.on hb)
                have AL_23 := Lib.hid (AL_21.out.on hb)
                clear hb hcall  B21 XC_21 AL_21
                go_wp2
                go_ret
                exact ⟨rfl, B23.out⟩
            · have hidz : ¬ id < 0 := h0
              have hthv : th = false := by rw [HTH2.out]; simp [h2]
              subst hthv
              have B14 := Lib.hid (B13.out.trans (hb.mono B13.out.size))
              have XC_14 := Lib.hid (XC_13.out.on hb)
              have AL_14 := Lib.hid (AL_13.out.on hb)
              clear hb hcall y0 y1 y2 y3 B13 XC_13 AL_13
              have hcall := acoarsen_r (.slice A al.length cap) al id w14 (by have := H20.out; omega) HIL.out AL_14.out
              go_wp2_with fail
              (with_reducible refine hcall.mono ?_)
              rintro e w24 hr
              clear hcall
              have hcall := trivial
              cases hr with
              | err ck hck hb =>
                rcases hck with ⟨rfl, hsa⟩ | ⟨rfl, hsa⟩
                · have hokv : ok = false := by rw [HOK2.out, hsa]
                  rw [hsa] at h1
                  simp [hcs] at h1
                · have hokv : ok = true := by rw [HOK2.out, hsa]
                  subst hokv
                  have B24 := Lib.hid (B14.out.trans (hb.mono B14.out.size))
                  have XC_24 := Lib.hid (XC_14.out.on hb)
                  have AL_24 := Lib.hid (AL_14.out.on hb)
                  clear hb hcall hsa B14 XC_14 AL_14
                  have hcall := awake11_c w24
                  go_wp2_with fail
                  (with_reducible refine hcall.mono ?_)
                  rintro e w25 ⟨rfl, hb⟩
                  have B25 := Lib.hid (B24.out.trans (hb.mono B24.out.size))
                  have XC_25 := Lib.hid (XC_24.out.on hb)
                  have AL_25 := Lib.hid (AL_24.out.on hb)
                  clear hb hcall  B24 XC_24 AL_24
                  go_wp2
                  go_ret
                  exact ⟨rfl, B25.out⟩
              | some v9 dl h8 h9 hA9 hb =>
                have hokv : ok = true := by rw [HOK2.out, h8]
                obtain ⟨A9, c9, rfl, -, -⟩ := hA9.form
                subst hokv
                have B24 := Lib.hid (B14.out.trans (hb.mono B14.out.size))
                have XC_24 := Lib.hid (XC_14.out.on hb)
                have AL_24 := Lib.hid (AL_14.out.on hb)
                clear hb hcall h8 h9 hA9 B14 XC_14 AL_14
                have hcall := awake11_c w24
                go_wp2_with fail
                (with_reducible refine hcall.mono ?_)
                rintro e w26 ⟨rfl, hb⟩
                have B26 := Lib.hid (B24.out.trans (hb.mono B24.out.size))
                have XC_26 := Lib.hid (XC_24.out.on hb)
                have AL_26 := Lib.hid (AL_24.out.on hb)
                clear hb hcall  B24 XC_24 AL_24
                go_wp2
                go_ret
                exact ⟨rfl, B26.out⟩
          | some v4 bs h0 h1 h2 h3 hA4 hb =>
            have hidz : ¬ id < 0 := h0
            have hthv : th = false := by rw [HTH2.out]; simp [h2]
            subst hthv
            obtain ⟨A4, c4, rfl, -, -⟩ := hA4.form
            have B14 := Lib.hid (B13.out.trans (hb.mono B13.out.size))
            have XC_14 := Lib.hid (XC_13.out.on hb)
            have AL_14 := Lib.hid (AL_13.out.on hb)
            clear hb hcall y0 y1 y2 y3 h3 hA4 B13 XC_13 AL_13
            have hcall := acoarsen_r (.slice A al.length cap) al id w14 (by have := H20.out; omega) HIL.out AL_14.out
            go_wp2_with fail
            (with_reducible refine hcall.mono ?_)
            rintro e w27 hr
            clear hcall
            have hcall := trivial
            cases hr with
            | err ck hck hb =>
              rcases hck with ⟨rfl, hsa⟩ | ⟨rfl, hsa⟩
              · have hokv : ok = false := by rw [HOK2.out, hsa]
                rw [hsa] at h1
                simp [hcs] at h1
              · have hokv : ok = true := by rw [HOK2.out, hsa]
                subst hokv
                have B27 := Lib.hid (B14.out.trans (hb.mono B14.out.size))
                have XC_27 := Lib.hid (XC_14.out.on hb)
                have AL_27 := Lib.hid (AL_14.out.on hb)
                clear hb hcall hsa B14 XC_14 AL_14
                have hcall := awake11_c w27
                go_wp2_with fail
                (with_reducible refine hcall.mono ?_)
                rintro e w28 ⟨rfl, hb⟩
                have B28 := Lib.hid (B27.out.trans (hb.mono B27.out.size))
                have XC_28 := Lib.hid (XC_27.out.on hb)
                have AL_28 := Lib.hid (AL_27.out.on hb)
                clear hb hcall  B27 XC_27 AL_27
                go_wp2
                go_ret
                exact ⟨rfl, B28.out⟩
            | some v9 dl h8 h9 hA9 hb =>
              have hokv : ok = true := by rw [HOK2.out, h8]
              obtain ⟨A9, c9, rfl, -, -⟩ := hA9.form
              subst hokv
              have B27 := Lib.hid (B14.out.trans (hb.mono B14.out.size))
              have XC_27 := Lib.hid (XC_14.out.on hb)
              have AL_27 := Lib.hid (AL_14.out.on hb)
              clear hb hcall h8 h9 hA9 B14 XC_14 AL_14
              have hcall := awake11_c w27
              go_wp2_with fail
              (with_reducible refine hcall.mono ?_)
              rintro e w29 ⟨rfl, hb⟩
              have B29 := Lib.hid (B27.out.trans (hb.mono B27.out.size))
              have XC_29 := Lib.hid (XC_27.out.on hb)
              have AL_29 := Lib.hid (AL_27.out.on hb)
              clear hb hcall  B27 XC_27 AL_27
              go_wp2
              go_ret
              exact ⟨rfl, B29.out⟩
  · have h20z : (20 : Int) < (al.length : Int) := by omega
    have h20c : (20 : Int) ≤ (cap : Int) := by omega
    have hv2 := hv1.take (k := 20) (by omega)
    have hle : (al.take 20).length = 20 := by rw [List.length_take]; omega
    go_enter Tryz.func7, Tryz.ntmps7
    go_upto_region 3 with (fail)
    clear hcl1 hcl2 hcz hmz h20z h20c hv1 h20
    (try generalize al.length = m0)
    generalize al.take 20 = al at hv2 hle
    have h20 : al.length ≤ 20 := by omega
    rw [← hle] at hv2
    have hv1 := hv2
    clear hv2
    obtain ⟨n20, hn20⟩ : ∃ n : Nat, (20 : Nat) = n := ⟨_, rfl⟩
    rw [show (Value.slice A 20 cap) = Value.slice A al.length cap by rw [hle]]
    clear hn20 n20 hle
    generalize (w.alloc (.cells #[.int .u64 (uv c.vh), .int .u64 (uv c.vl), .int .u64 (uv c.ch), .int .u64 (uv c.cl)] 53)) = w1 at x1 b1 hv1 ⊢
    obtain ⟨A1, c1, e1, hlm, hA⟩ := hv1.form
    injection e1 with e1 e2 e3
    subst e1 e3
    clear e2
    have BB := Lib.hid b1
    have XC := Lib.hid x1
    have HV := Lib.hid hv1
    have HA := Lib.hid hA
    have H20 := Lib.hid h20
    have hlz : (al.length : Int) ≤ 20 := by omega
    have BR := Lib.hid (Below.refl w1.heap.size w1)
    clear b1 x1 hv1 hlm hA h20
    go_wp2
    go_loopg [7, 8, 9, 10, 11, 12] al.length (fun gk s7 s8 s9 _ _ _ wr => ∃ (k : Nat) (ok th : Bool), k ≤ al.length ∧ gk = al.length - k ∧ s7 = .bool ok ∧ s8 = .bool th ∧ s9 = .int .i64 k ∧ Hid (Below w1.heap.size w1 wr) ∧ Hid (ok = (al.take k).all fun a => sndL a.pl) ∧ Hid (th = decide (ofL al id k ≠ [])) ∧ Hid (∀ (j : Nat) (d : AtC), j < k → al[j]? = some d → d.pl.length ≤ 20 ∧ d.ids.length ≤ 100))
    case atStart => exact ⟨0, true, false, Nat.zero_le _, rfl, rfl, rfl, rfl, BR, rfl, rfl, fun j d hj => absurd hj (Nat.not_lt_zero _)⟩
    case round =>
      clear BR
      obtain ⟨k, ok, th, hk, rfl, rfl, rfl, rfl, B1, HOK, HTH, HJ⟩ := hrel
      have B0 := Lib.hid (BB.out.trans (B1.out.mono BB.out.size))
      by_cases hlt : k < al.length
      · have hltz : (k : Int) < (al.length : Int) := by omega
        obtain ⟨a, ha⟩ : ∃ a, al[k]? = some a := ⟨_, List.getElem?_eq_getElem hlt⟩
        obtain ⟨b, off, rfl, hb, hcc⟩ := HA.out (ne_nil_of ha)
        obtain ⟨I1, I2, I3, P1, P2, P3, ⟨c0, d1, d2, c3⟩, hN, hP, rfl, rfl⟩ := ((hcc k a ha).on (w' := wr) B1.out).cells
        clear d1 d2 hcc
        have HAK := Lib.hid ha
        have HNI := Lib.hid hN
        clear ha hN
        by_cases hp20 : a.pl.length ≤ 20
        · have hp20z : ¬ (20 : Int) < (a.pl.length : Int) := by omega
          by_cases hi100 : a.ids.length ≤ 100
          · have hi100z : ¬ (100 : Int) < (a.ids.length : Int) := by omega
            have HBD := Lib.hid (And.intro hp20 hi100)
            have htx := texts_c _ a.pl wr (by omega) hP
            have hsl : sndL a.pl = a.pl.all Cb.snd := by unfold sndL; rw [decide_eq_true (by omega)]; rfl
            have hd200 : decide (a.pl.length ≤ 200) = true := decide_eq_true (by omega)
            have HSL := Lib.hid hsl
            clear hP hsl
            go_wp2_with fail
            (with_reducible refine htx.mono ?_)
            rintro e w2 ht
            obtain ⟨tv, rfl, hb2⟩ : ∃ tv, e = .returned (.tuple #[tv, .bool (sndL a.pl)]) ∧ Below wr.heap.size wr w2 := by
              rw [HSL.out]
              cases hs : a.pl.all Cb.snd with
              | true =>
                obtain ⟨v, rfl, _, hb⟩ := ht.1 hs
                exact ⟨v, by rw [hd200], hb⟩
              | false =>
                obtain ⟨rfl, hb⟩ := ht.2 hs
                exact ⟨_, rfl, hb⟩
            have c0' := on_some hb2 c0
            have N2 := Lib.hid (HNI.out.on hb2)
            have B2 := Lib.hid (B1.out.trans (hb2.mono B1.out.size))
            have HOK2 : Hid ((ok && sndL a.pl) = (al.take (k + 1)).all fun a => sndL a.pl) := by show _ = _; rw [snd_step HAK.out, HOK.out]
            have HIL : Hid (a.ids.length ≤ 100) := hi100
            have hiz : (a.ids.length : Int) ≤ 100 := by omega
            have HTS := Lib.hid (ofL_step (id := id) HAK.out)
            have HJ2 : Hid (∀ (j : Nat) (d : AtC), j < k + 1 → al[j]? = some d → d.pl.length ≤ 20 ∧ d.ids.length ≤ 100) := fun j d hj hd => by
              by_cases e : j = k
              · subst e
                rw [HAK.out] at hd
                injection hd with hd
                subst hd
                exact HBD.out
              · exact HJ.out j d (by omega) hd
            clear htx ht hb2 c0 c3 B0 B1 HNI hd200 hp20 hi100 hp20z hi100z HOK HJ
            generalize hoo : (ok && sndL a.pl) = ok2 at HOK2
            generalize sndL a.pl = sl at hoo HSL ⊢
            have hoo2 : ok2 = (ok && sl) := hoo.symm
            clear hoo
            cases ok with
            | false =>
              go_wp2
              go_loopg [8, 12] a.ids.length (fun gk s8 s12 wz => ∃ (k2 : Nat) (t2 : Bool), k2 ≤ a.ids.length ∧ gk = a.ids.length - k2 ∧ s8 = .bool t2 ∧ s12 = .int .i64 k2 ∧ wz = w2 ∧ Hid (t2 = (th || decide (id ∈ a.ids.take k2))))
              case atStart => exact ⟨0, th, Nat.zero_le _, rfl, rfl, rfl, rfl, by show _ = _; simp⟩
              case round =>
                obtain ⟨k2, t2, hk2, rfl, rfl, rfl, rfl, HT2⟩ := hrel
                by_cases hlt2 : k2 < a.ids.length
                · have hltz2 : (k2 : Int) < (a.ids.length : Int) := by omega
                  obtain ⟨y, hy⟩ : ∃ y, a.ids[k2]? = some y := ⟨_, List.getElem?_eq_getElem hlt2⟩
                  have HMS := Lib.hid (mem_take_step (id := id) hy)
                  obtain ⟨b2, o2, rfl, hy2⟩ : ∃ b2 o2, I1 = some ⟨b2, o2, none⟩ ∧ wr.cell? ⟨b2, o2 + k2, none⟩ = some (.int .i64 y) := by
                    obtain ⟨A9, c9, e, -, -, h⟩ := N2.out
                    injection e with e1 e2 e3
                    rcases h with h | ⟨b2, o2, e4, -, h⟩
                    · rw [h] at hy; simp at hy
                    · exact ⟨b2, o2, by rw [e1, e4], h k2 y hy⟩
                  cases t2 with
                  | true =>
                    have HT3 : Hid (true = (th || decide (id ∈ a.ids.take (k2 + 1)))) := by show _ = _; rw [HMS.out, ← Bool.or_assoc, ← HT2.out]; rfl
                    clear HT2 HMS hy hy2
                    go_wp2
                    go_roundg (a.ids.length - (k2 + 1))
                    case measure => omega
                    case rel => exact ⟨k2 + 1, true, by omega, rfl, rfl, by go_num, rfl, HT3⟩
                  | false =>
                    obtain ⟨t3, ht3⟩ : ∃ t3, (y == id) = t3 := ⟨_, rfl⟩
                    have HT3 : Hid (t3 = (th || decide (id ∈ a.ids.take (k2 + 1)))) := by show _ = _; rw [HMS.out, ← Bool.or_assoc, ← HT2.out, ht3]; rfl
                    clear HT2 HMS hy
                    go_wp2
                    go_roundg (a.ids.length - (k2 + 1))
                    case measure => omega
                    case rel => exact ⟨k2 + 1, t3, by omega, rfl, by rw [← ht3], by go_num, rfl, HT3⟩
                · have hltz2 : ¬ (k2 : Int) < (a.ids.length : Int) := by omega
                  have HT3 : Hid (t2 = decide (ofL al id (k + 1) ≠ [])) := by
                    show _ = _
                    rw [HTS.out, ← HTH.out, HT2.out, List.take_of_length_le (by omega)]
                  clear HT2 HTH HTS
                  go_wp2
                  go_roundg (al.length - (k + 1))
                  case measure => omega
                  case rel => exact ⟨k + 1, ok2, t2, by omega, rfl, by rw [hoo2]; rfl, rfl, by go_num, B2, HOK2, HT3, HJ2⟩
            | true =>
              go_wp2
              go_loopg [8, 12] a.ids.length (fun gk s8 s12 wz => ∃ (k2 : Nat) (t2 : Bool), k2 ≤ a.ids.length ∧ gk = a.ids.length - k2 ∧ s8 = .bool t2 ∧ s12 = .int .i64 k2 ∧ wz = w2 ∧ Hid (t2 = (th || decide (id ∈ a.ids.take k2))))
              case atStart => exact ⟨0, th, Nat.zero_le _, rfl, rfl, rfl, rfl, by show _ = _; simp⟩
              case round =>
                obtain ⟨k2, t2, hk2, rfl, rfl, rfl, rfl, HT2⟩ := hrel
                by_cases hlt2 : k2 < a.ids.length
                · have hltz2 : (k2 : Int) < (a.ids.length : Int) := by omega
                  obtain ⟨y, hy⟩ : ∃ y, a.ids[k2]? = some y := ⟨_, List.getElem?_eq_getElem hlt2⟩
                  have HMS := Lib.hid (mem_take_step (id := id) hy)
                  obtain ⟨b2, o2, rfl, hy2⟩ : ∃ b2 o2, I1 = some ⟨b2, o2, none⟩ ∧ wr.cell? ⟨b2, o2 + k2, none⟩ = some (.int .i64 y) := by
                    obtain ⟨A9, c9, e, -, -, h⟩ := N2.out
                    injection e with e1 e2 e3
                    rcases h with h | ⟨b2, o2, e4, -, h⟩
                    · rw [h] at hy; simp at hy
                    · exact ⟨b2, o2, by rw [e1, e4], h k2 y hy⟩
                  cases t2 with
                  | true =>
                    have HT3 : Hid (true = (th || decide (id ∈ a.ids.take (k2 + 1)))) := by show _ = _; rw [HMS.out, ← Bool.or_assoc, ← HT2.out]; rfl
                    clear HT2 HMS hy hy2
                    go_wp2
                    go_roundg (a.ids.length - (k2 + 1))
                    case measure => omega
                    case rel => exact ⟨k2 + 1, true, by omega, rfl, rfl, by go_num, rfl, HT3⟩
                  | false =>
                    obtain ⟨t3, ht3⟩ : ∃ t3, (y == id) = t3 := ⟨_, rfl⟩
                    have HT3 : Hid (t3 = (th || decide (id ∈ a.ids.take (k2 + 1)))) := by show _ = _; rw [HMS.out, ← Bool.or_assoc, ← HT2.out, ht3]; rfl
                    clear HT2 HMS hy
                    go_wp2
                    go_roundg (a.ids.length - (k2 + 1))
                    case measure => omega
                    case rel => exact ⟨k2 + 1, t3, by omega, rfl, by rw [← ht3], by go_num, rfl, HT3⟩
                · have hltz2 : ¬ (k2 : Int) < (a.ids.length : Int) := by omega
                  have HT3 : Hid (t2 = decide (ofL al id (k + 1) ≠ [])) := by
                    show _ = _
                    rw [HTS.out, ← HTH.out, HT2.out, List.take_of_length_le (by omega)]
                  clear HT2 HTH HTS
                  go_wp2
                  go_roundg (al.length - (k + 1))
                  case measure => omega
                  case rel => exact ⟨k + 1, ok2, t2, by omega, rfl, by rw [hoo2]; rfl, rfl, by go_num, B2, HOK2, HT3, HJ2⟩
          · have hi100z : (100 : Int) < (a.ids.length : Int) := by omega
            clear hP
            have hcall := awake11_c wr
            go_wp2_with fail
            (with_reducible refine hcall.mono ?_)
            rintro e w30 ⟨rfl, hb⟩
            have B30 := Lib.hid (B0.out.trans (hb.mono B0.out.size))
            clear hb hcall c0 c3 B0 
            go_wp2
            go_ret
            exact ⟨rfl, B30.out⟩
        · have hp20z : (20 : Int) < (a.pl.length : Int) := by omega
          clear hP
          have hcall := awake11_c wr
          go_wp2_with fail
          (with_reducible refine hcall.mono ?_)
          rintro e w31 ⟨rfl, hb⟩
          have B31 := Lib.hid (B0.out.trans (hb.mono B0.out.size))
          clear hb hcall c0 c3 B0 
          go_wp2
          go_ret
          exact ⟨rfl, B31.out⟩
      · have hltz : ¬ (k : Int) < (al.length : Int) := by omega
        obtain rfl : k = al.length := by omega
        have HOK2 : Hid (ok = sndA al) := by show _ = _; rw [HOK.out, List.take_length]; rfl
        have HTH2 : Hid (th = decide (ofL al id al.length ≠ [])) := HTH
        have HIL : Hid (∀ a ∈ al, a.ids.length ≤ 4398046511104) := fun a ha => by
          obtain ⟨j, hj⟩ := List.mem_iff_getElem?.1 ha
          have := (HJ.out j a (List.getElem?_eq_some_iff.1 hj).1 hj).2
          omega
        have XC_0 := Lib.hid (XC.out.on B1.out)
        have AL_0 := Lib.hid (HV.out.on B1.out)
        clear HOK HTH HJ
        cases hcs : c.snd with
        | false =>
          obtain ⟨y0, y1, y2, y3⟩ : At4 wr w.heap.size 0 c := ⟨XC_0.out.cell 0, XC_0.out.cell 1, XC_0.out.cell 2, XC_0.out.cell 3⟩
          have hcall := text_no c wr hcs
          go_wp2_with fail
          (with_reducible refine hcall.mono ?_)
          rintro e w32 ⟨rfl, hb⟩
          have B32 := Lib.hid (B0.out.trans (hb.mono B0.out.size))
          have XC_32 := Lib.hid (XC_0.out.on hb)
          have AL_32 := Lib.hid (AL_0.out.on hb)
          clear hb hcall y0 y1 y2 y3 B0 XC_0 AL_0
          obtain ⟨y0, y1, y2, y3⟩ : At4 w32 w.heap.size 0 c := ⟨XC_32.out.cell 0, XC_32.out.cell 1, XC_32.out.cell 2, XC_32.out.cell 3⟩
          have hcall := arefine_r (.slice A al.length cap) al id c w32 (by have := H20.out; omega) HIL.out AL_32.out
          go_wp2_with fail
          (with_reducible refine hcall.mono ?_)
          rintro e w33 hr
          clear hcall
          have hcall := trivial
          cases hr with
          | err kk hk hb =>
            rcases hk with ⟨rfl, h0⟩ | ⟨rfl, h0, h1⟩ | ⟨rfl, h0, h1, h2⟩ | ⟨rfl, h0, h1, h2⟩
            · have hidz : id < 0 := h0
              have B33 := Lib.hid (B32.out.trans (hb.mono B32.out.size))
              have XC_33 := Lib.hid (XC_32.out.on hb)
              have AL_33 := Lib.hid (AL_32.out.on hb)
              clear hb hcall y0 y1 y2 y3 B32 XC_32 AL_32
              have hcall := acoarsen_r (.slice A al.length cap) al id w33 (by have := H20.out; omega) HIL.out AL_33.out
              go_wp2_with fail
              (with_reducible refine hcall.mono ?_)
              rintro e w34 hr
              clear hcall
              have hcall := trivial
              cases hr with
              | err ck hck hb =>
                rcases hck with ⟨rfl, hsa⟩ | ⟨rfl, hsa⟩
                · have hokv : ok = false := by rw [HOK2.out, hsa]
                  subst hokv
                  have B34 := Lib.hid (B33.out.trans (hb.mono B33.out.size))
                  have XC_34 := Lib.hid (XC_33.out.on hb)
                  have AL_34 := Lib.hid (AL_33.out.on hb)
                  clear hb hcall hsa B33 XC_33 AL_33
                  have hcall := awake11_c w34
                  go_wp2_with fail
                  (with_reducible refine hcall.mono ?_)
                  rintro e w35 ⟨rfl, hb⟩
                  have B35 := Lib.hid (B34.out.trans (hb.mono B34.out.size))
                  have XC_35 := Lib.hid (XC_34.out.on hb)
                  have AL_35 := Lib.hid (AL_34.out.on hb)
                  clear hb hcall  B34 XC_34 AL_34
                  go_wp2
                  go_ret
                  exact ⟨rfl, B35.out⟩
                · have hokv : ok = true := by rw [HOK2.out, hsa]
                  subst hokv
                  have B34 := Lib.hid (B33.out.trans (hb.mono B33.out.size))
                  have XC_34 := Lib.hid (XC_33.out.on hb)
                  have AL_34 := Lib.hid (AL_33.out.on hb)
                  clear hb hcall hsa B33 XC_33 AL_33
                  have hcall := awake11_c w34
                  go_wp2_with fail
                  (with_reducible refine hcall.mono ?_)
                  rintro e w36 ⟨rfl, hb⟩
                  have B36 := Lib.hid (B34.out.trans (hb.mono B34.out.size))
                  have XC_36 := Lib.hid (XC_34.out.on hb)
                  have AL_36 := Lib.hid (AL_34.out.on hb)
                  clear hb hcall  B34 XC_34 AL_34
                  go_wp2
                  go_ret
                  exact ⟨rfl, B36.out⟩
              | some v9 dl h8 h9 hA9 hb =>
                have hokv : ok = true := by rw [HOK2.out, h8]
                obtain ⟨A9, c9, rfl, -, -⟩ := hA9.form
                subst hokv
                have B34 := Lib.hid (B33.out.trans (hb.mono B33.out.size))
                have XC_34 := Lib.hid (XC_33.out.on hb)
                have AL_34 := Lib.hid (AL_33.out.on hb)
                clear hb hcall h8 h9 hA9 B33 XC_33 AL_33
                have hcall := awake11_c w34
                go_wp2_with fail
                (with_reducible refine hcall.mono ?_)
                rintro e w37 ⟨rfl, hb⟩
                have B37 := Lib.hid (B34.out.trans (hb.mono B34.out.size))
                have XC_37 := Lib.hid (XC_34.out.on hb)
                have AL_37 := Lib.hid (AL_34.out.on hb)
                clear hb hcall  B34 XC_34 AL_34
                go_wp2
                go_ret
                exact ⟨rfl, B37.out⟩
            · have hidz : ¬ id < 0 := h0
              have B33 := Lib.hid (B32.out.trans (hb.mono B32.out.size))
              have XC_33 := Lib.hid (XC_32.out.on hb)
              have AL_33 := Lib.hid (AL_32.out.on hb)
              clear hb hcall y0 y1 y2 y3 B32 XC_32 AL_32
              have hcall := acoarsen_r (.slice A al.length cap) al id w33 (by have := H20.out; omega) HIL.out AL_33.out
              go_wp2_with fail
              (with_reducible refine hcall.mono ?_)
              rintro e w38 hr
              clear hcall
              have hcall := trivial
              cases hr with
              | err ck hck hb =>
                rcases hck with ⟨rfl, hsa⟩ | ⟨rfl, hsa⟩
                · have hokv : ok = false := by rw [HOK2.out, hsa]
                  subst hokv
                  have B38 := Lib.hid (B33.out.trans (hb.mono B33.out.size))
                  have XC_38 := Lib.hid (XC_33.out.on hb)
                  have AL_38 := Lib.hid (AL_33.out.on hb)
                  clear hb hcall hsa B33 XC_33 AL_33
                  have hcall := awake11_c w38
                  go_wp2_with fail
                  (with_reducible refine hcall.mono ?_)
                  rintro e w39 ⟨rfl, hb⟩
                  have B39 := Lib.hid (B38.out.trans (hb.mono B38.out.size))
                  have XC_39 := Lib.hid (XC_38.out.on hb)
                  have AL_39 := Lib.hid (AL_38.out.on hb)
                  clear hb hcall  B38 XC_38 AL_38
                  go_wp2
                  go_ret
                  exact ⟨rfl, B39.out⟩
                · have hokv : ok = true := by rw [HOK2.out, hsa]
                  subst hokv
                  have B38 := Lib.hid (B33.out.trans (hb.mono B33.out.size))
                  have XC_38 := Lib.hid (XC_33.out.on hb)
                  have AL_38 := Lib.hid (AL_33.out.on hb)
                  clear hb hcall hsa B33 XC_33 AL_33
                  have hcall := awake11_c w38
                  go_wp2_with fail
                  (with_reducible refine hcall.mono ?_)
                  rintro e w40 ⟨rfl, hb⟩
                  have B40 := Lib.hid (B38.out.trans (hb.mono B38.out.size))
                  have XC_40 := Lib.hid (XC_38.out.on hb)
                  have AL_40 := Lib.hid (AL_38.out.on hb)
                  clear hb hcall  B38 XC_38 AL_38
                  go_wp2
                  go_ret
                  exact ⟨rfl, B40.out⟩
              | some v9 dl h8 h9 hA9 hb =>
                have hokv : ok = true := by rw [HOK2.out, h8]
                obtain ⟨A9, c9, rfl, -, -⟩ := hA9.form
                subst hokv
                have B38 := Lib.hid (B33.out.trans (hb.mono B33.out.size))
                have XC_38 := Lib.hid (XC_33.out.on hb)
                have AL_38 := Lib.hid (AL_33.out.on hb)
                clear hb hcall h8 h9 hA9 B33 XC_33 AL_33
                have hcall := awake11_c w38
                go_wp2_with fail
                (with_reducible refine hcall.mono ?_)
                rintro e w41 ⟨rfl, hb⟩
                have B41 := Lib.hid (B38.out.trans (hb.mono B38.out.size))
                have XC_41 := Lib.hid (XC_38.out.on hb)
                have AL_41 := Lib.hid (AL_38.out.on hb)
                clear hb hcall  B38 XC_38 AL_38
                go_wp2
                go_ret
                exact ⟨rfl, B41.out⟩
            · have hidz : ¬ id < 0 := h0
              rw [hcs] at h1
              simp at h1
            · have hidz : ¬ id < 0 := h0
              rw [hcs] at h1
              simp at h1
          | some v4 bs h0 h1 h2 h3 hA4 hb =>
            rw [hcs] at h1
            simp at h1
        | true =>
          obtain ⟨y0, y1, y2, y3⟩ : At4 wr w.heap.size 0 c := ⟨XC_0.out.cell 0, XC_0.out.cell 1, XC_0.out.cell 2, XC_0.out.cell 3⟩
          have hcall := text_yes c wr hcs
          go_wp2_with fail
          (with_reducible refine hcall.mono ?_)
          rintro e w42 ⟨rfl, hb⟩
          have B42 := Lib.hid (B0.out.trans (hb.mono B0.out.size))
          have XC_42 := Lib.hid (XC_0.out.on hb)
          have AL_42 := Lib.hid (AL_0.out.on hb)
          clear hb hcall y0 y1 y2 y3 B0 XC_0 AL_0
          obtain ⟨y0, y1, y2, y3⟩ : At4 w42 w.heap.size 0 c := ⟨XC_42.out.cell 0, XC_42.out.cell 1, XC_42.out.cell 2, XC_42.out.cell 3⟩
          have hcall := arefine_r (.slice A al.length cap) al id c w42 (by have := H20.out; omega) HIL.out AL_42.out
          go_wp2_with fail
          (with_reducible refine hcall.mono ?_)
          rintro e w43 hr
          clear hcall
          have hcall := trivial
          cases hr with
          | err kk hk hb =>
            rcases hk with ⟨rfl, h0⟩ | ⟨rfl, h0, h1⟩ | ⟨rfl, h0, h1, h2⟩ | ⟨rfl, h0, h1, h2⟩
            · have hidz : id < 0 := h0
              have B43 := Lib.hid (B42.out.trans (hb.mono B42.out.size))
              have XC_43 := Lib.hid (XC_42.out.on hb)
              have AL_43 := Lib.hid (AL_42.out.on hb)
              clear hb hcall y0 y1 y2 y3 B42 XC_42 AL_42
              have hcall := acoarsen_r (.slice A al.length cap) al id w43 (by have := H20.out; omega) HIL.out AL_43.out
              go_wp2_with fail
              (with_reducible refine hcall.mono ?_)
              rintro e w44 hr
              clear hcall
              have hcall := trivial
              cases hr with
              | err ck hck hb =>
                rcases hck with ⟨rfl, hsa⟩ | ⟨rfl, hsa⟩
                · have hokv : ok = false := by rw [HOK2.out, hsa]
                  subst hokv
                  have B44 := Lib.hid (B43.out.trans (hb.mono B43.out.size))
                  have XC_44 := Lib.hid (XC_43.out.on hb)
                  have AL_44 := Lib.hid (AL_43.out.on hb)
                  clear hb hcall hsa B43 XC_43 AL_43
                  have hcall := awake11_c w44
                  go_wp2_with fail
                  (with_reducible refine hcall.mono ?_)
                  rintro e w45 ⟨rfl, hb⟩
                  have B45 := Lib.hid (B44.out.trans (hb.mono B44.out.size))
                  have XC_45 := Lib.hid (XC_44.out.on hb)
                  have AL_45 := Lib.hid (AL_44.out.on hb)
                  clear hb hcall  B44 XC_44 AL_44
                  go_wp2
                  go_ret
                  exact ⟨rfl, B45.out⟩
                · have hokv : ok = true := by rw [HOK2.out, hsa]
                  subst hokv
                  have B44 := Lib.hid (B43.out.trans (hb.mono B43.out.size))
                  have XC_44 := Lib.hid (XC_43.out.on hb)
                  have AL_44 := Lib.hid (AL_43.out.on hb)
                  clear hb hcall hsa B43 XC_43 AL_43
                  have hcall := awake11_c w44
                  go_wp2_with fail
                  (with_reducible refine hcall.mono ?_)
                  rintro e w46 ⟨rfl, hb⟩
                  have B46 := Lib.hid (B44.out.trans (hb.mono B44.out.size))
                  have XC_46 := Lib.hid (XC_44.out.on hb)
                  have AL_46 := Lib.hid (AL_44.out.on hb)
                  clear hb hcall  B44 XC_44 AL_44
                  go_wp2
                  go_ret
                  exact ⟨rfl, B46.out⟩
              | some v9 dl h8 h9 hA9 hb =>
                have hokv : ok = true := by rw [HOK2.out, h8]
                obtain ⟨A9, c9, rfl, -, -⟩ := hA9.form
                subst hokv
                have B44 := Lib.hid (B43.out.trans (hb.mono B43.out.size))
                have XC_44 := Lib.hid (XC_43.out.on hb)
                have AL_44 := Lib.hid (AL_43.out.on hb)
                clear hb hcall h8 h9 hA9 B43 XC_43 AL_43
                have hcall := awake11_c w44
                go_wp2_with fail
                (with_reducible refine hcall.mono ?_)
                rintro e w47 ⟨rfl, hb⟩
                have B47 := Lib.hid (B44.out.trans (hb.mono B44.out.size))
                have XC_47 := Lib.hid (XC_44.out.on hb)
                have AL_47 := Lib.hid (AL_44.out.on hb)
                clear hb hcall  B44 XC_44 AL_44
                go_wp2
                go_ret
                exact ⟨rfl, B47.out⟩
            · have hidz : ¬ id < 0 := h0
              have B43 := Lib.hid (B42.out.trans (hb.mono B42.out.size))
              have XC_43 := Lib.hid (XC_42.out.on hb)
              have AL_43 := Lib.hid (AL_42.out.on hb)
              clear hb hcall y0 y1 y2 y3 B42 XC_42 AL_42
              have hcall := acoarsen_r (.slice A al.length cap) al id w43 (by have := H20.out; omega) HIL.out AL_43.out
              go_wp2_with fail
              (with_reducible refine hcall.mono ?_)
              rintro e w48 hr
              clear hcall
              have hcall := trivial
              cases hr with
              | err ck hck hb =>
                rcases hck with ⟨rfl, hsa⟩ | ⟨rfl, hsa⟩
                · have hokv : ok = false := by rw [HOK2.out, hsa]
                  subst hokv
                  have B48 := Lib.hid (B43.out.trans (hb.mono B43.out.size))
                  have XC_48 := Lib.hid (XC_43.out.on hb)
                  have AL_48 := Lib.hid (AL_43.out.on hb)
                  clear hb hcall hsa B43 XC_43 AL_43
                  have hcall := awake11_c w48
                  go_wp2_with fail
                  (with_reducible refine hcall.mono ?_)
                  rintro e w49 ⟨rfl, hb⟩
                  have B49 := Lib.hid (B48.out.trans (hb.mono B48.out.size))
                  have XC_49 := Lib.hid (XC_48.out.on hb)
                  have AL_49 := Lib.hid (AL_48.out.on hb)
                  clear hb hcall  B48 XC_48 AL_48
                  go_wp2
                  go_ret
                  exact ⟨rfl, B49.out⟩
                · have hokv : ok = true := by rw [HOK2.out, hsa]
                  rw [hsa] at h1
                  simp [hcs] at h1
              | some v9 dl h8 h9 hA9 hb =>
                have hokv : ok = true := by rw [HOK2.out, h8]
                rw [h8] at h1
                simp [hcs] at h1
            · have hidz : ¬ id < 0 := h0
              have hthv : th = true := by rw [HTH2.out]; simp [h2]
              subst hthv
              have B43 := Lib.hid (B42.out.trans (hb.mono B42.out.size))
              have XC_43 := Lib.hid (XC_42.out.on hb)
              have AL_43 := Lib.hid (AL_42.out.on hb)
              clear hb hcall y0 y1 y2 y3 B42 XC_42 AL_42
              have hcall := acoarsen_r (.slice A al.length cap) al id w43 (by have := H20.out; omega) HIL.out AL_43.out
              go_wp2_with fail
              (with_reducible refine hcall.mono ?_)
              rintro e w50 hr
              clear hcall
              have hcall := trivial
              cases hr with
              | err ck hck hb =>
                rcases hck with ⟨rfl, hsa⟩ | ⟨rfl, hsa⟩
                · have hokv : ok = false := by rw [HOK2.out, hsa]
                  rw [hsa] at h1
                  simp [hcs] at h1
                · have hokv : ok = true := by rw [HOK2.out, hsa]
                  subst hokv
                  have B50 := Lib.hid (B43.out.trans (hb.mono B43.out.size))
                  have XC_50 := Lib.hid (XC_43.out.on hb)
                  have AL_50 := Lib.hid (AL_43.out.on hb)
                  clear hb hcall hsa B43 XC_43 AL_43
                  have hcall := awake11_c w50
                  go_wp2_with fail
                  (with_reducible refine hcall.mono ?_)
                  rintro e w51 ⟨rfl, hb⟩
                  have B51 := Lib.hid (B50.out.trans (hb.mono B50.out.size))
                  have XC_51 := Lib.hid (XC_50.out.on hb)
                  have AL_51 := Lib.hid (AL_50.out.on hb)
                  clear hb hcall  B50 XC_50 AL_50
                  go_wp2
                  go_ret
                  exact ⟨rfl, B51.out⟩
              | some v9 dl h8 h9 hA9 hb =>
                have hokv : ok = true := by rw [HOK2.out, h8]
                obtain ⟨A9, c9, rfl, -, -⟩ := hA9.form
                subst hokv
                have B50 := Lib.hid (B43.out.trans (hb.mono B43.out.size))
                have XC_50 := Lib.hid (XC_43.out.on hb)
                have AL_50 := Lib.hid (AL_43.out.on hb)
                clear hb hcall h8 h9 hA9 B43 XC_43 AL_43
                have hcall := awake11_c w50
                go_wp2_with fail
                (with_reducible refine hcall.mono ?_)
                rintro e w52 ⟨rfl, hb⟩
                have B52 := Lib.hid (B50.out.trans (hb.mono B50.out.size))
                have XC_52 := Lib.hid (XC_50.out.on hb)
                have AL_52 := Lib.hid (AL_50.out.on hb)
                clear hb hcall  B50 XC_50 AL_50
                go_wp2
                go_ret
                exact ⟨rfl, B52.out⟩
            · have hidz : ¬ id < 0 := h0
              have hthv : th = false := by rw [HTH2.out]; simp [h2]
              subst hthv
              have B43 := Lib.hid (B42.out.trans (hb.mono B42.out.size))
              have XC_43 := Lib.hid (XC_42.out.on hb)
              have AL_43 := Lib.hid (AL_42.out.on hb)
              clear hb hcall y0 y1 y2 y3 B42 XC_42 AL_42
              have hcall := acoarsen_r (.slice A al.length cap) al id w43 (by have := H20.out; omega) HIL.out AL_43.out
              go_wp2_with fail
              (with_reducible refine hcall.mono ?_)
              rintro e w53 hr
              clear hcall
              have hcall := trivial
              cases hr with
              | err ck hck hb =>
                rcases hck with ⟨rfl, hsa⟩ | ⟨rfl, hsa⟩
                · have hokv : ok = false := by rw [HOK2.out, hsa]
                  rw [hsa] at h1
                  simp [hcs] at h1
                · have hokv : ok = true := by rw [HOK2.out, hsa]
                  subst hokv
                  have B53 := Lib.hid (B43.out.trans (hb.mono B43.out.size))
                  have XC_53 := Lib.hid (XC_43.out.on hb)
                  have AL_53 := Lib.hid (AL_43.out.on hb)
                  clear hb hcall hsa B43 XC_43 AL_43
                  have hcall := awake11_c w53
                  go_wp2_with fail
                  (with_reducible refine hcall.mono ?_)
                  rintro e w54 ⟨rfl, hb⟩
                  have B54 := Lib.hid (B53.out.trans (hb.mono B53.out.size))
                  have XC_54 := Lib.hid (XC_53.out.on hb)
                  have AL_54 := Lib.hid (AL_53.out.on hb)
                  clear hb hcall  B53 XC_53 AL_53
                  go_wp2
                  go_ret
                  exact ⟨rfl, B54.out⟩
              | some v9 dl h8 h9 hA9 hb =>
                have hokv : ok = true := by rw [HOK2.out, h8]
                obtain ⟨A9, c9, rfl, -, -⟩ := hA9.form
                subst hokv
                have B53 := Lib.hid (B43.out.trans (hb.mono B43.out.size))
                have XC_53 := Lib.hid (XC_43.out.on hb)
                have AL_53 := Lib.hid (AL_43.out.on hb)
                clear hb hcall h8 h9 hA9 B43 XC_43 AL_43
                have hcall := awake11_c w53
                go_wp2_with fail
                (with_reducible refine hcall.mono ?_)
                rintro e w55 ⟨rfl, hb⟩
                have B55 := Lib.hid (B53.out.trans (hb.mono B53.out.size))
                have XC_55 := Lib.hid (XC_53.out.on hb)
                have AL_55 := Lib.hid (AL_53.out.on hb)
                clear hb hcall  B53 XC_53 AL_53
                go_wp2
                go_ret
                exact ⟨rfl, B55.out⟩
          | some v4 bs h0 h1 h2 h3 hA4 hb =>
            have hidz : ¬ id < 0 := h0
            have hthv : th = false := by rw [HTH2.out]; simp [h2]
            subst hthv
            obtain ⟨A4, c4, rfl, -, -⟩ := hA4.form
            have B43 := Lib.hid (B42.out.trans (hb.mono B42.out.size))
            have XC_43 := Lib.hid (XC_42.out.on hb)
            have AL_43 := Lib.hid (AL_42.out.on hb)
            clear hb hcall y0 y1 y2 y3 h3 hA4 B42 XC_42 AL_42
            have hcall := acoarsen_r (.slice A al.length cap) al id w43 (by have := H20.out; omega) HIL.out AL_43.out
            go_wp2_with fail
            (with_reducible refine hcall.mono ?_)
            rintro e w56 hr
            clear hcall
            have hcall := trivial
            cases hr with
            | err ck hck hb =>
              rcases hck with ⟨rfl, hsa⟩ | ⟨rfl, hsa⟩
              · have hokv : ok = false := by rw [HOK2.out, hsa]
                rw [hsa] at h1
                simp [hcs] at h1
              · have hokv : ok = true := by rw [HOK2.out, hsa]
                subst hokv
                have B56 := Lib.hid (B43.out.trans (hb.mono B43.out.size))
                have XC_56 := Lib.hid (XC_43.out.on hb)
                have AL_56 := Lib.hid (AL_43.out.on hb)
                clear hb hcall hsa B43 XC_43 AL_43
                have hcall := awake11_c w56
                go_wp2_with fail
                (with_reducible refine hcall.mono ?_)
                rintro e w57 ⟨rfl, hb⟩
                have B57 := Lib.hid (B56.out.trans (hb.mono B56.out.size))
                have XC_57 := Lib.hid (XC_56.out.on hb)
                have AL_57 := Lib.hid (AL_56.out.on hb)
                clear hb hcall  B56 XC_56 AL_56
                go_wp2
                go_ret
                exact ⟨rfl, B57.out⟩
            | some v9 dl h8 h9 hA9 hb =>
              have hokv : ok = true := by rw [HOK2.out, h8]
              obtain ⟨A9, c9, rfl, -, -⟩ := hA9.form
              subst hokv
              have B56 := Lib.hid (B43.out.trans (hb.mono B43.out.size))
              have XC_56 := Lib.hid (XC_43.out.on hb)
              have AL_56 := Lib.hid (AL_43.out.on hb)
              clear hb hcall h8 h9 hA9 B43 XC_43 AL_43
              have hcall := awake11_c w56
              go_wp2_with fail
              (with_reducible refine hcall.mono ?_)
              rintro e w58 ⟨rfl, hb⟩
              have B58 := Lib.hid (B56.out.trans (hb.mono B56.out.size))
              have XC_58 := Lib.hid (XC_56.out.on hb)
              have AL_58 := Lib.hid (AL_56.out.on hb)
              clear hb hcall  B56 XC_56 AL_56
              go_wp2
              go_ret
              exact ⟨rfl, B58.out⟩
end Go.Proofs

namespace Go.Proofs.YtpmgbofnikmhgaaGreat
open Go.ChangeShapes Go.WideShapes Go.ChangeAt Go.RowKit Go.Joins Go.Proofs.Hd

theorem laidOut_aar : laidOutB Tryz.prog = true := by kernel_rfl
set_option maxRecDepth 100000 in
theorem aar_lifted (os : Os) (started : os.Started) (H : Type) (enc : TypeId × Value → H) :
    ReturnsInHanded {} Tryz.checked os 7 .any (Rows.atomsArgsSpec.pre6 enc Tryz.prog Tryz.f7 Rows.atomsArgsRow.domain false) (Rows.atomsArgsSpec.post enc Tryz.prog Tryz.f7 false true false false) := by
  refine returnsInHanded_of_change (C := Tryz.checked) own started (by kernel_rfl) Tryz.func7
    (ChangeSpec.witness6 (enc := enc) (C := Tryz.checked) false ⟨#[], #[.slice none 0 0, .int .i64 0, .agg #[.int .u64 0, .int .u64 0, .int .u64 0, .int .u64 0]], []⟩ 8 (by kernel_rfl) (by kernel_rfl) (by kernel_rfl) (by kernel_rfl)) ?_
  intro W base args ds gs before hval0 hW hcnd _
  have hval : ∀ (j : Nat) t v, Tryz.f7.params[j]? = some t → args[j]? = some v → Value.okWide Tryz.prog W .any base t v := hval0
  have hW' := hW
  obtain ⟨p, q, hA0, hV, rfl, hfz, hnd⟩ := hW
  have hA : DataW.TrodAll enc Tryz.prog W 0 (fun _ => true) true Tryz.f7.params.toList args.toList ds p := hA0
  rw [Tryz.params7] at hA hval
  obtain ⟨v0, vs0, d0, ds0, p0, q0, hargs, rfl, rfl, h0, r0⟩ := trodAll_cons hA
  obtain ⟨v1, vs1, d1, ds1, p1, q1, rfl, rfl, rfl, h1, r1⟩ := trodAll_cons r0
  obtain ⟨v2, vs2, d2, ds2, p2, q2, rfl, rfl, rfl, h2, r2⟩ := trodAll_cons r1
  obtain ⟨rfl, rfl, rfl⟩ := trodAll_nil r2
  obtain rfl : args = #[v0, v1, v2] := by cases args; simp_all
  obtain ⟨rfl, rfl⟩ := trodVars_none hV
  have k0 := h0
  have lt0 : ∀ x ∈ p0, x.block < W.heap.size := by obtain ⟨m, hm⟩ := k0; exact DataW.trod_lt m _ _ _ hm
  obtain ⟨lA, lc, lL, rfl, pl⟩ := open_atoms (hval 0 30 v0 rfl rfl) h0
  obtain ⟨i, rfl, rfl, rfl, wf1⟩ := open_int Tryz.underlying3 (hval 1 3 v1 rfl rfl) h1
  obtain ⟨mvh, mvl, mch, mcl, rfl, rfl, rfl, s2⟩ := open_cube (hval 2 53 v2 rfl rfl) h2
  clear hA0 hval0
  obtain ⟨bi1, bi2⟩ := bounds_i64 wf1
  refine (aargs_c _ lc lL i ⟨mvh, mvl, mch, mcl⟩ W pl).mono fun e W' ⟨he, hg⟩ => ?_
  subst he
  exact ⟨_, rfl, _, _, _, [], _, [], hW', trodAll_mk1 (shut_bool Tryz.underlying4 _), (trodAll_cons_mk (Below.trod laidOut_aar (by kernel_rfl) (of_decide_eq_true (by kernel_rfl)) k0 hg lt0) (trodAll_cons_mk (shut_int Tryz.underlying3 wf1) (trodAll_cons_mk (s2 _ _) trodAll_mk0))), rfl, hg.frame _, (fun h => by cases h)⟩

theorem aar_holds : Rows.AtomsArgsSaid :=
  OpenClaim.holds_of_wide 7 Tryz.f7 rfl rfl rfl rfl rfl rfl rfl ⟨rfl, rfl, rfl, rfl, rfl⟩ rfl rfl rfl rfl rfl (by kernel_rfl) Tryz.func7 (by kernel_rfl)
    (of_decide_eq_true (by kernel_rfl)) (by unfold Func.isWrapper; first | (rw [if_pos (by decide +kernel)]; kernel_rfl) | (rw [if_neg (by decide +kernel)]; exact ⟨rfl, rfl⟩))
    (fun os started H enc _ => aar_lifted os started H enc)
#print axioms aar_holds
end Go.Proofs.YtpmgbofnikmhgaaGreat
