/-
  Contracts of atoms.split and atoms.Split. Conditions as each theorem lists them.
  Plain facts on blocks that a statement makes in whatever order and fills afterwards. No conditions.
  Contracts of atoms.Refine. Conditions as each theorem lists them.
  Contract of atoms.Coarsen. Conditions as each theorem lists them.
  Contracts of the law's few, in and awake, and of the reference's Ints. Conditions as each theorem lists them.
-/
import Derived.Test.YtpmgbofnikmhgaaGreatJ8
import Derived.Deep.MidRow
namespace Go.Proofs.Hd
open Go.RowKit
/-- Atoms in a row of the call's own were returned, or too many cubes. -/
def OptA (w : World) (o : Option (List AtC)) (e : Ending) (w' : World) : Prop :=
  (∀ bs, o = some bs → ∃ v, e = .returned (.tuple #[v, .int .i64 0]) ∧ OwA w.heap.size w' v bs ∧ Below w.heap.size w w') ∧
  (o = none → e = .returned (.tuple #[.slice none 0 0, .int .i64 10]) ∧ Below w.heap.size w w')
theorem OptA.yes {w w' : World} {o : Option (List AtC)} {bs : List AtC} {v : Value} {e : Ending} (ho : o = some bs) (he : e = .returned (.tuple #[v, .int .i64 0])) (h : OwA w.heap.size w' v bs) (hb : Below w.heap.size w w') : OptA w o e w' := by
  subst ho
  refine ⟨fun bs' h' => ?_, fun h => by cases h⟩
  injection h' with h'
  subst h'
  exact ⟨v, he, h, hb⟩
theorem OptA.no {w w' : World} {o : Option (List AtC)} {e : Ending} (ho : o = none) (he : e = .returned (.tuple #[.slice none 0 0, .int .i64 10])) (hb : Below w.heap.size w w') : OptA w o e w' := by
  subst ho
  exact ⟨fun _ h => (by cases h), fun _ => ⟨he, hb⟩⟩
/-- Atoms were returned, or too many cubes. -/
def OptT (w : World) (o : Option (List AtC)) (e : Ending) (w' : World) : Prop :=
  (∀ bs, o = some bs → ∃ v, e = .returned (.tuple #[v, .int .i64 0]) ∧ At w' v bs ∧ Below w.heap.size w w') ∧
  (o = none → e = .returned (.tuple #[.slice none 0 0, .int .i64 10]) ∧ Below w.heap.size w w')
theorem OptT.yes {w w' : World} {o : Option (List AtC)} {bs : List AtC} {v : Value} {e : Ending} (ho : o = some bs) (he : e = .returned (.tuple #[v, .int .i64 0])) (h : At w' v bs) (hb : Below w.heap.size w w') : OptT w o e w' := by
  subst ho
  refine ⟨fun bs' h' => ?_, fun h => by cases h⟩
  injection h' with h'
  subst h'
  exact ⟨v, he, h, hb⟩
theorem OptT.no {w w' : World} {o : Option (List AtC)} {e : Ending} (ho : o = none) (he : e = .returned (.tuple #[.slice none 0 0, .int .i64 10])) (hb : Below w.heap.size w w') : OptT w o e w' := by
  subst ho
  exact ⟨fun _ h => (by cases h), fun _ => ⟨he, hb⟩⟩
theorem OwX.sl {B : Nat} {w : World} {v : Value} {E : List AtX} (h : OwX B w v E) : ∃ A cap, v = .slice A E.length cap := by
  rcases h.1.2 with ⟨rfl, h0⟩ | ⟨g, cap, cur, rfl, _⟩
  · rw [h0]; exact ⟨none, 0, rfl⟩
  · exact ⟨_, cap, rfl⟩
theorem box_off {g : Nat} {w w' : World} {v v' : Value} (hg : Grw w w' v.ownBlock v'.ownBlock) (ha : some g ≠ v.ownBlock) (hl : g < w.heap.size) : some g ≠ v'.ownBlock := by
  intro e
  rcases hg.2 with h2 | ⟨j, h2, hj⟩
  · exact ha (e.trans h2)
  · rw [h2] at e
    injection e with e
    omega
theorem sndA_at {al : List AtC} (h : sndA al = true) {a : AtC} (ha : a ∈ al) : sndL a.pl = true := by
  unfold sndA at h
  rw [List.all_eq_true] at h
  exact h a ha
theorem ok_of {c : Cb} {a : AtC} {x : List Cb × List Cb} (h : partP c a.pl = some x) : okA c a = true := by unfold okA; rw [h]; rfl
theorem prtG_of {c : Cb} {id : Int} {a : AtC} {m l : List Cb} (h : partP c a.pl = some (m, l)) : prtG c id a = (if m.isEmpty = true then [] else [⟨joinI a.ids [id], topP m, m⟩]) ++ (if l.isEmpty = true then [] else [⟨a.ids, topP l, l⟩]) := by unfold prtG; rw [h]
theorem sps_snoc : ∀ {cs : List Cb} {i : Nat} {c : Cb} {al : List AtC}, spsC i (cs ++ [c]) al = match spsC i cs al with
    | some bs => splC c ((i + cs.length : Nat) : Int) bs
    | none => none
  | [], i, c, al => by
    rw [List.nil_append, spsC, spsC]
    show _ = splC c ((i + 0 : Nat) : Int) al
    rw [Nat.add_zero]
    cases splC c (i : Int) al <;> rfl
  | d :: cs, i, c, al => by
    rw [List.cons_append, spsC, spsC]
    cases splC d (i : Int) al with
    | none => rfl
    | some bs =>
      show spsC (i + 1) (cs ++ [c]) bs = _
      rw [sps_snoc, List.length_cons, show i + 1 + cs.length = i + (cs.length + 1) by omega]
theorem sps_at {cs : List Cb} {k : Nat} {c : Cb} {dl : List AtC} (hk : cs[k]? = some c) (h : spsC 0 (cs.take k) atm0 = some dl) : spsC 0 (cs.take (k + 1)) atm0 = splC c (k : Int) dl := by
  have hl := (List.getElem?_eq_some_iff.1 hk).1
  rw [List.take_add_one, hk]
  show spsC 0 (cs.take k ++ [c]) atm0 = _
  rw [sps_snoc, h, List.length_take, Nat.min_eq_left (by omega), Nat.zero_add]
theorem sps_none {cs : List Cb} {k : Nat} (hk : k ≤ cs.length) (h : spsC 0 (cs.take k) atm0 = none) : spsC 0 cs atm0 = none := by
  rw [sps_take (k := k) hk, h]
theorem sps_len8 {cs : List Cb} {bs : List AtC} (hl : cs.length ≤ 8) (h : spsC 0 cs atm0 = some bs) : bs.length ≤ 2 ^ cs.length ∧ bs.length ≤ 256 := by
  have h1 := sps_len h
  have h2 : atm0.length = 1 := rfl
  rw [h2, Nat.mul_one] at h1
  have h3 : 2 ^ cs.length ≤ 2 ^ 8 := Nat.pow_le_pow_right (by omega) hl
  exact ⟨h1, by omega⟩
theorem good_sndA {al : List AtC} (h : ∀ a ∈ al, GoodA a) : sndA al = true := by
  unfold sndA
  rw [List.all_eq_true]
  intro a ha
  have g := h a ha
  unfold sndL
  rw [Bool.and_eq_true, decide_eq_true_eq, List.all_eq_true]
  exact ⟨g.len, g.snd⟩
theorem inc_len {I : List Int} {n : Nat} (hi : Inc I) (h0 : ∀ x ∈ I, 0 ≤ x) (hn : ∀ x ∈ I, x < (n : Int)) : I.length ≤ n := by
  have h1 := len_sub (l := I) (m := (List.range n).map Int.ofNat) hi.nodup (fun x hx => by
    rw [List.mem_map]
    refine ⟨x.toNat, List.mem_range.2 (by have := h0 x hx; have := hn x hx; omega), ?_⟩
    show ((x.toNat : Nat) : Int) = x
    have := h0 x hx
    omega)
  simpa using h1
theorem at_one {w : World} {g : Nat} {x : AtX} (h : Blk w g 42 x.cs.toArray) (h1 : Nm w x.iv x.a.ids) (h2 : Pl w x.pv x.a.pl) : At w (.slice (some ⟨g, 0, none⟩) 1 1) [x.a] := by
  refine ⟨_, 1, rfl, Nat.le_refl _, by simp [maxLen], fun _ => ⟨g, 0, rfl, h.lt, fun k a hk => ?_⟩⟩
  match k, hk with
  | 0, hk =>
    simp only [List.getElem?_cons_zero, Option.some.injEq] at hk
    subst hk
    exact ⟨x.iv, x.pv, h.cell 0, h.cell 1, h.cell 2, h.cell 3, h1, h2⟩
  | k + 1, hk => simp at hk
/-- The numbers of the atoms of some cubes are few. -/
theorem sps_ids {cs : List Cb} {bs : List AtC} (hs : ∀ c ∈ cs, c.snd = true) (h : spsC 0 cs atm0 = some bs) : ∀ a ∈ bs, a.ids.length ≤ cs.length := by
  intro a ha
  obtain ⟨h1, h2⟩ := sps_right hs h
  have e := ids_of h2 ha (h1.good a ha).head
  rw [e]
  have : ∀ (i : Nat) (L : List Cb), (inF a.hd i L).length ≤ L.length := by
    intro i L
    induction L generalizing i with
    | nil => simp [inF]
    | cons c L ih =>
      rw [inF, List.length_append, List.length_cons]
      have := ih (i + 1)
      split <;> simp <;> omega
  exact this 0 cs
end Go.Proofs.Hd
namespace Go.Proofs
open Go.RowKit Go.Proofs.Hd Go.Lib Go.Shelf
attribute [local go_sem] uv_nonneg
theorem infoAtom : (Tryz.prog.info? 42).map (fun i => (i.zero, i.size, i.bytes)) = some (some (.agg #[.slice none 0 0, .int .u64 0, .int .u64 0, .slice none 0 0]), 4, 64) := by kernel_rfl
set_option maxHeartbeats 8000000 in
set_option maxRecDepth 100000 in
theorem split_c (v : Value) (al : List AtC) (id : Int) (c : Cb) (w : World) (hl : al.length ≤ 300) (hs : sndA al = true) (hi : ∀ a ∈ al, a.ids.length ≤ 8796093022208) (hc : c.snd = true) (hv : At w v al) :
    Calls Tryz.prog 31 #[v, .int .i64 id, .agg #[.int .u64 (uv c.vh), .int .u64 (uv c.vl), .int .u64 (uv c.ch), .int .u64 (uv c.cl)]] w (OptA w (splG c id al)) := by
  obtain ⟨ic, hic, hcz0, hcz1, hcz2⟩ := info_parts infoAtom
  obtain ⟨A, cap, rfl, hlen, hA⟩ := hv.form
  have hlz : (al.length : Int) ≤ 300 := by omega
  have HA := Lib.hid hA
  have HI := Lib.hid hi
  have HS := Lib.hid hs
  have HCS := Lib.hid hc
  have HL0 := Lib.hid hl
  have b0 := below1 w (.cells #[.int .u64 (uv c.vh), .int .u64 (uv c.vl), .int .u64 (uv c.ch), .int .u64 (uv c.cl)] 53)
  have x0 : Blk (w.alloc (.cells #[.int .u64 (uv c.vh), .int .u64 (uv c.vl), .int .u64 (uv c.ch), .int .u64 (uv c.cl)] 53)) w.heap.size 53 c.arr := Blk.new w _ _
  have BB0 := Lib.hid b0
  have XX0 := Lib.hid x0
  clear hA hi hs hc hv hlen b0 x0 hl
  go_enter Tryz.func31, Tryz.ntmps31
  go_wp2
  go_loopg [8, 11, 12, 13, 16] al.length (fun gk s8 _ _ _ s16 wr => ∃ (k : Nat) (E : List AtX), k ≤ al.length ∧ gk = al.length - k ∧ s16 = .int .i64 k ∧ Hid (Below w.heap.size w wr) ∧ Hid (Blk wr w.heap.size 53 c.arr) ∧ Hid (OwX w.heap.size wr s8 E) ∧ Hid (E.map AtX.a = (al.take k).flatMap (prtG c id)) ∧ Hid (∀ (j : Nat) (d : AtC), j < k → al[j]? = some d → okA c d = true))
  case atStart => exact ⟨0, [], Nat.zero_le _, rfl, rfl, BB0, XX0, OwX.nil _ _, rfl, fun j d hj => absurd hj (Nat.not_lt_zero _)⟩
  case round =>
    clear BB0 XX0
    obtain ⟨k, E, hk, rfl, rfl, B0, X0, O0, HE, HOK⟩ := hrel
    by_cases hlt : k < al.length
    · have hltz : (k : Int) < (al.length : Int) := by omega
      obtain ⟨a, ha⟩ : ∃ a, al[k]? = some a := ⟨_, List.getElem?_eq_getElem hlt⟩
      obtain ⟨b, off, rfl, hb, hcc⟩ := HA.out (ne_nil_of ha)
      obtain ⟨I1, I2, I3, P1, P2, P3, ⟨c0, c1, c2, c3⟩, hN, hP, rfl, rfl⟩ := (hcc k a ha).cells
      replace c0 := on_some B0.out c0
      replace c1 := on_some B0.out c1
      replace c2 := on_some B0.out c2
      replace c3 := on_some B0.out c3
      have b1 := below1 wr (.cells #[.slice I1 a.ids.length I3, .int .u64 (uv a.hd.1), .int .u64 (uv a.hd.2), .slice P1 a.pl.length P3] 42)
      have n1 : Blk (wr.alloc (.cells #[.slice I1 a.ids.length I3, .int .u64 (uv a.hd.1), .int .u64 (uv a.hd.2), .slice P1 a.pl.length P3] 42)) wr.heap.size 42 #[.slice I1 a.ids.length I3, .int .u64 (uv a.hd.1), .int .u64 (uv a.hd.2), .slice P1 a.pl.length P3] := Blk.new wr _ _
      have N1 := Lib.hid n1
      have B1 := Lib.hid (B0.out.trans (b1.mono B0.out.size))
      have X1 := Lib.hid (X0.out.on b1)
      have O1 := Lib.hid (O0.out.on b1)
      have hap : Hid (some wr.heap.size ≠ u8.ownBlock) := fun he => by have := (O0.out.1.lt _ he.symm).2; omega
      have HLEN : Hid (E.length ≤ 600) := by
        have e := congrArg List.length HE.out
        rw [List.length_map] at e
        have := flat_len2 c id (al.take k)
        have h2 : (al.take k).length ≤ 300 := by rw [List.length_take]; have := HL0.out; omega
        show _ ≤ _
        omega
      have HSA := Lib.hid (sndA_at HS.out (List.mem_of_getElem? ha))
      have HIA := Lib.hid (HI.out a (List.mem_of_getElem? ha))
      have HNI := Lib.hid hN
      have HPI := Lib.hid hP
      have HAK := Lib.hid ha
      have hgl := n1.lt
      obtain ⟨x0, x1, x2, x3⟩ : At4 _ w.heap.size 0 c := ⟨X1.out.cell 0, X1.out.cell 1, X1.out.cell 2, X1.out.cell 3⟩
      have hparts := parts_c (.slice P1 a.pl.length P3) a.pl c _ HSA.out HCS.out (HPI.out.on B1.out)
      clear ha hcc hN hP b1 n1 B0 X0 O0
      go_wp2_with fail
      (with_reducible refine hparts.mono ?_)
      rintro e w2 hq
      cases hpq : partP c a.pl with
      | none =>
        obtain ⟨vm, rfl, hb2⟩ := hq.2 hpq
        have HN := Lib.hid (splG_none (id := id) HAK.out hpq)
        have B2 := Lib.hid (B1.out.trans (hb2.mono B1.out.size))
        clear hparts hq hpq hb2 c0 c1 c2 c3 x0 x1 x2 x3 B1 X1 N1 O1
        go_wp2
        go_ret2
        exact OptA.no HN.out rfl B2.out
      | some ml =>
        obtain ⟨m, l⟩ := ml
        obtain ⟨vm, vl, rfl, hM, hL, hb2⟩ := hq.1 m l hpq
        have B2 := Lib.hid (B1.out.trans (hb2.mono B1.out.size))
        have X2 := Lib.hid (X1.out.on hb2)
        have N2 := Lib.hid (N1.out.on hb2)
        have O2 := Lib.hid (O1.out.on hb2)
        have M2 : Hid (PlB w.heap.size w2 vm m) := by
          rcases hM with ⟨rfl, rfl⟩ | h
          · exact HPI.out.old B2.out (Nat.le_refl _)
          · exact own_plb h
        have L2 : Hid (PlB w.heap.size w2 vl l) := by
          rcases hL with ⟨rfl, rfl⟩ | h
          · exact HPI.out.old B2.out (Nat.le_refl _)
          · exact own_plb h
        have HPS := Lib.hid (part_snd (sndL_all HSA.out) (sndL_len HSA.out) hpq)
        have HPG := Lib.hid (prtG_of (id := id) hpq)
        have HOKA := Lib.hid (ok_of hpq)
        obtain ⟨Ma, Mc, rfl, -, -⟩ := M2.out.1.form
        obtain ⟨La, Lc, rfl, -, -⟩ := L2.out.1.form
        have HOK2 : Hid (∀ (j : Nat) (d : AtC), j < k + 1 → al[j]? = some d → okA c d = true) := fun j d hj hd => by
          by_cases e : j = k
          · subst e
            rw [HAK.out] at hd
            injection hd with hd
            subst hd
            exact HOKA.out
          · exact HOK.out j d (by omega) hd
        have HT := Lib.hid (flat_take (c := c) (id := id) HAK.out)
        clear hparts hq hpq hb2 hM hL c0 c1 c2 c3 x0 x1 x2 x3 B1 X1 N1 O1 HOK HOKA hgl
        by_cases hm : m = []
        · subst hm
          by_cases hl : l = []
          · subst hl
            clear M2 L2
            go_wp2
            go_roundg (al.length - (k + 1))
            case measure => omega
            case rel =>
              refine ⟨k + 1, E, by omega, rfl, by go_num, B2, X2, O2, ?_, HOK2⟩
              show List.map _ _ = _
              rw [HT.out, HPG.out, ← HE.out]
              simp 
          · have hlz2 : (0 : Int) < (l.length : Int) := by have := List.length_pos_iff.2 hl; omega
            have HLE : Hid (l.isEmpty = false) := by show _ = _; simpa using hl
            clear M2
            obtain ⟨y0, y1, y2, y3⟩ := N2.out.four
            have J2 : NmB w.heap.size w2 (.slice I1 a.ids.length I3) a.ids := HNI.out.old B2.out (Nat.le_refl _)
            have hat := atomOf_c I1 a.ids.length I3 (.slice La l.length Lc) l w2 hl HPS.out.2.1 (by have := HPS.out.2.2.2; omega) L2.out.1
            go_wp2_with fail
            (with_reducible refine hat.mono ?_)
            rintro e w3 ⟨rfl, hb⟩
            have J3 := J2.kp (Kp.of_below hb)
            clear J2
            have B3 := Lib.hid (B2.out.trans (hb.mono B2.out.size))
            have X3 := Lib.hid (X2.out.on hb)
            have N3 := Lib.hid (N2.out.on hb)
            have O3 := Lib.hid (O2.out.on hb)
            have L3 := Lib.hid (L2.out.kp (Kp.of_below hb))
            clear B2 X2 N2 O2 L2
            clear hat hb y0 y1 y2 y3
            have b3 := below1 w3 (.cells #[(.slice I1 a.ids.length I3), .int .u64 (uv (topP l).1), .int .u64 (uv (topP l).2), (.slice La l.length Lc)] 42)
            have Y3 : Blk (w3.alloc (.cells #[(.slice I1 a.ids.length I3), .int .u64 (uv (topP l).1), .int .u64 (uv (topP l).2), (.slice La l.length Lc)] 42)) w3.heap.size 42 (⟨(.slice I1 a.ids.length I3), ⟨a.ids, topP l, l⟩, (.slice La l.length Lc)⟩ : AtX).cs.toArray := Blk.new w3 _ _
            have J4 := J3.kp (Kp.of_below b3)
            have B4 := Lib.hid (B3.out.trans (b3.mono B3.out.size))
            have X4 := Lib.hid (X3.out.on b3)
            have N4 := Lib.hid (N3.out.on b3)
            have O4 := Lib.hid (O3.out.on b3)
            have L4 := Lib.hid (L3.out.kp (Kp.of_below b3))
            have S3 := src_atom Y3 rfl rfl
            have hz3 := B4.out.size
            have hlen3 := HLEN.out
            clear B3 X3 N3 O3 L3 J3 b3 Y3
            go_wp2_with (at_builtin; refine wpList_app2 _ rfl (.tmp 47) (.tmp 52) 30 rfl w.heap.size 42 ic _ 4 64 Tryz.underlying30 hic hcz0 hcz1 hcz2 rfl (by decide) _ _ _ rfl O4.out.1 _ 1 (⟨(.slice I1 a.ids.length I3), ⟨a.ids, topP l, l⟩, (.slice La l.length Lc)⟩ : AtX).cs rfl S3 (by unfold maxLen; omega) (by omega) hz3 ?_)
            intro v5 w5 OO hg5
            have B5 := Lib.hid (B4.out.grown hg5.1 hz3 (fun j hj => (O4.out.1.lt j hj).1))
            have X5 := Lib.hid (X4.out.grown hg5.1 (own_apart O4.out.1 X4.out (by decide)))
            have hap5 := Lib.hid (box_off hg5 hap.out N4.out.lt)
            have N5 := Lib.hid (N4.out.grown hg5.1 hap.out)
            have O5 := Lib.hid (O4.out.app J4 L4.out OO hg5.1)
            clear hap B4 X4 N4 O4 L4 J4 S3 hz3 hlen3 OO hg5
            have hap := hap5
            clear hap5
            clear hl
            go_wp2
            go_roundg (al.length - (k + 1))
            case measure => omega
            case rel =>
              refine ⟨k + 1, (E ++ [(⟨(.slice I1 a.ids.length I3), ⟨a.ids, topP l, l⟩, (.slice La l.length Lc)⟩ : AtX)]), by omega, rfl, by go_num, B5, X5, O5, ?_, HOK2⟩
              show List.map _ _ = _
              rw [HT.out, HPG.out, ← HE.out]
              simp [HLE.out]
        · have hmz2 : (0 : Int) < (m.length : Int) := by have := List.length_pos_iff.2 hm; omega
          have HME : Hid (m.isEmpty = false) := by show _ = _; simpa using hm
          obtain ⟨y0, y1, y2, y3⟩ := N2.out.four
          have b2 := below1 w2 (.cells #[.int .i64 id] 3)
          have Z2 : Blk (w2.alloc (.cells #[.int .i64 id] 3)) w2.heap.size 3 #[.int .i64 id] := Blk.new w2 _ _
          have B3 := Lib.hid (B2.out.trans (b2.mono B2.out.size))
          have X3 := Lib.hid (X2.out.on b2)
          have N3 := Lib.hid (N2.out.on b2)
          have O3 := Lib.hid (O2.out.on b2)
          have M3 := Lib.hid (M2.out.kp (Kp.of_below b2))
          have L3 := Lib.hid (L2.out.kp (Kp.of_below b2))
          clear B2 X2 N2 O2 M2 L2
          have hj := idjoino_c (.slice I1 a.ids.length I3) (.slice (some ⟨w2.heap.size, 0, none⟩) 1 1) a.ids [id] _ (by have := HIA.out; omega) (by simp) (HNI.out.on B3.out) (Nm.one1 Z2)
          clear b2 Z2
          go_wp2_with fail
          (with_reducible refine hj.mono ?_)
          rintro e w4 ⟨vj, rfl, OJ, hb⟩
          have B4 := Lib.hid (B3.out.trans (hb.mono B3.out.size))
          have X4 := Lib.hid (X3.out.on hb)
          have N4 := Lib.hid (N3.out.on hb)
          have O4 := Lib.hid (O3.out.on hb)
          have M4 := Lib.hid (M3.out.kp (Kp.of_below hb))
          have L4 := Lib.hid (L3.out.kp (Kp.of_below hb))
          clear B3 X3 N3 O3 M3 L3
          have J4 : NmB w.heap.size w4 vj (joinI a.ids [id]) := own_nmb OJ
          have JJ := J4.1
          obtain ⟨Ja, Jc, rfl, -⟩ := JJ
          have hat := atomOf_c Ja (joinI a.ids [id]).length Jc (.slice Ma m.length Mc) m w4 hm HPS.out.1 (by have := HPS.out.2.2.1; omega) M4.out.1
          clear hj hb OJ y0 y1 y2 y3
          go_wp2_with fail
          (with_reducible refine hat.mono ?_)
          rintro e w5 ⟨rfl, hb⟩
          have J5 := J4.kp (Kp.of_below hb)
          clear J4
          have B5 := Lib.hid (B4.out.trans (hb.mono B4.out.size))
          have X5 := Lib.hid (X4.out.on hb)
          have N5 := Lib.hid (N4.out.on hb)
          have O5 := Lib.hid (O4.out.on hb)
          have M5 := Lib.hid (M4.out.kp (Kp.of_below hb))
          have L5 := Lib.hid (L4.out.kp (Kp.of_below hb))
          clear B4 X4 N4 O4 M4 L4
          clear hat hb
          have b5 := below1 w5 (.cells #[(.slice Ja (joinI a.ids [id]).length Jc), .int .u64 (uv (topP m).1), .int .u64 (uv (topP m).2), (.slice Ma m.length Mc)] 42)
          have Y5 : Blk (w5.alloc (.cells #[(.slice Ja (joinI a.ids [id]).length Jc), .int .u64 (uv (topP m).1), .int .u64 (uv (topP m).2), (.slice Ma m.length Mc)] 42)) w5.heap.size 42 (⟨(.slice Ja (joinI a.ids [id]).length Jc), ⟨joinI a.ids [id], topP m, m⟩, (.slice Ma m.length Mc)⟩ : AtX).cs.toArray := Blk.new w5 _ _
          have J6 := J5.kp (Kp.of_below b5)
          have B6 := Lib.hid (B5.out.trans (b5.mono B5.out.size))
          have X6 := Lib.hid (X5.out.on b5)
          have N6 := Lib.hid (N5.out.on b5)
          have O6 := Lib.hid (O5.out.on b5)
          have M6 := Lib.hid (M5.out.kp (Kp.of_below b5))
          have L6 := Lib.hid (L5.out.kp (Kp.of_below b5))
          have S5 := src_atom Y5 rfl rfl
          have hz5 := B6.out.size
          have hlen5 := HLEN.out
          clear B5 X5 N5 O5 M5 J5 b5 Y5 L5
          go_wp2_with (at_builtin; refine wpList_app2 _ rfl (.tmp 34) (.tmp 42) 30 rfl w.heap.size 42 ic _ 4 64 Tryz.underlying30 hic hcz0 hcz1 hcz2 rfl (by decide) _ _ _ rfl O6.out.1 _ 1 (⟨(.slice Ja (joinI a.ids [id]).length Jc), ⟨joinI a.ids [id], topP m, m⟩, (.slice Ma m.length Mc)⟩ : AtX).cs rfl S5 (by unfold maxLen; omega) (by omega) hz5 ?_)
          intro v7 w7 OO hg7
          have B7 := Lib.hid (B6.out.grown hg7.1 hz5 (fun j hj => (O6.out.1.lt j hj).1))
          have X7 := Lib.hid (X6.out.grown hg7.1 (own_apart O6.out.1 X6.out (by decide)))
          have hap7 := Lib.hid (box_off hg7 hap.out N6.out.lt)
          have N7 := Lib.hid (N6.out.grown hg7.1 hap.out)
          have O7 := Lib.hid (O6.out.app J6 M6.out OO hg7.1)
          have L7 := Lib.hid (L6.out.kp (Kp.grown O6.out.1 hg7.1))
          clear hap B6 X6 N6 O6 M6 J6 S5 hz5 hlen5 OO hg7 L6
          have hap := hap7
          clear hap7
          have HLEN2 : Hid ((E ++ [(⟨(.slice Ja (joinI a.ids [id]).length Jc), ⟨joinI a.ids [id], topP m, m⟩, (.slice Ma m.length Mc)⟩ : AtX)]).length ≤ 601) := by
            show _ ≤ _
            have := HLEN.out
            rw [List.length_append, List.length_cons, List.length_nil]
            omega
          clear hm
          by_cases hl : l = []
          · subst hl
            clear L7
            go_wp2
            go_roundg (al.length - (k + 1))
            case measure => omega
            case rel =>
              refine ⟨k + 1, (E ++ [(⟨(.slice Ja (joinI a.ids [id]).length Jc), ⟨joinI a.ids [id], topP m, m⟩, (.slice Ma m.length Mc)⟩ : AtX)]), by omega, rfl, by go_num, B7, X7, O7, ?_, HOK2⟩
              show List.map _ _ = _
              rw [HT.out, HPG.out, ← HE.out]
              simp [HME.out]
          · have hlz2 : (0 : Int) < (l.length : Int) := by have := List.length_pos_iff.2 hl; omega
            have HLE : Hid (l.isEmpty = false) := by show _ = _; simpa using hl
            clear HLEN
            have HLEN := HLEN2
            obtain ⟨y0, y1, y2, y3⟩ := N7.out.four
            have J7 : NmB w.heap.size w7 (.slice I1 a.ids.length I3) a.ids := HNI.out.old B7.out (Nat.le_refl _)
            have hat := atomOf_c I1 a.ids.length I3 (.slice La l.length Lc) l w7 hl HPS.out.2.1 (by have := HPS.out.2.2.2; omega) L7.out.1
            go_wp2_with fail
            (with_reducible refine hat.mono ?_)
            rintro e w8 ⟨rfl, hb⟩
            have J8 := J7.kp (Kp.of_below hb)
            clear J7
            have B8 := Lib.hid (B7.out.trans (hb.mono B7.out.size))
            have X8 := Lib.hid (X7.out.on hb)
            have N8 := Lib.hid (N7.out.on hb)
            have O8 := Lib.hid (O7.out.on hb)
            have L8 := Lib.hid (L7.out.kp (Kp.of_below hb))
            clear B7 X7 N7 O7 L7
            clear hat hb y0 y1 y2 y3
            have b8 := below1 w8 (.cells #[(.slice I1 a.ids.length I3), .int .u64 (uv (topP l).1), .int .u64 (uv (topP l).2), (.slice La l.length Lc)] 42)
            have Y8 : Blk (w8.alloc (.cells #[(.slice I1 a.ids.length I3), .int .u64 (uv (topP l).1), .int .u64 (uv (topP l).2), (.slice La l.length Lc)] 42)) w8.heap.size 42 (⟨(.slice I1 a.ids.length I3), ⟨a.ids, topP l, l⟩, (.slice La l.length Lc)⟩ : AtX).cs.toArray := Blk.new w8 _ _
            have J9 := J8.kp (Kp.of_below b8)
            have B9 := Lib.hid (B8.out.trans (b8.mono B8.out.size))
            have X9 := Lib.hid (X8.out.on b8)
            have N9 := Lib.hid (N8.out.on b8)
            have O9 := Lib.hid (O8.out.on b8)
            have L9 := Lib.hid (L8.out.kp (Kp.of_below b8))
            have S8 := src_atom Y8 rfl rfl
            have hz8 := B9.out.size
            have hlen8 := HLEN.out
            clear B8 X8 N8 O8 L8 J8 b8 Y8
            go_wp2_with (at_builtin; refine wpList_app2 _ rfl (.tmp 47) (.tmp 52) 30 rfl w.heap.size 42 ic _ 4 64 Tryz.underlying30 hic hcz0 hcz1 hcz2 rfl (by decide) _ _ _ rfl O9.out.1 _ 1 (⟨(.slice I1 a.ids.length I3), ⟨a.ids, topP l, l⟩, (.slice La l.length Lc)⟩ : AtX).cs rfl S8 (by unfold maxLen; omega) (by omega) hz8 ?_)
            intro v10 w10 OO hg10
            have B10 := Lib.hid (B9.out.grown hg10.1 hz8 (fun j hj => (O9.out.1.lt j hj).1))
            have X10 := Lib.hid (X9.out.grown hg10.1 (own_apart O9.out.1 X9.out (by decide)))
            have hap10 := Lib.hid (box_off hg10 hap.out N9.out.lt)
            have N10 := Lib.hid (N9.out.grown hg10.1 hap.out)
            have O10 := Lib.hid (O9.out.app J9 L9.out (by rw [List.length_append]; exact OO) hg10.1)
            clear hap B9 X9 N9 O9 L9 J9 S8 hz8 hlen8 OO hg10
            have hap := hap10
            clear hap10
            clear hl
            go_wp2
            go_roundg (al.length - (k + 1))
            case measure => omega
            case rel =>
              refine ⟨k + 1, ((E ++ [(⟨(.slice Ja (joinI a.ids [id]).length Jc), ⟨joinI a.ids [id], topP m, m⟩, (.slice Ma m.length Mc)⟩ : AtX)]) ++ [(⟨(.slice I1 a.ids.length I3), ⟨a.ids, topP l, l⟩, (.slice La l.length Lc)⟩ : AtX)]), by omega, rfl, by go_num, B10, X10, O10, ?_, HOK2⟩
              show List.map _ _ = _
              rw [HT.out, HPG.out, ← HE.out]
              simp [HLE.out, HME.out]
    · have hltz : ¬ (k : Int) < (al.length : Int) := by omega
      obtain rfl : k = al.length := by omega
      obtain ⟨A8, c8, rfl⟩ := O0.out.sl
      have HSG := Lib.hid (splG_some (c := c) (id := id) fun k a h => HOK.out k a (List.getElem?_eq_some_iff.1 h).1 h)
      have hle : ¬ (600 : Int) < (E.length : Int) := by
        have e := congrArg List.length HE.out
        rw [List.length_map, List.take_length] at e
        have := flat_len2 c id al
        have := HL0.out
        omega
      have HE2 : Hid (E.map AtX.a = al.flatMap (prtG c id)) := by show _ = _; have := HE.out; rwa [List.take_length] at this
      clear HE HOK
      go_wp2
      go_ret2
      exact OptA.yes HSG.out rfl ⟨E, HE2.out, O0.out⟩ B0.out
set_option maxRecDepth 100000 in
theorem asplit1_c (c : Cb) (w : World) : Calls Tryz.prog 26 #[.agg #[.int .u64 (uv c.vh), .int .u64 (uv c.vl), .int .u64 (uv c.ch), .int .u64 (uv c.cl)]] w fun e w' => e = .returned (.bool (!c.snd)) ∧ Below w.heap.size w w' := by
  have B0 := below1 w (.cells #[.int .u64 (uv c.vh), .int .u64 (uv c.vl), .int .u64 (uv c.ch), .int .u64 (uv c.cl)] 53)
  go_enter Tryz.func26, Tryz.ntmps26
  go_wp2_with fail
  (with_reducible refine (csound _ c _ rfl).mono ?_)
  rintro e w1 ⟨rfl, hb⟩
  have L := B0.trans (hb.mono B0.size)
  clear B0 hb
  go_wp2
  go_ret
  exact ⟨rfl, L⟩
theorem asplit_bad (v : Value) (cs : List Cb) (w : World) (hl : cs.length ≤ 500) (hs : cs.all Cb.snd = false) (hv : Pl w v cs) : Calls Tryz.prog 11 #[v] w (Err2 w 2) := by
  have eg : ∀ args w, (callFunc 26 args).run Tryz.prog w = .ok (.enter 26 args) w := enters_of Tryz.func26 (by kernel_rfl) rfl
  have hcon := cont_cubes 26 #[] (fun c => !c.snd) eg v cs w true (by rw [any_not, hs]; rfl) (fun W c _ hb => (asplit1_c c W).mono fun e w' h => ⟨h.1, hb.trans (h.2.mono hb.size)⟩) hv
  obtain ⟨A, cap, rfl, _, _⟩ := hv.form
  have hz : (cs.length : Int) ≤ 500 := by omega
  clear hv hs hl
  go_enter Tryz.func11, Tryz.ntmps11
  go_wp2_with fail
  (with_reducible refine hcon.mono ?_)
  rintro e w1 ⟨rfl, hb⟩
  clear hcon
  go_wp2
  go_ret2
  exact ⟨rfl, hb⟩
set_option maxHeartbeats 4000000 in
set_option maxRecDepth 100000 in
theorem asplit_c (v : Value) (cs : List Cb) (w : World) (hl : cs.length ≤ 8) (hs : ∀ c ∈ cs, c.snd = true) (hv : Pl w v cs) : Calls Tryz.prog 11 #[v] w (OptT w (spsC 0 cs atm0)) := by
  have eg : ∀ args w, (callFunc 26 args).run Tryz.prog w = .ok (.enter 26 args) w := enters_of Tryz.func26 (by kernel_rfl) rfl
  have hcon := cont_cubes 26 #[] (fun c => !c.snd) eg v cs w false (by rw [any_not, show cs.all Cb.snd = true from List.all_eq_true.2 hs]; rfl) (fun W c _ hb => (asplit1_c c W).mono fun e w' h => ⟨h.1, hb.trans (h.2.mono hb.size)⟩) hv
  obtain ⟨A, cap, rfl, _, hA⟩ := hv.form
  have hz : (cs.length : Int) ≤ 8 := by omega
  have HA := Lib.hid hA
  have HS := Lib.hid hs
  have HLN := Lib.hid hl
  clear hv hs hl hA
  go_enter Tryz.func11, Tryz.ntmps11
  go_wp2_with fail
  (with_reducible refine hcon.mono ?_)
  rintro e w1 ⟨rfl, hb⟩
  have B1 := Lib.hid hb
  clear hcon hb
  go_wp2_with fail
  (with_reducible refine (all_c _).mono ?_)
  rintro e w2 ⟨rfl, hb⟩
  have B2 := Lib.hid (B1.out.trans (hb.mono B1.out.size))
  have b3 := below1 w2 (.cells #[.int .u64 0, .int .u64 0, .int .u64 0, .int .u64 0] 53)
  have N3 : Blk (w2.alloc (.cells #[.int .u64 0, .int .u64 0, .int .u64 0, .int .u64 0] 53)) w2.heap.size 53 cAll.arr := Blk.new w2 _ _
  have P3 := pl_one (cap := 1) N3
  have B3 := Lib.hid (B2.out.trans (b3.mono B2.out.size))
  have hat := atomOf_c none 0 0 (.slice (some ⟨w2.heap.size, 0, none⟩) 1 1) [cAll] _ (by simp) (fun c hc => by rw [List.mem_singleton] at hc; subst hc; decide) (by simp) P3
  clear hb b3 N3 B2 B1
  go_wp2_with fail
  (with_reducible refine hat.mono ?_)
  rintro e w4 ⟨rfl, hb⟩
  have B4 := Lib.hid (B3.out.trans (hb.mono B3.out.size))
  have P4 := P3.on hb
  have b5 := below1 w4 (.cells #[.slice none 0 0, .int .u64 (uv (topP [cAll]).1), .int .u64 (uv (topP [cAll]).2), .slice (some ⟨w2.heap.size, 0, none⟩) 1 1] 42)
  have N5 : Blk (w4.alloc (.cells #[.slice none 0 0, .int .u64 (uv (topP [cAll]).1), .int .u64 (uv (topP [cAll]).2), .slice (some ⟨w2.heap.size, 0, none⟩) 1 1] 42)) w4.heap.size 42 (⟨.slice none 0 0, ⟨[], (0, 0), [cAll]⟩, .slice (some ⟨w2.heap.size, 0, none⟩) 1 1⟩ : AtX).cs.toArray := Blk.new w4 _ _
  have B5 := Lib.hid (B4.out.trans (b5.mono B4.out.size))
  have A5 := Lib.hid (at_one N5 (Nm.nil _) (P4.on b5))
  clear hat hb P3 P4 B3 B4 b5 N5
  go_upto_region 7 with (fail)
  generalize (w4.alloc (.cells #[.slice none 0 0, .int .u64 (uv (topP [cAll]).1), .int .u64 (uv (topP [cAll]).2), .slice (some ⟨w2.heap.size, 0, none⟩) 1 1] 42)) = w6 at B5 A5 ⊢
  generalize w4.heap.size = g4 at A5 ⊢
  go_wp2
  go_loopg [5, 6, 8, 21] cs.length (fun gk s5 _ _ s21 wr => ∃ (k : Nat) (dl : List AtC), k ≤ cs.length ∧ gk = cs.length - k ∧ s21 = .int .i64 k ∧ Hid (Below w.heap.size w wr) ∧ Hid (At wr s5 dl) ∧ Hid (spsC 0 (cs.take k) atm0 = some dl))
  case atStart => exact ⟨0, atm0, Nat.zero_le _, rfl, rfl, B5, A5, rfl⟩
  case round =>
    clear B5 A5
    obtain ⟨k, dl, hk, rfl, rfl, B0, A0, HD⟩ := hrel
    by_cases hlt : k < cs.length
    · have hltz : (k : Int) < (cs.length : Int) := by omega
      obtain ⟨c, hc⟩ : ∃ c, cs[k]? = some c := ⟨_, List.getElem?_eq_getElem hlt⟩
      obtain ⟨b, off, rfl, hb, hpc⟩ := HA.out (ne_nil_of hc)
      obtain ⟨c0, c1, c2, c3⟩ := (hpc k c hc).on B0.out
      have b1 := below1 wr (.cells #[.int .u64 (uv c.vh), .int .u64 (uv c.vl), .int .u64 (uv c.ch), .int .u64 (uv c.cl)] 53)
      have B1 := Lib.hid (B0.out.trans (b1.mono B0.out.size))
      have A1 := A0.out.on b1
      have hcs := HS.out c (List.mem_of_getElem? hc)
      have hsub : ∀ d ∈ cs.take k, d.snd = true := fun d hd => HS.out d (List.mem_of_mem_take hd)
      obtain ⟨HV, -⟩ := sps_right hsub HD.out
      have hinc := sps_inc atm0_inv (by intro a ha; simp [atm0] at ha; subst ha; exact List.Pairwise.nil) hsub HD.out
      rw [List.length_take, Nat.min_eq_left (by omega)] at HV
      have hlen := (sps_len8 (by rw [List.length_take]; have := HLN.out; omega) HD.out).2
      have hids := sps_ids hsub HD.out
      have hsp := split_c _ dl (k : Int) c _ (by omega) (good_sndA HV.good) (fun a ha => by have h1 := hids a ha; rw [List.length_take] at h1; have := HLN.out; omega) hcs A1
      rw [splG_good hcs HV.good hinc (fun a ha n hn => HV.below a ha n hn), ← sps_at hc HD.out] at hsp
      have HC := Lib.hid hc
      clear hc hpc b1 A1 B0 A0 hcs hsub HV hinc hlen hids
      go_wp2_with fail
      (with_reducible refine hsp.mono ?_)
      rintro e w2 hq
      cases hpq : spsC 0 (cs.take (k + 1)) atm0 with
      | none =>
        obtain ⟨rfl, hb2⟩ := hq.2 hpq
        have HN := Lib.hid (sps_none (by omega) hpq)
        have B2 := Lib.hid (B1.out.trans (hb2.mono B1.out.size))
        clear hsp hq hpq hb2 c0 c1 c2 c3 B1
        go_wp2
        go_ret2
        exact OptT.no HN.out rfl B2.out
      | some bs =>
        obtain ⟨v2, rfl, hO, hb2⟩ := hq.1 bs hpq
        have B2 := Lib.hid (B1.out.trans (hb2.mono B1.out.size))
        have A2 := Lib.hid hO.at
        have HD2 := Lib.hid hpq
        clear hsp hq hpq hb2 hO c0 c1 c2 c3 B1 HD
        go_wp2
        go_roundg (cs.length - (k + 1))
        case measure => omega
        case rel => exact ⟨k + 1, bs, by omega, rfl, by go_num, B2, A2, HD2⟩
    · have hltz : ¬ (k : Int) < (cs.length : Int) := by omega
      obtain rfl : k = cs.length := by omega
      have HD2 : Hid (spsC 0 cs atm0 = some dl) := by show _ = _; have := HD.out; rwa [List.take_length] at this
      clear HD
      go_wp2
      go_ret2
      exact OptT.yes HD2.out rfl A0.out B0.out
end Go.Proofs

namespace Go.Proofs.Hd
open Go.RowKit
/-- Block b, at or behind block B, holds the cells cs. -/
def Nb (B : Nat) (w : World) (b : Nat) (T : TypeId) (cs : Array Value) : Prop := Blk w b T cs ∧ B ≤ b
theorem Nb.on {B b : Nat} {W w' : World} {T : TypeId} {cs : Array Value} (h : Nb B W b T cs) (hb : Below W.heap.size W w') : Nb B w' b T cs := ⟨h.1.on hb, h.2⟩
theorem Nb.top {B : Nat} {T : TypeId} {cs : Array Value} (X : World) (h : B ≤ X.heap.size) : Nb B (X.alloc (.cells cs T)) X.heap.size T cs := ⟨Blk.new X T cs, h⟩
theorem Nb.ne {B b : Nat} {W : World} {T : TypeId} {cs : Array Value} (h : Nb B W b T cs) : b ≠ W.heap.size := Nat.ne_of_lt h.1.lt
theorem Nb.there {B b : Nat} {W : World} {T : TypeId} {cs : Array Value} (h : Nb B W b T cs) : W.there b 0 cs.size := fun j hj => by
  rw [Nat.zero_add, h.1.cell j, h.1.free j]
  simp [hj]
theorem Blk.farC {g b : Nat} {t : TypeId} {cs : Array Value} (hne : b ≠ g) : ∀ (vs : List Value) (o : Nat) (w : World), Blk w g t cs → Blk (w.setCells b o vs) g t cs
  | [], _, _, h => h
  | v :: vs, o, _, h => Blk.farC hne vs (o + 1) _ (h.far (p := ⟨b, o, none⟩) (fun e => hne e.symm) v)
theorem Nb.far {B b c : Nat} {W : World} {T : TypeId} {cs : Array Value} (h : Nb B W b T cs) (hne : c ≠ b) (vs : List Value) : Nb B (W.setCells c 0 vs) b T cs := ⟨Blk.farC hne vs 0 W h.1, h.2⟩
/-- Cells from place o on are set, one by one. -/
def setL (cs : Array Value) : Nat → List Value → Array Value
  | _, [] => cs
  | o, v :: vs => setL (cs.setIfInBounds o v) (o + 1) vs
theorem Blk.putC {b : Nat} {t : TypeId} : ∀ (vs : List Value) (o : Nat) (w : World) (cs : Array Value), Blk w b t cs → Blk (w.setCells b o vs) b t (setL cs o vs)
  | [], _, _, _, h => h
  | v :: vs, o, _, _, h => Blk.putC vs (o + 1) _ _ (h.set o v)
theorem setL_size : ∀ (vs : List Value) (o : Nat) (cs : Array Value), (setL cs o vs).size = cs.size
  | [], _, _ => rfl
  | v :: vs, o, cs => by rw [setL, setL_size vs]; simp
theorem setL_get : ∀ (vs : List Value) (o : Nat) (cs : Array Value) (j : Nat), (setL cs o vs)[j]? = if o ≤ j ∧ j < o + vs.length ∧ j < cs.size then vs[j - o]? else cs[j]?
  | [], o, cs, j => by rw [setL, if_neg (by simp; omega)]
  | v :: vs, o, cs, j => by
    rw [setL, setL_get vs]
    simp only [Array.size_setIfInBounds, List.length_cons]
    by_cases h1 : j = o
    · subst h1
      rw [if_neg (by omega)]
      by_cases h2 : j < cs.size
      · rw [if_pos (by omega)]
        simp [h2]
      · rw [if_neg (by omega)]
        simp [h2]
    · by_cases h2 : o + 1 ≤ j ∧ j < o + 1 + vs.length ∧ j < cs.size
      · rw [if_pos h2, if_pos (by omega), show j - o = (j - (o + 1)) + 1 by omega, List.getElem?_cons_succ]
      · rw [if_neg h2, if_neg (by omega), Array.getElem?_setIfInBounds, if_neg (fun e => h1 e.symm)]
theorem setL_all (vs : List Value) (cs : Array Value) (h : vs.length = cs.size) : setL cs 0 vs = vs.toArray := by
  apply Array.ext_getElem?
  intro j
  rw [setL_get]
  by_cases hj : j < cs.size
  · rw [if_pos (by omega)]; simp
  · rw [if_neg (by omega), Array.getElem?_eq_none (by omega), Array.getElem?_eq_none (by simp; omega)]
theorem Nb.put {B b : Nat} {W : World} {T : TypeId} {cs : Array Value} (h : Nb B W b T cs) (vs : List Value) (hl : vs.length = cs.size) : Nb B (W.setCells b 0 vs) b T vs.toArray := by
  refine ⟨?_, h.2⟩
  rw [← setL_all vs cs hl]
  exact Blk.putC vs 0 W cs h.1
end Go.Proofs.Hd

namespace Go.Proofs.Hd
open Go.RowKit
theorem infoAtomS : (Tryz.prog.info? 42).map (·.size) = some 4 := by kernel_rfl
theorem NmB.on {B : Nat} {w w' : World} {v : Value} {L : List Int} (h : NmB B w v L) (hb : Below w.heap.size w w') : NmB B w' v L := h.kp (Kp.of_below hb)
theorem PlB.on {B : Nat} {w w' : World} {v : Value} {L : List Cb} (h : PlB B w v L) (hb : Below w.heap.size w w') : PlB B w' v L := h.kp (Kp.of_below hb)
theorem NmB.nm {B : Nat} {w : World} {v : Value} {L : List Int} (h : NmB B w v L) : Nm w v L := h.1
theorem PlB.pl {B : Nat} {w : World} {v : Value} {L : List Cb} (h : PlB B w v L) : Pl w v L := h.1
theorem prtG_mem {c : Cb} {id : Int} {a b : AtC} (hs : sndL a.pl = true) (hb : b ∈ prtG c id a) : b.pl ≠ [] ∧ sndL b.pl = true ∧ b.ids.length ≤ a.ids.length + 1 := by
  unfold prtG at hb
  split at hb
  · rename_i m l hpq
    obtain ⟨h1, h2, h3, h4⟩ := part_snd (sndL_all hs) (sndL_len hs) hpq
    rw [List.mem_append] at hb
    rcases hb with hb | hb
    · split at hb
      · cases hb
      · rename_i hne
        rw [List.mem_singleton] at hb
        subst hb
        refine ⟨fun e => hne (by rw [show m = [] from e]; rfl), ?_, ?_⟩
        · unfold sndL
          rw [Bool.and_eq_true, decide_eq_true_eq, List.all_eq_true]
          exact ⟨h3, h1⟩
        · show (joinI a.ids [id]).length ≤ _
          have := setI_len (a.ids ++ [id])
          rw [List.length_append] at this
          exact this
    · split at hb
      · cases hb
      · rename_i hne
        rw [List.mem_singleton] at hb
        subst hb
        refine ⟨fun e => hne (by rw [show l = [] from e]; rfl), ?_, ?_⟩
        · unfold sndL
          rw [Bool.and_eq_true, decide_eq_true_eq, List.all_eq_true]
          exact ⟨h4, h2⟩
        · show a.ids.length ≤ _
          omega
  · cases hb
theorem splG_mem {c : Cb} {id : Int} {al bs : List AtC} {N : Nat} (hs : sndA al = true) (hi : ∀ a ∈ al, a.ids.length ≤ N) (h : splG c id al = some bs) : bs.length ≤ 2 * al.length ∧ ∀ b ∈ bs, b.pl ≠ [] ∧ sndL b.pl = true ∧ b.ids.length ≤ N + 1 := by
  unfold splG at h
  split at h
  · injection h with h
    subst h
    refine ⟨flat_len2 c id al, fun b hb => ?_⟩
    obtain ⟨a, ha, hb⟩ := List.mem_flatMap.1 hb
    obtain ⟨h1, h2, h3⟩ := prtG_mem (sndA_at hs ha) hb
    have := hi a ha
    exact ⟨h1, h2, by omega⟩
  · cases h
theorem nrm_set {bs : List AtC} {k : Nat} {b : AtC} (h : bs[k]? = some b) : ((bs.take k).map nrm ++ bs.drop k).set k (nrm b) = (bs.take (k + 1)).map nrm ++ bs.drop (k + 1) := by
  obtain ⟨hk, rfl⟩ := List.getElem?_eq_some_iff.1 h
  have hl : ((bs.take k).map nrm).length = k := by rw [List.length_map, List.length_take]; omega
  rw [List.set_append_right _ _ (by omega), hl, Nat.sub_self, List.drop_eq_getElem_cons hk, List.set_cons_zero, List.take_succ_eq_append_getElem hk, List.map_append, List.append_assoc]
  rfl
theorem nrm_at {bs : List AtC} {k : Nat} : ((bs.take k).map nrm ++ bs.drop k)[k]? = bs[k]? := by
  rcases Nat.lt_or_ge k bs.length with hk | hk
  · have hl : ((bs.take k).map nrm).length = k := by rw [List.length_map, List.length_take]; omega
    rw [List.getElem?_append_right (by omega), hl, Nat.sub_self, List.getElem?_drop, Nat.add_zero]
  · rw [List.getElem?_eq_none hk, List.drop_eq_nil_of_le hk, List.append_nil, List.getElem?_eq_none]
    rw [List.length_map, List.length_take]
    omega
theorem OwX.there {B g n c k : Nat} {w : World} {E : List AtX} (h : OwX B w (.slice (some ⟨g, 0, none⟩) n c) E) (hn : n = E.length) (hk : k < E.length) : w.there g (k * 4) 4 := by
  subst hn
  intro j hj
  obtain ⟨x, hx⟩ : ∃ x, E[k]? = some x := ⟨_, List.getElem?_eq_getElem hk⟩
  rw [h.1.cellAt _ (by omega), h.1.frozenAt, flatX_get hx hj]
  match j, hj with
  | 0, _ => exact ⟨rfl, rfl⟩
  | 1, _ => exact ⟨rfl, rfl⟩
  | 2, _ => exact ⟨rfl, rfl⟩
  | 3, _ => exact ⟨rfl, rfl⟩
theorem OwX.cells {B g n c k : Nat} {w : World} {E : List AtX} {x : AtX} (h : OwX B w (.slice (some ⟨g, 0, none⟩) n c) E) (hn : n = E.length) (hx : E[k]? = some x) : w.cell? ⟨g, k * 4, none⟩ = some x.iv ∧ w.cell? ⟨g, k * 4 + 1, none⟩ = some (.int .u64 (uv x.a.hd.1)) ∧ w.cell? ⟨g, k * 4 + 2, none⟩ = some (.int .u64 (uv x.a.hd.2)) ∧ w.cell? ⟨g, k * 4 + 3, none⟩ = some x.pv := by
  subst hn
  have hk := (List.getElem?_eq_some_iff.1 hx).1
  refine ⟨?_, ?_, ?_, ?_⟩
  · rw [h.1.cellAt _ (by omega)]; exact flatX_get (j := 0) hx (by omega)
  · rw [h.1.cellAt _ (by omega)]; exact flatX_get (j := 1) hx (by omega)
  · rw [h.1.cellAt _ (by omega)]; exact flatX_get (j := 2) hx (by omega)
  · rw [h.1.cellAt _ (by omega)]; exact flatX_get (j := 3) hx (by omega)
theorem cellX {b : Nat} {p : Addr} (hp : b ≠ p.block) : ∀ (vs : List Value) (o : Nat) (w : World), (w.setCells b o vs).cell? p = w.cell? p
  | [], _, _ => rfl
  | v :: vs, o, w => (cellX hp vs (o + 1) _).trans (World.cell?_of_block (Below.heap_setCell w ⟨b, o, none⟩ v p.block (fun e => hp e.symm)))
theorem OwX.sl0 {B : Nat} {w : World} {v : Value} {E : List AtX} (h : OwX B w v E) : ∃ A cap, v = .slice A E.length cap ∧ (E ≠ [] → ∃ g, A = some ⟨g, 0, none⟩) := by
  rcases h.1.2 with ⟨rfl, h0⟩ | ⟨g, cap, cur, rfl, _⟩
  · rw [h0]; exact ⟨none, 0, rfl, fun h => absurd (List.eq_nil_of_length_eq_zero h0) h⟩
  · exact ⟨_, cap, rfl, fun _ => ⟨g, rfl⟩⟩
end Go.Proofs.Hd
namespace Go.Proofs
open Go.RowKit Go.Proofs.Hd Go.Lib Go.Shelf
attribute [local go_sem] uv_nonneg
set_option maxRecDepth 100000 in
theorem arefine_arg (v : Value) (al : List AtC) (id : Int) (c : Cb) (w : World) (hi : id < 0) (hv : At w v al) : Calls Tryz.prog 24 #[v, .int .i64 id, .agg #[.int .u64 (uv c.vh), .int .u64 (uv c.vl), .int .u64 (uv c.ch), .int .u64 (uv c.cl)]] w (Err2 w 1) := by
  have HV := Lib.hid hv
  obtain ⟨A, cap, rfl, -, -, -⟩ := hv
  have B0 := below1 w (.cells #[.int .u64 (uv c.vh), .int .u64 (uv c.vl), .int .u64 (uv c.ch), .int .u64 (uv c.cl)] 53)
  have X0 : Blk (w.alloc (.cells #[.int .u64 (uv c.vh), .int .u64 (uv c.vl), .int .u64 (uv c.ch), .int .u64 (uv c.cl)] 53)) w.heap.size 53 c.arr := Blk.new w _ _
  clear X0 HV
  go_enter Tryz.func24, Tryz.ntmps24
  go_wp2
  go_ret2
  exact ⟨rfl, B0⟩
set_option maxRecDepth 100000 in
theorem arefine_form (v : Value) (al : List AtC) (id : Int) (c : Cb) (w : World) (hi : ¬ id < 0) (hs : (c.snd && sndA al) = false) (hv : At w v al) : Calls Tryz.prog 24 #[v, .int .i64 id, .agg #[.int .u64 (uv c.vh), .int .u64 (uv c.vl), .int .u64 (uv c.ch), .int .u64 (uv c.cl)]] w (Err2 w 2) := by
  have HV := Lib.hid hv
  obtain ⟨A, cap, rfl, -, -, -⟩ := hv
  have B0 := below1 w (.cells #[.int .u64 (uv c.vh), .int .u64 (uv c.vl), .int .u64 (uv c.ch), .int .u64 (uv c.cl)] 53)
  have X0 : Blk (w.alloc (.cells #[.int .u64 (uv c.vh), .int .u64 (uv c.vl), .int .u64 (uv c.ch), .int .u64 (uv c.cl)] 53)) w.heap.size 53 c.arr := Blk.new w _ _
  have hcon := csound c.snd c (w.alloc (.cells #[.int .u64 (uv c.vh), .int .u64 (uv c.vl), .int .u64 (uv c.ch), .int .u64 (uv c.cl)] 53)) rfl
  cases h1 : c.snd with
  | false =>
    rw [h1] at hcon
    clear X0 HV hs h1
    go_enter Tryz.func24, Tryz.ntmps24
    go_wp2_with fail
    (with_reducible refine hcon.mono ?_)
    rintro e w1 ⟨rfl, hb⟩
    have B1 := B0.trans (hb.mono B0.size)
    clear hcon hb B0
    go_wp2
    go_ret2
    exact ⟨rfl, B1⟩
  | true =>
    have h2 : sndA al = false := by rw [h1] at hs; simpa using hs
    rw [h1] at hcon
    clear X0 hs h1
    go_enter Tryz.func24, Tryz.ntmps24
    go_wp2_with fail
    (with_reducible refine hcon.mono ?_)
    rintro e w1 ⟨rfl, hb⟩
    have B1 := B0.trans (hb.mono B0.size)
    have hcon2 := asound_c _ al w1 (HV.out.on B1)
    rw [h2] at hcon2
    clear hcon hb B0 HV h2
    go_wp2_with fail
    (with_reducible refine hcon2.mono ?_)
    rintro e w2 ⟨rfl, hb⟩
    have B2 := B1.trans (hb.mono B1.size)
    clear hcon2 hb B1
    go_wp2
    go_ret2
    exact ⟨rfl, B2⟩
set_option maxRecDepth 100000 in
theorem arefine_there (v : Value) (al : List AtC) (id : Int) (c : Cb) (w : World) (hl : al.length ≤ 300) (hil : ∀ a ∈ al, a.ids.length ≤ 4398046511104) (hi : ¬ id < 0) (hc : c.snd = true) (hs : sndA al = true) (ht : ofL al id al.length ≠ []) (hv : At w v al) : Calls Tryz.prog 24 #[v, .int .i64 id, .agg #[.int .u64 (uv c.vh), .int .u64 (uv c.vl), .int .u64 (uv c.ch), .int .u64 (uv c.cl)]] w (Err2 w 8) := by
  have HV := Lib.hid hv
  obtain ⟨A, cap, rfl, -, -, -⟩ := hv
  have B0 := below1 w (.cells #[.int .u64 (uv c.vh), .int .u64 (uv c.vl), .int .u64 (uv c.ch), .int .u64 (uv c.cl)] 53)
  have X0 : Blk (w.alloc (.cells #[.int .u64 (uv c.vh), .int .u64 (uv c.vl), .int .u64 (uv c.ch), .int .u64 (uv c.cl)] 53)) w.heap.size 53 c.arr := Blk.new w _ _
  have hcon := csound true c (w.alloc (.cells #[.int .u64 (uv c.vh), .int .u64 (uv c.vl), .int .u64 (uv c.ch), .int .u64 (uv c.cl)] 53)) hc
  have HIL := Lib.hid hil
  have HLN := Lib.hid hl
  have HX0 := Lib.hid X0
  have HC := Lib.hid hc
  have HS := Lib.hid hs
  have HT := Lib.hid ht
  clear ht
  clear X0 hil hl hc hs
  go_enter Tryz.func24, Tryz.ntmps24
  go_wp2_with fail
  (with_reducible refine hcon.mono ?_)
  rintro e w1 ⟨rfl, hb⟩
  have B1 := B0.trans (hb.mono B0.size)
  have hcon2 := asound_c _ al w1 (HV.out.on B1)
  rw [HS.out] at hcon2
  have X1 := Lib.hid (HX0.out.on hb)
  clear hcon hb B0 HX0
  go_wp2_with fail
  (with_reducible refine hcon2.mono ?_)
  rintro e w2 ⟨rfl, hb⟩
  have B2 := Lib.hid (B1.trans (hb.mono B1.size))
  have X2 := Lib.hid (X1.out.on hb)
  have hcon3 := of_c _ al id w2 (by have := HLN.out; omega) (fun a ha => by have := HIL.out a ha; omega) (HV.out.on B2.out)
  clear hcon2 hb B1 X1
  go_wp2_with fail
  (with_reducible refine hcon3.mono ?_)
  rintro e w3 ⟨v3, rfl, hO, hb⟩
  have B3 := Lib.hid (B2.out.trans (hb.mono B2.out.size))
  have X3 := Lib.hid (X2.out.on hb)
  have ON := own_Nm hO
  obtain ⟨O1, O3, rfl, -⟩ := ON
  have hz : (0 : Int) < ((ofL al id al.length).length : Int) := by have := List.length_pos_iff.2 HT.out; omega
  clear hcon3 hb hO B2 X2 X3 HT
  generalize (ofL al id al.length).length = nn at hz ⊢
  go_wp2
  go_ret2
  exact ⟨rfl, B3.out⟩
end Go.Proofs

namespace Go.Proofs.Hd
open Go.RowKit
theorem diffI_len (I J : List Int) : (diffI I J).length ≤ I.length := Nat.le_trans (List.length_filter_le _ _) (setI_len I)
/-- What each merged atom is known to be. -/
def Mok (al : List AtC) : Prop := ∀ b ∈ al, sndL b.pl = true ∧ b.ids.length ≤ 4398046511104
theorem Mok.snoc {al : List AtC} {a : AtC} (h : Mok al) (h1 : sndL a.pl = true) (h2 : a.ids.length ≤ 4398046511104) : Mok (al ++ [a]) := fun b hb => by
  rcases List.mem_append.1 hb with hb | hb
  · exact h b hb
  · rw [List.mem_singleton] at hb; subst hb; exact ⟨h1, h2⟩
theorem Mok.set {al : List AtC} {n : Nat} {a : AtC} (h : Mok al) (h1 : sndL a.pl = true) (h2 : a.ids.length ≤ 4398046511104) : Mok (al.set n a) := fun b hb => by
  rcases List.mem_or_eq_of_mem_set hb with hb | rfl
  · exact h b hb
  · exact ⟨h1, h2⟩
theorem jnP_snd {p q r : List Cb} (h : jnP p q = some r) : sndL r = true := by
  obtain ⟨e, hl⟩ := jnP_form h
  unfold sndL
  rw [Bool.and_eq_true, decide_eq_true_eq, List.all_eq_true]
  exact ⟨hl, by rw [e]; exact leanS_snd _⟩
theorem out_at {id : Int} {al : List AtC} {k : Nat} {a : AtC} (h : al[k]? = some a) : (al.map (outG id))[k]? = some (outG id a) := by rw [List.getElem?_map, h]; rfl
/-- One merging step that finds no earlier one. -/
theorem mrg_new {id : Int} {al out : List AtC} {k : Nat} {a : AtC} (h : al[k]? = some a) (hn : ∀ b ∈ out, b.ids ≠ diffI a.ids [id]) : mrgO jnP out ((al.map (outG id)).drop k) = mrgO jnP (out ++ [outG id a]) ((al.map (outG id)).drop (k + 1)) := by
  rw [mrg_step (out_at h), put_no hn]
theorem mrg_old {id : Int} {al out : List AtC} {k n : Nat} {a b : AtC} (h : al[k]? = some a) (hb : out[n]? = some b) (he : b.ids = diffI a.ids [id]) (hn : ∀ (j : Nat) (d : AtC), j < n → out[j]? = some d → d.ids ≠ diffI a.ids [id]) : mrgO jnP out ((al.map (outG id)).drop k) = match jnP b.pl a.pl with
    | some p => mrgO jnP (out.set n ⟨b.ids, b.hd, p⟩) ((al.map (outG id)).drop (k + 1))
    | none => none := by
  rw [mrg_step (out_at h), put_at (a := outG id a) hb he hn]
  have e : (outG id a).pl = a.pl := rfl
  rw [e]
  cases jnP b.pl a.pl <;> rfl
theorem idx_no {L : List Int} {al : List AtC} {r : Int} (h : IdxIs (fun b : AtC => decide (b.ids = L)) al r) (hr : r < 0) : ∀ b ∈ al, b.ids ≠ L := by
  rcases h with ⟨_, h⟩ | ⟨k, c, rfl, _⟩
  · intro b hb e
    obtain ⟨k, hk⟩ := List.mem_iff_getElem?.1 hb
    have := h k b hk
    rw [decide_eq_false_iff_not] at this
    exact this e
  · omega
end Go.Proofs.Hd
namespace Go.Proofs
open Go.RowKit Go.Proofs.Hd Go.Lib Go.Shelf
attribute [local go_sem] uv_nonneg
set_option maxRecDepth 100000 in
theorem acrs1_c (I1 P1 : Option Addr) (I2 I3 P2 P3 : Nat) (x y : Int) (I L : List Int) (b : Nat) (lv : Value) (w : World) (hi : I.length ≤ 4611686018427387904) (hl : L.length ≤ 4611686018427387904) (hc : w.cell? ⟨b, 0, none⟩ = some lv) (hv : Nm w (.slice I1 I2 I3) I) (hL : Nm w lv L) :
    Calls Tryz.prog 45 #[.agg #[.slice I1 I2 I3, .int .u64 x, .int .u64 y, .slice P1 P2 P3], .pointer (some ⟨b, 0, none⟩)] w fun e w' => e = .returned (.bool (decide (I = L))) ∧ Below w.heap.size w w' := by
  have B0 := below1 w (.cells #[.slice I1 I2 I3, .int .u64 x, .int .u64 y, .slice P1 P2 P3] 42)
  have hcon := iequal_c _ lv I L _ hi hl (hv.on B0) (hL.on B0)
  have h0 := on_some B0 hc
  obtain ⟨L1, L3, rfl, -⟩ := hL
  clear hv hc
  go_enter Tryz.func45, Tryz.ntmps45
  go_wp2_with fail
  (with_reducible refine hcon.mono ?_)
  rintro e w1 ⟨rfl, hb⟩
  have L := B0.trans (hb.mono B0.size)
  clear B0 hb hcon h0
  go_wp2
  go_ret
  exact ⟨rfl, L⟩
theorem acoarsen_bad (v : Value) (al : List AtC) (id : Int) (w : World) (hs : sndA al = false) (hv : At w v al) : Calls Tryz.prog 25 #[v, .int .i64 id] w (Err2 w 2) := by
  have hcon := asound_c v al w hv
  rw [hs] at hcon
  obtain ⟨A, cap, rfl, -⟩ := hv
  clear hs
  go_enter Tryz.func25, Tryz.ntmps25
  go_wp2_with fail
  (with_reducible refine hcon.mono ?_)
  rintro e w1 ⟨rfl, hb⟩
  clear hcon
  go_wp2
  go_ret2
  exact ⟨rfl, hb⟩
set_option maxHeartbeats 8000000 in
set_option maxRecDepth 100000 in
theorem acoarsen_c (v : Value) (al : List AtC) (id : Int) (w : World) (hl : al.length ≤ 300) (hi : ∀ a ∈ al, a.ids.length ≤ 4398046511104) (hs : sndA al = true) (hv : At w v al) : Calls Tryz.prog 25 #[v, .int .i64 id] w (OptT w (crsG id al)) := by
  obtain ⟨ic, hic, hcz0, hcz1, hcz2⟩ := info_parts infoAtom
  obtain ⟨jc, hjc, hjz0, hjz1, hjz2⟩ := info_parts infoCube
  have eg : ∀ args w, (callFunc 45 args).run Tryz.prog w = .ok (.enter 45 args) w := enters_of Tryz.func45 (by kernel_rfl) rfl
  have hcon := asound_c v al w hv
  rw [hs] at hcon
  obtain ⟨A, cap, rfl, hlen, hA⟩ := hv.form
  have hlz : (al.length : Int) ≤ 300 := by omega
  have HA := Lib.hid hA
  have HI := Lib.hid hi
  have HS := Lib.hid hs
  have HL0 := Lib.hid hl
  clear hA hi hs hv hlen hl
  go_enter Tryz.func25, Tryz.ntmps25
  go_wp2_with fail
  (with_reducible refine hcon.mono ?_)
  rintro e w1 ⟨rfl, hb⟩
  have BB := Lib.hid hb
  clear hcon hb
  go_wp2
  go_loopg [6, 10, 11, 12, 13, 14, 20] al.length (fun gk s6 _ _ _ _ _ s20 wr => ∃ (k : Nat) (E : List AtX), k ≤ al.length ∧ gk = al.length - k ∧ s20 = .int .i64 k ∧ Hid (Below w.heap.size w wr) ∧ Hid (OwX w.heap.size wr s6 E) ∧ Hid (E.length ≤ k) ∧ Hid (Mok (E.map AtX.a)) ∧ Hid (crsG id al = mrgO jnP (E.map AtX.a) ((al.map (outG id)).drop k)))
  case atStart => exact ⟨0, [], Nat.zero_le _, rfl, rfl, BB, OwX.nil _ _, Nat.le_refl _, (fun b hb => by cases hb), rfl⟩
  case round =>
    clear BB
    obtain ⟨k, E, hk, rfl, rfl, B0, O0, HEL, HM, HE⟩ := hrel
    by_cases hlt : k < al.length
    · have hltz : (k : Int) < (al.length : Int) := by omega
      obtain ⟨a, ha⟩ : ∃ a, al[k]? = some a := ⟨_, List.getElem?_eq_getElem hlt⟩
      obtain ⟨b, off, rfl, hb, hcc⟩ := HA.out (ne_nil_of ha)
      obtain ⟨I1, I2, I3, P1, P2, P3, ⟨c0, c1, c2, c3⟩, hN, hP, rfl, rfl⟩ := (hcc k a ha).cells
      replace c0 := on_some B0.out c0
      replace c1 := on_some B0.out c1
      replace c2 := on_some B0.out c2
      replace c3 := on_some B0.out c3
      have b1 := below1 wr (.cells #[.slice I1 a.ids.length I3, .int .u64 (uv a.hd.1), .int .u64 (uv a.hd.2), .slice P1 a.pl.length P3] 42)
      have n1 : Blk (wr.alloc (.cells #[.slice I1 a.ids.length I3, .int .u64 (uv a.hd.1), .int .u64 (uv a.hd.2), .slice P1 a.pl.length P3] 42)) wr.heap.size 42 #[.slice I1 a.ids.length I3, .int .u64 (uv a.hd.1), .int .u64 (uv a.hd.2), .slice P1 a.pl.length P3] := Blk.new wr _ _
      have N1 := Lib.hid n1
      have B1 := Lib.hid (B0.out.trans (b1.mono B0.out.size))
      have O1 := Lib.hid (O0.out.on b1)
      have hap : Hid (some wr.heap.size ≠ u6.ownBlock) := fun he => by have := (O0.out.1.lt _ he.symm).2; omega
      have HSA := Lib.hid (sndA_at HS.out (List.mem_of_getElem? ha))
      have HIA := Lib.hid (HI.out a (List.mem_of_getElem? ha))
      have HNI := Lib.hid hN
      have HPI := Lib.hid hP
      have HAK := Lib.hid ha
      clear ha hcc hN hP n1 B0 O0
      go_upto_region 7 with (fail)
      generalize hgen : (wr.alloc (.cells #[.slice I1 a.ids.length I3, .int .u64 (uv a.hd.1), .int .u64 (uv a.hd.2), .slice P1 a.pl.length P3] 42)) = w2 at N1 B1 O1 ⊢
      generalize hgn : wr.heap.size = ga at N1 hap ⊢
      clear hgen hgn b1 c0 c1 c2 c3
      obtain ⟨y0, y1, y2, y3⟩ := N1.out.four
      have b3 := below1 w2 (.cells #[.int .i64 id] 3)
      have Z3 : Blk (w2.alloc (.cells #[.int .i64 id] 3)) w2.heap.size 3 #[.int .i64 id] := Blk.new w2 _ _
      have B3 := Lib.hid (B1.out.trans (b3.mono B1.out.size))
      have N3 := Lib.hid (N1.out.on b3)
      have O3 := Lib.hid (O1.out.on b3)
      have hj := idlesso_c (.slice I1 a.ids.length I3) (.slice (some ⟨w2.heap.size, 0, none⟩) 1 1) a.ids [id] _ (by have := HIA.out; omega) (by simp) (HNI.out.on B3.out) (Nm.one1 Z3)
      clear b3 Z3 B1 N1 O1
      go_wp2_with fail
      (with_reducible refine hj.mono ?_)
      rintro e w4 ⟨vj, rfl, OJ, hb⟩
      have B4 := Lib.hid (B3.out.trans (hb.mono B3.out.size))
      have N4 := Lib.hid (N3.out.on hb)
      have O4 := Lib.hid (O3.out.on hb)
      have J4 : Hid (NmB w.heap.size w4 vj (diffI a.ids [id])) := own_nmb OJ
      have JJ := J4.out.1
      obtain ⟨J1, J3, rfl, -⟩ := JJ
      clear hj hb OJ y0 y1 y2 y3 B3 N3 O3
      have hdl := Lib.hid (diffI_len a.ids [id])
      generalize hD : diffI a.ids [id] = D at J4 hdl
      have HD := Lib.hid hD
      clear hD
      have b5 := below1 w4 (.cells #[.slice J1 D.length J3] 36)
      have Q5 : Blk (w4.alloc (.cells #[.slice J1 D.length J3] 36)) w4.heap.size 36 #[.slice J1 D.length J3] := Blk.new w4 _ _
      have B5 := Lib.hid (B4.out.trans (b5.mono B4.out.size))
      have N5 := Lib.hid (N4.out.on b5)
      have O5 := Lib.hid (O4.out.on b5)
      have J5 := Lib.hid (J4.out.on b5)
      have Q5h := Lib.hid Q5
      clear B4 N4 O4 J4 b5 Q5
      go_upto_region 8 with (fail)
      generalize hgen : (w4.alloc (.cells #[.slice J1 D.length J3] 36)) = w6 at B5 N5 O5 J5 Q5h ⊢
      generalize hgn : w4.heap.size = gq at Q5h ⊢
      clear hgen hgn
      obtain ⟨r, hr⟩ := IdxIs.ex (fun b : AtC => decide (b.ids = D)) (E.map AtX.a)
      have hidx := idx_atoms 45 #[.pointer (some ⟨gq, 0, none⟩)] (fun b => decide (b.ids = D)) eg _ _ w6 r hr (fun W d K1 K2 K3 R1 R2 R3 hd hb hN hP => (acrs1_c K1 R1 K2 K3 R2 R3 _ _ d.ids D gq _ W (by have := (HM.out d hd).2; omega) (by have := hdl.out; have := HIA.out; omega) (((Q5h.out.on hb).cell 0).trans rfl) hN (J5.out.1.on hb)).mono fun e w' h => ⟨h.1, hb.trans (h.2.mono hb.size)⟩) O5.out.at
      have HR := Lib.hid hr
      obtain ⟨A6, c6, rfl, hA6⟩ := O5.out.sl0
      have HA6 := Lib.hid hA6
      clear hr hA6
      go_wp2_with fail
      (with_reducible refine hidx.mono ?_)
      rintro e w7 ⟨rfl, hb⟩
      have B7 := Lib.hid (B5.out.trans (hb.mono B5.out.size))
      have N7 := Lib.hid (N5.out.on hb)
      have O7 := Lib.hid (O5.out.on hb)
      have J7 := Lib.hid (J5.out.on hb)
      have Q7 := Lib.hid (Q5h.out.on hb)
      clear hidx hb B5 N5 O5 J5 Q5h
      by_cases hrn : r < 0
      · have HNO := Lib.hid (idx_no HR.out hrn)
        clear HR HA6
        obtain ⟨y0, y1, y2, y3⟩ := N7.out.four
        have hpl := Lib.hid (sndL_len HSA.out)
        have hpz := sndL_len HSA.out
        have hel := HEL.out
        have hk3 := HL0.out
        have hbz := B7.out.size
        have S7 : Src w7 4 (.slice P1 a.pl.length P3) a.pl.length (flat a.pl) := (HPI.out.on B7.out).src
        go_wp2_with (at_builtin; refine wpList_app _ rfl (.const (.slice none 0 0)) (.tmp 36) 22 rfl w.heap.size 53 jc _ 4 32 Tryz.underlying22 hjc hjz0 hjz1 hjz2 rfl (by decide) (.slice none 0 0) 0 [] rfl (World.ownsRow_nil _ _ _ _) _ a.pl.length (flat a.pl) rfl S7 (by unfold maxLen; omega) (by omega) hbz ?_)
        intro v8 w8 OO hg8
        have g8 : w7.grownBy w8 none := hg8
        have hb8 : Below w7.heap.size w7 w8 := (Below.refl _ _).grown g8 (Nat.le_refl _) (fun j hj => by cases hj)
        have B8 := Lib.hid (B7.out.trans (hb8.mono B7.out.size))
        have N8 := Lib.hid (N7.out.on hb8)
        have O8 := Lib.hid (O7.out.on hb8)
        have J8 := Lib.hid (J7.out.on hb8)
        have Q8 := Lib.hid (Q7.out.on hb8)
        have C8 : Hid (PlB w.heap.size w8 v8 a.pl) := own_plb OO
        obtain ⟨V1, V3, rfl, -, -⟩ := C8.out.1.form
        clear y0 y1 y2 y3 S7 OO hg8 g8 hb8 B7 N7 O7 J7 Q7 hbz
        go_upto_region 12 with (fail)
        obtain ⟨y0, y1, y2, y3⟩ := N8.out.four
        have q0 := (Q8.out.cell 0).trans rfl
        have b9 := below1 w8 (.cells #[.slice J1 D.length J3, .int .u64 (uv a.hd.1), .int .u64 (uv a.hd.2), .slice V1 a.pl.length V3] 42)
        have Y9 : Blk (w8.alloc (.cells #[.slice J1 D.length J3, .int .u64 (uv a.hd.1), .int .u64 (uv a.hd.2), .slice V1 a.pl.length V3] 42)) w8.heap.size 42 (⟨.slice J1 D.length J3, ⟨D, a.hd, a.pl⟩, .slice V1 a.pl.length V3⟩ : AtX).cs.toArray := Blk.new w8 _ _
        have B9 := B8.out.trans (b9.mono B8.out.size)
        have O9 := O8.out.on b9
        have J9 := J8.out.on b9
        have C9 := C8.out.on b9
        have S9 := src_atom Y9 rfl rfl
        have hbz := B9.size
        clear B8 O8 J8 C8 b9 Y9 N8 Q8
        simp only [List.getElem?_toArray, List.getElem?_cons_zero] at q0
        go_wp2_with (at_builtin; refine wpList_app _ rfl (.tmp 38) (.tmp 44) 30 rfl w.heap.size 42 ic _ 4 64 Tryz.underlying30 hic hcz0 hcz1 hcz2 rfl (by decide) _ _ _ rfl O9.1 _ 1 (⟨.slice J1 D.length J3, ⟨D, a.hd, a.pl⟩, .slice V1 a.pl.length V3⟩ : AtX).cs rfl S9 (by unfold maxLen; omega) (by omega) hbz ?_)
        intro vA wA OO hgA
        have BA := Lib.hid (B9.grown hgA hbz (fun j hj => (O9.1.lt j hj).1))
        have OA := Lib.hid (O9.app J9 C9 OO hgA)
        have HEL2 : Hid ((E ++ [(⟨.slice J1 D.length J3, ⟨D, a.hd, a.pl⟩, .slice V1 a.pl.length V3⟩ : AtX)]).length ≤ k + 1) := by show _ ≤ _; rw [List.length_append, List.length_cons, List.length_nil]; omega
        have HM2 : Hid (Mok ((E ++ [(⟨.slice J1 D.length J3, ⟨D, a.hd, a.pl⟩, .slice V1 a.pl.length V3⟩ : AtX)]).map AtX.a)) := by show Mok _; rw [List.map_append]; exact HM.out.snoc HSA.out (by show D.length ≤ _; have := hdl.out; have := HIA.out; omega)
        have HE2 : Hid (crsG id al = mrgO jnP ((E ++ [(⟨.slice J1 D.length J3, ⟨D, a.hd, a.pl⟩, .slice V1 a.pl.length V3⟩ : AtX)]).map AtX.a) ((al.map (outG id)).drop (k + 1))) := by
          show _ = _
          rw [HE.out, mrg_new HAK.out (by rw [HD.out]; exact HNO.out), List.map_append]
          have e : outG id a = ⟨D, a.hd, a.pl⟩ := by unfold outG; rw [HD.out]
          rw [e]
          rfl
        clear y0 y1 y2 y3 q0 B9 O9 J9 C9 S9 OO hgA hbz HE HM HEL hel hk3 hpz
        go_wp2
        go_roundg (al.length - (k + 1))
        case measure => omega
        case rel => exact ⟨k + 1, _, by omega, rfl, by go_num, BA, OA, HEL2, HM2, HE2⟩
      · obtain ⟨n, x, rfl, hx, hxe, hxb⟩ : ∃ (n : Nat) (x : AtX), r = (n : Int) ∧ E[n]? = some x ∧ x.a.ids = D ∧ ∀ (j : Nat) (d : AtC), j < n → (E.map AtX.a)[j]? = some d → d.ids ≠ D := by
          rcases HR.out with ⟨e, _⟩ | ⟨n, c, e, hc, hq, hbf⟩
          · omega
          · rw [List.getElem?_map, Option.map_eq_some_iff] at hc
            obtain ⟨x, hx, rfl⟩ := hc
            refine ⟨n, x, e, hx, by simpa using hq, fun j d hj hd => ?_⟩
            have := hbf j d hj hd
            simpa using this
        have hnl := (List.getElem?_eq_some_iff.1 hx).1
        have hnz : (n : Int) < (E.length : Int) := by omega
        have hxm := HM.out x.a (List.mem_map.2 ⟨x, List.mem_of_getElem? hx, rfl⟩)
        obtain ⟨g, rfl⟩ := HA6.out (ne_nil_of hx)
        have hbg : Hid (g ≠ ga) := fun e => hap.out (by rw [e]; rfl)
        have hxB := O7.out.2 x (List.mem_of_getElem? hx)
        obtain ⟨z0, z1, z2, z3⟩ := O7.out.cells rfl hx
        obtain ⟨R1, R3, hpv, -, -⟩ := hxB.2.1.form
        have HXM := Lib.hid hxm
        have HXE := Lib.hid hxe
        have HXB := Lib.hid hxb
        have HX := Lib.hid hx
        have hP7 := hxB.2.1
        rw [hpv] at z3 hP7
        have HP7 := Lib.hid hP7
        have Z3 := Lib.hid z3
        have HPV := Lib.hid hpv
        have hgt := Lib.hid (own_tbA O7.out.1)
        clear HR HA6 hx hxe hxb hxm hxB hpv hP7 z0 z1 z2 z3 hrn
        go_upto_region 13 with (fail)
        have HKP : Hid (∀ W, Below w7.heap.size w7 W → (W.cell? ⟨g, n * 4 + 3, none⟩ = some (.slice R1 x.a.pl.length R3) ∧ W.cell? ⟨ga, 3, none⟩ = some (.slice P1 a.pl.length P3))) := fun W hb => ⟨on_some hb Z3.out, ((N7.out.on hb).cell 3).trans rfl⟩
        have hjn := pjoin_any (.slice R1 x.a.pl.length R3) (.slice P1 a.pl.length P3) x.a.pl a.pl w7.drew (HP7.out.on (Below.refl _ w7).drew) ((HPI.out.on B7.out).on (Below.refl _ w7).drew) HXM.out.1 HSA.out
        have HJN := Lib.hid hjn
        clear hjn
        cases hjq : jnP x.a.pl a.pl with
        | none =>
          have HN : Hid (crsG id al = none) := by
            show _ = _
            rw [HE.out, mrg_old HAK.out (by rw [List.getElem?_map, HX.out]; rfl) (HXE.out.trans HD.out.symm) (by rw [HD.out]; exact HXB.out), hjq]
          refine wp_region_held_drew (S := fun w' => w'.cell? ⟨g, n * 4 + 3, none⟩ = some (.slice R1 x.a.pl.length R3) ∧ w'.cell? ⟨ga, 3, none⟩ = some (.slice P1 a.pl.length P3)) (by kernel_rfl) (HKP.out _ (Below.refl _ w7).drew) (fun hHeld => ?_)
          have hB := (Below.refl w7.heap.size w7).drew
          generalize w7.drew = u0 at hHeld hB HJN ⊢
          refine wpAnyH_take (i := 0) (oi := ⟨some 47, _, _, _, _, _⟩) (v := ?vga0_1) rfl (by kernel_rfl) (by kernel_rfl) (by kernel_rfl) (fun _ _ _ h => h) (Or.inl ⟨by rfl, ?yga0_1⟩) hHeld ?rga0_1
          case yga0_1 => (intro w' hSw; (try dsimp only at hSw); go_simp; try (with_reducible rfl))
          simp only [Act.put, List.setIfInBounds_toArray, List.set_cons_zero, List.set_cons_succ]
          refine wpAnyH_take (i := 1) (oi := ⟨some 48, _, _, _, _, _⟩) (v := ?vga1_2) rfl (by kernel_rfl) (by kernel_rfl) (by kernel_rfl) (fun _ _ _ h => h) (Or.inl ⟨by rfl, ?yga1_2⟩) hHeld ?rga1_2
          case yga1_2 => (intro w' hSw; (try dsimp only at hSw); go_simp; try (with_reducible rfl))
          simp only [Act.put, List.setIfInBounds_toArray, List.set_cons_zero, List.set_cons_succ]
          refine wpAnyH_take (i := 2) (oi := ⟨some 49, _, _, _, _, _⟩) (v := ?vga2_3) rfl (by kernel_rfl) (by kernel_rfl) (by kernel_rfl) (fun _ _ _ h => h) (Or.inl ⟨by rfl, ?yga2_3⟩) hHeld ?rga2_3
          case yga2_3 => (intro w' hSw; (try dsimp only at hSw); go_simp; try (with_reducible rfl))
          simp only [Act.put, List.setIfInBounds_toArray, List.set_cons_zero, List.set_cons_succ]
          refine wpAnyH_take (i := 3) (oi := ⟨some 50, _, _, _, _, _⟩) (v := ?vga3_4) rfl (by kernel_rfl) (by kernel_rfl) (by kernel_rfl) (fun _ _ _ h => h) (Or.inl ⟨by rfl, ?yga3_4⟩) hHeld ?rga3_4
          case yga3_4 => (intro w' hSw; (try dsimp only at hSw); go_simp; try (with_reducible rfl))
          simp only [Act.put, List.setIfInBounds_toArray, List.set_cons_zero, List.set_cons_succ]
          refine wpAnyH_take (i := 4) (oi := ⟨some 51, _, _, _, _, _⟩) (v := ?vga4_5) rfl (by kernel_rfl) (by kernel_rfl) (by kernel_rfl) (fun _ _ _ h => h) (Or.inl ⟨by rfl, ?yga4_5⟩) hHeld ?rga4_5
          case yga4_5 => (intro w' hSw; (try dsimp only at hSw); go_simp; try (with_reducible rfl))
          simp only [Act.put, List.setIfInBounds_toArray, List.set_cons_zero, List.set_cons_succ]
          refine wpAnyH_take (i := 5) (oi := ⟨some 52, _, _, _, _, _⟩) (v := ?vga5_6) rfl (by kernel_rfl) (by kernel_rfl) (by kernel_rfl) (fun _ _ _ h => h) (Or.inl ⟨by rfl, ?yga5_6⟩) hHeld ?rga5_6
          case yga5_6 => (intro w' hSw; (try dsimp only at hSw); go_simp; try (with_reducible rfl))
          simp only [Act.put, List.setIfInBounds_toArray, List.set_cons_zero, List.set_cons_succ]
          refine wpAnyH_take (i := 6) (oi := ⟨some 53, _, _, _, _, _⟩) (v := ?vga6_7) rfl (by kernel_rfl) (by kernel_rfl) (by kernel_rfl) (fun _ _ _ h => h) (Or.inl ⟨by rfl, ?yga6_7⟩) hHeld ?rga6_7
          case yga6_7 => (intro w' hSw; (try dsimp only at hSw); go_simp; try (with_reducible rfl))
          simp only [Act.put, List.setIfInBounds_toArray, List.set_cons_zero, List.set_cons_succ]
          refine wpAnyH_ready (rs := [7]) (by kernel_rfl) (by simp) ?_
          refine AllReadyH.cons (o := ⟨some 54, _, _, _, _, _⟩) rfl (fun K hK => ?_) AllReadyH.nil
          go_simp
          (with_reducible refine (HJN.out).mono ?_)
          rintro e u1 hjr
          obtain ⟨rfl, hb⟩ := hjr.2 hjq
          (try dsimp only)
          have hB2 := hB.trans (hb.mono hB.size)
          refine hK.out _ _ (HKP.out _ hB2) (fun hNext => ?_)
          clear hK K hHeld
          have hHeld := hNext
          clear hNext
          clear hB
          have hB := hB2
          clear hB2
          clear hb
          try simp only [Act.put, List.setIfInBounds_toArray, List.set_cons_zero, List.set_cons_succ]
          refine wpAnyH_take (i := 8) (oi := ⟨some 46, _, _, _, _, _⟩) (v := ?vga8_8) rfl (by kernel_rfl) (by kernel_rfl) (by kernel_rfl) (fun _ _ _ h => h) (Or.inl ⟨by rfl, ?yga8_8⟩) hHeld ?rga8_8
          case yga8_8 => (intro w' hSw; (try dsimp only at hSw); go_simp; try (with_reducible rfl))
          simp only [Act.put, List.setIfInBounds_toArray, List.set_cons_zero, List.set_cons_succ]
          refine wpAnyH_take (i := 9) (oi := ⟨some 55, _, _, _, _, _⟩) (v := ?vga9_9) rfl (by kernel_rfl) (by kernel_rfl) (by kernel_rfl) (fun _ _ _ h => h) (Or.inl ⟨by rfl, ?yga9_9⟩) hHeld ?rga9_9
          case yga9_9 => (intro w' hSw; (try dsimp only at hSw); go_simp; try (with_reducible rfl))
          simp only [Act.put, List.setIfInBounds_toArray, List.set_cons_zero, List.set_cons_succ]
          refine wpAnyH_take (i := 10) (oi := ⟨some 56, _, _, _, _, _⟩) (v := ?vga10_10) rfl (by kernel_rfl) (by kernel_rfl) (by kernel_rfl) (fun _ _ _ h => h) (Or.inl ⟨by rfl, ?yga10_10⟩) hHeld ?rga10_10
          case yga10_10 => (intro w' hSw; (try dsimp only at hSw); go_simp; try (with_reducible rfl))
          simp only [Act.put, List.setIfInBounds_toArray, List.set_cons_zero, List.set_cons_succ]
          refine wpAnyH_take (i := 11) (oi := ⟨some 13, _, _, _, _, _⟩) (v := ?vga11_11) rfl (by kernel_rfl) (by kernel_rfl) (by kernel_rfl) (fun _ _ _ h => h) (Or.inl ⟨by rfl, ?yga11_11⟩) hHeld ?rga11_11
          case yga11_11 => (intro w' hSw; (try dsimp only at hSw); go_simp; try (with_reducible rfl))
          simp only [Act.put, List.setIfInBounds_toArray, List.set_cons_zero, List.set_cons_succ]
          refine wpAnyH_take (i := 12) (oi := ⟨some 14, _, _, _, _, _⟩) (v := ?vga12_12) rfl (by kernel_rfl) (by kernel_rfl) (by kernel_rfl) (fun _ _ _ h => h) (Or.inl ⟨by rfl, ?yga12_12⟩) hHeld ?rga12_12
          case yga12_12 => (intro w' hSw; (try dsimp only at hSw); go_simp; try (with_reducible rfl))
          simp only [Act.put, List.setIfInBounds_toArray, List.set_cons_zero, List.set_cons_succ]
          refine wpAnyH_done (by kernel_rfl) ?_ _
          have B8 := Lib.hid (B7.out.trans (hB.mono B7.out.size))
          clear hHeld hB HKP HJN hjr
          go_wp2
          go_ret2
          exact OptT.no HN.out rfl B8.out
        | some p =>
          have HE1 : Hid (crsG id al = mrgO jnP ((E.map AtX.a).set n ⟨x.a.ids, x.a.hd, p⟩) ((al.map (outG id)).drop (k + 1))) := by
            show _ = _
            rw [HE.out, mrg_old HAK.out (by rw [List.getElem?_map, HX.out]; rfl) (HXE.out.trans HD.out.symm) (by rw [HD.out]; exact HXB.out), hjq]
          refine wp_region_held_drew (S := fun w' => w'.cell? ⟨g, n * 4 + 3, none⟩ = some (.slice R1 x.a.pl.length R3) ∧ w'.cell? ⟨ga, 3, none⟩ = some (.slice P1 a.pl.length P3)) (by kernel_rfl) (HKP.out _ (Below.refl _ w7).drew) (fun hHeld => ?_)
          have hB := (Below.refl w7.heap.size w7).drew
          generalize w7.drew = u0 at hHeld hB HJN ⊢
          refine wpAnyH_take (i := 0) (oi := ⟨some 47, _, _, _, _, _⟩) (v := ?vgb0_1) rfl (by kernel_rfl) (by kernel_rfl) (by kernel_rfl) (fun _ _ _ h => h) (Or.inl ⟨by rfl, ?ygb0_1⟩) hHeld ?rgb0_1
          case ygb0_1 => (intro w' hSw; (try dsimp only at hSw); go_simp; try (with_reducible rfl))
          simp only [Act.put, List.setIfInBounds_toArray, List.set_cons_zero, List.set_cons_succ]
          refine wpAnyH_take (i := 1) (oi := ⟨some 48, _, _, _, _, _⟩) (v := ?vgb1_2) rfl (by kernel_rfl) (by kernel_rfl) (by kernel_rfl) (fun _ _ _ h => h) (Or.inl ⟨by rfl, ?ygb1_2⟩) hHeld ?rgb1_2
          case ygb1_2 => (intro w' hSw; (try dsimp only at hSw); go_simp; try (with_reducible rfl))
          simp only [Act.put, List.setIfInBounds_toArray, List.set_cons_zero, List.set_cons_succ]
          refine wpAnyH_take (i := 2) (oi := ⟨some 49, _, _, _, _, _⟩) (v := ?vgb2_3) rfl (by kernel_rfl) (by kernel_rfl) (by kernel_rfl) (fun _ _ _ h => h) (Or.inl ⟨by rfl, ?ygb2_3⟩) hHeld ?rgb2_3
          case ygb2_3 => (intro w' hSw; (try dsimp only at hSw); go_simp; try (with_reducible rfl))
          simp only [Act.put, List.setIfInBounds_toArray, List.set_cons_zero, List.set_cons_succ]
          refine wpAnyH_take (i := 3) (oi := ⟨some 50, _, _, _, _, _⟩) (v := ?vgb3_4) rfl (by kernel_rfl) (by kernel_rfl) (by kernel_rfl) (fun _ _ _ h => h) (Or.inl ⟨by rfl, ?ygb3_4⟩) hHeld ?rgb3_4
          case ygb3_4 => (intro w' hSw; (try dsimp only at hSw); go_simp; try (with_reducible rfl))
          simp only [Act.put, List.setIfInBounds_toArray, List.set_cons_zero, List.set_cons_succ]
          refine wpAnyH_take (i := 4) (oi := ⟨some 51, _, _, _, _, _⟩) (v := ?vgb4_5) rfl (by kernel_rfl) (by kernel_rfl) (by kernel_rfl) (fun _ _ _ h => h) (Or.inl ⟨by rfl, ?ygb4_5⟩) hHeld ?rgb4_5
          case ygb4_5 => (intro w' hSw; (try dsimp only at hSw); go_simp; try (with_reducible rfl))
          simp only [Act.put, List.setIfInBounds_toArray, List.set_cons_zero, List.set_cons_succ]
          refine wpAnyH_take (i := 5) (oi := ⟨some 52, _, _, _, _, _⟩) (v := ?vgb5_6) rfl (by kernel_rfl) (by kernel_rfl) (by kernel_rfl) (fun _ _ _ h => h) (Or.inl ⟨by rfl, ?ygb5_6⟩) hHeld ?rgb5_6
          case ygb5_6 => (intro w' hSw; (try dsimp only at hSw); go_simp; try (with_reducible rfl))
          simp only [Act.put, List.setIfInBounds_toArray, List.set_cons_zero, List.set_cons_succ]
          refine wpAnyH_take (i := 6) (oi := ⟨some 53, _, _, _, _, _⟩) (v := ?vgb6_7) rfl (by kernel_rfl) (by kernel_rfl) (by kernel_rfl) (fun _ _ _ h => h) (Or.inl ⟨by rfl, ?ygb6_7⟩) hHeld ?rgb6_7
          case ygb6_7 => (intro w' hSw; (try dsimp only at hSw); go_simp; try (with_reducible rfl))
          simp only [Act.put, List.setIfInBounds_toArray, List.set_cons_zero, List.set_cons_succ]
          refine wpAnyH_ready (rs := [7]) (by kernel_rfl) (by simp) ?_
          refine AllReadyH.cons (o := ⟨some 54, _, _, _, _, _⟩) rfl (fun K hK => ?_) AllReadyH.nil
          go_simp
          (with_reducible refine (HJN.out).mono ?_)
          rintro e u1 hjr
          obtain ⟨vp, rfl, OP, hb⟩ := hjr.1 p hjq
          (try dsimp only)
          have hB2 := hB.trans (hb.mono hB.size)
          refine hK.out _ _ (HKP.out _ hB2) (fun hNext => ?_)
          clear hK K hHeld
          have hHeld := hNext
          clear hNext
          clear hB
          have hB := hB2
          clear hB2
          clear hb
          try simp only [Act.put, List.setIfInBounds_toArray, List.set_cons_zero, List.set_cons_succ]
          refine wpAnyH_take (i := 8) (oi := ⟨some 46, _, _, _, _, _⟩) (v := ?vgb8_8) rfl (by kernel_rfl) (by kernel_rfl) (by kernel_rfl) (fun _ _ _ h => h) (Or.inl ⟨by rfl, ?ygb8_8⟩) hHeld ?rgb8_8
          case ygb8_8 => (intro w' hSw; (try dsimp only at hSw); go_simp; try (with_reducible rfl))
          simp only [Act.put, List.setIfInBounds_toArray, List.set_cons_zero, List.set_cons_succ]
          refine wpAnyH_take (i := 9) (oi := ⟨some 55, _, _, _, _, _⟩) (v := ?vgb9_9) rfl (by kernel_rfl) (by kernel_rfl) (by kernel_rfl) (fun _ _ _ h => h) (Or.inl ⟨by rfl, ?ygb9_9⟩) hHeld ?rgb9_9
          case ygb9_9 => (intro w' hSw; (try dsimp only at hSw); go_simp; try (with_reducible rfl))
          simp only [Act.put, List.setIfInBounds_toArray, List.set_cons_zero, List.set_cons_succ]
          refine wpAnyH_take (i := 10) (oi := ⟨some 56, _, _, _, _, _⟩) (v := ?vgb10_10) rfl (by kernel_rfl) (by kernel_rfl) (by kernel_rfl) (fun _ _ _ h => h) (Or.inl ⟨by rfl, ?ygb10_10⟩) hHeld ?rgb10_10
          case ygb10_10 => (intro w' hSw; (try dsimp only at hSw); go_simp; try (with_reducible rfl))
          simp only [Act.put, List.setIfInBounds_toArray, List.set_cons_zero, List.set_cons_succ]
          refine wpAnyH_take (i := 11) (oi := ⟨some 13, _, _, _, _, _⟩) (v := ?vgb11_11) rfl (by kernel_rfl) (by kernel_rfl) (by kernel_rfl) (fun _ _ _ h => h) (Or.inl ⟨by rfl, ?ygb11_11⟩) hHeld ?rgb11_11
          case ygb11_11 => (intro w' hSw; (try dsimp only at hSw); go_simp; try (with_reducible rfl))
          simp only [Act.put, List.setIfInBounds_toArray, List.set_cons_zero, List.set_cons_succ]
          refine wpAnyH_take (i := 12) (oi := ⟨some 14, _, _, _, _, _⟩) (v := ?vgb12_12) rfl (by kernel_rfl) (by kernel_rfl) (by kernel_rfl) (fun _ _ _ h => h) (Or.inl ⟨by rfl, ?ygb12_12⟩) hHeld ?rgb12_12
          case ygb12_12 => (intro w' hSw; (try dsimp only at hSw); go_simp; try (with_reducible rfl))
          simp only [Act.put, List.setIfInBounds_toArray, List.set_cons_zero, List.set_cons_succ]
          refine wpAnyH_done (by kernel_rfl) ?_ _
          have B8 := Lib.hid (B7.out.trans (hB.mono B7.out.size))
          have O8 := Lib.hid (O7.out.on hB)
          have HPP : PlB w.heap.size u1 vp p := own_plb OP
          obtain ⟨V1, V3, rfl, -, -⟩ := HPP.1.form
          have O9 := Lib.hid (O8.out.pile rfl HX.out HPP)
          have hgB := own_tbA O8.out.1
          have B9 := Lib.hid (B8.out.setCell (p := ⟨g, n * 4 + 3, none⟩) (by show _ ≤ g; exact hgB.2.1) (.slice V1 p.length V3))
          have f3 := O8.out.1.frozenAt (n * 4 + 3)
          have k3 := on_some hB Z3.out
          clear hHeld HKP HJN hjr OP hB HPP
          have HEL2 : Hid ((E.set n ⟨x.iv, ⟨x.a.ids, x.a.hd, p⟩, .slice V1 p.length V3⟩).length ≤ k + 1) := by show _ ≤ _; rw [List.length_set]; have := HEL.out; omega
          have HM2 : Hid (Mok ((E.set n ⟨x.iv, ⟨x.a.ids, x.a.hd, p⟩, .slice V1 p.length V3⟩).map AtX.a)) := by show Mok _; rw [set_map]; exact HM.out.set (jnP_snd hjq) HXM.out.2
          have HE2 : Hid (crsG id al = mrgO jnP ((E.set n ⟨x.iv, ⟨x.a.ids, x.a.hd, p⟩, .slice V1 p.length V3⟩).map AtX.a) ((al.map (outG id)).drop (k + 1))) := by show _ = _; rw [set_map]; exact HE1.out
          clear hjq HE HE1 HM HEL
          go_wp2
          go_roundg (al.length - (k + 1))
          case measure => omega
          case rel => exact ⟨k + 1, _, by omega, rfl, by go_num, B9, O9, HEL2, HM2, HE2⟩
    · have hltz : ¬ (k : Int) < (al.length : Int) := by omega
      obtain rfl : k = al.length := by omega
      have HN : Hid (crsG id al = some (E.map AtX.a)) := by
        show _ = _
        rw [HE.out, List.drop_of_length_le (by simp), mrgO]
      obtain ⟨A6, c6, rfl⟩ := O0.out.sl
      go_wp2
      go_ret2
      exact OptT.yes HN.out rfl O0.out.at B0.out
end Go.Proofs

namespace Go.Proofs.Hd
open Go.RowKit
def p1 : Cb := ⟨0#64, 1#64, 0#64, 1#64⟩
def p2 : Cb := ⟨0#64, 2#64, 0#64, 2#64⟩
def aw4 : List AtC := [⟨[0, 1], (0#64, 3#64), [⟨0#64, 3#64, 0#64, 3#64⟩]⟩, ⟨[0], (0#64, 1#64), [⟨0#64, 1#64, 0#64, 3#64⟩]⟩, ⟨[1], (0#64, 2#64), [⟨0#64, 2#64, 0#64, 3#64⟩]⟩, ⟨[], (0#64, 0#64), [⟨0#64, 0#64, 0#64, 3#64⟩]⟩]
theorem aw_spl : spsC 0 [p1, p2] atm0 = some aw4 := by kernel_rfl
theorem aw_crs : (crsG 0 aw4).map List.length = some 2 := by kernel_rfl
theorem aw_fnd : fndR aw4 (0#64, 3#64) = (0, true) := by kernel_rfl
theorem aw_of : (ofL aw4 1 aw4.length).length = 2 := by kernel_rfl
theorem aw_snd : sndA aw4 = true := by kernel_rfl
theorem pl_two {w : World} {g cap : Nat} {c d : Cb} (h : Blk w g 53 (flat [c, d]).toArray) : Pl w (.slice (some ⟨g, 0, none⟩) 2 cap) [c, d] := by
  refine .inr ⟨g, 0, cap, rfl, by simp [maxLen], h.lt, fun k e hk => ?_⟩
  match k, hk with
  | 0, hk =>
    simp only [List.getElem?_cons_zero, Option.some.injEq] at hk
    subst hk
    exact ⟨h.cell 0, h.cell 1, h.cell 2, h.cell 3⟩
  | 1, hk =>
    simp only [List.getElem?_cons_succ, List.getElem?_cons_zero, Option.some.injEq] at hk
    subst hk
    exact ⟨h.cell 4, h.cell 5, h.cell 6, h.cell 7⟩
  | k + 2, hk => simp at hk
theorem inF_len (x : Hx) : ∀ (i : Nat) (L : List Cb), (inF x i L).length ≤ L.length
  | _, [] => by simp [inF]
  | i, c :: L => by
    rw [inF, List.length_append, List.length_cons]
    have := inF_len x (i + 1) L
    split <;> simp <;> omega
end Go.Proofs.Hd
namespace Go.Proofs
open Go.RowKit Go.Proofs.Hd Go.Lib Go.Shelf
attribute [local go_sem] uv_nonneg
set_option maxHeartbeats 2000000 in
theorem rintg_c (v u : Value) (A B : List Int) (w : World) (hl : A.length ≤ 4611686018427387904) (hm : B.length ≤ 4611686018427387904) (ha : Nm w v A) (hb : Nm w u B) : Calls Tryz.prog 17 #[v, u] w fun e w' => e = .returned (.bool (decide (A = B))) ∧ Below w.heap.size w w' := by
  obtain ⟨A1, c1, rfl, _, _, h3⟩ := ha
  obtain ⟨A2, c2, rfl, _, _, h4⟩ := hb
  have hlz : (A.length : Int) ≤ 4611686018427387904 := by omega
  have hmz : (B.length : Int) ≤ 4611686018427387904 := by omega
  obtain ⟨r, hr⟩ : ∃ r, decide (A = B) = r := ⟨_, rfl⟩
  rw [hr]
  by_cases hab : A.length = B.length
  · have habz : (A.length : Int) = (B.length : Int) := by omega
    rcases h3 with rfl | ⟨b, o, rfl, hb, hc⟩
    · obtain rfl : B = [] := List.eq_nil_of_length_eq_zero hab.symm
      obtain rfl : r = true := by rw [← hr]; simp
      clear hr h4
      go_enter Tryz.func17, Tryz.ntmps17
      go_wp2
      refine wp_loop_rounds 1 ?_
      rw [rounds_succ]
      go_wp2
      go_ret
      exact ⟨rfl, Below.refl _ _⟩
    rcases h4 with rfl | ⟨b2, o2, rfl, hb2, hc2⟩
    · obtain rfl : A = [] := List.eq_nil_of_length_eq_zero hab
      obtain rfl : r = true := by rw [← hr]; simp
      clear hr hc
      go_enter Tryz.func17, Tryz.ntmps17
      go_wp2
      refine wp_loop_rounds 1 ?_
      rw [rounds_succ]
      go_wp2
      go_ret
      exact ⟨rfl, Below.refl _ _⟩
    have HC := Lib.hid hc
    have HD := Lib.hid hc2
    have HR := Lib.hid hr
    have HAB := Lib.hid hab
    generalize hBn : B.length = n at hmz habz HAB
    have HBN := Lib.hid hBn
    clear hc hc2 hr hab hm hBn
    go_enter Tryz.func17, Tryz.ntmps17
    go_wp2
    go_loopg [5] A.length (fun gk s5 wr => ∃ k : Nat, k ≤ A.length ∧ gk = A.length - k ∧ s5 = .int .i64 k ∧ Hid (Below w.heap.size w wr) ∧ Hid (A.take k = B.take k))
    case atStart => exact ⟨0, Nat.zero_le _, rfl, rfl, Below.refl _ _, by show _ = _; simp⟩
    case round =>
      obtain ⟨k, hk, rfl, rfl, HB, HI⟩ := hrel
      by_cases hlt : k < A.length
      · have hltz : (k : Int) < (A.length : Int) := by omega
        have hltz2 : (k : Int) < (n : Int) := by omega
        obtain ⟨y, hy⟩ : ∃ y, A[k]? = some y := ⟨_, List.getElem?_eq_getElem hlt⟩
        obtain ⟨z, hz⟩ : ∃ z, B[k]? = some z := ⟨_, List.getElem?_eq_getElem (by have := HAB.out; have := HBN.out; omega)⟩
        have d1 := on_some HB.out (HC.out k y hy)
        have d2 := on_some HB.out (HD.out k z hz)
        have HY := Lib.hid hy
        have HZ := Lib.hid hz
        clear hy hz
        by_cases hyz : y = z
        · have hd : (y == z) = true := by simpa using hyz
          have st := Lib.hid (take_eq_of HI.out HY.out (by rw [hyz]; exact HZ.out))
          have E := Lib.hid hyz
          clear hyz
          go_wp2_with fail
          go_quiet (fail)
          have HB2 := Lib.hid (bdn HB.out nq)
          clear d1 d2 HB
          generalize wr.drewN nq = w2 at HB2 ⊢
          go_wp2
          go_roundg (A.length - (k + 1))
          case measure => omega
          case rel => exact ⟨k + 1, by omega, rfl, by go_num, HB2, st⟩
        · have hd : (y == z) = false := by simpa using hyz
          have hrf : r = false := by
            rw [← HR.out]
            simp only [decide_eq_false_iff_not]
            intro e
            have h1 := HY.out
            rw [e, HZ.out] at h1
            injection h1 with h1
            exact hyz h1.symm
          subst hrf
          have E := Lib.hid hyz
          clear hyz
          go_wp2_with fail
          go_quiet (fail)
          have HB2 := Lib.hid (bdn HB.out nq)
          clear d1 d2 HB
          generalize wr.drewN nq = w2 at HB2 ⊢
          go_wp2
          go_ret
          exact ⟨rfl, HB2.out⟩
      · have hltz : ¬ (k : Int) < (A.length : Int) := by omega
        have hrt : r = true := by
          have h1 := HI.out
          rw [List.take_of_length_le (by omega), List.take_of_length_le (by have := HAB.out; have := HBN.out; omega)] at h1
          rw [← HR.out]
          simpa using h1
        subst hrt
        go_wp2
        go_ret
        exact ⟨rfl, HB.out⟩
  · have habz : ¬ (A.length : Int) = (B.length : Int) := by omega
    obtain rfl : r = false := by
      rw [← hr]
      simp only [decide_eq_false_iff_not]
      intro e
      exact hab (congrArg List.length e)
    clear hr h3 h4
    go_enter Tryz.func17, Tryz.ntmps17
    go_wp2
    go_ret
    exact ⟨rfl, Below.refl _ _⟩
set_option maxHeartbeats 4000000 in
set_option maxRecDepth 100000 in
theorem in_c (v : Value) (cs : List Cb) (hh hl : BitVec 64) (w : World) (hn : cs.length ≤ 1000) (hs : ∀ c ∈ cs, c.snd = true) (hv : Pl w v cs) : Calls Tryz.prog 14 #[v, .agg #[.int .u64 (uv hh), .int .u64 (uv hl)]] w (GotO w (inF (hh, hl) 0 cs)) := by
  obtain ⟨ic, hic, hcz0, hcz1, hcz2⟩ := info_parts info_int
  obtain ⟨A, cap, rfl, _, hA⟩ := hv.form
  have hz : (cs.length : Int) ≤ 1000 := by omega
  have b0 := below1 w (.cells #[.int .u64 (uv hh), .int .u64 (uv hl)] 25)
  have x0 : Blk (w.alloc (.cells #[.int .u64 (uv hh), .int .u64 (uv hl)] 25)) w.heap.size 25 #[.int .u64 (uv hh), .int .u64 (uv hl)] := Blk.new w _ _
  have b1 := below1 (w.alloc (.cells #[.int .u64 (uv hh), .int .u64 (uv hl)] 25)) (.cells #[] 3)
  have O1 := World.ownsRow_made (base := w.heap.size) (e := 3) (size := 1) (w.alloc (.cells #[.int .u64 (uv hh), .int .u64 (uv hl)] 25)) #[] 0 b0.size (Nat.zero_le _) rfl
  rw [World.size_alloc] at O1
  have HB0 := Lib.hid (b0.trans (b1.mono b0.size))
  have HX0 := Lib.hid (x0.on b1)
  have HO0 := Lib.hid O1
  have HA := Lib.hid hA
  have HS := Lib.hid hs
  clear hA hs hv b0 x0 b1 O1
  go_enter Tryz.func14, Tryz.ntmps14
  go_wp2
  go_loopg [5, 6, 7, 8] cs.length (fun gk s5 s6 _ _ wr => ∃ k : Nat, k ≤ cs.length ∧ gk = cs.length - k ∧ s6 = .int .i64 k ∧ Hid (Below w.heap.size w wr) ∧ Hid (Blk wr w.heap.size 25 #[.int .u64 (uv hh), .int .u64 (uv hl)]) ∧ Hid (wr.ownsRow w.heap.size 3 1 s5 (inF (hh, hl) 0 (cs.take k)).length (iv (inF (hh, hl) 0 (cs.take k)))))
  case atStart => exact ⟨0, Nat.zero_le _, rfl, rfl, HB0, HX0, HO0⟩
  case round =>
    clear HB0 HX0 HO0
    obtain ⟨k, hk, rfl, rfl, HB, HX, HO⟩ := hrel
    by_cases hlt : k < cs.length
    · have hltz : (k : Int) < (cs.length : Int) := by omega
      obtain ⟨c, hc⟩ : ∃ c, cs[k]? = some c := ⟨_, List.getElem?_eq_getElem hlt⟩
      obtain ⟨b, off, rfl, hb, hpc⟩ := HA.out (ne_nil_of hc)
      obtain ⟨c0, c1, c2, c3⟩ := (hpc k c hc).on HB.out
      have hsc := Lib.hid (HS.out c (List.mem_of_getElem? hc))
      have HT := Lib.hid (inF_take (x := (hh, hl)) hc)
      have hfl := Lib.hid (inF_len (hh, hl) 0 (cs.take k))
      clear hc hpc
      go_wp2_with fail
      (with_reducible refine (text_yes c wr hsc.out).mono ?_)
      rintro e w2 ⟨rfl, hb2⟩
      have B2 := Lib.hid (HB.out.trans (hb2.mono HB.out.size))
      have X2 := Lib.hid (HX.out.on hb2)
      have O2 := Lib.hid (own_on HO.out hb2)
      obtain ⟨s, hs⟩ : ∃ s, txt c = s := ⟨_, rfl⟩
      rw [hs]
      have HTX := Lib.hid hs
      have d0 := (X2.out.cell 0).trans rfl
      have d1 := (X2.out.cell 1).trans rfl
      simp only [List.getElem?_toArray, List.getElem?_cons_succ, List.getElem?_cons_zero] at d0 d1
      have hhas := rhas_s s c hh hl w2 hsc.out HTX.out
      clear hs hb2 HB HX HO c0 c1 c2 c3
      cases hq : c.has hh hl with
      | true =>
        rw [hq] at hhas
        have HT2 : Hid (inF (hh, hl) 0 (cs.take (k + 1)) = inF (hh, hl) 0 (cs.take k) ++ [(k : Int)]) := by show _ = _; rw [HT.out, if_pos hq]
        go_wp2_with fail
        (with_reducible refine hhas.mono ?_)
        rintro e w3 ⟨rfl, hb3⟩
        have B3 := Lib.hid (B2.out.trans (hb3.mono B2.out.size))
        have X3 := Lib.hid (X2.out.on hb3)
        have O3 := Lib.hid (own_on O2.out hb3)
        clear hhas hb3 B2 X2 O2 d0 d1 HT hq
        go_upto_region 7 with (fail)
        have b4 := below1 w3 (.cells #[.int .i64 (k : Int)] 3)
        have N4 : Blk (w3.alloc (.cells #[.int .i64 (k : Int)] 3)) w3.heap.size 3 #[.int .i64 (k : Int)] := Blk.new w3 _ _
        have B4 := B3.out.trans (b4.mono B3.out.size)
        have X4 := X3.out.on b4
        have O4 := own_on O3.out b4
        have S4 := src_int N4
        have hzb := B4.size
        have hf := hfl.out
        rw [List.length_take] at hf
        generalize hFF : inF (hh, hl) 0 (cs.take k) = F at O4 HT2 hf
        have hoff := X4.lt
        have hap : some w.heap.size ≠ u5.ownBlock := own_apart O4 X4 (by decide)
        clear B3 X3 O3 b4 N4 hfl
        go_wp2_with (at_builtin; refine wpList_app _ rfl (.tmp 30) (.tmp 32) 36 rfl w.heap.size 3 ic _ 1 8 Tryz.underlying36 hic hcz0 hcz1 hcz2 rfl (by decide) _ F.length (iv F) rfl O4 _ 1 (iv [(k : Int)]) rfl S4 (by unfold maxLen; omega) (by omega) hzb ?_)
        intro v5 w5 O5 hg5
        have B5 := Lib.hid (B4.grown hg5 hzb (fun j hj => (O4.lt j hj).1))
        have X5 := Lib.hid (X4.grown hg5 hap)
        have O6 : Hid (w5.ownsRow w.heap.size 3 1 v5 (inF (hh, hl) 0 (cs.take (k + 1))).length (iv (inF (hh, hl) 0 (cs.take (k + 1))))) := by
          show World.ownsRow _ _ _ _ _ _ _
          rw [HT2.out, ← iv_app, List.length_append]
          exact O5
        clear B4 X4 O4 S4 hg5 O5 hzb hf hFF HT2 hap hoff
        go_wp2
        go_roundg (cs.length - (k + 1))
        case measure => omega
        case rel => exact ⟨k + 1, by omega, rfl, by go_num, B5, X5, O6⟩
      | false =>
        rw [hq] at hhas
        have HT2 : Hid (inF (hh, hl) 0 (cs.take (k + 1)) = inF (hh, hl) 0 (cs.take k)) := by show _ = _; rw [HT.out, if_neg (by rw [hq]; simp), List.append_nil]
        go_wp2_with fail
        (with_reducible refine hhas.mono ?_)
        rintro e w3 ⟨rfl, hb3⟩
        have B3 := Lib.hid (B2.out.trans (hb3.mono B2.out.size))
        have X3 := Lib.hid (X2.out.on hb3)
        have O3 := Lib.hid (own_on O2.out hb3)
        clear hhas hb3 B2 X2 O2 d0 d1 HT hq
        go_wp2
        go_roundg (cs.length - (k + 1))
        case measure => omega
        case rel => exact ⟨k + 1, by omega, rfl, by go_num, B3, X3, by rw [HT2.out]; exact O3⟩
    · have hltz : ¬ (k : Int) < (cs.length : Int) := by omega
      obtain rfl : k = cs.length := by omega
      rw [List.take_length] at HO
      go_wp2
      go_ret
      exact ⟨_, rfl, HO.out, HB.out⟩
/-- No more than seven. -/
theorem few_c (A : Option Addr) (cap : Nat) (L : List Cb) (w : World) (hc : L.length ≤ cap) (hm : cap ≤ maxLen) : Calls Tryz.prog 9 #[.slice A L.length cap] w fun e w' => e = .returned (.slice A (L.take 7).length cap) ∧ w = w' := by
  have hcz : (L.length : Int) ≤ (cap : Int) := by omega
  have hmz : (cap : Int) ≤ 9223372036854775807 := by unfold maxLen at hm; omega
  by_cases h : L.length ≤ 7
  · have hz : ¬ (7 : Int) < (L.length : Int) := by omega
    rw [List.take_of_length_le h]
    go_enter Tryz.func9, Tryz.ntmps9
    go_wp2
    go_ret
    exact ⟨rfl, rfl⟩
  · have hz : (7 : Int) < (L.length : Int) := by omega
    have hz2 : (7 : Int) ≤ (cap : Int) := by omega
    have e : (L.take 7).length = 7 := by simp; omega
    rw [e]
    clear e
    go_enter Tryz.func9, Tryz.ntmps9
    go_wp2
    go_ret
    exact ⟨rfl, rfl⟩
set_option maxHeartbeats 4000000 in
set_option maxRecDepth 100000 in
theorem awake11_c (w : World) : Calls Tryz.prog 12 #[] w fun e w' => e = .returned (.bool true) ∧ Below w.heap.size w w' := by
  have b0 := below1 w (.cells #[.int .u64 0, .int .u64 1, .int .u64 0, .int .u64 1, .int .u64 0, .int .u64 2, .int .u64 0, .int .u64 2] 53)
  have X0 : Blk (w.alloc (.cells #[.int .u64 0, .int .u64 1, .int .u64 0, .int .u64 1, .int .u64 0, .int .u64 2, .int .u64 0, .int .u64 2] 53)) w.heap.size 53 (flat [p1, p2]).toArray := Blk.new w _ _
  have hv := pl_two (cap := 2) X0
  clear X0
  go_enter Tryz.func12, Tryz.ntmps12
  go_upto_region 2 with (fail)
  generalize (w.alloc (.cells #[.int .u64 0, .int .u64 1, .int .u64 0, .int .u64 1, .int .u64 0, .int .u64 2, .int .u64 0, .int .u64 2] 53)) = w1 at hv b0 ⊢
  have hsp := (asplit_c _ [p1, p2] w1 (by simp) (by intro c hc; simp only [List.mem_cons, List.not_mem_nil, or_false] at hc; rcases hc with rfl | rfl <;> rfl) hv).mono fun e w' h => h.1 _ aw_spl
  have B0 := Lib.hid b0
  clear hv b0
  go_wp2_with fail
  (with_reducible refine hsp.mono ?_)
  rintro e w2 ⟨v2, rfl, hA, hb⟩
  have B2 := Lib.hid (B0.out.trans (hb.mono B0.out.size))
  have HA := Lib.hid hA
  clear hsp hb B0
  obtain ⟨bs, hbs, hbl⟩ : ∃ bs, crsG 0 aw4 = some bs ∧ bs.length = 2 := by
    have h := aw_crs
    cases hq : crsG 0 aw4 with
    | none => rw [hq] at h; cases h
    | some bs => rw [hq] at h; exact ⟨bs, rfl, by simpa using h⟩
  have hcr := (acoarsen_c v2 aw4 0 w2 (by decide) (by intro a ha; simp only [aw4, List.mem_cons, List.not_mem_nil, or_false] at ha; rcases ha with rfl | rfl | rfl | rfl <;> decide) aw_snd hA).mono fun e w' h => h.1 _ hbs
  obtain ⟨A2, c2, rfl, -, hcc⟩ := hA.form
  obtain ⟨b2, o2, rfl, hlt2, hk2⟩ := hcc (by simp [aw4])
  obtain ⟨I1, I2, I3, P1, P2, P3, ⟨d0, d1, d2, d3⟩, -, -, hI2, -⟩ := (hk2 0 _ rfl).cells
  have HBL := Lib.hid hbl
  clear hA hcc hk2 hbs hbl
  go_wp2_with fail
  (with_reducible refine hcr.mono ?_)
  rintro e w3 ⟨v3, rfl, hA3, hb⟩
  have B3 := Lib.hid (B2.out.trans (hb.mono B2.out.size))
  have A3 := Lib.hid (HA.out.on hb)
  obtain ⟨M1, M3, rfl, -, -⟩ := hA3.form
  rw [HBL.out]
  have d0' := on_some hb d0
  clear hcr hb B2 HA hA3 d0 d1 d2 d3
  have hfd := afind_c _ aw4 0#64 3#64 w3 A3.out
  rw [aw_fnd, show uv 0#64 = 0 from rfl, show uv 3#64 = 3 from rfl] at hfd
  go_wp2_with fail
  (with_reducible refine hfd.mono ?_)
  rintro e w4 ⟨rfl, hb⟩
  have B4 := Lib.hid (B3.out.trans (hb.mono B3.out.size))
  have A4 := Lib.hid (A3.out.on hb)
  have e0 := on_some hb d0'
  clear hfd hb B3 A3 d0'
  have hof := of_c _ aw4 1 w4 (by decide) (by intro a ha; simp only [aw4, List.mem_cons, List.not_mem_nil, or_false] at ha; rcases ha with rfl | rfl | rfl | rfl <;> decide) A4.out
  have hI : I2 = 2 := hI2
  subst hI
  have hl4 : aw4.length = 4 := rfl
  rw [Nat.zero_mul, Nat.add_zero] at e0
  clear hI2
  rw [hl4] at hof ⊢
  go_wp2_with fail
  (with_reducible refine hof.mono ?_)
  rintro e w5 ⟨v5, rfl, hO, hb⟩
  have B5 := Lib.hid (B4.out.trans (hb.mono B4.out.size))
  have h2 : (ofL aw4 1 4).length = 2 := aw_of
  rw [h2] at hO
  obtain ⟨O1, O3, rfl⟩ : ∃ O1 O3, v5 = .slice O1 2 O3 := by
    rcases hO.2 with ⟨_, h⟩ | ⟨g', cap, cur, rfl, _⟩
    · cases h
    · exact ⟨_, _, rfl⟩
  clear hof hO hb B4 A4 e0 h2
  go_wp2
  go_ret
  exact ⟨rfl, B5.out⟩
end Go.Proofs
