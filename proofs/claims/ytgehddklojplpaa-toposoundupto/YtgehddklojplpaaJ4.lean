/-
  The contract of the reference's Far of layer 7. Conditions as each theorem lists them.
  Contract of the reference's port of layer 7. Conditions as the theorem lists them.
  Contract of the reference's port of layer 7. Conditions as the theorem lists them.
  Contract of the reference's port of layer 7. Conditions as the theorem lists them.
  Contracts of the reference's port and Sound of layer 7. Conditions as each theorem lists them.
  The contract of the reference's Edges of layer 7. Conditions as the theorem lists them.
-/
import Derived.Test.YtgehddklojplpaaJ3
namespace Go.Proofs.Hd
open Go.RowKit
/-- The links of the switches below n, and the first k ports of n. -/
def Dn (T : List (List Pt)) (n k b c w : Nat) : Prop := ∃ (L : List Pt) (i : Nat) (p : Pt), T[b]? = some L ∧ L[i]? = some p ∧ p.kind = 2 ∧ p.peer = (c : Int) ∧ p.cost = (w : Int) ∧ (b < n ∨ (b = n ∧ i < k))
theorem Dn.none (T : List (List Pt)) (b c w : Nat) : ¬ Dn T 0 0 b c w := by
  rintro ⟨_, _, _, _, _, _, _, _, h⟩; omega
theorem Dn.all {T : List (List Pt)} {b c w : Nat} (g : Gt T b c w) : Dn T T.length 0 b c w := by
  obtain ⟨L, i, p, hL, hp, hk, e1, e2⟩ := g
  exact ⟨L, i, p, hL, hp, hk, e1, e2, .inl (List.getElem?_eq_some_iff.1 hL).1⟩
theorem Dn.gt {T : List (List Pt)} {n k b c w : Nat} (d : Dn T n k b c w) : Gt T b c w := by
  obtain ⟨L, i, p, hL, hp, hk, e1, e2, _⟩ := d
  exact ⟨L, i, p, hL, hp, hk, e1, e2⟩
theorem Dn.row {T : List (List Pt)} {n b c w : Nat} {L : List Pt} (hL : T[n]? = some L) (d : Dn T (n + 1) 0 b c w) : Dn T n L.length b c w := by
  obtain ⟨L', i, p, hL', hp, hk, e1, e2, h⟩ := d
  refine ⟨L', i, p, hL', hp, hk, e1, e2, ?_⟩
  by_cases e : b = n
  · subst e
    rw [hL] at hL'
    injection hL' with hL'
    subst hL'
    exact .inr ⟨rfl, (List.getElem?_eq_some_iff.1 hp).1⟩
  · exact .inl (by omega)
theorem Dn.skip {T : List (List Pt)} {n k b c w : Nat} (d : Dn T (n + 1) 0 b c w) : Dn T n k b c w ∨ b = n := by
  obtain ⟨L', i, p, hL', hp, hk, e1, e2, h⟩ := d
  by_cases e : b = n
  · exact .inr e
  · exact .inl ⟨L', i, p, hL', hp, hk, e1, e2, .inl (by omega)⟩
theorem Dn.step {T : List (List Pt)} {n k b c w : Nat} {L : List Pt} {q : Pt} (hL : T[n]? = some L) (hq : L[k]? = some q) (d : Dn T n (k + 1) b c w) : Dn T n k b c w ∨ (b = n ∧ q.kind = 2 ∧ q.peer = (c : Int) ∧ q.cost = (w : Int)) := by
  obtain ⟨L', i, p, hL', hp, hk, e1, e2, h⟩ := d
  by_cases e : b = n ∧ i = k
  · obtain ⟨rfl, rfl⟩ := e
    rw [hL] at hL'
    injection hL' with hL'
    subst hL'
    rw [hq] at hp
    injection hp with hp
    subst hp
    exact .inr ⟨rfl, hk, e1, e2⟩
  · exact .inl ⟨L', i, p, hL', hp, hk, e1, e2, by omega⟩
/-- What lies in memory while rounds go over links. -/
structure Bd (w wi : World) (tv : Value) (N : Nat) (f : Nat → Int) : Prop where
  far : Blk wi (w.heap.size + 1) 3 (ia N f)
  box : Blk wi w.heap.size 24 #[tv]
  bel : Below w.heap.size w wi
theorem Bd.on {w wi w' : World} {tv : Value} {N : Nat} {f : Nat → Int} (h : Bd w wi tv N f) (hb : Below wi.heap.size wi w') : Bd w w' tv N f := ⟨h.far.on hb, h.box.on hb, h.bel.trans (hb.mono h.bel.size)⟩
theorem Bd.set {w wi : World} {tv : Value} {N : Nat} {f : Nat → Int} (h : Bd w wi tv N f) (k : Nat) (c : Int) : Bd w (wi.setCell ⟨w.heap.size + 1, k, none⟩ (.int .i64 c)) tv N (upd f k c) := by
  refine ⟨by rw [← ia_set]; exact h.far.set k _, h.box.far (p := ⟨w.heap.size + 1, k, none⟩) (by show w.heap.size ≠ w.heap.size + 1; omega) _, h.bel.setCell (p := ⟨w.heap.size + 1, k, none⟩) (by show w.heap.size ≤ w.heap.size + 1; omega) _⟩
theorem Bd.drew {w wi : World} {tv : Value} {N : Nat} {f : Nat → Int} (h : Bd w wi tv N f) : Bd w wi.drew tv N f := ⟨h.far, h.box, h.bel.drew⟩
theorem Bf.ge {G : Nat → Nat → Nat → Prop} {a N r : Nat} {f0 f : Nat → Int} {D : Nat → Nat → Nat → Prop} (h : Bf G a N r f0 f D) {b : Nat} (hb : b < N) : -1 ≤ f b := by
  rcases h.low b hb with e | ⟨t, e, _⟩ <;> omega
end Go.Proofs.Hd
namespace Go.Proofs
open Go.RowKit Go.Proofs.Hd Go.Lib
set_option maxRecDepth 100000 in
set_option maxHeartbeats 4000000 in
theorem rfar_c (tv : Value) (T : List (List Pt)) (a : Nat) (w : World) (hT : PsT w tv T) (hS : Snd T) (ha : a < T.length) : Calls Try.prog 16 #[.agg #[tv], .int .i64 a] w (GotF w (farL T a)) := by
  obtain ⟨A, cap, rfl, htm, hA⟩ := hT
  have h6 := hS.n6
  have htz : (T.length : Int) ≤ 6 := by omega
  have haz : (a : Int) < (T.length : Int) := by omega
  obtain ⟨tb, to, rfl, hb0, hc⟩ := hA (by rintro rfl; simp at ha)
  have HC := Lib.hid hc
  have HS := Lib.hid hS
  have hmk := make_i T.length (by omega)
  have BD : Hid (Bd w ((w.alloc (.cells #[.slice (some ⟨tb, to, none⟩) T.length cap] 24)).alloc (.cells (ia T.length (fun _ => 0)) 3)) (.slice (some ⟨tb, to, none⟩) T.length cap) T.length (mns 0)) :=
    ⟨by rw [mns_zero]; exact Blk.new2 w _ _ _, (Blk.new w _ _).on (below1 _ _), below2 w _ _⟩
  clear hA hc hS
  go_enter Try.func16, Try.ntmps16
  go_wp2
  clear hmk
  go_loopg [6] T.length (fun gk s6 wr => ∃ (k : Nat), k ≤ T.length ∧ gk = T.length - k ∧ s6 = .int .i64 k ∧ Hid (Bd w wr (.slice (some ⟨tb, to, none⟩) T.length cap) T.length (mns k)))
  case atStart => exact ⟨0, Nat.zero_le _, rfl, rfl, BD⟩
  case round =>
    clear BD
    obtain ⟨k, hk, rfl, rfl, BD⟩ := hrel
    by_cases hlt : k < T.length
    · have hltz : (k : Int) < (T.length : Int) := by omega
      have c := (BD.out.far.cell k).trans (ia_get _ _ hlt)
      have f := BD.out.far.free k
      have BD2 : Hid (Bd w (wr.setCell ⟨w.heap.size + 1, k, none⟩ (.int .i64 (-1))) (.slice (some ⟨tb, to, none⟩) T.length cap) T.length (mns (k + 1))) := by
        have h := BD.out.set k (-1)
        rw [mns_succ] at h
        exact h
      clear BD
      go_wp2
      go_roundg (T.length - (k + 1))
      case measure => omega
      case rel => exact ⟨k + 1, by omega, rfl, by go_num, BD2⟩
    · have hltz : ¬ (k : Int) < (T.length : Int) := by omega
      obtain rfl : k = T.length := by omega
      have c := (BD.out.far.cell a).trans (ia_get _ _ ha)
      have fr := BD.out.far.free a
      have BD2 : Hid (Bd w (wr.setCell ⟨w.heap.size + 1, a, none⟩ (.int .i64 0)) (.slice (some ⟨tb, to, none⟩) T.length cap) T.length (upd (fun _ => -1) a 0)) := by
        have h := BD.out.set a 0
        have e : ia T.length (upd (mns T.length) a 0) = ia T.length (upd (fun _ => -1) a 0) := by rw [← ia_set, ← ia_set, mns_all]
        exact ⟨by rw [← e]; exact h.far, h.box, h.bel⟩
      have BF : Hid (Bf (Gt T) a T.length 0 (upd (fun _ => -1) a 0) (upd (fun _ => -1) a 0) (Dn T 0 0)) := Bf.begin (upd_at _ _ _) (fun b hb => upd_ne _ _ hb) _ (Dn.none T)
      have BB : Hid (∀ b, upd (fun _ => -1) a 0 b ≤ 1000 * ((0 : Nat) * 36 : Nat)) := fun b => by
        unfold upd; split <;> simp
      clear BD
      go_wp2
      clear c fr
      generalize (wr.setCell ⟨w.heap.size + 1, a, none⟩ (.int .i64 0)) = w0 at BD2 ⊢
      go_loopg [7, 8, 9, 10] T.length (fun gr s7 _ _ _ wq => ∃ (r : Nat) (f : Nat → Int), r ≤ T.length ∧ gr = T.length - r ∧ s7 = .int .i64 r ∧ Hid (Bd w wq (.slice (some ⟨tb, to, none⟩) T.length cap) T.length f) ∧ Hid (Bf (Gt T) a T.length r f f (Dn T 0 0)) ∧ Hid (∀ b, f b ≤ 1000 * (r * 36 : Nat)))
      case atStart => exact ⟨0, _, Nat.zero_le _, rfl, rfl, BD2, BF, BB⟩
      case round =>
        clear BD2 BF BB
        obtain ⟨r, f0, hr, rfl, rfl, BD, BF, BB⟩ := hrel
        by_cases hrl : r < T.length
        · have hrlz : (r : Int) < (T.length : Int) := by omega
          go_wp2
          go_loopg [8, 9, 10] T.length (fun gn s8 _ _ wq => ∃ (n : Nat) (f : Nat → Int), n ≤ T.length ∧ gn = T.length - n ∧ s8 = .int .i64 n ∧ Hid (Bd w wq (.slice (some ⟨tb, to, none⟩) T.length cap) T.length f) ∧ Hid (Bf (Gt T) a T.length r f0 f (Dn T n 0)) ∧ Hid (∀ b, f b ≤ 1000 * (r * 36 + n * 6 : Nat)))
          case atStart => exact ⟨0, f0, Nat.zero_le _, rfl, rfl, BD, BF, fun b => by have := BB.out b; omega⟩
          case round =>
            clear BD BF BB
            obtain ⟨n, f, hn, rfl, rfl, BD, BF, BB⟩ := hrel
            have cb := BD.out.box.one
            by_cases hnl : n < T.length
            · have hnlz : (n : Int) < (T.length : Int) := by omega
              obtain ⟨L, hL⟩ : ∃ L, T[n]? = some L := ⟨_, List.getElem?_eq_getElem hnl⟩
              obtain ⟨s, hs, A1, c1, rfl, hLm, hA1⟩ := HC.out n L hL
              have hl6 : L.length ≤ 6 := HS.out.l6 L (List.mem_of_getElem? hL)
              have hLz : (L.length : Int) ≤ 6 := by omega
              have HL := Lib.hid hL
              have HA1 := Lib.hid hA1
              have HCS := Lib.hid hs
              clear hL hA1 hs
              go_wp2
              clear cb
              go_loopg [9, 10] L.length (fun gi s9 _ wq => ∃ (i : Nat) (f : Nat → Int), i ≤ L.length ∧ gi = L.length - i ∧ s9 = .int .i64 i ∧ Hid (Bd w wq (.slice (some ⟨tb, to, none⟩) T.length cap) T.length f) ∧ Hid (Bf (Gt T) a T.length r f0 f (Dn T n i)) ∧ Hid (∀ b, f b ≤ 1000 * (r * 36 + n * 6 + i : Nat)))
              case atStart => exact ⟨0, f, Nat.zero_le _, rfl, rfl, BD, BF, BB⟩
              case round =>
                clear BD BF BB f
                obtain ⟨i, f, hi, rfl, rfl, BD, BF, BB⟩ := hrel
                have cb := BD.out.box.one
                have cs := on_some BD.out.bel HCS.out
                have cn := (BD.out.far.cell n).trans (ia_get _ _ hnl)
                have bn := BB.out n
                have gn := BF.out.ge hnl
                by_cases hit : i < L.length
                · have hitz : (i : Int) < (L.length : Int) := by omega
                  by_cases hfn : 0 ≤ f n
                  · obtain ⟨q, hq⟩ : ∃ q, L[i]? = some q := ⟨_, List.getElem?_eq_getElem hit⟩
                    obtain ⟨b1, o1, rfl, _, hpc⟩ := HA1.out (by rintro rfl; simp at hit)
                    have hap := (hpc i q hq).on BD.out.bel
                    have HQ := Lib.hid hq
                    clear hpc
                    by_cases hk : q.kind = 2
                    · obtain ⟨m, j', c', L', e1, e2, e3, hc1, hc2, hmn, hmL, _⟩ := HS.out.lk n i L q HL.out hq hk
                      have hg : Gt T n m c' := ⟨L, i, q, HL.out, hq, hk, e1, e3⟩
                      have hst : ∀ b d w, Dn T n (i + 1) b d w → Dn T n i b d w ∨ (b = n ∧ d = m ∧ w = c') := fun b d w hd => by
                        rcases Dn.step HL.out hq hd with h | ⟨h1, _, h2, h3⟩
                        · exact .inl h
                        · exact .inr ⟨h1, by omega, by omega⟩
                      have hmT : m < T.length := (List.getElem?_eq_some_iff.1 hmL).1
                      have hmz : (m : Int) < (T.length : Int) := by omega
                      have HG := Lib.hid hg
                      have HST := Lib.hid hst
                      obtain ⟨kd, tn, pr, sp, co⟩ := q
                      simp only at hk e1 e2 e3
                      subst hk e1 e3
                      obtain ⟨d0, d1, d2, d3, d4⟩ := hap
                      have hb1 := below1 wr (.cells #[.int .i64 2, .int .i64 tn, .int .i64 (m : Int), .int .i64 sp, .int .i64 (c' : Int)] 35)
                      have BD1 := Lib.hid (BD.out.on hb1)
                      have NB1 : Hid (Blk (wr.alloc (.cells #[.int .i64 2, .int .i64 tn, .int .i64 (m : Int), .int .i64 sp, .int .i64 (c' : Int)] 35)) wr.heap.size 35 #[.int .i64 2, .int .i64 tn, .int .i64 (m : Int), .int .i64 sp, .int .i64 (c' : Int)]) := Blk.new wr _ _
                      have cm := (BD1.out.far.cell m).trans (ia_get _ _ hmT)
                      have cn1 := (BD1.out.far.cell n).trans (ia_get _ _ hnl)
                      have bm := BB.out m
                      have gm := BF.out.ge hmT
                      have ws : IntKind.i64.wrap (f n + (c' : Int)) = f n + (c' : Int) := by rw [IntKind.wrap_i64]; omega
                      clear hq hg hst hmL hb1 BD e2
                      by_cases hm0 : f m < 0
                      · have dm0 : decide (f m < 0) = true := decide_eq_true hm0
                        have BF2 : Hid (Bf (Gt T) a T.length r f0 (upd f m (f n + c')) (Dn T n (i + 1))) := BF.out.turn hnl HG.out hc1 hfn hmn (.inl hm0) HST.out
                        have BB2 : Hid (∀ b, upd f m (f n + c') b ≤ 1000 * (r * 36 + n * 6 + (i + 1) : Nat)) := fun b => by
                          have := BB.out b
                          unfold upd
                          split <;> omega
                        go_wp2_with fail
                        go_quiet (fail)
                        have BD2 := Lib.hid (BD1.out.on (bldrewN (Below.refl _ _) nq))
                        have NB2 := Lib.hid (NB1.out.drewN nq)
                        clear BD1 NB1 cm cn1 d0 d1 d2 d3 d4 cb cs cn BF BB
                        generalize ((wr.alloc (.cells #[.int .i64 2, .int .i64 tn, .int .i64 (m : Int), .int .i64 sp, .int .i64 (c' : Int)] 35)).drewN nq) = w1 at BD2 NB2 ⊢
                        generalize wr.heap.size = pb at NB2 ⊢
                        have cm := (BD2.out.far.cell m).trans (ia_get _ _ hmT)
                        have cn := (BD2.out.far.cell n).trans (ia_get _ _ hnl)
                        have fm := BD2.out.far.free m
                        obtain ⟨y0, y1, y2, y3, y4⟩ := NB2.out.five
                        have BD3 := Lib.hid (BD2.out.set m (f n + c')).drew
                        have mixed : Try.prog.follows Departure.mixedOrders = true := by kernel_rfl
                        clear BD2 NB2
                        go_wp2_with fail
                        go_big_region_o
                        clear y0 y1 y2 y3 y4 cm cn fm
                        generalize (w1.setCell ⟨w.heap.size + 1, m, none⟩ (.int .i64 (f n + c'))).drew = w2 at BD3 ⊢
                        go_wp2
                        go_roundg (L.length - (i + 1))
                        case measure => omega
                        case rel => exact ⟨i + 1, _, by omega, rfl, by go_num, BD3, BF2, BB2⟩
                      · have dm0 : decide (f m < 0) = false := decide_eq_false hm0
                        by_cases hm1 : f n + (c' : Int) < f m
                        · have dm1 : decide (f n + (c' : Int) < f m) = true := decide_eq_true hm1
                          have BF2 : Hid (Bf (Gt T) a T.length r f0 (upd f m (f n + c')) (Dn T n (i + 1))) := BF.out.turn hnl HG.out hc1 hfn hmn (.inr hm1) HST.out
                          have BB2 : Hid (∀ b, upd f m (f n + c') b ≤ 1000 * (r * 36 + n * 6 + (i + 1) : Nat)) := fun b => by
                            have := BB.out b
                            unfold upd
                            split <;> omega
                          go_wp2_with fail
                          go_quiet (fail)
                          have BD2 := Lib.hid (BD1.out.on (bldrewN (Below.refl _ _) nq))
                          have NB2 := Lib.hid (NB1.out.drewN nq)
                          clear BD1 NB1 cm cn1 d0 d1 d2 d3 d4 cb cs cn BF BB
                          generalize ((wr.alloc (.cells #[.int .i64 2, .int .i64 tn, .int .i64 (m : Int), .int .i64 sp, .int .i64 (c' : Int)] 35)).drewN nq) = w1 at BD2 NB2 ⊢
                          generalize wr.heap.size = pb at NB2 ⊢
                          have cm := (BD2.out.far.cell m).trans (ia_get _ _ hmT)
                          have cn := (BD2.out.far.cell n).trans (ia_get _ _ hnl)
                          have fm := BD2.out.far.free m
                          obtain ⟨y0, y1, y2, y3, y4⟩ := NB2.out.five
                          have BD3 := Lib.hid (BD2.out.set m (f n + c')).drew
                          have mixed : Try.prog.follows Departure.mixedOrders = true := by kernel_rfl
                          clear BD2 NB2
                          go_wp2_with fail
                          go_big_region_o
                          clear y0 y1 y2 y3 y4 cm cn fm
                          generalize (w1.setCell ⟨w.heap.size + 1, m, none⟩ (.int .i64 (f n + c'))).drew = w2 at BD3 ⊢
                          go_wp2
                          go_roundg (L.length - (i + 1))
                          case measure => omega
                          case rel => exact ⟨i + 1, _, by omega, rfl, by go_num, BD3, BF2, BB2⟩
                        · have dm1 : decide (f n + (c' : Int) < f m) = false := decide_eq_false hm1
                          have BF2 : Hid (Bf (Gt T) a T.length r f0 f (Dn T n (i + 1))) := BF.out.keep fun b d w hd => by
                            rcases HST.out b d w hd with h | ⟨rfl, rfl, rfl⟩
                            · exact .inl h
                            · exact .inr (.inr ⟨by omega, by omega⟩)
                          have BB2 : Hid (∀ b, f b ≤ 1000 * (r * 36 + n * 6 + (i + 1) : Nat)) := fun b => by
                            have := BB.out b; omega
                          go_wp2_with fail
                          go_quiet (fail)
                          have BD2 := Lib.hid (BD1.out.on (bldrewN (Below.refl _ _) nq))
                          clear BD1 NB1 cm cn1 d0 d1 d2 d3 d4 cb cs cn BF BB
                          generalize ((wr.alloc (.cells #[.int .i64 2, .int .i64 tn, .int .i64 (m : Int), .int .i64 sp, .int .i64 (c' : Int)] 35)).drewN nq) = w1 at BD2 ⊢
                          go_wp2
                          go_roundg (L.length - (i + 1))
                          case measure => omega
                          case rel => exact ⟨i + 1, f, by omega, rfl, by go_num, BD2, BF2, BB2⟩
                    · have BF2 : Hid (Bf (Gt T) a T.length r f0 f (Dn T n (i + 1))) := BF.out.keep fun b d w hd => by
                        rcases Dn.step HL.out hq hd with h | ⟨_, h, _⟩
                        · exact .inl h
                        · exact absurd h hk
                      have BB2 : Hid (∀ b, f b ≤ 1000 * (r * 36 + n * 6 + (i + 1) : Nat)) := fun b => by
                        have := BB.out b; omega
                      obtain ⟨kd, tn, pr, sp, co⟩ := q
                      simp only at hk
                      have hk2 : (kd == 2) = false := beq_false_of_ne hk
                      obtain ⟨d0, d1, d2, d3, d4⟩ := hap
                      have hb1 := below1 wr (.cells #[.int .i64 kd, .int .i64 tn, .int .i64 pr, .int .i64 sp, .int .i64 co] 35)
                      have BD1 := Lib.hid (BD.out.on hb1)
                      clear hq BD hb1
                      go_wp2_with fail
                      go_quiet (fail)
                      have BD2 := Lib.hid (BD1.out.on (bldrewN (Below.refl _ _) nq))
                      clear BD1 d0 d1 d2 d3 d4 cb cs cn BF BB
                      generalize ((wr.alloc (.cells #[.int .i64 kd, .int .i64 tn, .int .i64 pr, .int .i64 sp, .int .i64 co] 35)).drewN nq) = w1 at BD2 ⊢
                      go_wp2
                      go_roundg (L.length - (i + 1))
                      case measure => omega
                      case rel => exact ⟨i + 1, f, by omega, rfl, by go_num, BD2, BF2, BB2⟩
                  · have BF2 : Hid (Bf (Gt T) a T.length r f0 f (Dn T (n + 1) 0)) := BF.out.keep fun b d w hd => by
                      rcases Dn.skip hd with h | rfl
                      · exact .inl h
                      · exact .inr (.inl (by omega))
                    have BB2 : Hid (∀ b, f b ≤ 1000 * (r * 36 + (n + 1) * 6 : Nat)) := fun b => by
                      have := BB.out b; omega
                    clear BF BB
                    go_wp2
                    go_roundg (T.length - (n + 1))
                    case measure => omega
                    case rel => exact ⟨n + 1, f, by omega, rfl, by go_num, BD, BF2, BB2⟩
                · have hitz : ¬ (i : Int) < (L.length : Int) := by omega
                  obtain rfl : i = L.length := by omega
                  have BF2 : Hid (Bf (Gt T) a T.length r f0 f (Dn T (n + 1) 0)) := BF.out.keep fun b d w hd => .inl (Dn.row HL.out hd)
                  have BB2 : Hid (∀ b, f b ≤ 1000 * (r * 36 + (n + 1) * 6 : Nat)) := fun b => by
                    have := BB.out b; omega
                  clear BF BB
                  go_wp2
                  go_roundg (T.length - (n + 1))
                  case measure => omega
                  case rel => exact ⟨n + 1, f, by omega, rfl, by go_num, BD, BF2, BB2⟩
            · have hnlz : ¬ (n : Int) < (T.length : Int) := by omega
              obtain rfl : n = T.length := by omega
              have BF2 : Hid (Bf (Gt T) a T.length (r + 1) f f (Dn T 0 0)) := BF.out.next (fun b c w g => Dn.all g) (Dn.none T)
              have BB2 : Hid (∀ b, f b ≤ 1000 * ((r + 1) * 36 : Nat)) := fun b => by
                have := BB.out b; omega
              clear BF BB
              go_wp2
              go_roundg (T.length - (r + 1))
              case measure => omega
              case rel => exact ⟨r + 1, f, by omega, rfl, by go_num, BD, BF2, BB2⟩
        · have hrlz : ¬ (r : Int) < (T.length : Int) := by omega
          obtain rfl : r = T.length := by omega
          have HE : Hid (In wr (.slice (some ⟨w.heap.size + 1, 0, none⟩) T.length T.length) (farL T a)) := by
            show In _ _ _
            rw [← farL_of (BF.out.isFar ha (fun b c w g => ⟨(g.lt HS.out).1, (g.lt HS.out).2.1⟩) rfl)]
            exact In.of BD.out.far
          have HB := Lib.hid BD.out.bel
          clear BF BD BB
          go_wp2
          go_ret
          exact ⟨_, rfl, HE.out, HB.out⟩
end Go.Proofs

namespace Go.Proofs
open Go.RowKit Go.Proofs.Hd Go.Lib
set_option maxRecDepth 100000 in
set_option maxHeartbeats 1000000 in
theorem rp0a {tn pr sp co : Int} (tv : Value) (T : List (List Pt)) (n i : Nat) (L : List Pt) (w : World) (hT : PsT w tv T) (hL : T[n]? = some L) (hp : L[i]? = some (⟨0, tn, pr, sp, co⟩ : Pt)) (h : ¬ tn = 0) : Calls Try.prog 18 #[.agg #[tv], .int .i64 n, .int .i64 i] w fun e w' => e = .returned (.bool false) ∧ Below w.heap.size w w' := by
  obtain ⟨A, cap, rfl, htm, hA⟩ := hT
  have hnT := (List.getElem?_eq_some_iff.1 hL).1
  have hiL := (List.getElem?_eq_some_iff.1 hp).1
  obtain ⟨b, o, rfl, hb, hc⟩ := hA (by rintro rfl; simp at hL)
  obtain ⟨s, hs, hP⟩ := hc n L hL
  obtain ⟨A2, cap2, rfl, hLm, hP2⟩ := hP
  obtain ⟨b2, o2, rfl, hb2, hc2⟩ := hP2 (by rintro rfl; simp at hp)
  have hpc := hc2 i _ hp
  have hnz : (n : Int) < (T.length : Int) := by omega
  have hiz : (i : Int) < (L.length : Int) := by omega
  have B0 : Below w.heap.size w (w.alloc (.cells #[.slice (some ⟨b, o, none⟩) T.length cap] 24)) := below1 w _
  have B1 : Below w.heap.size w ((w.alloc (.cells #[.slice (some ⟨b, o, none⟩) T.length cap] 24)).alloc (.cells #[.int .i64 0, .int .i64 tn, .int .i64 pr, .int .i64 sp, .int .i64 co] 35)) := below2 w _ _
  have cs := on_some B0 hs
  obtain ⟨c0, c1, c2, c3, c4⟩ := hpc.on B0
  have N0 : Blk ((w.alloc (.cells #[.slice (some ⟨b, o, none⟩) T.length cap] 24)).alloc (.cells #[.int .i64 0, .int .i64 tn, .int .i64 pr, .int .i64 sp, .int .i64 co] 35)) w.heap.size 24 #[.slice (some ⟨b, o, none⟩) T.length cap] := (Blk.new w _ _).on (below1 _ _)
  have N1 : Blk ((w.alloc (.cells #[.slice (some ⟨b, o, none⟩) T.length cap] 24)).alloc (.cells #[.int .i64 0, .int .i64 tn, .int .i64 pr, .int .i64 sp, .int .i64 co] 35)) (w.heap.size + 1) 35 #[.int .i64 0, .int .i64 tn, .int .i64 pr, .int .i64 sp, .int .i64 co] := Blk.new2 w _ _ _
  have t0 := N0.one
  obtain ⟨p0, p1, p2, p3, p4⟩ := N1.five
  clear hA hs hpc hP2 hc2 hp hL N0 N1 hc
  go_enter Try.func18, Try.ntmps18
  go_wp2
  go_ret
  exact ⟨rfl, B1⟩
set_option maxRecDepth 100000 in
set_option maxHeartbeats 1000000 in
theorem rp0b {pr sp co : Int} (tv : Value) (T : List (List Pt)) (n i : Nat) (L : List Pt) (w : World) (hT : PsT w tv T) (hL : T[n]? = some L) (hp : L[i]? = some (⟨0, 0, pr, sp, co⟩ : Pt)) (h : ¬ pr = 0) : Calls Try.prog 18 #[.agg #[tv], .int .i64 n, .int .i64 i] w fun e w' => e = .returned (.bool false) ∧ Below w.heap.size w w' := by
  obtain ⟨A, cap, rfl, htm, hA⟩ := hT
  have hnT := (List.getElem?_eq_some_iff.1 hL).1
  have hiL := (List.getElem?_eq_some_iff.1 hp).1
  obtain ⟨b, o, rfl, hb, hc⟩ := hA (by rintro rfl; simp at hL)
  obtain ⟨s, hs, hP⟩ := hc n L hL
  obtain ⟨A2, cap2, rfl, hLm, hP2⟩ := hP
  obtain ⟨b2, o2, rfl, hb2, hc2⟩ := hP2 (by rintro rfl; simp at hp)
  have hpc := hc2 i _ hp
  have hnz : (n : Int) < (T.length : Int) := by omega
  have hiz : (i : Int) < (L.length : Int) := by omega
  have B0 : Below w.heap.size w (w.alloc (.cells #[.slice (some ⟨b, o, none⟩) T.length cap] 24)) := below1 w _
  have B1 : Below w.heap.size w ((w.alloc (.cells #[.slice (some ⟨b, o, none⟩) T.length cap] 24)).alloc (.cells #[.int .i64 0, .int .i64 0, .int .i64 pr, .int .i64 sp, .int .i64 co] 35)) := below2 w _ _
  have cs := on_some B0 hs
  obtain ⟨c0, c1, c2, c3, c4⟩ := hpc.on B0
  have N0 : Blk ((w.alloc (.cells #[.slice (some ⟨b, o, none⟩) T.length cap] 24)).alloc (.cells #[.int .i64 0, .int .i64 0, .int .i64 pr, .int .i64 sp, .int .i64 co] 35)) w.heap.size 24 #[.slice (some ⟨b, o, none⟩) T.length cap] := (Blk.new w _ _).on (below1 _ _)
  have N1 : Blk ((w.alloc (.cells #[.slice (some ⟨b, o, none⟩) T.length cap] 24)).alloc (.cells #[.int .i64 0, .int .i64 0, .int .i64 pr, .int .i64 sp, .int .i64 co] 35)) (w.heap.size + 1) 35 #[.int .i64 0, .int .i64 0, .int .i64 pr, .int .i64 sp, .int .i64 co] := Blk.new2 w _ _ _
  have t0 := N0.one
  obtain ⟨p0, p1, p2, p3, p4⟩ := N1.five
  clear hA hs hpc hP2 hc2 hp hL N0 N1 hc
  go_enter Try.func18, Try.ntmps18
  go_wp2
  go_ret
  exact ⟨rfl, B1⟩
set_option maxRecDepth 100000 in
set_option maxHeartbeats 1000000 in
theorem rp0c {sp co : Int} (tv : Value) (T : List (List Pt)) (n i : Nat) (L : List Pt) (w : World) (hT : PsT w tv T) (hL : T[n]? = some L) (hp : L[i]? = some (⟨0, 0, 0, sp, co⟩ : Pt)) (h : ¬ sp = 0) : Calls Try.prog 18 #[.agg #[tv], .int .i64 n, .int .i64 i] w fun e w' => e = .returned (.bool false) ∧ Below w.heap.size w w' := by
  obtain ⟨A, cap, rfl, htm, hA⟩ := hT
  have hnT := (List.getElem?_eq_some_iff.1 hL).1
  have hiL := (List.getElem?_eq_some_iff.1 hp).1
  obtain ⟨b, o, rfl, hb, hc⟩ := hA (by rintro rfl; simp at hL)
  obtain ⟨s, hs, hP⟩ := hc n L hL
  obtain ⟨A2, cap2, rfl, hLm, hP2⟩ := hP
  obtain ⟨b2, o2, rfl, hb2, hc2⟩ := hP2 (by rintro rfl; simp at hp)
  have hpc := hc2 i _ hp
  have hnz : (n : Int) < (T.length : Int) := by omega
  have hiz : (i : Int) < (L.length : Int) := by omega
  have B0 : Below w.heap.size w (w.alloc (.cells #[.slice (some ⟨b, o, none⟩) T.length cap] 24)) := below1 w _
  have B1 : Below w.heap.size w ((w.alloc (.cells #[.slice (some ⟨b, o, none⟩) T.length cap] 24)).alloc (.cells #[.int .i64 0, .int .i64 0, .int .i64 0, .int .i64 sp, .int .i64 co] 35)) := below2 w _ _
  have cs := on_some B0 hs
  obtain ⟨c0, c1, c2, c3, c4⟩ := hpc.on B0
  have N0 : Blk ((w.alloc (.cells #[.slice (some ⟨b, o, none⟩) T.length cap] 24)).alloc (.cells #[.int .i64 0, .int .i64 0, .int .i64 0, .int .i64 sp, .int .i64 co] 35)) w.heap.size 24 #[.slice (some ⟨b, o, none⟩) T.length cap] := (Blk.new w _ _).on (below1 _ _)
  have N1 : Blk ((w.alloc (.cells #[.slice (some ⟨b, o, none⟩) T.length cap] 24)).alloc (.cells #[.int .i64 0, .int .i64 0, .int .i64 0, .int .i64 sp, .int .i64 co] 35)) (w.heap.size + 1) 35 #[.int .i64 0, .int .i64 0, .int .i64 0, .int .i64 sp, .int .i64 co] := Blk.new2 w _ _ _
  have t0 := N0.one
  obtain ⟨p0, p1, p2, p3, p4⟩ := N1.five
  clear hA hs hpc hP2 hc2 hp hL N0 N1 hc
  go_enter Try.func18, Try.ntmps18
  go_wp2
  go_ret
  exact ⟨rfl, B1⟩
set_option maxRecDepth 100000 in
set_option maxHeartbeats 1000000 in
theorem rp0d {co : Int} (tv : Value) (T : List (List Pt)) (n i : Nat) (L : List Pt) (w : World) (hT : PsT w tv T) (hL : T[n]? = some L) (hp : L[i]? = some (⟨0, 0, 0, 0, co⟩ : Pt)) (h : ¬ co = 0) : Calls Try.prog 18 #[.agg #[tv], .int .i64 n, .int .i64 i] w fun e w' => e = .returned (.bool false) ∧ Below w.heap.size w w' := by
  obtain ⟨A, cap, rfl, htm, hA⟩ := hT
  have hnT := (List.getElem?_eq_some_iff.1 hL).1
  have hiL := (List.getElem?_eq_some_iff.1 hp).1
  obtain ⟨b, o, rfl, hb, hc⟩ := hA (by rintro rfl; simp at hL)
  obtain ⟨s, hs, hP⟩ := hc n L hL
  obtain ⟨A2, cap2, rfl, hLm, hP2⟩ := hP
  obtain ⟨b2, o2, rfl, hb2, hc2⟩ := hP2 (by rintro rfl; simp at hp)
  have hpc := hc2 i _ hp
  have hnz : (n : Int) < (T.length : Int) := by omega
  have hiz : (i : Int) < (L.length : Int) := by omega
  have B0 : Below w.heap.size w (w.alloc (.cells #[.slice (some ⟨b, o, none⟩) T.length cap] 24)) := below1 w _
  have B1 : Below w.heap.size w ((w.alloc (.cells #[.slice (some ⟨b, o, none⟩) T.length cap] 24)).alloc (.cells #[.int .i64 0, .int .i64 0, .int .i64 0, .int .i64 0, .int .i64 co] 35)) := below2 w _ _
  have cs := on_some B0 hs
  obtain ⟨c0, c1, c2, c3, c4⟩ := hpc.on B0
  have N0 : Blk ((w.alloc (.cells #[.slice (some ⟨b, o, none⟩) T.length cap] 24)).alloc (.cells #[.int .i64 0, .int .i64 0, .int .i64 0, .int .i64 0, .int .i64 co] 35)) w.heap.size 24 #[.slice (some ⟨b, o, none⟩) T.length cap] := (Blk.new w _ _).on (below1 _ _)
  have N1 : Blk ((w.alloc (.cells #[.slice (some ⟨b, o, none⟩) T.length cap] 24)).alloc (.cells #[.int .i64 0, .int .i64 0, .int .i64 0, .int .i64 0, .int .i64 co] 35)) (w.heap.size + 1) 35 #[.int .i64 0, .int .i64 0, .int .i64 0, .int .i64 0, .int .i64 co] := Blk.new2 w _ _ _
  have t0 := N0.one
  obtain ⟨p0, p1, p2, p3, p4⟩ := N1.five
  have e3 : (co == 0) = false := beq_false_of_ne h
  clear hA hs hpc hP2 hc2 hp hL N0 N1 hc
  go_enter Try.func18, Try.ntmps18
  go_wp2
  go_ret
  exact ⟨rfl, B1⟩
set_option maxRecDepth 100000 in
set_option maxHeartbeats 1000000 in
theorem rp0e (tv : Value) (T : List (List Pt)) (n i : Nat) (L : List Pt) (w : World) (hT : PsT w tv T) (hL : T[n]? = some L) (hp : L[i]? = some (⟨0, 0, 0, 0, 0⟩ : Pt))  : Calls Try.prog 18 #[.agg #[tv], .int .i64 n, .int .i64 i] w fun e w' => e = .returned (.bool true) ∧ Below w.heap.size w w' := by
  obtain ⟨A, cap, rfl, htm, hA⟩ := hT
  have hnT := (List.getElem?_eq_some_iff.1 hL).1
  have hiL := (List.getElem?_eq_some_iff.1 hp).1
  obtain ⟨b, o, rfl, hb, hc⟩ := hA (by rintro rfl; simp at hL)
  obtain ⟨s, hs, hP⟩ := hc n L hL
  obtain ⟨A2, cap2, rfl, hLm, hP2⟩ := hP
  obtain ⟨b2, o2, rfl, hb2, hc2⟩ := hP2 (by rintro rfl; simp at hp)
  have hpc := hc2 i _ hp
  have hnz : (n : Int) < (T.length : Int) := by omega
  have hiz : (i : Int) < (L.length : Int) := by omega
  have B0 : Below w.heap.size w (w.alloc (.cells #[.slice (some ⟨b, o, none⟩) T.length cap] 24)) := below1 w _
  have B1 : Below w.heap.size w ((w.alloc (.cells #[.slice (some ⟨b, o, none⟩) T.length cap] 24)).alloc (.cells #[.int .i64 0, .int .i64 0, .int .i64 0, .int .i64 0, .int .i64 0] 35)) := below2 w _ _
  have cs := on_some B0 hs
  obtain ⟨c0, c1, c2, c3, c4⟩ := hpc.on B0
  have N0 : Blk ((w.alloc (.cells #[.slice (some ⟨b, o, none⟩) T.length cap] 24)).alloc (.cells #[.int .i64 0, .int .i64 0, .int .i64 0, .int .i64 0, .int .i64 0] 35)) w.heap.size 24 #[.slice (some ⟨b, o, none⟩) T.length cap] := (Blk.new w _ _).on (below1 _ _)
  have N1 : Blk ((w.alloc (.cells #[.slice (some ⟨b, o, none⟩) T.length cap] 24)).alloc (.cells #[.int .i64 0, .int .i64 0, .int .i64 0, .int .i64 0, .int .i64 0] 35)) (w.heap.size + 1) 35 #[.int .i64 0, .int .i64 0, .int .i64 0, .int .i64 0, .int .i64 0] := Blk.new2 w _ _ _
  have t0 := N0.one
  obtain ⟨p0, p1, p2, p3, p4⟩ := N1.five
  clear hA hs hpc hP2 hc2 hp hL N0 N1 hc
  go_enter Try.func18, Try.ntmps18
  go_wp2
  go_ret
  exact ⟨rfl, B1⟩
set_option maxRecDepth 100000 in
set_option maxHeartbeats 1000000 in
theorem rp1a {tn pr sp co : Int} (tv : Value) (T : List (List Pt)) (n i : Nat) (L : List Pt) (w : World) (hT : PsT w tv T) (hL : T[n]? = some L) (hp : L[i]? = some (⟨1, tn, pr, sp, co⟩ : Pt)) (h : ¬ 0 ≤ tn) : Calls Try.prog 18 #[.agg #[tv], .int .i64 n, .int .i64 i] w fun e w' => e = .returned (.bool false) ∧ Below w.heap.size w w' := by
  obtain ⟨A, cap, rfl, htm, hA⟩ := hT
  have hnT := (List.getElem?_eq_some_iff.1 hL).1
  have hiL := (List.getElem?_eq_some_iff.1 hp).1
  obtain ⟨b, o, rfl, hb, hc⟩ := hA (by rintro rfl; simp at hL)
  obtain ⟨s, hs, hP⟩ := hc n L hL
  obtain ⟨A2, cap2, rfl, hLm, hP2⟩ := hP
  obtain ⟨b2, o2, rfl, hb2, hc2⟩ := hP2 (by rintro rfl; simp at hp)
  have hpc := hc2 i _ hp
  have hnz : (n : Int) < (T.length : Int) := by omega
  have hiz : (i : Int) < (L.length : Int) := by omega
  have B0 : Below w.heap.size w (w.alloc (.cells #[.slice (some ⟨b, o, none⟩) T.length cap] 24)) := below1 w _
  have B1 : Below w.heap.size w ((w.alloc (.cells #[.slice (some ⟨b, o, none⟩) T.length cap] 24)).alloc (.cells #[.int .i64 1, .int .i64 tn, .int .i64 pr, .int .i64 sp, .int .i64 co] 35)) := below2 w _ _
  have cs := on_some B0 hs
  obtain ⟨c0, c1, c2, c3, c4⟩ := hpc.on B0
  have N0 : Blk ((w.alloc (.cells #[.slice (some ⟨b, o, none⟩) T.length cap] 24)).alloc (.cells #[.int .i64 1, .int .i64 tn, .int .i64 pr, .int .i64 sp, .int .i64 co] 35)) w.heap.size 24 #[.slice (some ⟨b, o, none⟩) T.length cap] := (Blk.new w _ _).on (below1 _ _)
  have N1 : Blk ((w.alloc (.cells #[.slice (some ⟨b, o, none⟩) T.length cap] 24)).alloc (.cells #[.int .i64 1, .int .i64 tn, .int .i64 pr, .int .i64 sp, .int .i64 co] 35)) (w.heap.size + 1) 35 #[.int .i64 1, .int .i64 tn, .int .i64 pr, .int .i64 sp, .int .i64 co] := Blk.new2 w _ _ _
  have t0 := N0.one
  obtain ⟨p0, p1, p2, p3, p4⟩ := N1.five
  clear hA hs hpc hP2 hc2 hp hL N0 N1 hc
  go_enter Try.func18, Try.ntmps18
  go_wp2
  go_ret
  exact ⟨rfl, B1⟩
set_option maxRecDepth 100000 in
set_option maxHeartbeats 1000000 in
theorem rp1b {tn pr sp co : Int} (tv : Value) (T : List (List Pt)) (n i : Nat) (L : List Pt) (w : World) (hT : PsT w tv T) (hL : T[n]? = some L) (hp : L[i]? = some (⟨1, tn, pr, sp, co⟩ : Pt)) (h0 : 0 ≤ tn) (h : ¬ tn ≤ 3) : Calls Try.prog 18 #[.agg #[tv], .int .i64 n, .int .i64 i] w fun e w' => e = .returned (.bool false) ∧ Below w.heap.size w w' := by
  obtain ⟨A, cap, rfl, htm, hA⟩ := hT
  have hnT := (List.getElem?_eq_some_iff.1 hL).1
  have hiL := (List.getElem?_eq_some_iff.1 hp).1
  obtain ⟨b, o, rfl, hb, hc⟩ := hA (by rintro rfl; simp at hL)
  obtain ⟨s, hs, hP⟩ := hc n L hL
  obtain ⟨A2, cap2, rfl, hLm, hP2⟩ := hP
  obtain ⟨b2, o2, rfl, hb2, hc2⟩ := hP2 (by rintro rfl; simp at hp)
  have hpc := hc2 i _ hp
  have hnz : (n : Int) < (T.length : Int) := by omega
  have hiz : (i : Int) < (L.length : Int) := by omega
  have B0 : Below w.heap.size w (w.alloc (.cells #[.slice (some ⟨b, o, none⟩) T.length cap] 24)) := below1 w _
  have B1 : Below w.heap.size w ((w.alloc (.cells #[.slice (some ⟨b, o, none⟩) T.length cap] 24)).alloc (.cells #[.int .i64 1, .int .i64 tn, .int .i64 pr, .int .i64 sp, .int .i64 co] 35)) := below2 w _ _
  have cs := on_some B0 hs
  obtain ⟨c0, c1, c2, c3, c4⟩ := hpc.on B0
  have N0 : Blk ((w.alloc (.cells #[.slice (some ⟨b, o, none⟩) T.length cap] 24)).alloc (.cells #[.int .i64 1, .int .i64 tn, .int .i64 pr, .int .i64 sp, .int .i64 co] 35)) w.heap.size 24 #[.slice (some ⟨b, o, none⟩) T.length cap] := (Blk.new w _ _).on (below1 _ _)
  have N1 : Blk ((w.alloc (.cells #[.slice (some ⟨b, o, none⟩) T.length cap] 24)).alloc (.cells #[.int .i64 1, .int .i64 tn, .int .i64 pr, .int .i64 sp, .int .i64 co] 35)) (w.heap.size + 1) 35 #[.int .i64 1, .int .i64 tn, .int .i64 pr, .int .i64 sp, .int .i64 co] := Blk.new2 w _ _ _
  have t0 := N0.one
  obtain ⟨p0, p1, p2, p3, p4⟩ := N1.five
  clear hA hs hpc hP2 hc2 hp hL N0 N1 hc
  go_enter Try.func18, Try.ntmps18
  go_wp2
  go_ret
  exact ⟨rfl, B1⟩
set_option maxRecDepth 100000 in
set_option maxHeartbeats 1000000 in
theorem rp1c {tn pr sp co : Int} (tv : Value) (T : List (List Pt)) (n i : Nat) (L : List Pt) (w : World) (hT : PsT w tv T) (hL : T[n]? = some L) (hp : L[i]? = some (⟨1, tn, pr, sp, co⟩ : Pt)) (h0 : 0 ≤ tn) (h1 : tn ≤ 3) (h : ¬ pr = 0) : Calls Try.prog 18 #[.agg #[tv], .int .i64 n, .int .i64 i] w fun e w' => e = .returned (.bool false) ∧ Below w.heap.size w w' := by
  obtain ⟨A, cap, rfl, htm, hA⟩ := hT
  have hnT := (List.getElem?_eq_some_iff.1 hL).1
  have hiL := (List.getElem?_eq_some_iff.1 hp).1
  obtain ⟨b, o, rfl, hb, hc⟩ := hA (by rintro rfl; simp at hL)
  obtain ⟨s, hs, hP⟩ := hc n L hL
  obtain ⟨A2, cap2, rfl, hLm, hP2⟩ := hP
  obtain ⟨b2, o2, rfl, hb2, hc2⟩ := hP2 (by rintro rfl; simp at hp)
  have hpc := hc2 i _ hp
  have hnz : (n : Int) < (T.length : Int) := by omega
  have hiz : (i : Int) < (L.length : Int) := by omega
  have B0 : Below w.heap.size w (w.alloc (.cells #[.slice (some ⟨b, o, none⟩) T.length cap] 24)) := below1 w _
  have B1 : Below w.heap.size w ((w.alloc (.cells #[.slice (some ⟨b, o, none⟩) T.length cap] 24)).alloc (.cells #[.int .i64 1, .int .i64 tn, .int .i64 pr, .int .i64 sp, .int .i64 co] 35)) := below2 w _ _
  have cs := on_some B0 hs
  obtain ⟨c0, c1, c2, c3, c4⟩ := hpc.on B0
  have N0 : Blk ((w.alloc (.cells #[.slice (some ⟨b, o, none⟩) T.length cap] 24)).alloc (.cells #[.int .i64 1, .int .i64 tn, .int .i64 pr, .int .i64 sp, .int .i64 co] 35)) w.heap.size 24 #[.slice (some ⟨b, o, none⟩) T.length cap] := (Blk.new w _ _).on (below1 _ _)
  have N1 : Blk ((w.alloc (.cells #[.slice (some ⟨b, o, none⟩) T.length cap] 24)).alloc (.cells #[.int .i64 1, .int .i64 tn, .int .i64 pr, .int .i64 sp, .int .i64 co] 35)) (w.heap.size + 1) 35 #[.int .i64 1, .int .i64 tn, .int .i64 pr, .int .i64 sp, .int .i64 co] := Blk.new2 w _ _ _
  have t0 := N0.one
  obtain ⟨p0, p1, p2, p3, p4⟩ := N1.five
  clear hA hs hpc hP2 hc2 hp hL N0 N1 hc
  go_enter Try.func18, Try.ntmps18
  go_wp2
  go_ret
  exact ⟨rfl, B1⟩
set_option maxRecDepth 100000 in
set_option maxHeartbeats 1000000 in
theorem rp1d {tn sp co : Int} (tv : Value) (T : List (List Pt)) (n i : Nat) (L : List Pt) (w : World) (hT : PsT w tv T) (hL : T[n]? = some L) (hp : L[i]? = some (⟨1, tn, 0, sp, co⟩ : Pt)) (h0 : 0 ≤ tn) (h1 : tn ≤ 3) (h : ¬ sp = 0) : Calls Try.prog 18 #[.agg #[tv], .int .i64 n, .int .i64 i] w fun e w' => e = .returned (.bool false) ∧ Below w.heap.size w w' := by
  obtain ⟨A, cap, rfl, htm, hA⟩ := hT
  have hnT := (List.getElem?_eq_some_iff.1 hL).1
  have hiL := (List.getElem?_eq_some_iff.1 hp).1
  obtain ⟨b, o, rfl, hb, hc⟩ := hA (by rintro rfl; simp at hL)
  obtain ⟨s, hs, hP⟩ := hc n L hL
  obtain ⟨A2, cap2, rfl, hLm, hP2⟩ := hP
  obtain ⟨b2, o2, rfl, hb2, hc2⟩ := hP2 (by rintro rfl; simp at hp)
  have hpc := hc2 i _ hp
  have hnz : (n : Int) < (T.length : Int) := by omega
  have hiz : (i : Int) < (L.length : Int) := by omega
  have B0 : Below w.heap.size w (w.alloc (.cells #[.slice (some ⟨b, o, none⟩) T.length cap] 24)) := below1 w _
  have B1 : Below w.heap.size w ((w.alloc (.cells #[.slice (some ⟨b, o, none⟩) T.length cap] 24)).alloc (.cells #[.int .i64 1, .int .i64 tn, .int .i64 0, .int .i64 sp, .int .i64 co] 35)) := below2 w _ _
  have cs := on_some B0 hs
  obtain ⟨c0, c1, c2, c3, c4⟩ := hpc.on B0
  have N0 : Blk ((w.alloc (.cells #[.slice (some ⟨b, o, none⟩) T.length cap] 24)).alloc (.cells #[.int .i64 1, .int .i64 tn, .int .i64 0, .int .i64 sp, .int .i64 co] 35)) w.heap.size 24 #[.slice (some ⟨b, o, none⟩) T.length cap] := (Blk.new w _ _).on (below1 _ _)
  have N1 : Blk ((w.alloc (.cells #[.slice (some ⟨b, o, none⟩) T.length cap] 24)).alloc (.cells #[.int .i64 1, .int .i64 tn, .int .i64 0, .int .i64 sp, .int .i64 co] 35)) (w.heap.size + 1) 35 #[.int .i64 1, .int .i64 tn, .int .i64 0, .int .i64 sp, .int .i64 co] := Blk.new2 w _ _ _
  have t0 := N0.one
  obtain ⟨p0, p1, p2, p3, p4⟩ := N1.five
  clear hA hs hpc hP2 hc2 hp hL N0 N1 hc
  go_enter Try.func18, Try.ntmps18
  go_wp2
  go_ret
  exact ⟨rfl, B1⟩
set_option maxRecDepth 100000 in
set_option maxHeartbeats 1000000 in
theorem rp1e {tn co : Int} (tv : Value) (T : List (List Pt)) (n i : Nat) (L : List Pt) (w : World) (hT : PsT w tv T) (hL : T[n]? = some L) (hp : L[i]? = some (⟨1, tn, 0, 0, co⟩ : Pt)) (h0 : 0 ≤ tn) (h1 : tn ≤ 3) (h : ¬ co = 0) : Calls Try.prog 18 #[.agg #[tv], .int .i64 n, .int .i64 i] w fun e w' => e = .returned (.bool false) ∧ Below w.heap.size w w' := by
  obtain ⟨A, cap, rfl, htm, hA⟩ := hT
  have hnT := (List.getElem?_eq_some_iff.1 hL).1
  have hiL := (List.getElem?_eq_some_iff.1 hp).1
  obtain ⟨b, o, rfl, hb, hc⟩ := hA (by rintro rfl; simp at hL)
  obtain ⟨s, hs, hP⟩ := hc n L hL
  obtain ⟨A2, cap2, rfl, hLm, hP2⟩ := hP
  obtain ⟨b2, o2, rfl, hb2, hc2⟩ := hP2 (by rintro rfl; simp at hp)
  have hpc := hc2 i _ hp
  have hnz : (n : Int) < (T.length : Int) := by omega
  have hiz : (i : Int) < (L.length : Int) := by omega
  have B0 : Below w.heap.size w (w.alloc (.cells #[.slice (some ⟨b, o, none⟩) T.length cap] 24)) := below1 w _
  have B1 : Below w.heap.size w ((w.alloc (.cells #[.slice (some ⟨b, o, none⟩) T.length cap] 24)).alloc (.cells #[.int .i64 1, .int .i64 tn, .int .i64 0, .int .i64 0, .int .i64 co] 35)) := below2 w _ _
  have cs := on_some B0 hs
  obtain ⟨c0, c1, c2, c3, c4⟩ := hpc.on B0
  have N0 : Blk ((w.alloc (.cells #[.slice (some ⟨b, o, none⟩) T.length cap] 24)).alloc (.cells #[.int .i64 1, .int .i64 tn, .int .i64 0, .int .i64 0, .int .i64 co] 35)) w.heap.size 24 #[.slice (some ⟨b, o, none⟩) T.length cap] := (Blk.new w _ _).on (below1 _ _)
  have N1 : Blk ((w.alloc (.cells #[.slice (some ⟨b, o, none⟩) T.length cap] 24)).alloc (.cells #[.int .i64 1, .int .i64 tn, .int .i64 0, .int .i64 0, .int .i64 co] 35)) (w.heap.size + 1) 35 #[.int .i64 1, .int .i64 tn, .int .i64 0, .int .i64 0, .int .i64 co] := Blk.new2 w _ _ _
  have t0 := N0.one
  obtain ⟨p0, p1, p2, p3, p4⟩ := N1.five
  have e3 : (co == 0) = false := beq_false_of_ne h
  clear hA hs hpc hP2 hc2 hp hL N0 N1 hc
  go_enter Try.func18, Try.ntmps18
  go_wp2
  go_ret
  exact ⟨rfl, B1⟩
set_option maxRecDepth 100000 in
set_option maxHeartbeats 1000000 in
theorem rp1f {tn : Int} (tv : Value) (T : List (List Pt)) (n i : Nat) (L : List Pt) (w : World) (hT : PsT w tv T) (hL : T[n]? = some L) (hp : L[i]? = some (⟨1, tn, 0, 0, 0⟩ : Pt)) (h0 : 0 ≤ tn) (h1 : tn ≤ 3) : Calls Try.prog 18 #[.agg #[tv], .int .i64 n, .int .i64 i] w fun e w' => e = .returned (.bool true) ∧ Below w.heap.size w w' := by
  obtain ⟨A, cap, rfl, htm, hA⟩ := hT
  have hnT := (List.getElem?_eq_some_iff.1 hL).1
  have hiL := (List.getElem?_eq_some_iff.1 hp).1
  obtain ⟨b, o, rfl, hb, hc⟩ := hA (by rintro rfl; simp at hL)
  obtain ⟨s, hs, hP⟩ := hc n L hL
  obtain ⟨A2, cap2, rfl, hLm, hP2⟩ := hP
  obtain ⟨b2, o2, rfl, hb2, hc2⟩ := hP2 (by rintro rfl; simp at hp)
  have hpc := hc2 i _ hp
  have hnz : (n : Int) < (T.length : Int) := by omega
  have hiz : (i : Int) < (L.length : Int) := by omega
  have B0 : Below w.heap.size w (w.alloc (.cells #[.slice (some ⟨b, o, none⟩) T.length cap] 24)) := below1 w _
  have B1 : Below w.heap.size w ((w.alloc (.cells #[.slice (some ⟨b, o, none⟩) T.length cap] 24)).alloc (.cells #[.int .i64 1, .int .i64 tn, .int .i64 0, .int .i64 0, .int .i64 0] 35)) := below2 w _ _
  have cs := on_some B0 hs
  obtain ⟨c0, c1, c2, c3, c4⟩ := hpc.on B0
  have N0 : Blk ((w.alloc (.cells #[.slice (some ⟨b, o, none⟩) T.length cap] 24)).alloc (.cells #[.int .i64 1, .int .i64 tn, .int .i64 0, .int .i64 0, .int .i64 0] 35)) w.heap.size 24 #[.slice (some ⟨b, o, none⟩) T.length cap] := (Blk.new w _ _).on (below1 _ _)
  have N1 : Blk ((w.alloc (.cells #[.slice (some ⟨b, o, none⟩) T.length cap] 24)).alloc (.cells #[.int .i64 1, .int .i64 tn, .int .i64 0, .int .i64 0, .int .i64 0] 35)) (w.heap.size + 1) 35 #[.int .i64 1, .int .i64 tn, .int .i64 0, .int .i64 0, .int .i64 0] := Blk.new2 w _ _ _
  have t0 := N0.one
  obtain ⟨p0, p1, p2, p3, p4⟩ := N1.five
  clear hA hs hpc hP2 hc2 hp hL N0 N1 hc
  go_enter Try.func18, Try.ntmps18
  go_wp2
  go_ret
  exact ⟨rfl, B1⟩
set_option maxRecDepth 100000 in
set_option maxHeartbeats 1000000 in
theorem rp2a {kd tn pr sp co : Int} (tv : Value) (T : List (List Pt)) (n i : Nat) (L : List Pt) (w : World) (hT : PsT w tv T) (hL : T[n]? = some L) (hp : L[i]? = some (⟨kd, tn, pr, sp, co⟩ : Pt)) (h0 : ¬ kd = 0) (h1 : ¬ kd = 1) (h : ¬ kd = 2) : Calls Try.prog 18 #[.agg #[tv], .int .i64 n, .int .i64 i] w fun e w' => e = .returned (.bool false) ∧ Below w.heap.size w w' := by
  obtain ⟨A, cap, rfl, htm, hA⟩ := hT
  have hnT := (List.getElem?_eq_some_iff.1 hL).1
  have hiL := (List.getElem?_eq_some_iff.1 hp).1
  obtain ⟨b, o, rfl, hb, hc⟩ := hA (by rintro rfl; simp at hL)
  obtain ⟨s, hs, hP⟩ := hc n L hL
  obtain ⟨A2, cap2, rfl, hLm, hP2⟩ := hP
  obtain ⟨b2, o2, rfl, hb2, hc2⟩ := hP2 (by rintro rfl; simp at hp)
  have hpc := hc2 i _ hp
  have hnz : (n : Int) < (T.length : Int) := by omega
  have hiz : (i : Int) < (L.length : Int) := by omega
  have B0 : Below w.heap.size w (w.alloc (.cells #[.slice (some ⟨b, o, none⟩) T.length cap] 24)) := below1 w _
  have B1 : Below w.heap.size w ((w.alloc (.cells #[.slice (some ⟨b, o, none⟩) T.length cap] 24)).alloc (.cells #[.int .i64 kd, .int .i64 tn, .int .i64 pr, .int .i64 sp, .int .i64 co] 35)) := below2 w _ _
  have cs := on_some B0 hs
  obtain ⟨c0, c1, c2, c3, c4⟩ := hpc.on B0
  have N0 : Blk ((w.alloc (.cells #[.slice (some ⟨b, o, none⟩) T.length cap] 24)).alloc (.cells #[.int .i64 kd, .int .i64 tn, .int .i64 pr, .int .i64 sp, .int .i64 co] 35)) w.heap.size 24 #[.slice (some ⟨b, o, none⟩) T.length cap] := (Blk.new w _ _).on (below1 _ _)
  have N1 : Blk ((w.alloc (.cells #[.slice (some ⟨b, o, none⟩) T.length cap] 24)).alloc (.cells #[.int .i64 kd, .int .i64 tn, .int .i64 pr, .int .i64 sp, .int .i64 co] 35)) (w.heap.size + 1) 35 #[.int .i64 kd, .int .i64 tn, .int .i64 pr, .int .i64 sp, .int .i64 co] := Blk.new2 w _ _ _
  have t0 := N0.one
  obtain ⟨p0, p1, p2, p3, p4⟩ := N1.five
  have e2 : (kd == 2) = false := beq_false_of_ne h
  have e3 : (kd != 2) = true := by simp [h]
  clear hA hs hpc hP2 hc2 hp hL N0 N1 hc
  go_enter Try.func18, Try.ntmps18
  go_wp2_with fail
  go_quiet (fail)
  go_wp2
  go_ret
  exact ⟨rfl, bldrewN B1 _⟩
set_option maxRecDepth 100000 in
set_option maxHeartbeats 1000000 in
theorem rp2b {tn pr sp co : Int} (tv : Value) (T : List (List Pt)) (n i : Nat) (L : List Pt) (w : World) (hT : PsT w tv T) (hL : T[n]? = some L) (hp : L[i]? = some (⟨2, tn, pr, sp, co⟩ : Pt)) (h : ¬ tn = 0) : Calls Try.prog 18 #[.agg #[tv], .int .i64 n, .int .i64 i] w fun e w' => e = .returned (.bool false) ∧ Below w.heap.size w w' := by
  obtain ⟨A, cap, rfl, htm, hA⟩ := hT
  have hnT := (List.getElem?_eq_some_iff.1 hL).1
  have hiL := (List.getElem?_eq_some_iff.1 hp).1
  obtain ⟨b, o, rfl, hb, hc⟩ := hA (by rintro rfl; simp at hL)
  obtain ⟨s, hs, hP⟩ := hc n L hL
  obtain ⟨A2, cap2, rfl, hLm, hP2⟩ := hP
  obtain ⟨b2, o2, rfl, hb2, hc2⟩ := hP2 (by rintro rfl; simp at hp)
  have hpc := hc2 i _ hp
  have hnz : (n : Int) < (T.length : Int) := by omega
  have hiz : (i : Int) < (L.length : Int) := by omega
  have B0 : Below w.heap.size w (w.alloc (.cells #[.slice (some ⟨b, o, none⟩) T.length cap] 24)) := below1 w _
  have B1 : Below w.heap.size w ((w.alloc (.cells #[.slice (some ⟨b, o, none⟩) T.length cap] 24)).alloc (.cells #[.int .i64 2, .int .i64 tn, .int .i64 pr, .int .i64 sp, .int .i64 co] 35)) := below2 w _ _
  have cs := on_some B0 hs
  obtain ⟨c0, c1, c2, c3, c4⟩ := hpc.on B0
  have N0 : Blk ((w.alloc (.cells #[.slice (some ⟨b, o, none⟩) T.length cap] 24)).alloc (.cells #[.int .i64 2, .int .i64 tn, .int .i64 pr, .int .i64 sp, .int .i64 co] 35)) w.heap.size 24 #[.slice (some ⟨b, o, none⟩) T.length cap] := (Blk.new w _ _).on (below1 _ _)
  have N1 : Blk ((w.alloc (.cells #[.slice (some ⟨b, o, none⟩) T.length cap] 24)).alloc (.cells #[.int .i64 2, .int .i64 tn, .int .i64 pr, .int .i64 sp, .int .i64 co] 35)) (w.heap.size + 1) 35 #[.int .i64 2, .int .i64 tn, .int .i64 pr, .int .i64 sp, .int .i64 co] := Blk.new2 w _ _ _
  have t0 := N0.one
  obtain ⟨p0, p1, p2, p3, p4⟩ := N1.five
  have e3 : (tn != 0) = true := by simp [h]
  clear hA hs hpc hP2 hc2 hp hL N0 N1 hc
  go_enter Try.func18, Try.ntmps18
  go_wp2_with fail
  go_quiet (fail)
  go_wp2
  go_ret
  exact ⟨rfl, bldrewN B1 _⟩
end Go.Proofs

namespace Go.Proofs
open Go.RowKit Go.Proofs.Hd Go.Lib
set_option maxRecDepth 100000 in
set_option maxHeartbeats 1000000 in
theorem rp2c {pr sp co : Int} (tv : Value) (T : List (List Pt)) (n i : Nat) (L : List Pt) (w : World) (hT : PsT w tv T) (hL : T[n]? = some L) (hp : L[i]? = some (⟨2, 0, pr, sp, co⟩ : Pt)) (h3 : co < 1) : Calls Try.prog 18 #[.agg #[tv], .int .i64 n, .int .i64 i] w fun e w' => e = .returned (.bool false) ∧ Below w.heap.size w w' := by
  obtain ⟨A, cap, rfl, htm, hA⟩ := hT
  have hnT := (List.getElem?_eq_some_iff.1 hL).1
  have hiL := (List.getElem?_eq_some_iff.1 hp).1
  obtain ⟨b, o, rfl, hb, hc⟩ := hA (by rintro rfl; simp at hL)
  obtain ⟨s, hs, hP⟩ := hc n L hL
  obtain ⟨A2, cap2, rfl, hLm, hP2⟩ := hP
  obtain ⟨b2, o2, rfl, hb2, hc2⟩ := hP2 (by rintro rfl; simp at hp)
  have hpc := hc2 i _ hp
  have hnz : (n : Int) < (T.length : Int) := by omega
  have hiz : (i : Int) < (L.length : Int) := by omega
  have B0 : Below w.heap.size w (w.alloc (.cells #[.slice (some ⟨b, o, none⟩) T.length cap] 24)) := below1 w _
  have B1 : Below w.heap.size w ((w.alloc (.cells #[.slice (some ⟨b, o, none⟩) T.length cap] 24)).alloc (.cells #[.int .i64 2, .int .i64 0, .int .i64 pr, .int .i64 sp, .int .i64 co] 35)) := below2 w _ _
  have cs := on_some B0 hs
  obtain ⟨c0, c1, c2, c3, c4⟩ := hpc.on B0
  have N0 : Blk ((w.alloc (.cells #[.slice (some ⟨b, o, none⟩) T.length cap] 24)).alloc (.cells #[.int .i64 2, .int .i64 0, .int .i64 pr, .int .i64 sp, .int .i64 co] 35)) w.heap.size 24 #[.slice (some ⟨b, o, none⟩) T.length cap] := (Blk.new w _ _).on (below1 _ _)
  have N1 : Blk ((w.alloc (.cells #[.slice (some ⟨b, o, none⟩) T.length cap] 24)).alloc (.cells #[.int .i64 2, .int .i64 0, .int .i64 pr, .int .i64 sp, .int .i64 co] 35)) (w.heap.size + 1) 35 #[.int .i64 2, .int .i64 0, .int .i64 pr, .int .i64 sp, .int .i64 co] := Blk.new2 w _ _ _
  have t0 := N0.one
  obtain ⟨p0, p1, p2, p3, p4⟩ := N1.five
  have dh3 : decide (co < 1) = true := decide_eq_true h3
  clear hA hs hpc hP2 hc2 hp hL N0 N1 hc
  go_enter Try.func18, Try.ntmps18
  go_wp2_with fail
  go_quiet (fail)
  go_wp2
  go_ret
  exact ⟨rfl, bldrewN B1 _⟩
set_option maxRecDepth 100000 in
set_option maxHeartbeats 1000000 in
theorem rp2d {pr sp co : Int} (tv : Value) (T : List (List Pt)) (n i : Nat) (L : List Pt) (w : World) (hT : PsT w tv T) (hL : T[n]? = some L) (hp : L[i]? = some (⟨2, 0, pr, sp, co⟩ : Pt)) (h3 : ¬ co < 1) (h4 : 1000 < co) : Calls Try.prog 18 #[.agg #[tv], .int .i64 n, .int .i64 i] w fun e w' => e = .returned (.bool false) ∧ Below w.heap.size w w' := by
  obtain ⟨A, cap, rfl, htm, hA⟩ := hT
  have hnT := (List.getElem?_eq_some_iff.1 hL).1
  have hiL := (List.getElem?_eq_some_iff.1 hp).1
  obtain ⟨b, o, rfl, hb, hc⟩ := hA (by rintro rfl; simp at hL)
  obtain ⟨s, hs, hP⟩ := hc n L hL
  obtain ⟨A2, cap2, rfl, hLm, hP2⟩ := hP
  obtain ⟨b2, o2, rfl, hb2, hc2⟩ := hP2 (by rintro rfl; simp at hp)
  have hpc := hc2 i _ hp
  have hnz : (n : Int) < (T.length : Int) := by omega
  have hiz : (i : Int) < (L.length : Int) := by omega
  have B0 : Below w.heap.size w (w.alloc (.cells #[.slice (some ⟨b, o, none⟩) T.length cap] 24)) := below1 w _
  have B1 : Below w.heap.size w ((w.alloc (.cells #[.slice (some ⟨b, o, none⟩) T.length cap] 24)).alloc (.cells #[.int .i64 2, .int .i64 0, .int .i64 pr, .int .i64 sp, .int .i64 co] 35)) := below2 w _ _
  have cs := on_some B0 hs
  obtain ⟨c0, c1, c2, c3, c4⟩ := hpc.on B0
  have N0 : Blk ((w.alloc (.cells #[.slice (some ⟨b, o, none⟩) T.length cap] 24)).alloc (.cells #[.int .i64 2, .int .i64 0, .int .i64 pr, .int .i64 sp, .int .i64 co] 35)) w.heap.size 24 #[.slice (some ⟨b, o, none⟩) T.length cap] := (Blk.new w _ _).on (below1 _ _)
  have N1 : Blk ((w.alloc (.cells #[.slice (some ⟨b, o, none⟩) T.length cap] 24)).alloc (.cells #[.int .i64 2, .int .i64 0, .int .i64 pr, .int .i64 sp, .int .i64 co] 35)) (w.heap.size + 1) 35 #[.int .i64 2, .int .i64 0, .int .i64 pr, .int .i64 sp, .int .i64 co] := Blk.new2 w _ _ _
  have t0 := N0.one
  obtain ⟨p0, p1, p2, p3, p4⟩ := N1.five
  have dh3 : decide (co < 1) = false := decide_eq_false h3
  have dh4 : decide (1000 < co) = true := decide_eq_true h4
  clear hA hs hpc hP2 hc2 hp hL N0 N1 hc
  go_enter Try.func18, Try.ntmps18
  go_wp2_with fail
  go_quiet (fail)
  go_wp2
  go_ret
  exact ⟨rfl, bldrewN B1 _⟩
set_option maxRecDepth 100000 in
set_option maxHeartbeats 1000000 in
theorem rp2e {pr sp co : Int} (tv : Value) (T : List (List Pt)) (n i : Nat) (L : List Pt) (w : World) (hT : PsT w tv T) (hL : T[n]? = some L) (hp : L[i]? = some (⟨2, 0, pr, sp, co⟩ : Pt)) (h3 : ¬ co < 1) (h4 : ¬ 1000 < co) (h5 : pr < 0) : Calls Try.prog 18 #[.agg #[tv], .int .i64 n, .int .i64 i] w fun e w' => e = .returned (.bool false) ∧ Below w.heap.size w w' := by
  obtain ⟨A, cap, rfl, htm, hA⟩ := hT
  have hnT := (List.getElem?_eq_some_iff.1 hL).1
  have hiL := (List.getElem?_eq_some_iff.1 hp).1
  obtain ⟨b, o, rfl, hb, hc⟩ := hA (by rintro rfl; simp at hL)
  obtain ⟨s, hs, hP⟩ := hc n L hL
  obtain ⟨A2, cap2, rfl, hLm, hP2⟩ := hP
  obtain ⟨b2, o2, rfl, hb2, hc2⟩ := hP2 (by rintro rfl; simp at hp)
  have hpc := hc2 i _ hp
  have hnz : (n : Int) < (T.length : Int) := by omega
  have hiz : (i : Int) < (L.length : Int) := by omega
  have B0 : Below w.heap.size w (w.alloc (.cells #[.slice (some ⟨b, o, none⟩) T.length cap] 24)) := below1 w _
  have B1 : Below w.heap.size w ((w.alloc (.cells #[.slice (some ⟨b, o, none⟩) T.length cap] 24)).alloc (.cells #[.int .i64 2, .int .i64 0, .int .i64 pr, .int .i64 sp, .int .i64 co] 35)) := below2 w _ _
  have cs := on_some B0 hs
  obtain ⟨c0, c1, c2, c3, c4⟩ := hpc.on B0
  have N0 : Blk ((w.alloc (.cells #[.slice (some ⟨b, o, none⟩) T.length cap] 24)).alloc (.cells #[.int .i64 2, .int .i64 0, .int .i64 pr, .int .i64 sp, .int .i64 co] 35)) w.heap.size 24 #[.slice (some ⟨b, o, none⟩) T.length cap] := (Blk.new w _ _).on (below1 _ _)
  have N1 : Blk ((w.alloc (.cells #[.slice (some ⟨b, o, none⟩) T.length cap] 24)).alloc (.cells #[.int .i64 2, .int .i64 0, .int .i64 pr, .int .i64 sp, .int .i64 co] 35)) (w.heap.size + 1) 35 #[.int .i64 2, .int .i64 0, .int .i64 pr, .int .i64 sp, .int .i64 co] := Blk.new2 w _ _ _
  have t0 := N0.one
  obtain ⟨p0, p1, p2, p3, p4⟩ := N1.five
  have dh3 : decide (co < 1) = false := decide_eq_false h3
  have dh4 : decide (1000 < co) = false := decide_eq_false h4
  have dh5 : decide (pr < 0) = true := decide_eq_true h5
  clear hA hs hpc hP2 hc2 hp hL N0 N1 hc
  go_enter Try.func18, Try.ntmps18
  go_wp2_with fail
  go_quiet (fail)
  go_wp2
  go_ret
  exact ⟨rfl, bldrewN B1 _⟩
set_option maxRecDepth 100000 in
set_option maxHeartbeats 1000000 in
theorem rp2f {pr sp co : Int} (tv : Value) (T : List (List Pt)) (n i : Nat) (L : List Pt) (w : World) (hT : PsT w tv T) (hL : T[n]? = some L) (hp : L[i]? = some (⟨2, 0, pr, sp, co⟩ : Pt)) (h3 : ¬ co < 1) (h4 : ¬ 1000 < co) (h5 : ¬ pr < 0) (h6 : (T.length : Int) ≤ pr) : Calls Try.prog 18 #[.agg #[tv], .int .i64 n, .int .i64 i] w fun e w' => e = .returned (.bool false) ∧ Below w.heap.size w w' := by
  obtain ⟨A, cap, rfl, htm, hA⟩ := hT
  have hnT := (List.getElem?_eq_some_iff.1 hL).1
  have hiL := (List.getElem?_eq_some_iff.1 hp).1
  obtain ⟨b, o, rfl, hb, hc⟩ := hA (by rintro rfl; simp at hL)
  obtain ⟨s, hs, hP⟩ := hc n L hL
  obtain ⟨A2, cap2, rfl, hLm, hP2⟩ := hP
  obtain ⟨b2, o2, rfl, hb2, hc2⟩ := hP2 (by rintro rfl; simp at hp)
  have hpc := hc2 i _ hp
  have hnz : (n : Int) < (T.length : Int) := by omega
  have hiz : (i : Int) < (L.length : Int) := by omega
  have B0 : Below w.heap.size w (w.alloc (.cells #[.slice (some ⟨b, o, none⟩) T.length cap] 24)) := below1 w _
  have B1 : Below w.heap.size w ((w.alloc (.cells #[.slice (some ⟨b, o, none⟩) T.length cap] 24)).alloc (.cells #[.int .i64 2, .int .i64 0, .int .i64 pr, .int .i64 sp, .int .i64 co] 35)) := below2 w _ _
  have cs := on_some B0 hs
  obtain ⟨c0, c1, c2, c3, c4⟩ := hpc.on B0
  have N0 : Blk ((w.alloc (.cells #[.slice (some ⟨b, o, none⟩) T.length cap] 24)).alloc (.cells #[.int .i64 2, .int .i64 0, .int .i64 pr, .int .i64 sp, .int .i64 co] 35)) w.heap.size 24 #[.slice (some ⟨b, o, none⟩) T.length cap] := (Blk.new w _ _).on (below1 _ _)
  have N1 : Blk ((w.alloc (.cells #[.slice (some ⟨b, o, none⟩) T.length cap] 24)).alloc (.cells #[.int .i64 2, .int .i64 0, .int .i64 pr, .int .i64 sp, .int .i64 co] 35)) (w.heap.size + 1) 35 #[.int .i64 2, .int .i64 0, .int .i64 pr, .int .i64 sp, .int .i64 co] := Blk.new2 w _ _ _
  have t0 := N0.one
  obtain ⟨p0, p1, p2, p3, p4⟩ := N1.five
  have dh3 : decide (co < 1) = false := decide_eq_false h3
  have dh4 : decide (1000 < co) = false := decide_eq_false h4
  have dh5 : decide (pr < 0) = false := decide_eq_false h5
  have dh6 : decide ((T.length : Int) ≤ pr) = true := decide_eq_true h6
  clear hA hs hpc hP2 hc2 hp hL N0 N1 hc
  go_enter Try.func18, Try.ntmps18
  go_wp2_with fail
  go_quiet (fail)
  go_wp2
  go_ret
  exact ⟨rfl, bldrewN B1 _⟩
set_option maxRecDepth 100000 in
set_option maxHeartbeats 1000000 in
theorem rp2g {sp co : Int} (tv : Value) (T : List (List Pt)) (n i : Nat) (L : List Pt) (w : World) (hT : PsT w tv T) (hL : T[n]? = some L) (hp : L[i]? = some (⟨2, 0, (n : Int), sp, co⟩ : Pt)) (h3 : ¬ co < 1) (h4 : ¬ 1000 < co) : Calls Try.prog 18 #[.agg #[tv], .int .i64 n, .int .i64 i] w fun e w' => e = .returned (.bool false) ∧ Below w.heap.size w w' := by
  obtain ⟨A, cap, rfl, htm, hA⟩ := hT
  have hnT := (List.getElem?_eq_some_iff.1 hL).1
  have hiL := (List.getElem?_eq_some_iff.1 hp).1
  obtain ⟨b, o, rfl, hb, hc⟩ := hA (by rintro rfl; simp at hL)
  obtain ⟨s, hs, hP⟩ := hc n L hL
  obtain ⟨A2, cap2, rfl, hLm, hP2⟩ := hP
  obtain ⟨b2, o2, rfl, hb2, hc2⟩ := hP2 (by rintro rfl; simp at hp)
  have hpc := hc2 i _ hp
  have hnz : (n : Int) < (T.length : Int) := by omega
  have hiz : (i : Int) < (L.length : Int) := by omega
  have B0 : Below w.heap.size w (w.alloc (.cells #[.slice (some ⟨b, o, none⟩) T.length cap] 24)) := below1 w _
  have B1 : Below w.heap.size w ((w.alloc (.cells #[.slice (some ⟨b, o, none⟩) T.length cap] 24)).alloc (.cells #[.int .i64 2, .int .i64 0, .int .i64 (n : Int), .int .i64 sp, .int .i64 co] 35)) := below2 w _ _
  have cs := on_some B0 hs
  obtain ⟨c0, c1, c2, c3, c4⟩ := hpc.on B0
  have N0 : Blk ((w.alloc (.cells #[.slice (some ⟨b, o, none⟩) T.length cap] 24)).alloc (.cells #[.int .i64 2, .int .i64 0, .int .i64 (n : Int), .int .i64 sp, .int .i64 co] 35)) w.heap.size 24 #[.slice (some ⟨b, o, none⟩) T.length cap] := (Blk.new w _ _).on (below1 _ _)
  have N1 : Blk ((w.alloc (.cells #[.slice (some ⟨b, o, none⟩) T.length cap] 24)).alloc (.cells #[.int .i64 2, .int .i64 0, .int .i64 (n : Int), .int .i64 sp, .int .i64 co] 35)) (w.heap.size + 1) 35 #[.int .i64 2, .int .i64 0, .int .i64 (n : Int), .int .i64 sp, .int .i64 co] := Blk.new2 w _ _ _
  have t0 := N0.one
  obtain ⟨p0, p1, p2, p3, p4⟩ := N1.five
  have dh3 : decide (co < 1) = false := decide_eq_false h3
  have dh4 : decide (1000 < co) = false := decide_eq_false h4
  have d5 : decide ((n : Int) < 0) = false := decide_eq_false (by omega)
  have d6 : decide ((T.length : Int) ≤ (n : Int)) = false := decide_eq_false (by omega)
  have d6' : decide (T.length ≤ n) = false := decide_eq_false (by omega)
  clear hA hs hpc hP2 hc2 hp hL N0 N1 hc
  go_enter Try.func18, Try.ntmps18
  go_wp2_with fail
  go_quiet (fail)
  go_wp2
  go_ret
  exact ⟨rfl, bldrewN B1 _⟩
set_option maxRecDepth 100000 in
set_option maxHeartbeats 1000000 in
theorem rp2h {sp co : Int} {m : Nat} (tv : Value) (T : List (List Pt)) (n i : Nat) (L : List Pt) (w : World) (hT : PsT w tv T) (hL : T[n]? = some L) (hp : L[i]? = some (⟨2, 0, (m : Int), sp, co⟩ : Pt)) (h3 : ¬ co < 1) (h4 : ¬ 1000 < co) (hm : m < T.length) (hmn : m ≠ n) (h8 : sp < 0) : Calls Try.prog 18 #[.agg #[tv], .int .i64 n, .int .i64 i] w fun e w' => e = .returned (.bool false) ∧ Below w.heap.size w w' := by
  obtain ⟨A, cap, rfl, htm, hA⟩ := hT
  have hnT := (List.getElem?_eq_some_iff.1 hL).1
  have hiL := (List.getElem?_eq_some_iff.1 hp).1
  obtain ⟨b, o, rfl, hb, hc⟩ := hA (by rintro rfl; simp at hL)
  obtain ⟨s, hs, hP⟩ := hc n L hL
  obtain ⟨A2, cap2, rfl, hLm, hP2⟩ := hP
  obtain ⟨b2, o2, rfl, hb2, hc2⟩ := hP2 (by rintro rfl; simp at hp)
  have hpc := hc2 i _ hp
  have hnz : (n : Int) < (T.length : Int) := by omega
  have hiz : (i : Int) < (L.length : Int) := by omega
  have B0 : Below w.heap.size w (w.alloc (.cells #[.slice (some ⟨b, o, none⟩) T.length cap] 24)) := below1 w _
  have B1 : Below w.heap.size w ((w.alloc (.cells #[.slice (some ⟨b, o, none⟩) T.length cap] 24)).alloc (.cells #[.int .i64 2, .int .i64 0, .int .i64 (m : Int), .int .i64 sp, .int .i64 co] 35)) := below2 w _ _
  have cs := on_some B0 hs
  obtain ⟨c0, c1, c2, c3, c4⟩ := hpc.on B0
  have N0 : Blk ((w.alloc (.cells #[.slice (some ⟨b, o, none⟩) T.length cap] 24)).alloc (.cells #[.int .i64 2, .int .i64 0, .int .i64 (m : Int), .int .i64 sp, .int .i64 co] 35)) w.heap.size 24 #[.slice (some ⟨b, o, none⟩) T.length cap] := (Blk.new w _ _).on (below1 _ _)
  have N1 : Blk ((w.alloc (.cells #[.slice (some ⟨b, o, none⟩) T.length cap] 24)).alloc (.cells #[.int .i64 2, .int .i64 0, .int .i64 (m : Int), .int .i64 sp, .int .i64 co] 35)) (w.heap.size + 1) 35 #[.int .i64 2, .int .i64 0, .int .i64 (m : Int), .int .i64 sp, .int .i64 co] := Blk.new2 w _ _ _
  have t0 := N0.one
  obtain ⟨p0, p1, p2, p3, p4⟩ := N1.five
  have dh3 : decide (co < 1) = false := decide_eq_false h3
  have dh4 : decide (1000 < co) = false := decide_eq_false h4
  have d5 : decide ((m : Int) < 0) = false := decide_eq_false (by omega)
  have d6 : decide ((T.length : Int) ≤ (m : Int)) = false := decide_eq_false (by omega)
  have d6' : decide (T.length ≤ m) = false := decide_eq_false (by omega)
  have d7 : ((m : Int) == (n : Int)) = false := beq_false_of_ne (by omega)
  have d7' : ¬ m = n := by omega
  have d7'' : (m == n) = false := beq_false_of_ne d7'
  have dh8 : decide (sp < 0) = true := decide_eq_true h8
  clear hA hs hpc hP2 hc2 hp hL N0 N1 hc
  go_enter Try.func18, Try.ntmps18
  go_wp2_with fail
  go_quiet (fail)
  go_wp2
  go_ret
  exact ⟨rfl, bldrewN B1 _⟩
set_option maxRecDepth 100000 in
set_option maxHeartbeats 1000000 in
theorem rp2i {sp co : Int} {m : Nat} (tv : Value) (T : List (List Pt)) (n i : Nat) (L : List Pt) (w : World) (hT : PsT w tv T) (hL : T[n]? = some L) (hp : L[i]? = some (⟨2, 0, (m : Int), sp, co⟩ : Pt)) (h3 : ¬ co < 1) (h4 : ¬ 1000 < co) (L' : List Pt) (hL' : T[m]? = some L') (hm : m < T.length) (hmn : m ≠ n) (h8 : ¬ sp < 0) (h9 : (L'.length : Int) ≤ sp) : Calls Try.prog 18 #[.agg #[tv], .int .i64 n, .int .i64 i] w fun e w' => e = .returned (.bool false) ∧ Below w.heap.size w w' := by
  obtain ⟨A, cap, rfl, htm, hA⟩ := hT
  have hnT := (List.getElem?_eq_some_iff.1 hL).1
  have hiL := (List.getElem?_eq_some_iff.1 hp).1
  obtain ⟨b, o, rfl, hb, hc⟩ := hA (by rintro rfl; simp at hL)
  obtain ⟨s, hs, hP⟩ := hc n L hL
  obtain ⟨A2, cap2, rfl, hLm, hP2⟩ := hP
  obtain ⟨b2, o2, rfl, hb2, hc2⟩ := hP2 (by rintro rfl; simp at hp)
  have hpc := hc2 i _ hp
  have hnz : (n : Int) < (T.length : Int) := by omega
  have hiz : (i : Int) < (L.length : Int) := by omega
  have B0 : Below w.heap.size w (w.alloc (.cells #[.slice (some ⟨b, o, none⟩) T.length cap] 24)) := below1 w _
  have B1 : Below w.heap.size w ((w.alloc (.cells #[.slice (some ⟨b, o, none⟩) T.length cap] 24)).alloc (.cells #[.int .i64 2, .int .i64 0, .int .i64 (m : Int), .int .i64 sp, .int .i64 co] 35)) := below2 w _ _
  have cs := on_some B0 hs
  obtain ⟨c0, c1, c2, c3, c4⟩ := hpc.on B0
  have N0 : Blk ((w.alloc (.cells #[.slice (some ⟨b, o, none⟩) T.length cap] 24)).alloc (.cells #[.int .i64 2, .int .i64 0, .int .i64 (m : Int), .int .i64 sp, .int .i64 co] 35)) w.heap.size 24 #[.slice (some ⟨b, o, none⟩) T.length cap] := (Blk.new w _ _).on (below1 _ _)
  have N1 : Blk ((w.alloc (.cells #[.slice (some ⟨b, o, none⟩) T.length cap] 24)).alloc (.cells #[.int .i64 2, .int .i64 0, .int .i64 (m : Int), .int .i64 sp, .int .i64 co] 35)) (w.heap.size + 1) 35 #[.int .i64 2, .int .i64 0, .int .i64 (m : Int), .int .i64 sp, .int .i64 co] := Blk.new2 w _ _ _
  have t0 := N0.one
  obtain ⟨p0, p1, p2, p3, p4⟩ := N1.five
  have dh3 : decide (co < 1) = false := decide_eq_false h3
  have dh4 : decide (1000 < co) = false := decide_eq_false h4
  have d5 : decide ((m : Int) < 0) = false := decide_eq_false (by omega)
  have d6 : decide ((T.length : Int) ≤ (m : Int)) = false := decide_eq_false (by omega)
  have d6' : decide (T.length ≤ m) = false := decide_eq_false (by omega)
  have d7 : ((m : Int) == (n : Int)) = false := beq_false_of_ne (by omega)
  have d7' : ¬ m = n := by omega
  have d7'' : (m == n) = false := beq_false_of_ne d7'
  have dh8 : decide (sp < 0) = false := decide_eq_false h8
  have dh9 : decide ((L'.length : Int) ≤ sp) = true := decide_eq_true h9
  have hmz : (m : Int) < (T.length : Int) := by omega
  obtain ⟨s', hs', A3, cap3, rfl, hLm', hP3⟩ := hc m L' hL'
  have cs' := on_some B1 hs'
  clear hP3 hs' hc
  clear hA hs hpc hP2 hc2 hp hL N0 N1
  go_enter Try.func18, Try.ntmps18
  go_wp2_with fail
  go_quiet (fail)
  go_wp2
  go_ret
  exact ⟨rfl, bldrewN B1 _⟩
end Go.Proofs

namespace Go.Proofs
open Go.RowKit Go.Proofs.Hd Go.Lib
set_option maxRecDepth 100000 in
set_option maxHeartbeats 1000000 in
theorem rp3 {co : Int} {m j : Nat} (tv : Value) (T : List (List Pt)) (n i : Nat) (L : List Pt) (w : World) (hT : PsT w tv T) (hL : T[n]? = some L) (hp : L[i]? = some (⟨2, 0, (m : Int), (j : Int), co⟩ : Pt)) (h3 : ¬ co < 1) (h4 : ¬ 1000 < co) (L' : List Pt) (hL' : T[m]? = some L') (hm : m < T.length) (hmn : m ≠ n) (qk qt qp qs qc : Int) (hq : L'[j]? = some (⟨qk, qt, qp, qs, qc⟩ : Pt)) (x : Bool) (hx : eqP ⟨qk, qt, qp, qs, qc⟩ ⟨2, 0, (n : Int), (i : Int), co⟩ = x) : Calls Try.prog 18 #[.agg #[tv], .int .i64 n, .int .i64 i] w fun e w' => e = .returned (.bool x) ∧ Below w.heap.size w w' := by
  obtain ⟨A, cap, rfl, htm, hA⟩ := hT
  have hnT := (List.getElem?_eq_some_iff.1 hL).1
  have hiL := (List.getElem?_eq_some_iff.1 hp).1
  obtain ⟨b, o, rfl, hb, hc⟩ := hA (by rintro rfl; simp at hL)
  obtain ⟨s, hs, hP⟩ := hc n L hL
  obtain ⟨A2, cap2, rfl, hLm, hP2⟩ := hP
  obtain ⟨b2, o2, rfl, hb2, hc2⟩ := hP2 (by rintro rfl; simp at hp)
  have hpc := hc2 i _ hp
  have hnz : (n : Int) < (T.length : Int) := by omega
  have hiz : (i : Int) < (L.length : Int) := by omega
  have B0 : Below w.heap.size w (w.alloc (.cells #[.slice (some ⟨b, o, none⟩) T.length cap] 24)) := below1 w _
  have B1 : Below w.heap.size w ((w.alloc (.cells #[.slice (some ⟨b, o, none⟩) T.length cap] 24)).alloc (.cells #[.int .i64 2, .int .i64 0, .int .i64 (m : Int), .int .i64 (j : Int), .int .i64 co] 35)) := below2 w _ _
  have cs := on_some B0 hs
  obtain ⟨c0, c1, c2, c3, c4⟩ := hpc.on B0
  have N0 : Blk ((w.alloc (.cells #[.slice (some ⟨b, o, none⟩) T.length cap] 24)).alloc (.cells #[.int .i64 2, .int .i64 0, .int .i64 (m : Int), .int .i64 (j : Int), .int .i64 co] 35)) w.heap.size 24 #[.slice (some ⟨b, o, none⟩) T.length cap] := (Blk.new w _ _).on (below1 _ _)
  have N1 : Blk ((w.alloc (.cells #[.slice (some ⟨b, o, none⟩) T.length cap] 24)).alloc (.cells #[.int .i64 2, .int .i64 0, .int .i64 (m : Int), .int .i64 (j : Int), .int .i64 co] 35)) (w.heap.size + 1) 35 #[.int .i64 2, .int .i64 0, .int .i64 (m : Int), .int .i64 (j : Int), .int .i64 co] := Blk.new2 w _ _ _
  have t0 := N0.one
  obtain ⟨p0, p1, p2, p3, p4⟩ := N1.five
  have dh3 : decide (co < 1) = false := decide_eq_false h3
  have dh4 : decide (1000 < co) = false := decide_eq_false h4
  have d5 : decide ((m : Int) < 0) = false := decide_eq_false (by omega)
  have d6 : decide ((T.length : Int) ≤ (m : Int)) = false := decide_eq_false (by omega)
  have d6' : decide (T.length ≤ m) = false := decide_eq_false (by omega)
  have d7 : ((m : Int) == (n : Int)) = false := beq_false_of_ne (by omega)
  have d7' : ¬ m = n := by omega
  have d7'' : (m == n) = false := beq_false_of_ne d7'
  have hmz : (m : Int) < (T.length : Int) := by omega
  obtain ⟨s', hs', A3, cap3, rfl, hLm', hP3⟩ := hc m L' hL'
  have cs' := on_some B1 hs'
  obtain ⟨b3, o3, rfl, hb3, hc3⟩ := hP3 (by rintro rfl; simp at hq)
  have hjL := (List.getElem?_eq_some_iff.1 hq).1
  have hjz : (j : Int) < (L'.length : Int) := by omega
  have d8 : decide ((j : Int) < 0) = false := decide_eq_false (by omega)
  have d9 : decide ((L'.length : Int) ≤ (j : Int)) = false := decide_eq_false (by omega)
  have d9' : decide (L'.length ≤ j) = false := decide_eq_false (by omega)
  have HQ := Lib.hid (hc3 j _ hq)
  have HN1 := Lib.hid N1
  clear hs' hc hc3 hq hL'
  clear hA hs hpc hP2 hc2 hp hL N0 N1
  go_enter Try.func18, Try.ntmps18
  go_wp2_with fail
  go_quiet (fail)
  have HB := Lib.hid (bldrewN B1 nq)
  have t0' := on_some (bldrewN (Below.refl _ _) nq) t0
  have p2' := on_some (bldrewN (Below.refl _ _) nq) p2
  have p3' := on_some (bldrewN (Below.refl _ _) nq) p3
  have cs'' := on_some (bldrewN (Below.refl _ _) nq) cs'
  have HN := Lib.hid (HN1.out.drewN nq)
  clear B1 t0 p0 p1 p2 p3 p4 cs cs' HN1 c0 c1 c2 c3 c4
  generalize ((w.alloc (.cells #[.slice (some ⟨b, o, none⟩) T.length cap] 24)).alloc (.cells #[.int .i64 2, .int .i64 0, .int .i64 (m : Int), .int .i64 (j : Int), .int .i64 co] 35)).drewN nq = w1 at HB t0' p2' p3' cs'' HN ⊢
  clear nq
  have hbz := below1 w1 (.cells #[.int .i64 0, .int .i64 0, .int .i64 0, .int .i64 0, .int .i64 0] 35)
  obtain ⟨q0, q1, q2, q3, q4⟩ := HQ.out.on (HB.out.trans (hbz.mono HB.out.size))
  have t1 := on_some hbz t0'
  have p21 := on_some hbz p2'
  have p31 := on_some hbz p3'
  have cs1 := on_some hbz cs''
  have p4' := (HN.out.five).2.2.2.2
  have N2 : Blk (w1.alloc (.cells #[.int .i64 0, .int .i64 0, .int .i64 0, .int .i64 0, .int .i64 0] 35)) w1.heap.size 35 #[.int .i64 0, .int .i64 0, .int .i64 0, .int .i64 0, .int .i64 0] := Blk.new w1 _ _
  have B5 := (below1 w1 (.cells #[.int .i64 qk, .int .i64 qt, .int .i64 qp, .int .i64 qs, .int .i64 qc] 35)).drew
  have K : Blk (w1.alloc (.cells #[.int .i64 qk, .int .i64 qt, .int .i64 qp, .int .i64 qs, .int .i64 qc] 35)).drew w1.heap.size 35 #[.int .i64 qk, .int .i64 qt, .int .i64 qp, .int .i64 qs, .int .i64 qc] := (Blk.new w1 _ _).drew1
  have f0 := N2.free 0
  have f1 := N2.free 1
  have f2 := N2.free 2
  have f3 := N2.free 3
  have f4 := N2.free 4
  obtain ⟨y0, y1, y2, y3, y4⟩ := N2.five
  have p5 := on_some B5 p4'
  have HK := Lib.hid K
  have HB5 := Lib.hid (HB.out.trans (B5.mono HB.out.size))
  obtain ⟨r0, r1, r2, r3, r4⟩ := HQ.out.on HB.out
  clear N2 K B5 hbz p4' HB HN HQ
  have mixed : Try.prog.follows Departure.mixedOrders = true := by kernel_rfl
  go_wp2_with fail
  go_big_region_o
  clear f0 f1 f2 f3 f4 y0 y1 y2 y3 y4 q0 q1 q2 q3 q4 t1 p21 p31 cs1 r0 r1 r2 r3 r4 t0' p2' p3' cs''
  generalize (w1.alloc (.cells #[.int .i64 qk, .int .i64 qt, .int .i64 qp, .int .i64 qs, .int .i64 qc] 35)).drew = w5 at HK HB5 p5 ⊢
  obtain ⟨z0, z1, z2, z3, z4⟩ := HK.out.five
  by_cases k0 : qk = 2
  · subst k0
    by_cases k1 : qp = (n : Int)
    · subst k1
      by_cases k2 : qs = (i : Int)
      · subst k2
        by_cases k3 : qc = co
        · subst k3
          by_cases k4 : qt = 0
          · subst k4
            have hx2 : x = true := by rw [← hx]; exact eqP_self _
            subst hx2
            go_wp2
            go_ret
            exact ⟨rfl, HB5.out⟩
          · have hx2 : x = false := by rw [← hx]; simp [eqP, k4]
            have e3 : (qt == 0) = false := beq_false_of_ne k4
            subst hx2
            go_wp2
            go_ret
            exact ⟨rfl, HB5.out⟩
        · have hx2 : x = false := by rw [← hx]; simp [eqP, k3]
          have e3 : (qc == co) = false := beq_false_of_ne k3
          subst hx2
          go_wp2
          go_ret
          exact ⟨rfl, HB5.out⟩
      · have hx2 : x = false := by rw [← hx]; simp [eqP, k2]
        have e3 : (qs == (i : Int)) = false := beq_false_of_ne k2
        subst hx2
        go_wp2
        go_ret
        exact ⟨rfl, HB5.out⟩
    · have hx2 : x = false := by rw [← hx]; simp [eqP, k1]
      have e3 : (qp == (n : Int)) = false := beq_false_of_ne k1
      subst hx2
      go_wp2
      go_ret
      exact ⟨rfl, HB5.out⟩
  · have hx2 : x = false := by rw [← hx]; simp [eqP, k0]
    have e3 : (qk == 2) = false := beq_false_of_ne k0
    subst hx2
    go_wp2
    go_ret
    exact ⟨rfl, HB5.out⟩
end Go.Proofs

namespace Go.Proofs
open Go.RowKit Go.Proofs.Hd Go.Lib
theorem rport_c (x : Bool) (tv : Value) (T : List (List Pt)) (n i : Nat) (L : List Pt) (p : Pt) (w : World) (hT : PsT w tv T) (hL : T[n]? = some L) (hp : L[i]? = some p) (hx : okP T n i p = x) : Calls Try.prog 18 #[.agg #[tv], .int .i64 n, .int .i64 i] w fun e w' => e = .returned (.bool x) ∧ Below w.heap.size w w' := by
  obtain ⟨kd, tn, pr, sp, co⟩ := p
  unfold okP at hx
  dsimp only at hx
  by_cases k0 : kd = 0
  · subst k0
    rw [if_neg (by decide), if_neg (by decide)] at hx
    by_cases h1 : tn = 0
    · subst h1
      by_cases h2 : pr = 0
      · subst h2
        by_cases h3 : sp = 0
        · subst h3
          by_cases h4 : co = 0
          · subst h4
            obtain rfl : x = true := by rw [← hx]; exact eqP_self _
            exact rp0e tv T n i L w hT hL hp
          · obtain rfl : x = false := by rw [← hx]; simp [eqP, h4]
            exact rp0d tv T n i L w hT hL hp h4
        · obtain rfl : x = false := by rw [← hx]; simp [eqP, h3]
          exact rp0c tv T n i L w hT hL hp h3
      · obtain rfl : x = false := by rw [← hx]; simp [eqP, h2]
        exact rp0b tv T n i L w hT hL hp h2
    · obtain rfl : x = false := by rw [← hx]; simp [eqP, h1]
      exact rp0a tv T n i L w hT hL hp h1
  by_cases k1 : kd = 1
  · subst k1
    rw [if_pos rfl] at hx
    by_cases h1 : 0 ≤ tn
    · by_cases h2 : tn ≤ 3
      · have hb : inB tn 4 = true := by simp [inB]; omega
        rw [hb, Bool.true_and] at hx
        by_cases h3 : pr = 0
        · subst h3
          by_cases h4 : sp = 0
          · subst h4
            by_cases h5 : co = 0
            · subst h5
              obtain rfl : x = true := by rw [← hx]; exact eqP_self _
              exact rp1f tv T n i L w hT hL hp h1 h2
            · obtain rfl : x = false := by rw [← hx]; simp [eqP, h5]
              exact rp1e tv T n i L w hT hL hp h1 h2 h5
          · obtain rfl : x = false := by rw [← hx]; simp [eqP, h4]
            exact rp1d tv T n i L w hT hL hp h1 h2 h4
        · obtain rfl : x = false := by rw [← hx]; simp [eqP, h3]
          exact rp1c tv T n i L w hT hL hp h1 h2 h3
      · obtain rfl : x = false := by
          have hb : inB tn 4 = false := by simp [inB]; omega
          rw [← hx, hb]; rfl
        exact rp1b tv T n i L w hT hL hp h1 h2
    · obtain rfl : x = false := by
        have hb : inB tn 4 = false := by simp [inB]; omega
        rw [← hx, hb]; rfl
      exact rp1a tv T n i L w hT hL hp h1
  rw [if_neg k1] at hx
  by_cases k2 : kd = 2
  · subst k2
    rw [if_pos rfl] at hx
    by_cases h1 : tn = 0
    · subst h1
      by_cases h3 : co < 1
      · obtain rfl : x = false := by rw [← hx, decide_eq_false (by omega : ¬ 1 ≤ co)]; simp
        exact rp2c tv T n i L w hT hL hp h3
      by_cases h4 : 1000 < co
      · obtain rfl : x = false := by rw [← hx, decide_eq_false (by omega : ¬ co ≤ 1000)]; simp
        exact rp2d tv T n i L w hT hL hp h3 h4
      rw [decide_eq_true (by omega : 1 ≤ co), decide_eq_true (by omega : co ≤ 1000)] at hx
      simp only [decide_true, Bool.true_and] at hx
      by_cases h5 : pr < 0
      · obtain rfl : x = false := by
          have hn : ptAt T pr sp = none := ptAt_far1 (by simp [inB]; omega)
          rw [← hx]; simp [ansP, hn]
        exact rp2e tv T n i L w hT hL hp h3 h4 h5
      by_cases h6 : (T.length : Int) ≤ pr
      · obtain rfl : x = false := by
          have hn : ptAt T pr sp = none := ptAt_far1 (by simp [inB]; omega)
          rw [← hx]; simp [ansP, hn]
        exact rp2f tv T n i L w hT hL hp h3 h4 h5 h6
      obtain ⟨m, rfl⟩ : ∃ m : Nat, pr = (m : Int) := ⟨pr.toNat, by omega⟩
      by_cases h7 : m = n
      · subst h7
        obtain rfl : x = false := by
          rw [← hx]
          unfold ansP
          cases ptAt T (m : Int) sp <;> simp
        exact rp2g tv T m i L w hT hL hp h3 h4
      have hm : m < T.length := by omega
      have hL' : T[m]? = some T[m] := List.getElem?_eq_getElem hm
      generalize T[m] = L' at hL'
      by_cases h8 : sp < 0
      · obtain rfl : x = false := by
          have hn : ptAt T (m : Int) sp = none := ptAt_far2 hL' (by simp [inB]; omega)
          rw [← hx]; simp [ansP, hn]
        exact rp2h tv T n i L w hT hL hp h3 h4 hm h7 h8
      by_cases h9 : (L'.length : Int) ≤ sp
      · obtain rfl : x = false := by
          have hn : ptAt T (m : Int) sp = none := ptAt_far2 hL' (by simp [inB]; omega)
          rw [← hx]; simp [ansP, hn]
        exact rp2i tv T n i L w hT hL hp h3 h4 L' hL' hm h7 h8 h9
      obtain ⟨j, rfl⟩ : ∃ j : Nat, sp = (j : Int) := ⟨sp.toNat, by omega⟩
      have hj : j < L'.length := by omega
      have hq : L'[j]? = some L'[j] := List.getElem?_eq_getElem hj
      generalize L'[j] = q at hq
      obtain ⟨qk, qt, qp, qs, qc⟩ := q
      have hx2 : eqP ⟨qk, qt, qp, qs, qc⟩ ⟨2, 0, (n : Int), (i : Int), co⟩ = x := by
        rw [← hx]
        unfold ansP
        simp only [ptAt_nat hL' hq]
        have : ((m : Int) == (n : Int)) = false := beq_false_of_ne (by omega)
        rw [this]; rfl
      exact rp3 tv T n i L w hT hL hp h3 h4 L' hL' hm h7 qk qt qp qs qc hq x hx2
    · obtain rfl : x = false := by rw [← hx]; simp [h1]
      exact rp2b tv T n i L w hT hL hp h1
  · obtain rfl : x = false := by rw [← hx, if_neg k2]; simp [eqP, k0]
    exact rp2a tv T n i L w hT hL hp k0 k1 k2
set_option maxRecDepth 100000 in
set_option maxHeartbeats 2000000 in
theorem rtsound_c (tv : Value) (T : List (List Pt)) (w : World) (hT : PsT w tv T) : Calls Try.prog 8 #[.agg #[tv]] w fun e w' => e = .returned (.int .i64 (sTp T)) ∧ Below w.heap.size w w' := by
  have HT := Lib.hid hT
  obtain ⟨A, cap, rfl, htm, hA⟩ := hT
  have HB := Lib.hid (below1 w (.cells #[.slice A T.length cap] 24))
  have NB : Hid (Blk (w.alloc (.cells #[.slice A T.length cap] 24)) w.heap.size 24 #[.slice A T.length cap]) := Blk.new w _ _
  have htz : (T.length : Int) ≤ 9223372036854775807 := by unfold maxLen at htm; omega
  by_cases h1 : 1 ≤ T.length
  · by_cases h6 : T.length ≤ 6
    · have hz1 : ¬ (T.length : Int) < 1 := by omega
      have hz6 : ¬ (6 : Int) < (T.length : Int) := by omega
      obtain ⟨b, o, rfl, hb0, hc⟩ := hA (by rintro rfl; simp at h1)
      have HC := Lib.hid hc
      clear hc hA
      go_enter Try.func8, Try.ntmps8
      go_wp2
      go_loopg [3] T.length (fun gk s3 wr => ∃ (k : Nat), k ≤ T.length ∧ gk = T.length - k ∧ s3 = .int .i64 k ∧ Hid (∀ j L, j < k → T[j]? = some L → L.length ≤ 6) ∧ Hid (Blk wr w.heap.size 24 #[.slice (some ⟨b, o, none⟩) T.length cap]) ∧ Hid (Below w.heap.size w wr))
      case atStart => exact ⟨0, Nat.zero_le _, rfl, rfl, fun j L hj => absurd hj (Nat.not_lt_zero _), NB, HB⟩
      case round =>
        clear HB NB
        obtain ⟨k, hk, rfl, rfl, HN, NB, HW⟩ := hrel
        have cb := NB.out.one
        by_cases hlt : k < T.length
        · have hltz : (k : Int) < (T.length : Int) := by omega
          obtain ⟨L, hTL⟩ : ∃ L, T[k]? = some L := ⟨_, List.getElem?_eq_getElem hlt⟩
          obtain ⟨s, hcell0, A1, c1, rfl, _⟩ := HC.out k L hTL
          have hcell := on_some HW.out hcell0
          have HTL := Lib.hid hTL
          clear hTL hcell0
          by_cases hl6 : L.length ≤ 6
          · have hl6z : ¬ (6 : Int) < (L.length : Int) := by omega
            have HN2 : Hid (∀ j L, j < k + 1 → T[j]? = some L → L.length ≤ 6) := fun j L' hj hL' => by
              by_cases e : j = k
              · subst e
                rw [HTL.out] at hL'
                injection hL' with hL'
                subst hL'
                exact hl6
              · exact HN.out j L' (by omega) hL'
            clear HN
            go_wp2
            go_roundg (T.length - (k + 1))
            case measure => omega
            case rel => exact ⟨k + 1, by omega, rfl, by go_num, HN2, NB, HW⟩
          · have hl6z : (6 : Int) < (L.length : Int) := by omega
            have HE : Hid (sTp T = 4) := sTp_range (by
              cases hs : szT T with
              | false => rfl
              | true => exact absurd ((szT_iff.1 hs).2.2 L (List.mem_of_getElem? HTL.out)) hl6)
            clear HN
            go_wp2
            go_ret
            exact ⟨by rw [HE.out]; rfl, HW.out⟩
        · have hltz : ¬ (k : Int) < (T.length : Int) := by omega
          have hs : Hid (szT T = true) := szT_iff.2 ⟨h1, h6, fun L hL => by
            obtain ⟨j, hj⟩ := List.getElem?_of_mem hL
            have := (List.getElem?_eq_some_iff.1 hj).1
            exact HN.out j L (by omega) hj⟩
          clear HN
          go_wp2
          clear cb
          go_loopg [4, 5] T.length (fun gn s4 _ wn => ∃ (n : Nat), n ≤ T.length ∧ gn = T.length - n ∧ s4 = .int .i64 n ∧ Hid (okTo T n) ∧ Hid (Blk wn w.heap.size 24 #[.slice (some ⟨b, o, none⟩) T.length cap]) ∧ Hid (Below w.heap.size w wn))
          case atStart => exact ⟨0, Nat.zero_le _, rfl, rfl, fun n i L p hn => absurd hn (Nat.not_lt_zero _), NB, HW⟩
          case round =>
            clear HW NB
            obtain ⟨n, hn, rfl, rfl, HO, NB, HB⟩ := hrel
            have cb := NB.out.one
            by_cases hnt : n < T.length
            · have hntz : (n : Int) < (T.length : Int) := by omega
              obtain ⟨L, hTL⟩ : ∃ L, T[n]? = some L := ⟨_, List.getElem?_eq_getElem hnt⟩
              obtain ⟨s, hcell0, A1, c1, rfl, hLm, hA1⟩ := HC.out n L hTL
              have HCE := Lib.hid hcell0
              have HTL := Lib.hid hTL
              have hLz : (L.length : Int) ≤ 6 := by have := (szT_iff.1 hs.out).2.2 L (List.mem_of_getElem? hTL); omega
              clear hTL hcell0 hA1
              go_wp2
              clear cb
              go_loopg [5] L.length (fun gi s5 wi => ∃ (i : Nat), i ≤ L.length ∧ gi = L.length - i ∧ s5 = .int .i64 i ∧ Hid (okUp T n L i) ∧ Hid (Blk wi w.heap.size 24 #[.slice (some ⟨b, o, none⟩) T.length cap]) ∧ Hid (Below w.heap.size w wi))
              case atStart => exact ⟨0, Nat.zero_le _, rfl, rfl, fun i p hi => absurd hi (Nat.not_lt_zero _), NB, HB⟩
              case round =>
                clear HB NB
                obtain ⟨i, hi, rfl, rfl, HI, NB, HB⟩ := hrel
                have cb := NB.out.one
                have hcell := on_some HB.out HCE.out
                by_cases hit : i < L.length
                · have hitz : (i : Int) < (L.length : Int) := by omega
                  obtain ⟨p, hp⟩ : ∃ p, L[i]? = some p := ⟨_, List.getElem?_eq_getElem hit⟩
                  cases hx : okP T n i p with
                  | false =>
                    have HE := Lib.hid (sTp_form hs.out HTL.out hp hx)
                    go_wp2_with fail
                    (with_reducible refine (rport_c false _ T n i L p _ (HT.out.on HB.out) HTL.out hp hx).mono ?_)
                    rintro e w2 ⟨rfl, hb2⟩
                    have B2 := Lib.hid (HB.out.trans (hb2.mono HB.out.size))
                    clear HB hb2 NB cb hcell
                    go_wp2
                    go_ret
                    exact ⟨by rw [HE.out]; rfl, B2.out⟩
                  | true =>
                    have HI2 := Lib.hid (okUp_succ HI.out hp hx)
                    go_wp2_with fail
                    (with_reducible refine (rport_c true _ T n i L p _ (HT.out.on HB.out) HTL.out hp hx).mono ?_)
                    rintro e w2 ⟨rfl, hb2⟩
                    have HB2 := Lib.hid (HB.out.trans (hb2.mono HB.out.size))
                    have NB2 := Lib.hid (NB.out.on hb2)
                    clear HB hb2 NB cb hcell
                    go_wp2
                    go_roundg (L.length - (i + 1))
                    case measure => omega
                    case rel => exact ⟨i + 1, by omega, rfl, by go_num, HI2, NB2, HB2⟩
                · have hitz : ¬ (i : Int) < (L.length : Int) := by omega
                  obtain rfl : i = L.length := by omega
                  have HO2 := Lib.hid (okTo_succ HO.out HTL.out HI.out)
                  go_wp2
                  go_roundg (T.length - (n + 1))
                  case measure => omega
                  case rel => exact ⟨n + 1, by omega, rfl, by go_num, HO2, NB, HB⟩
            · have hntz : ¬ (n : Int) < (T.length : Int) := by omega
              obtain rfl : n = T.length := by omega
              have HE := Lib.hid (sTp_ok hs.out HO.out)
              clear HC HO
              go_wp2
              go_ret
              exact ⟨by rw [HE.out]; rfl, HB.out⟩
    · have hz1 : ¬ (T.length : Int) < 1 := by omega
      have hz6 : (6 : Int) < (T.length : Int) := by omega
      have HE : Hid (sTp T = 4) := sTp_range (by simp [szT, h6])
      clear hA
      go_enter Try.func8, Try.ntmps8
      go_wp2
      go_ret
      exact ⟨by rw [HE.out]; rfl, HB.out⟩
  · have HE : Hid (sTp T = 4) := sTp_range (by simp [szT, h1])
    have h0 : T.length = 0 := by omega
    have hz1 : (T.length : Int) < 1 := by omega
    clear hA
    go_enter Try.func8, Try.ntmps8
    rw [h0] at HB ⊢
    go_wp2
    go_ret
    exact ⟨by rw [HE.out]; rfl, HB.out⟩
end Go.Proofs

namespace Go.Proofs
open Go.RowKit Go.Proofs.Hd Go.Lib
set_option maxRecDepth 100000 in
set_option maxHeartbeats 2000000 in
theorem redges_c (tv : Value) (T : List (List Pt)) (w : World) (hT : PsT w tv T) (hP : ports T ≤ 2000000) : Calls Try.prog 10 #[.agg #[tv]] w (GotE w (eTo T T.length)) := by
  obtain ⟨i2, hi2, hz0, hz1, hz2⟩ := info_parts infoSpot
  obtain ⟨A, cap, rfl, htm, hA⟩ := hT
  have htz : (T.length : Int) ≤ 9223372036854775807 := by unfold maxLen at htm; omega
  have HB := Lib.hid (below2 w (.cells #[.slice A T.length cap] 24) (.cells #[] 26))
  have NB : Hid (Blk ((w.alloc (.cells #[.slice A T.length cap] 24)).alloc (.cells #[] 26)) w.heap.size 24 #[.slice A T.length cap]) := (Blk.new w _ _).on (below1 _ _)
  have HA := Lib.hid hA
  have O0 : Hid (((w.alloc (.cells #[.slice A T.length cap] 24)).alloc (.cells #[] 26)).ownsRow w.heap.size 26 2 (.slice (some ⟨w.heap.size + 1, 0, none⟩) 0 0) (eTo T 0).length (flS (eTo T 0))) := by
    have h : ((w.alloc (.cells #[.slice A T.length cap] 24)).alloc (.cells #[] 26)).ownsRow w.heap.size 26 2 (.slice (some ⟨(w.alloc (.cells #[.slice A T.length cap] 24)).heap.size, 0, none⟩) 0 0) (eTo T 0).length (flS (eTo T 0)) := World.ownsRow_made (w.alloc (.cells #[.slice A T.length cap] 24)) #[] 0 (below1 _ _).size (Nat.zero_le _) rfl
    have e : (w.alloc (.cells #[.slice A T.length cap] 24)).heap.size = w.heap.size + 1 := by simp
    rw [e] at h
    exact h
  clear hA
  go_enter Try.func10, Try.ntmps10
  go_wp2
  go_loopg [3, 4, 5] T.length (fun gn s3 s4 _ wn => ∃ (n : Nat), n ≤ T.length ∧ gn = T.length - n ∧ s4 = .int .i64 n ∧ Hid (Blk wn w.heap.size 24 #[.slice A T.length cap]) ∧ Hid (wn.ownsRow w.heap.size 26 2 s3 (eTo T n).length (flS (eTo T n))) ∧ Hid (Below w.heap.size w wn))
  case atStart => exact ⟨0, Nat.zero_le _, rfl, rfl, NB, O0, HB⟩
  case round =>
    clear HB O0 NB
    obtain ⟨n, hn, rfl, rfl, NB, HO, HB⟩ := hrel
    have cb := NB.out.one
    by_cases hnt : n < T.length
    · have hntz : (n : Int) < (T.length : Int) := by omega
      obtain ⟨L, hTL⟩ : ∃ L, T[n]? = some L := ⟨_, List.getElem?_eq_getElem hnt⟩
      obtain ⟨b, o, rfl, _, hc⟩ := HA.out (by rintro rfl; simp at hnt)
      obtain ⟨s, hcell0, A1, c1, rfl, hLm, hA1⟩ := hc n L hTL
      have HCE := Lib.hid hcell0
      have HA1 := Lib.hid hA1
      have HTL := Lib.hid hTL
      have hLz : (L.length : Int) ≤ 9223372036854775807 := by unfold maxLen at hLm; omega
      have HO1 := HO
      rw [show eTo T n = eTo T n ++ eUp n L 0 from (List.append_nil _).symm] at HO1
      clear hTL hcell0 hA1 hc HO
      go_wp2
      clear cb
      go_loopg [3, 5] L.length (fun gi s3 s5 wi => ∃ (i : Nat), i ≤ L.length ∧ gi = L.length - i ∧ s5 = .int .i64 i ∧ Hid (Blk wi w.heap.size 24 #[.slice (some ⟨b, o, none⟩) T.length cap]) ∧ Hid (wi.ownsRow w.heap.size 26 2 s3 (eTo T n ++ eUp n L i).length (flS (eTo T n ++ eUp n L i))) ∧ Hid (Below w.heap.size w wi))
      case atStart => exact ⟨0, Nat.zero_le _, rfl, rfl, NB, HO1, HB⟩
      case round =>
        clear HB HO1 NB
        obtain ⟨i, hi, rfl, rfl, NB, HO, HB⟩ := hrel
        have cb := NB.out.one
        have hcell := on_some HB.out HCE.out
        by_cases hit : i < L.length
        · have hitz : (i : Int) < (L.length : Int) := by omega
          obtain ⟨p, hp⟩ : ∃ p, L[i]? = some p := ⟨_, List.getElem?_eq_getElem hit⟩
          obtain ⟨b1, o1, rfl, _, hpc⟩ := HA1.out (by rintro rfl; simp at hit)
          have hap := (hpc i p hp).on HB.out
          have hes := eUp_succ (n := n) hp
          have hlen := edges_le HTL.out (Nat.le_of_lt hit)
          obtain ⟨E, hE⟩ : ∃ E, Hid (eTo T n ++ eUp n L i = E) := ⟨_, rfl⟩
          rw [hE.out] at HO hlen
          obtain ⟨kd, tn, pr, sp, co⟩ := p
          obtain ⟨d0, d1, d2, d3, d4⟩ := hap
          have HB1 := HB
          have HO1 := HO
          clear hp hpc HB HO
          by_cases hk : kd = 1
          · simp only [hk, if_true] at hes
            subst hk
            have HE2 : Hid (eTo T n ++ eUp n L (i + 1) = E ++ [(n, i)]) := by show _ = _; rw [hes, ← List.append_assoc, hE.out]
            have hb2 := below1 wr (.cells #[.int .i64 n, .int .i64 i] 26)
            have HB2 := Lib.hid (HB1.out.trans (hb2.mono HB1.out.size))
            have O2 := own_on HO1.out hb2
            have SR := src_spot (Blk.new wr 26 #[.int .i64 n, .int .i64 i])
            have NB2 := NB.out.on hb2
            have hz3 := HB2.out.size
            clear hes HO1 HB1 hb2
            go_wp2_with (at_builtin; refine wpList_app _ rfl (.tmp 34) (.tmp 38) 29 rfl w.heap.size 26 i2 _ 2 16 Try.underlying29 hi2 hz0 hz1 hz2 rfl (by decide) _ E.length (flS E) rfl O2 _ 1 [.int .i64 n, .int .i64 i] rfl SR (by unfold maxLen; omega) (by omega) hz3 ?_)
            intro v3 w3 O3 hg3
            have NB3 := Lib.hid (NB2.grown hg3 (own_apart O2 NB2 (by decide)))
            have HB3 := Lib.hid (HB2.out.grown hg3 hz3 (fun j hj => (O2.lt j hj).1))
            have HO3 : Hid (w3.ownsRow w.heap.size 26 2 v3 (eTo T n ++ eUp n L (i + 1)).length (flS (eTo T n ++ eUp n L (i + 1)))) := by
              show World.ownsRow _ _ _ _ _ _ _
              rw [HE2.out, flS_append, List.length_append]; exact O3
            clear O2 SR O3 hg3 HB2 hz3 d0 d1 d2 d3 d4 NB2
            go_wp2
            go_roundg (L.length - (i + 1))
            case measure => omega
            case rel => exact ⟨i + 1, by omega, rfl, by go_num, NB3, HO3, HB3⟩
          · simp only [hk, if_false, List.append_nil] at hes
            have HO3 := HO1
            rw [show E = eTo T n ++ eUp n L (i + 1) from by rw [hes, hE.out]] at HO3
            clear hes HO1
            go_wp2
            go_roundg (L.length - (i + 1))
            case measure => omega
            case rel => exact ⟨i + 1, by omega, rfl, by go_num, NB, HO3, HB1⟩
        · have hitz : ¬ (i : Int) < (L.length : Int) := by omega
          obtain rfl : i = L.length := by omega
          have HO2 := HO
          rw [← eTo_succ HTL.out] at HO2
          clear HO
          go_wp2
          go_roundg (T.length - (n + 1))
          case measure => omega
          case rel => exact ⟨n + 1, by omega, rfl, by go_num, NB, HO2, HB⟩
    · have hntz : ¬ (n : Int) < (T.length : Int) := by omega
      obtain rfl : n = T.length := by omega
      go_wp2
      go_ret
      exact ⟨_, rfl, HO.out, HB.out⟩
end Go.Proofs
