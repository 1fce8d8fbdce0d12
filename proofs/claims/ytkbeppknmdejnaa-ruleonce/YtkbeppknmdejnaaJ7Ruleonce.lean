/-
  customhouselaw05.RuleOnce returns true for every input, and each argument reads behind the call as before. No conditions.
  Numbers in memory: rows of ints. No conditions.
  Contract of the reference's Order: the places of rules as they are looked at. Conditions as each theorem lists them.
  The walk of customhouselaw05.RuleSorts: it returns true. Conditions as each theorem lists them.
  The walk of customhouselaw05.RuleOnce: it returns true. Conditions as each theorem lists them.
-/
import Derived.Test.YtkbeppknmdejnaaJ6
import Derived.Laws.MakeOwn
import Derived.Deep.AppendLies
import Derived.Deep.DeepCutAuto
import Derived.Deep.Light
import Derived.OwnWalk
import Derived.Lib.Hide
import Derived.BigQuiet
import Derived.OrdersHeld
import Derived.Test.YtkbeppknmdejnaaRows
import Derived.Below
import Derived.SizedLaws
namespace Go.Proofs.Hd
open Go.RowKit
/-- Numbers as cells. -/
def ints (ks : List Nat) : List Value := ks.map fun (k : Nat) => Value.int .i64 (k : Int)
theorem ints_len (ks : List Nat) : (ints ks).length = ks.length := by simp [ints]
theorem ints_snoc (ks : List Nat) (k : Nat) : ints (ks ++ [k]) = ints ks ++ [.int .i64 (k : Int)] := by simp [ints]
/-- v is a slice that reads as the numbers ks. -/
def PlI (w : World) (v : Value) (ks : List Nat) : Prop := (ks = [] ∧ ∃ A cap, v = .slice A 0 cap) ∨ ∃ g cap, v = .slice (some ⟨g, 0, none⟩) ks.length cap ∧ g < w.heap.size ∧ ∀ (j k : Nat), ks[j]? = some k → w.cell? ⟨g, j, none⟩ = some (.int .i64 (k : Int))
theorem PlI.on {w w' : World} {v : Value} {ks : List Nat} (h : PlI w v ks) (hb : Below w.heap.size w w') : PlI w' v ks := by
  rcases h with h | ⟨g, cap, e, hg, h⟩
  · exact .inl h
  · exact .inr ⟨g, cap, e, Nat.lt_of_lt_of_le hg hb.size, fun j k hk => on_some hb (h j k hk)⟩
end Go.Proofs.Hd

namespace Go.Proofs.Hd
open Go.RowKit
theorem ordI_nodup (L : List Rl) : (ordI L).Nodup := (ordI_perm L).nodup_iff.2 List.nodup_range
theorem ord_next {L : List Rl} {k b : Nat} (hk : k < L.length) (hb : b < L.length) (hn : b ∉ (ordI L).take k) (h : ∀ j, j < L.length → j ∉ (ordI L).take k → leI L b j = true) : (ordI L)[k]? = some b := by
  have hkl : k < (ordI L).length := by rw [ordI_len]; exact hk
  have hx : (ordI L)[k]? = some (ordI L)[k] := List.getElem?_eq_getElem hkl
  have hd : (ordI L).drop k = (ordI L)[k] :: (ordI L).drop (k + 1) := List.drop_eq_getElem_cons hkl
  have hs := ordI_sorted L
  have hnd := ordI_nodup L
  rw [← List.take_append_drop k (ordI L), hd] at hs hnd
  have hxn : (ordI L)[k] ∉ (ordI L).take k := fun hm => by
    rw [List.nodup_append] at hnd
    exact hnd.2.2 _ hm _ (List.mem_cons_self ..) rfl
  have hxl : (ordI L)[k] < L.length := ordI_lt (List.getElem_mem hkl)
  have hbm : b ∈ ordI L := (ordI_perm L).mem_iff.2 (by simpa using hb)
  have hbd : b ∈ (ordI L).drop k := by
    rw [← List.take_append_drop k (ordI L), List.mem_append] at hbm
    rcases hbm with h | h
    · exact absurd h hn
    · exact h
  rw [hd] at hbd
  rcases List.mem_cons.1 hbd with e | hb2
  · rw [hx, ← e]
  · rw [List.pairwise_append] at hs
    have h1 := List.rel_of_pairwise_cons hs.2.1 hb2
    have h2 := h _ hxl hxn
    rw [hx, leI_anti L _ _ h1 h2]
/-- Which places are used, among n, behind k rounds. -/
def usedL (L : List Rl) (k : Nat) : List Bool := (List.range L.length).map fun i => decide (i ∈ (ordI L).take k)
def bo (U : List Bool) : List Value := U.map Value.bool
theorem bo_used (L : List Rl) (k i : Nat) (hi : i < L.length) : (bo (usedL L k)).toArray[i]? = some (.bool (decide (i ∈ (ordI L).take k))) := by simp [bo, usedL, hi]
theorem used_zero (L : List Rl) : usedL L 0 = List.replicate L.length false := by
  unfold usedL
  apply List.ext_getElem (by simp)
  intro i h1 h2
  simp
theorem used_set {L : List Rl} {k b : Nat} (h : (ordI L)[k]? = some b) : (bo (usedL L k)).toArray.setIfInBounds b (.bool true) = (bo (usedL L (k + 1))).toArray := by
  rw [List.setIfInBounds_toArray]
  congr 1
  apply List.ext_getElem (by simp [bo, usedL])
  intro i h1 h2
  simp only [bo, usedL, List.getElem_set, List.getElem_map, List.getElem_range]
  rw [List.take_add_one, h]
  by_cases e : b = i
  · subst e; simp
  · simp [e, Ne.symm e]
/-- What the best place is among the first i. -/
def BestIs (L : List Rl) (k i : Nat) (z : Int) : Prop := (z = -1 ∧ ∀ j, j < i → j ∈ (ordI L).take k) ∨ ∃ b : Nat, z = b ∧ b < i ∧ b ∉ (ordI L).take k ∧ ∀ j, j < i → j ∉ (ordI L).take k → leI L b j = true
theorem BestIs.used {L : List Rl} {k i : Nat} {z : Int} (h : BestIs L k i z) (hi : i ∈ (ordI L).take k) : BestIs L k (i + 1) z := by
  rcases h with ⟨e, h⟩ | ⟨b, e, hb, hn, h⟩
  · refine .inl ⟨e, fun j hj => ?_⟩
    rcases Nat.lt_or_ge j i with h1 | h1
    · exact h j h1
    · rw [show j = i by omega]; exact hi
  · refine .inr ⟨b, e, by omega, hn, fun j hj hj2 => ?_⟩
    rcases Nat.lt_or_ge j i with h1 | h1
    · exact h j h1 hj2
    · rw [show j = i by omega] at hj2; exact absurd hi hj2
theorem BestIs.first {L : List Rl} {k i : Nat} (h : BestIs L k i (-1)) (hi : i ∉ (ordI L).take k) : BestIs L k (i + 1) (i : Int) := by
  rcases h with ⟨_, h⟩ | ⟨b, e, _⟩
  · refine .inr ⟨i, rfl, by omega, hi, fun j hj hj2 => ?_⟩
    rcases Nat.lt_or_ge j i with h1 | h1
    · exact absurd (h j h1) hj2
    · rw [show j = i by omega]; unfold leI; simp
  · omega
theorem BestIs.more {L : List Rl} {k i b : Nat} (h : BestIs L k i (b : Int)) (hi : i ∉ (ordI L).take k) (hp : L[b]!.pri < L[i]!.pri) : BestIs L k (i + 1) (i : Int) := by
  rcases h with ⟨e, _⟩ | ⟨b', e, hb, hn, h⟩
  · omega
  · obtain rfl : b = b' := by omega
    refine .inr ⟨i, rfl, by omega, hi, fun j hj hj2 => ?_⟩
    rcases Nat.lt_or_ge j i with h1 | h1
    · have := h j h1 hj2
      unfold leI at *
      rw [decide_eq_true_eq] at *
      omega
    · rw [show j = i by omega]; unfold leI; simp
theorem BestIs.less {L : List Rl} {k i b : Nat} (h : BestIs L k i (b : Int)) (hp : ¬ L[b]!.pri < L[i]!.pri) : BestIs L k (i + 1) (b : Int) := by
  rcases h with ⟨e, _⟩ | ⟨b', e, hb, hn, h⟩
  · omega
  · obtain rfl : b = b' := by omega
    refine .inr ⟨b, rfl, by omega, hn, fun j hj hj2 => ?_⟩
    rcases Nat.lt_or_ge j i with h1 | h1
    · exact h j h1 hj2
    · rw [show j = i by omega]
      unfold leI
      rw [decide_eq_true_eq]
      omega
theorem BestIs.last {L : List Rl} {k : Nat} {z : Int} (hk : k < L.length) (h : BestIs L k L.length z) : ∃ b : Nat, z = b ∧ b < L.length ∧ (ordI L)[k]? = some b := by
  rcases h with ⟨_, h⟩ | ⟨b, e, hb, hn, h⟩
  · exfalso
    have hkl : k < (ordI L).length := by rw [ordI_len]; exact hk
    have hm := h _ (ordI_lt (List.getElem_mem hkl))
    have hnd := ordI_nodup L
    rw [← List.take_append_drop k (ordI L), List.drop_eq_getElem_cons hkl, List.nodup_append] at hnd
    exact hnd.2.2 _ hm _ (List.mem_cons_self ..) rfl
  · exact ⟨b, e, hb, ord_next hk hb hn h⟩
/-- What Order holds in memory. -/
structure Od (w wr : World) (L : List Rl) (k g cp : Nat) : Prop where
  bel : Below w.heap.size w wr
  use : Blk wr (w.heap.size + 1) 4 (bo (usedL L k)).toArray
  own : wr.ownsRow w.heap.size 3 1 (.slice (some ⟨g, 0, none⟩) k cp) k (ints ((ordI L).take k))
theorem Od.on {w wr w2 : World} {L : List Rl} {k g cp : Nat} (h : Od w wr L k g cp) (hb : Below wr.heap.size wr w2) : Od w w2 L k g cp :=
  ⟨h.bel.trans (hb.mono h.bel.size), h.use.on hb, own_on h.own hb⟩
theorem Od.drewN {w wr : World} {L : List Rl} {k g cp : Nat} (h : Od w wr L k g cp) (n : Nat) : Od w (wr.drewN n) L k g cp := h.on ⟨rfl, rfl, rfl, Nat.le_refl _, fun _ _ => rfl⟩
end Go.Proofs.Hd
namespace Go.Proofs
open Go.RowKit Go.Proofs.Hd Go.Sort Go.Shelf Go.Lib
attribute [local go_sem] uv_nonneg
theorem infoB : (Try.prog.info? 4).map (fun i => (i.zero, i.size, i.bytes)) = some (some (.bool false), 1, 1) := by kernel_rfl
theorem infoI64 : (Try.prog.info? 3).map (fun i => (i.zero, i.size, i.bytes)) = some (some (.int .i64 0), 1, 8) := by kernel_rfl
theorem made_b (n : Nat) : madeCells (Value.bool false).cells (n * 1) = (bo (List.replicate n false)).toArray := by
  apply Array.ext
  · simp [madeCells, bo]
  · intro i h1 h2
    simp [madeCells, bo, Value.cells, Nat.mod_one]
theorem make_b (n : Nat) (hn : n ≤ 1466015503658) (u : World) : (Instr.makeSlice 55 (.int .i64 (n : Int)) (.int .i64 (n : Int))).run Try.prog u = .ok (.slice (some ⟨u.heap.size, 0, none⟩) n n) (u.alloc (.cells (bo (List.replicate n false)).toArray 4)) := by
  obtain ⟨i0, hi0, hz0, hz1, hz2⟩ := info_parts infoB
  have h := run_make (P := Try.prog) u 55 4 i0 _ Try.underlying55 hi0 hz0 .i64 .i64 n n (by omega) (by omega) (by rw [hz2]; omega) (by omega)
  rw [hz1] at h
  exact h.trans (by rw [Int.toNat_natCast, made_b])
set_option maxHeartbeats 4000000 in
set_option maxRecDepth 100000 in
theorem order_r (v : Value) (L : List Rl) (w : World) (hl : L.length ≤ 1466015503658) (hv : Ru w v L) : Calls Try.prog 12 #[v] w fun e w' => ∃ v', e = .returned v' ∧ w'.ownsRow w.heap.size 3 1 v' (ordI L).length (ints (ordI L)) ∧ Below w.heap.size w w' := by
  obtain ⟨A, cap, rfl, hA⟩ := hv.form
  have hlz : (L.length : Int) ≤ 1466015503658 := by omega
  have HA := Lib.hid hA
  obtain ⟨i1, hi1, hz0, hy1, hz2⟩ := info_parts infoI64
  have hmk := make_b L.length hl
  have D0 : Od w ((w.alloc (.cells #[] 3)).alloc (.cells (bo (List.replicate L.length false)).toArray 4)) L 0 w.heap.size 0 := by
    refine ⟨below2 _ _ _, ?_, own_on (World.ownsRow_made w #[] 0 (Nat.le_refl _) (Nat.zero_le _) rfl) (below1 _ _)⟩
    have h := Blk.new (w.alloc (.cells #[] 3)) 4 (bo (List.replicate L.length false)).toArray
    rw [used_zero]
    simpa using h
  have HD := Lib.hid D0
  clear hv hA D0
  go_enter Try.func12, Try.ntmps12
  go_wp2
  go_loopg [3, 5, 6] L.length (fun gk s3 _ _ wr => ∃ (k g cp : Nat), k ≤ L.length ∧ gk = L.length - k ∧ s3 = .slice (some ⟨g, 0, none⟩) k cp ∧ Od w wr L k g cp)
  case atStart => exact ⟨0, w.heap.size, 0, Nat.zero_le _, rfl, by simp, HD.out⟩
  case round =>
    clear HD hmk
    obtain ⟨k, g, cp, hk, rfl, rfl, D⟩ := hrel
    by_cases hlt : k < L.length
    · have hltz : (k : Int) < (L.length : Int) := by omega
      obtain ⟨b, off, rfl, hbl, hpc⟩ := HA.out (by intro h; rw [h] at hlt; simp at hlt)
      have HP := Lib.hid hpc
      have B0 : Hid (BestIs L k 0 (-1)) := .inl ⟨rfl, fun j hj => absurd hj (Nat.not_lt_zero _)⟩
      have HD := Lib.hid D
      clear hpc D
      go_wp2
      go_loopg [5, 6] L.length (fun gi s5 s6 wr2 => ∃ (i : Nat) (z : Int), i ≤ L.length ∧ gi = L.length - i ∧ s6 = .int .i64 i ∧ s5 = .int .i64 z ∧ Hid (BestIs L k i z) ∧ Hid (Od w wr2 L k g cp))
      case atStart => exact ⟨0, -1, Nat.zero_le _, rfl, rfl, rfl, B0, HD⟩
      case round =>
        clear B0 HD
        obtain ⟨i, z, hi, rfl, rfl, rfl, BI, HD⟩ := hrel
        by_cases hil : i < L.length
        · have hilz : (i : Int) < (L.length : Int) := by omega
          have hu := (HD.out.use.cell i).trans (bo_used L k i hil)
          by_cases hm : i ∈ (ordI L).take k
          · rw [show decide (i ∈ (ordI L).take k) = true by simpa using hm] at hu
            have BN := Lib.hid (BI.out.used hm)
            clear BI hm
            go_wp2_with fail
            go_quiet (fail)
            have HD2 := Lib.hid (HD.out.drewN nq)
            clear HD hu
            go_wp2
            go_roundg (L.length - (i + 1))
            case measure => omega
            case rel => exact ⟨i + 1, z, by omega, rfl, by go_num, rfl, BN, HD2⟩
          · rw [show decide (i ∈ (ordI L).take k) = false by simpa using hm] at hu
            rcases BI.out with ⟨rfl, _⟩ | ⟨q, rfl, hq, _, _⟩
            · have BN := Lib.hid (BI.out.first hm)
              clear BI hm
              go_wp2_with fail
              go_quiet (fail)
              have HD2 := Lib.hid (HD.out.drewN nq)
              clear HD hu
              go_wp2
              go_roundg (L.length - (i + 1))
              case measure => omega
              case rel => exact ⟨i + 1, i, by omega, rfl, by go_num, rfl, BN, HD2⟩
            · have hqz : (q : Int) < (L.length : Int) := by omega
              have e1 : L[i]? = some L[i]! := by rw [getElem!_pos L i hil]; exact List.getElem?_eq_getElem hil
              have e2 : L[q]? = some L[q]! := by rw [getElem!_pos L q (by omega)]; exact List.getElem?_eq_getElem (by omega)
              have c1 := ((HP.out i _ e1).on HD.out.bel).out.1
              have c2 := ((HP.out q _ e2).on HD.out.bel).out.1
              clear e1 e2
              by_cases hp : L[q]!.pri < L[i]!.pri
              · have BN := Lib.hid (BI.out.more hm hp)
                clear BI hm
                generalize L[i]!.pri = pi at hp c1
                generalize L[q]!.pri = pq at hp c2
                go_wp2_with fail
                go_quiet (fail)
                have HD2 := Lib.hid (HD.out.drewN nq)
                clear HD hu
                go_wp2
                go_roundg (L.length - (i + 1))
                case measure => omega
                case rel => exact ⟨i + 1, i, by omega, rfl, by go_num, rfl, BN, HD2⟩
              · have BN := Lib.hid (BI.out.less hp)
                clear BI hm
                generalize L[i]!.pri = pi at hp c1
                generalize L[q]!.pri = pq at hp c2
                go_wp2_with fail
                go_quiet (fail)
                have HD2 := Lib.hid (HD.out.drewN nq)
                clear HD hu
                go_wp2
                go_roundg (L.length - (i + 1))
                case measure => omega
                case rel => exact ⟨i + 1, q, by omega, rfl, by go_num, rfl, BN, HD2⟩
        · have hilz : ¬ (i : Int) < (L.length : Int) := by omega
          obtain rfl : i = L.length := by omega
          obtain ⟨q, rfl, hq, hn⟩ := BI.out.last hlt
          have hqz : (q : Int) < (L.length : Int) := by omega
          have hu := (HD.out.use.cell q).trans (bo_used L k q hq)
          have hf := HD.out.use.free q
          have HT : Hid (ints ((ordI L).take (k + 1)) = ints ((ordI L).take k) ++ [.int .i64 (q : Int)]) := Lib.hid (by rw [List.take_add_one, hn]; exact ints_snoc _ _)
          have HU := Lib.hid (used_set hn)
          have D := HD.out
          have hz := D.use.lt
          have hgl := (D.own.lt g rfl).2
          have hgn : g ≠ w.heap.size + 1 := fun e => (own_apart D.own D.use (by decide)) (by simp [Value.ownBlock, e])
          have U1 : Blk (wr.setCell ⟨w.heap.size + 1, q, none⟩ (.bool true)) (w.heap.size + 1) 4 (bo (usedL L (k + 1))).toArray := by rw [← HU.out]; exact D.use.set q _
          have B1 : Below w.heap.size w (wr.setCell ⟨w.heap.size + 1, q, none⟩ (.bool true)) := D.bel.setCell (by simp) _
          have O1 : (wr.setCell ⟨w.heap.size + 1, q, none⟩ (.bool true)).ownsRow w.heap.size 3 1 (.slice (some ⟨g, 0, none⟩) k cp) k (ints ((ordI L).take k)) := by
            refine D.own.kept (row := some (w.heap.size + 1)) ⟨rfl, rfl, rfl, by simp, fun j _ hj => Below.heap_setCell _ _ _ _ (fun e => hj (by simp [e]))⟩ (.inr (by simp [Value.ownBlock, hgn]))
          have hs1 : (wr.setCell ⟨w.heap.size + 1, q, none⟩ (.bool true)).heap.size = wr.heap.size := by simp
          clear BI HD D HU hn
          go_upto_region 11 with (fail)
          generalize wr.setCell ⟨w.heap.size + 1, q, none⟩ (.bool true) = w2 at U1 B1 O1 hs1 ⊢
          have hb2 := below1 w2 (.cells #[.int .i64 (q : Int)] 3)
          have N2 : Blk (w2.alloc (.cells #[.int .i64 (q : Int)] 3)) w2.heap.size 3 #[.int .i64 (q : Int)] := Blk.new w2 _ _
          have U2 := U1.on hb2
          have B2 := B1.trans (hb2.mono B1.size)
          have O2 := own_on O1 hb2
          have hz1 := B1.size
          clear U1 B1 O1 hb2 hu hf hs1
          go_wp2_with (at_builtin; refine wpList_append_lies _ rfl (.tmp 48) (.tmp 50) 36 rfl w.heap.size 3 i1 _ 1 8 Try.underlying36 hi1 hz0 hy1 hz2 rfl (by decide) _ k (ints ((ordI L).take k)) rfl O2 ⟨w2.heap.size, 0, none⟩ 1 1 [.int .i64 (q : Int)] rfl rfl (World.news_of_block N2) (by intro u hu; simp only [List.mem_singleton] at hu; subst hu; rfl) (by omega) (by unfold maxLen; omega) (by omega) (by simp; omega) _ rfl ?_)
          intro g2 cp2 w4 O4 hg4 _ hlt4
          have B4 := B2.grown hg4 B2.size (fun j hj => by have := (O2.lt j hj).1; omega)
          have U4 := U2.grown hg4 (own_apart O2 U2 (by decide))
          clear B2 O2 N2 U2 hg4
          go_wp2
          go_roundg (L.length - (k + 1))
          case measure => omega
          case rel => exact ⟨k + 1, g2, cp2, by omega, rfl, rfl, B4, U4, by rw [HT.out]; exact O4⟩
    · have hltz : ¬ (k : Int) < (L.length : Int) := by omega
      obtain rfl : k = L.length := by omega
      have O := D.own
      have B := D.bel
      rw [← ordI_len L, List.take_length] at O
      rw [ordI_len L] at O
      clear D HA
      go_wp2
      go_ret
      exact ⟨_, rfl, by rw [ordI_len]; exact O, B⟩
end Go.Proofs

namespace Go.Proofs.Hd
open Go.RowKit
theorem own_ints {w : World} {base : Nat} {t : TypeId} {v : Value} {ks : List Nat} (h : w.ownsRow base t 1 v ks.length (ints ks)) : ∃ A cap, v = .slice A ks.length cap ∧ (ks ≠ [] → ∃ g, A = some ⟨g, 0, none⟩ ∧ ∀ (j k : Nat), ks[j]? = some k → w.cell? ⟨g, j, none⟩ = some (.int .i64 (k : Int))) := by
  rcases h.2 with ⟨rfl, hn⟩ | ⟨g, cap, cur, rfl, hb, hg, _⟩
  · refine ⟨none, 0, by rw [hn], fun hne => absurd (List.eq_nil_of_length_eq_zero hn) hne⟩
  · refine ⟨_, cap, rfl, fun _ => ⟨g, rfl, fun j k hk => ?_⟩⟩
    have hj : j < ks.length := (List.getElem?_eq_some_iff.1 hk).1
    rw [h.cellAt j (by omega)]
    unfold ints
    rw [List.getElem?_map, hk]
    rfl
theorem ne_nil_lt {α : Type} {L : List α} {k : Nat} (h : k < L.length) : L ≠ [] := by intro e; rw [e] at h; simp at h
end Go.Proofs.Hd
namespace Go.Proofs
open Go.RowKit Go.Proofs.Hd Go.Sort Go.Shelf Go.Lib
attribute [local go_sem] uv_nonneg eqR_self
attribute [local go_sem high] run_eqR
set_option maxHeartbeats 4000000 in
set_option maxRecDepth 100000 in
theorem rol_c (v : Value) (L : List Rl) (w : World) (hl : L.length ≤ 1466015503658) (hv : Ru w v L) : Calls Try.prog 4 #[v] w fun e w' => e = .returned (.bool true) ∧ Below w.heap.size w w' := by
  have hc1 := sort_r v L w hl hv
  have HV := Lib.hid hv
  have HC2 : Hid (∀ W, Below w.heap.size w W → Calls Try.prog 12 #[v] W fun e w' => ∃ v', e = .returned v' ∧ w'.ownsRow W.heap.size 3 1 v' (ordI L).length (ints (ordI L)) ∧ Below W.heap.size W w') := fun W hb => order_r v L W hl (hv.on hb)
  obtain ⟨A, cap, rfl, _⟩ := hv.form
  have hlz : (L.length : Int) ≤ 1466015503658 := by omega
  clear hv
  go_enter Try.func4, Try.ntmps4
  go_wp2_with fail
  refine hc1.mono ?_
  rintro e w1 ⟨v1, rfl, O1, B1⟩
  have hc2 := HC2.out w1 B1
  clear hc1 HC2
  go_wp2_with fail
  refine hc2.mono ?_
  rintro e w2 ⟨v2, rfl, O2, B2⟩
  have R1 := (own_Ru O1).on B2
  have R0 := HV.out.on (B1.trans (B2.mono B1.size))
  have BB := Lib.hid (B1.trans (B2.mono B1.size))
  obtain ⟨A1, c1, rfl, h1⟩ := R1.form
  obtain ⟨A2, c2, rfl, h2⟩ := own_ints O2
  obtain ⟨A0, c0, e0, h0⟩ := R0.form
  injection e0 with e01 e02 e03
  subst e01 e03
  rw [srt_len, ordI_len]
  have H1 := Lib.hid h1
  have H2 := Lib.hid h2
  have H0 := Lib.hid h0
  clear hc2 O1 O2 B1 B2 R1 R0 HV h1 h2 h0 e02
  go_wp2
  go_loopg [5] L.length (fun gk s5 wr => ∃ (i : Nat), i ≤ L.length ∧ gk = L.length - i ∧ s5 = .int .i64 i ∧ Hid (Below w2.heap.size w2 wr))
  case atStart => exact ⟨0, Nat.zero_le _, rfl, rfl, Below.refl _ _⟩
  case round =>
    obtain ⟨i, hi, rfl, rfl, HB⟩ := hrel
    by_cases hlt : i < L.length
    · have hltz : (i : Int) < (L.length : Int) := by omega
      obtain ⟨q, hq⟩ : ∃ q, (ordI L)[i]? = some q := ⟨_, List.getElem?_eq_getElem (by rw [ordI_len]; exact hlt)⟩
      have hql : q < L.length := ordI_lt (List.mem_of_getElem? hq)
      have hqz : (q : Int) < (L.length : Int) := by omega
      obtain ⟨r, hr⟩ : ∃ r, L[q]? = some r := ⟨_, List.getElem?_eq_getElem hql⟩
      have hr1 : (srt L)[i]? = some r := by rw [srt_at hq, getElem!_pos L q hql]; rw [List.getElem?_eq_getElem hql] at hr; exact hr
      obtain ⟨b1, o1, rfl, _, f1⟩ := H1.out (ne_nil_lt (k := i) (by rw [srt_len]; exact hlt))
      obtain ⟨g2, rfl, f2⟩ := H2.out (ne_nil_lt (k := i) (by rw [ordI_len]; exact hlt))
      obtain ⟨b0, o0, rfl, _, f0⟩ := H0.out (ne_nil_lt hlt)
      obtain ⟨x0, x1, x2, x3, x4, x5, x6, x7, x8, x9, x10, x11⟩ := ((f1 i r hr1).on HB.out).out
      obtain ⟨y0, y1, y2, y3, y4, y5, y6, y7, y8, y9, y10, y11⟩ := ((f0 q r hr).on HB.out).out
      have z0 := on_some HB.out (f2 i q hq)
      clear f1 f2 f0 hr hr1 hq
      go_wp2_with fail
      go_quiet (fail)
      have HBN : Hid (Below w2.heap.size w2 (wr.drewN nq)) := ⟨HB.out.os, HB.out.tape, HB.out.output, HB.out.size, HB.out.block⟩
      clear x0 x1 x2 x3 x4 x5 x6 x7 x8 x9 x10 x11 y0 y1 y2 y3 y4 y5 y6 y7 y8 y9 y10 y11 z0
      go_wp2
      go_roundg (L.length - (i + 1))
      case measure => omega
      case rel => exact ⟨i + 1, by omega, rfl, by go_num, HBN⟩
    · have hltz : ¬ (i : Int) < (L.length : Int) := by omega
      have HE := Lib.hid (BB.out.trans (HB.out.mono BB.out.size))
      clear H1 H2 H0 BB HB
      go_wp2_with fail
      (with_reducible refine (awake5_c _).mono ?_)
      rintro e w4 ⟨rfl, hb4⟩
      have HF := HE.out.trans (hb4.mono HE.out.size)
      clear HE hb4
      go_wp2
      go_ret
      exact ⟨rfl, HF⟩
end Go.Proofs

namespace Go.Proofs.Hd
open Go.RowKit
/-- How often a rule is in a list. -/
def cR (X : List Rl) (r : Rl) : Int := (X.countP (fun a => eqR a r) : Nat)
theorem cR_snoc {X : List Rl} {k : Nat} {a : Rl} (r : Rl) (h : X[k]? = some a) : cR (X.take (k + 1)) r = cR (X.take k) r + (if eqR a r = true then 1 else 0) := by
  unfold cR
  rw [List.take_add_one, h]
  simp only [Option.toList_some, List.countP_append, List.countP_singleton]
  split <;> simp
theorem cR_perm {X Y : List Rl} (h : X.Perm Y) (r : Rl) : cR X r = cR Y r := by
  unfold cR
  rw [h.countP_eq]
end Go.Proofs.Hd
namespace Go.Proofs
open Go.RowKit Go.Proofs.Hd Go.Sort Go.Shelf Go.Lib
attribute [local go_sem] uv_nonneg eqR_self
attribute [local go_sem high] run_eqR
set_option maxHeartbeats 16000000 in
set_option maxRecDepth 100000 in
theorem rnl_c (v : Value) (L : List Rl) (w : World) (hl : L.length ≤ 1466015503658) (hv : Ru w v L) : Calls Try.prog 6 #[v] w fun e w' => e = .returned (.bool true) ∧ Below w.heap.size w w' := by
  have hc1 := sort_r v L w hl hv
  have HV := Lib.hid hv
  obtain ⟨A, cap, rfl, _⟩ := hv.form
  have hlz : (L.length : Int) ≤ 1466015503658 := by omega
  clear hv
  go_enter Try.func6, Try.ntmps6
  go_wp2_with fail
  refine hc1.mono ?_
  rintro e w1 ⟨v1, rfl, O1, B1⟩
  have hc2 := sort_r v1 (srt L) w1 (by rw [srt_len]; exact hl) (own_Ru O1)
  rw [srt_twice] at hc2
  clear hc1
  obtain ⟨A1, c1, rfl, _⟩ := (own_Ru O1).form
  go_wp2_with fail
  refine hc2.mono ?_
  rintro e w2 ⟨v2, rfl, O2, B2⟩
  have R1 := (own_Ru O1).on B2
  have R2 := own_Ru O2
  have R0 := HV.out.on (B1.trans (B2.mono B1.size))
  have BB := Lib.hid (B1.trans (B2.mono B1.size))
  clear hc2 O1 O2 B1 B2 HV
  obtain ⟨A2, c2, rfl, h2⟩ := R2.form
  go_wp2_with fail
  (with_reducible refine (awake5_c _).mono ?_)
  rintro e w3 ⟨rfl, hb3⟩
  obtain ⟨A1', c1', e1, h1⟩ := (R1.on hb3).form
  obtain ⟨A2', c2', e2, h2'⟩ := (R2.on hb3).form
  obtain ⟨A0', c0', e0, h0⟩ := (R0.on hb3).form
  injection e0 with e01 e02 e03
  injection e1 with e11 e12 e13
  injection e2 with e21 e22 e23
  subst e01 e03 e11 e13 e21 e23
  have B3 := Lib.hid (BB.out.trans (hb3.mono BB.out.size))
  rw [srt_len]
  have H1 := Lib.hid h1
  have H2 := Lib.hid h2'
  have H0 := Lib.hid h0
  clear R1 R2 R0 BB h1 h2 h2' h0 e02 e12 e22 hb3
  go_wp2
  go_loopg [5, 6, 7] L.length (fun gk s5 _ _ wr => ∃ (i : Nat), i ≤ L.length ∧ gk = L.length - i ∧ s5 = .int .i64 i ∧ Hid (Below w3.heap.size w3 wr))
  case atStart => exact ⟨0, Nat.zero_le _, rfl, rfl, Below.refl _ _⟩
  case round =>
    obtain ⟨i, hi, rfl, rfl, HB⟩ := hrel
    by_cases hlt : i < L.length
    · have hltz : (i : Int) < (L.length : Int) := by omega
      obtain ⟨r, hr⟩ : ∃ r, (srt L)[i]? = some r := ⟨_, List.getElem?_eq_getElem (by rw [srt_len]; exact hlt)⟩
      obtain ⟨b1, o1, rfl, _, g1⟩ := H1.out (ne_nil_lt (k := i) (by rw [srt_len]; exact hlt))
      obtain ⟨b2, o2, rfl, _, g2⟩ := H2.out (ne_nil_lt (k := i) (by rw [srt_len]; exact hlt))
      obtain ⟨b0, o0, rfl, _, g0⟩ := H0.out (ne_nil_lt hlt)
      have F1 := Lib.hid (g1 i r hr)
      have F2 := Lib.hid (g2 i r hr)
      have G0 := Lib.hid g0
      have G1 := Lib.hid g1
      have HR := Lib.hid hr
      clear g1 g0 hr
      by_cases hi0 : i = 0
      · have hi0d : decide (0 < i) = false := by simp; omega
        clear g2 HR hi0
        have KP : ∀ W, Below w3.heap.size w3 W → (Below w3.heap.size w3 W ∧ W.cell? ⟨b2, o2 + i * 12, none⟩ = some (.int .i64 r.pri) ∧ W.cell? ⟨b2, o2 + i * 12 + 1, none⟩ = some (.int .u64 (uv r.m.vh)) ∧ W.cell? ⟨b2, o2 + i * 12 + 2, none⟩ = some (.int .u64 (uv r.m.vl)) ∧ W.cell? ⟨b2, o2 + i * 12 + 3, none⟩ = some (.int .u64 (uv r.m.ch)) ∧ W.cell? ⟨b2, o2 + i * 12 + 4, none⟩ = some (.int .u64 (uv r.m.cl)) ∧ W.cell? ⟨b2, o2 + i * 12 + 5, none⟩ = some (.int .i64 r.kind) ∧ W.cell? ⟨b2, o2 + i * 12 + 6, none⟩ = some (.int .i64 r.port) ∧ W.cell? ⟨b2, o2 + i * 12 + 7, none⟩ = some (.int .i64 r.tab) ∧ W.cell? ⟨b2, o2 + i * 12 + 8, none⟩ = some (.int .u64 (uv r.s.vh)) ∧ W.cell? ⟨b2, o2 + i * 12 + 9, none⟩ = some (.int .u64 (uv r.s.vl)) ∧ W.cell? ⟨b2, o2 + i * 12 + 10, none⟩ = some (.int .u64 (uv r.s.ch)) ∧ W.cell? ⟨b2, o2 + i * 12 + 11, none⟩ = some (.int .u64 (uv r.s.cl)) ∧ W.cell? ⟨b1, o1 + i * 12, none⟩ = some (.int .i64 r.pri) ∧ W.cell? ⟨b1, o1 + i * 12 + 1, none⟩ = some (.int .u64 (uv r.m.vh)) ∧ W.cell? ⟨b1, o1 + i * 12 + 2, none⟩ = some (.int .u64 (uv r.m.vl)) ∧ W.cell? ⟨b1, o1 + i * 12 + 3, none⟩ = some (.int .u64 (uv r.m.ch)) ∧ W.cell? ⟨b1, o1 + i * 12 + 4, none⟩ = some (.int .u64 (uv r.m.cl)) ∧ W.cell? ⟨b1, o1 + i * 12 + 5, none⟩ = some (.int .i64 r.kind) ∧ W.cell? ⟨b1, o1 + i * 12 + 6, none⟩ = some (.int .i64 r.port) ∧ W.cell? ⟨b1, o1 + i * 12 + 7, none⟩ = some (.int .i64 r.tab) ∧ W.cell? ⟨b1, o1 + i * 12 + 8, none⟩ = some (.int .u64 (uv r.s.vh)) ∧ W.cell? ⟨b1, o1 + i * 12 + 9, none⟩ = some (.int .u64 (uv r.s.vl)) ∧ W.cell? ⟨b1, o1 + i * 12 + 10, none⟩ = some (.int .u64 (uv r.s.ch)) ∧ W.cell? ⟨b1, o1 + i * 12 + 11, none⟩ = some (.int .u64 (uv r.s.cl))) := fun W hb => by
          obtain ⟨x0, x1, x2, x3, x4, x5, x6, x7, x8, x9, x10, x11⟩ := (F2.out.on hb).out
          obtain ⟨y0, y1, y2, y3, y4, y5, y6, y7, y8, y9, y10, y11⟩ := (F1.out.on hb).out
          exact ⟨hb, x0, x1, x2, x3, x4, x5, x6, x7, x8, x9, x10, x11, y0, y1, y2, y3, y4, y5, y6, y7, y8, y9, y10, y11⟩
        have HKP := Lib.hid KP
        clear KP
        go_upto_region 8 with (fail)
        refine wp_region_held_drew (S := fun w' => Below w3.heap.size w3 w' ∧ w'.cell? ⟨b2, o2 + i * 12, none⟩ = some (.int .i64 r.pri) ∧ w'.cell? ⟨b2, o2 + i * 12 + 1, none⟩ = some (.int .u64 (uv r.m.vh)) ∧ w'.cell? ⟨b2, o2 + i * 12 + 2, none⟩ = some (.int .u64 (uv r.m.vl)) ∧ w'.cell? ⟨b2, o2 + i * 12 + 3, none⟩ = some (.int .u64 (uv r.m.ch)) ∧ w'.cell? ⟨b2, o2 + i * 12 + 4, none⟩ = some (.int .u64 (uv r.m.cl)) ∧ w'.cell? ⟨b2, o2 + i * 12 + 5, none⟩ = some (.int .i64 r.kind) ∧ w'.cell? ⟨b2, o2 + i * 12 + 6, none⟩ = some (.int .i64 r.port) ∧ w'.cell? ⟨b2, o2 + i * 12 + 7, none⟩ = some (.int .i64 r.tab) ∧ w'.cell? ⟨b2, o2 + i * 12 + 8, none⟩ = some (.int .u64 (uv r.s.vh)) ∧ w'.cell? ⟨b2, o2 + i * 12 + 9, none⟩ = some (.int .u64 (uv r.s.vl)) ∧ w'.cell? ⟨b2, o2 + i * 12 + 10, none⟩ = some (.int .u64 (uv r.s.ch)) ∧ w'.cell? ⟨b2, o2 + i * 12 + 11, none⟩ = some (.int .u64 (uv r.s.cl)) ∧ w'.cell? ⟨b1, o1 + i * 12, none⟩ = some (.int .i64 r.pri) ∧ w'.cell? ⟨b1, o1 + i * 12 + 1, none⟩ = some (.int .u64 (uv r.m.vh)) ∧ w'.cell? ⟨b1, o1 + i * 12 + 2, none⟩ = some (.int .u64 (uv r.m.vl)) ∧ w'.cell? ⟨b1, o1 + i * 12 + 3, none⟩ = some (.int .u64 (uv r.m.ch)) ∧ w'.cell? ⟨b1, o1 + i * 12 + 4, none⟩ = some (.int .u64 (uv r.m.cl)) ∧ w'.cell? ⟨b1, o1 + i * 12 + 5, none⟩ = some (.int .i64 r.kind) ∧ w'.cell? ⟨b1, o1 + i * 12 + 6, none⟩ = some (.int .i64 r.port) ∧ w'.cell? ⟨b1, o1 + i * 12 + 7, none⟩ = some (.int .i64 r.tab) ∧ w'.cell? ⟨b1, o1 + i * 12 + 8, none⟩ = some (.int .u64 (uv r.s.vh)) ∧ w'.cell? ⟨b1, o1 + i * 12 + 9, none⟩ = some (.int .u64 (uv r.s.vl)) ∧ w'.cell? ⟨b1, o1 + i * 12 + 10, none⟩ = some (.int .u64 (uv r.s.ch)) ∧ w'.cell? ⟨b1, o1 + i * 12 + 11, none⟩ = some (.int .u64 (uv r.s.cl))) (by kernel_rfl) (HKP.out _ HB.out.drew) (fun hHeld => ?_)
        refine wpAnyH_take (i := 0) (oi := ⟨some 34, _, _, _, _, _⟩) (v := ?vf0) rfl (by kernel_rfl) (by kernel_rfl) (by kernel_rfl) (fun _ _ _ h => h) (Or.inl ⟨by rfl, ?yf0⟩) hHeld ?rf0
        case yf0 => (intro w' hSw; (try dsimp only at hSw); go_simp; try (with_reducible rfl))
        simp only [Act.put, List.setIfInBounds_toArray, List.set_cons_zero, List.set_cons_succ]
        refine wpAnyH_take (i := 1) (oi := ⟨some 35, _, _, _, _, _⟩) (v := ?vf1) rfl (by kernel_rfl) (by kernel_rfl) (by kernel_rfl) (fun _ _ _ h => h) (Or.inl ⟨by rfl, ?yf1⟩) hHeld ?rf1
        case yf1 => (intro w' hSw; (try dsimp only at hSw); go_simp; try (with_reducible rfl))
        simp only [Act.put, List.setIfInBounds_toArray, List.set_cons_zero, List.set_cons_succ]
        refine wpAnyH_take (i := 2) (oi := ⟨some 36, _, _, _, _, _⟩) (v := ?vf2) rfl (by kernel_rfl) (by kernel_rfl) (by kernel_rfl) (fun _ _ _ h => h) (Or.inl ⟨by rfl, ?yf2⟩) hHeld ?rf2
        case yf2 => (intro w' hSw; (try dsimp only at hSw); go_simp; try (with_reducible rfl))
        simp only [Act.put, List.setIfInBounds_toArray, List.set_cons_zero, List.set_cons_succ]
        refine wpAnyH_take (i := 3) (oi := ⟨some 37, _, _, _, _, _⟩) (v := ?vf3) rfl (by kernel_rfl) (by kernel_rfl) (by kernel_rfl) (fun _ _ _ h => h) (Or.inl ⟨by rfl, ?yf3⟩) hHeld ?rf3
        case yf3 => (intro w' hSw; (try dsimp only at hSw); go_simp; try (with_reducible rfl))
        simp only [Act.put, List.setIfInBounds_toArray, List.set_cons_zero, List.set_cons_succ]
        refine wpAnyH_take (i := 4) (oi := ⟨some 38, _, _, _, _, _⟩) (v := ?vf4) rfl (by kernel_rfl) (by kernel_rfl) (by kernel_rfl) (fun _ _ _ h => h) (Or.inl ⟨by rfl, ?yf4⟩) hHeld ?rf4
        case yf4 => (intro w' hSw; (try dsimp only at hSw); go_simp; try (with_reducible rfl))
        simp only [Act.put, List.setIfInBounds_toArray, List.set_cons_zero, List.set_cons_succ]
        refine wpAnyH_take (i := 5) (oi := ⟨some 39, _, _, _, _, _⟩) (v := ?vf5) rfl (by kernel_rfl) (by kernel_rfl) (by kernel_rfl) (fun _ _ _ h => h) (Or.inl ⟨by rfl, ?yf5⟩) hHeld ?rf5
        case yf5 => (intro w' hSw; (try dsimp only at hSw); go_simp; try (with_reducible rfl))
        simp only [Act.put, List.setIfInBounds_toArray, List.set_cons_zero, List.set_cons_succ]
        refine wpAnyH_take (i := 6) (oi := ⟨some 40, _, _, _, _, _⟩) (v := ?vf6) rfl (by kernel_rfl) (by kernel_rfl) (by kernel_rfl) (fun _ _ _ h => h) (Or.inl ⟨by rfl, ?yf6⟩) hHeld ?rf6
        case yf6 => (intro w' hSw; (try dsimp only at hSw); go_simp; try (with_reducible rfl))
        simp only [Act.put, List.setIfInBounds_toArray, List.set_cons_zero, List.set_cons_succ]
        refine wpAnyH_take (i := 7) (oi := ⟨some 41, _, _, _, _, _⟩) (v := ?vf7) rfl (by kernel_rfl) (by kernel_rfl) (by kernel_rfl) (fun _ _ _ h => h) (Or.inl ⟨by rfl, ?yf7⟩) hHeld ?rf7
        case yf7 => (intro w' hSw; (try dsimp only at hSw); go_simp; try (with_reducible rfl))
        simp only [Act.put, List.setIfInBounds_toArray, List.set_cons_zero, List.set_cons_succ]
        refine wpAnyH_take (i := 8) (oi := ⟨some 42, _, _, _, _, _⟩) (v := ?vf8) rfl (by kernel_rfl) (by kernel_rfl) (by kernel_rfl) (fun _ _ _ h => h) (Or.inl ⟨by rfl, ?yf8⟩) hHeld ?rf8
        case yf8 => (intro w' hSw; (try dsimp only at hSw); go_simp; try (with_reducible rfl))
        simp only [Act.put, List.setIfInBounds_toArray, List.set_cons_zero, List.set_cons_succ]
        refine wpAnyH_take (i := 9) (oi := ⟨some 43, _, _, _, _, _⟩) (v := ?vf9) rfl (by kernel_rfl) (by kernel_rfl) (by kernel_rfl) (fun _ _ _ h => h) (Or.inl ⟨by rfl, ?yf9⟩) hHeld ?rf9
        case yf9 => (intro w' hSw; (try dsimp only at hSw); go_simp; try (with_reducible rfl))
        simp only [Act.put, List.setIfInBounds_toArray, List.set_cons_zero, List.set_cons_succ]
        refine wpAnyH_take (i := 10) (oi := ⟨some 44, _, _, _, _, _⟩) (v := ?vf10) rfl (by kernel_rfl) (by kernel_rfl) (by kernel_rfl) (fun _ _ _ h => h) (Or.inl ⟨by rfl, ?yf10⟩) hHeld ?rf10
        case yf10 => (intro w' hSw; (try dsimp only at hSw); go_simp; try (with_reducible rfl))
        simp only [Act.put, List.setIfInBounds_toArray, List.set_cons_zero, List.set_cons_succ]
        refine wpAnyH_take (i := 11) (oi := ⟨some 45, _, _, _, _, _⟩) (v := ?vf11) rfl (by kernel_rfl) (by kernel_rfl) (by kernel_rfl) (fun _ _ _ h => h) (Or.inl ⟨by rfl, ?yf11⟩) hHeld ?rf11
        case yf11 => (intro w' hSw; (try dsimp only at hSw); go_simp; try (with_reducible rfl))
        simp only [Act.put, List.setIfInBounds_toArray, List.set_cons_zero, List.set_cons_succ]
        refine wpAnyH_take (i := 12) (oi := ⟨some 46, _, _, _, _, _⟩) (v := ?vf12) rfl (by kernel_rfl) (by kernel_rfl) (by kernel_rfl) (fun _ _ _ h => h) (Or.inl ⟨by rfl, ?yf12⟩) hHeld ?rf12
        case yf12 => (intro w' hSw; (try dsimp only at hSw); go_simp; try (with_reducible rfl))
        simp only [Act.put, List.setIfInBounds_toArray, List.set_cons_zero, List.set_cons_succ]
        refine wpAnyH_take (i := 13) (oi := ⟨some 47, _, _, _, _, _⟩) (v := undef) rfl (by kernel_rfl) (by kernel_rfl) (by kernel_rfl) (fun _ _ _ h => h) (Or.inr ⟨by rfl, rfl⟩) hHeld ?_
        simp only [Act.put, List.setIfInBounds_toArray, List.set_cons_zero, List.set_cons_succ]
        refine wpAnyH_take (i := 14) (oi := ⟨some 48, _, _, _, _, _⟩) (v := undef) rfl (by kernel_rfl) (by kernel_rfl) (by kernel_rfl) (fun _ _ _ h => h) (Or.inr ⟨by rfl, rfl⟩) hHeld ?_
        simp only [Act.put, List.setIfInBounds_toArray, List.set_cons_zero, List.set_cons_succ]
        refine wpAnyH_take (i := 15) (oi := ⟨some 49, _, _, _, _, _⟩) (v := undef) rfl (by kernel_rfl) (by kernel_rfl) (by kernel_rfl) (fun _ _ _ h => h) (Or.inr ⟨by rfl, rfl⟩) hHeld ?_
        simp only [Act.put, List.setIfInBounds_toArray, List.set_cons_zero, List.set_cons_succ]
        refine wpAnyH_take (i := 16) (oi := ⟨some 50, _, _, _, _, _⟩) (v := undef) rfl (by kernel_rfl) (by kernel_rfl) (by kernel_rfl) (fun _ _ _ h => h) (Or.inr ⟨by rfl, rfl⟩) hHeld ?_
        simp only [Act.put, List.setIfInBounds_toArray, List.set_cons_zero, List.set_cons_succ]
        refine wpAnyH_take (i := 17) (oi := ⟨some 51, _, _, _, _, _⟩) (v := undef) rfl (by kernel_rfl) (by kernel_rfl) (by kernel_rfl) (fun _ _ _ h => h) (Or.inr ⟨by rfl, rfl⟩) hHeld ?_
        simp only [Act.put, List.setIfInBounds_toArray, List.set_cons_zero, List.set_cons_succ]
        refine wpAnyH_take (i := 18) (oi := ⟨some 52, _, _, _, _, _⟩) (v := undef) rfl (by kernel_rfl) (by kernel_rfl) (by kernel_rfl) (fun _ _ _ h => h) (Or.inr ⟨by rfl, rfl⟩) hHeld ?_
        simp only [Act.put, List.setIfInBounds_toArray, List.set_cons_zero, List.set_cons_succ]
        refine wpAnyH_take (i := 19) (oi := ⟨some 53, _, _, _, _, _⟩) (v := undef) rfl (by kernel_rfl) (by kernel_rfl) (by kernel_rfl) (fun _ _ _ h => h) (Or.inr ⟨by rfl, rfl⟩) hHeld ?_
        simp only [Act.put, List.setIfInBounds_toArray, List.set_cons_zero, List.set_cons_succ]
        refine wpAnyH_take (i := 20) (oi := ⟨some 54, _, _, _, _, _⟩) (v := undef) rfl (by kernel_rfl) (by kernel_rfl) (by kernel_rfl) (fun _ _ _ h => h) (Or.inr ⟨by rfl, rfl⟩) hHeld ?_
        simp only [Act.put, List.setIfInBounds_toArray, List.set_cons_zero, List.set_cons_succ]
        refine wpAnyH_take (i := 21) (oi := ⟨some 55, _, _, _, _, _⟩) (v := undef) rfl (by kernel_rfl) (by kernel_rfl) (by kernel_rfl) (fun _ _ _ h => h) (Or.inr ⟨by rfl, rfl⟩) hHeld ?_
        simp only [Act.put, List.setIfInBounds_toArray, List.set_cons_zero, List.set_cons_succ]
        refine wpAnyH_ready (rs := [22]) (by kernel_rfl) (by simp) ?_
        refine AllReadyH.cons (o := ⟨some 56, _, _, _, _, _⟩) rfl (fun K hK => ?_) AllReadyH.nil
        go_simp
        refine hK.out _ _ hHeld (fun hNext => ?_)
        clear hK K hHeld
        have hHeld := hNext
        clear hNext
        try simp only [Act.put, List.setIfInBounds_toArray, List.set_cons_zero, List.set_cons_succ]
        refine wpAnyH_take (i := 23) (oi := ⟨some 57, _, _, _, _, _⟩) (v := ?vf23) rfl (by kernel_rfl) (by kernel_rfl) (by kernel_rfl) (fun _ _ _ h => h) (Or.inl ⟨by rfl, ?yf23⟩) hHeld ?rf23
        case yf23 => (intro w' hSw; (try dsimp only at hSw); go_simp; try (with_reducible rfl))
        simp only [Act.put, List.setIfInBounds_toArray, List.set_cons_zero, List.set_cons_succ]
        refine wpAnyH_take (i := 24) (oi := ⟨some 58, _, _, _, _, _⟩) (v := ?vf24) rfl (by kernel_rfl) (by kernel_rfl) (by kernel_rfl) (fun _ _ _ h => h) (Or.inl ⟨by rfl, ?yf24⟩) hHeld ?rf24
        case yf24 => (intro w' hSw; (try dsimp only at hSw); go_simp; try (with_reducible rfl))
        simp only [Act.put, List.setIfInBounds_toArray, List.set_cons_zero, List.set_cons_succ]
        refine wpAnyH_done (by kernel_rfl) ?_ _
        have HC := Lib.hid hHeld.1
        clear hHeld HKP HB
        go_wp2
        go_loopg [6, 7] L.length (fun gi s6 s7 wr2 => ∃ (k : Nat) (z : Int), k ≤ L.length ∧ gi = L.length - k ∧ s7 = .int .i64 k ∧ s6 = .int .i64 z ∧ -(k : Int) ≤ z ∧ z ≤ (k : Int) ∧ Hid (z = cR (L.take k) r - cR ((srt L).take k) r) ∧ Hid (Below w3.heap.size w3 wr2))
        case atStart => exact ⟨0, 0, Nat.zero_le _, rfl, rfl, rfl, by omega, by omega, Lib.hid (by simp [cR]), HC⟩
        case round =>
          clear HC
          obtain ⟨k, z, hk, rfl, rfl, rfl, hz1, hz2, HZ, HW⟩ := hrel
          by_cases hkl : k < L.length
          · have hklz : (k : Int) < (L.length : Int) := by omega
            obtain ⟨a, ha⟩ : ∃ a, L[k]? = some a := ⟨_, List.getElem?_eq_getElem hkl⟩
            obtain ⟨c, hc⟩ : ∃ c, (srt L)[k]? = some c := ⟨_, List.getElem?_eq_getElem (by rw [srt_len]; exact hkl)⟩
            have FA := Lib.hid (G0.out k a ha)
            have FC := Lib.hid (G1.out k c hc)
            have ZA := Lib.hid (cR_snoc r ha)
            have ZC := Lib.hid (cR_snoc r hc)
            have rz1 : IntKind.i64.wrap (z + 1) = z + 1 := by rw [IntKind.wrap_i64]; omega
            have rz2 : IntKind.i64.wrap (z - 1) = z - 1 := by rw [IntKind.wrap_i64]; omega
            have rz3 : IntKind.i64.wrap (z + 1 - 1) = z + 1 - 1 := by rw [IntKind.wrap_i64]; omega
            clear ha hc
            cases h1 : eqR a r with
            | true =>
              cases h2 : eqR c r with
              | true =>
                obtain ⟨x0, x1, x2, x3, x4, x5, x6, x7, x8, x9, x10, x11⟩ := (FA.out.on HW.out).out
                obtain ⟨y0, y1, y2, y3, y4, y5, y6, y7, y8, y9, y10, y11⟩ := (F2.out.on HW.out).out
                go_wp2_with fail
                go_quiet (fail)
                have HW2 : Hid (Below w3.heap.size w3 (wr.drewN nq)) := ⟨HW.out.os, HW.out.tape, HW.out.output, HW.out.size, HW.out.block⟩
                clear HW x0 y0 x1 y1 x2 y2 x3 y3 x4 y4 x5 y5 x6 y6 x7 y7 x8 y8 x9 y9 x10 y10 x11 y11
                generalize wr.drewN nq = wq at HW2 ⊢
                clear nq
                obtain ⟨x0, x1, x2, x3, x4, x5, x6, x7, x8, x9, x10, x11⟩ := (FC.out.on HW2.out).out
                obtain ⟨y0, y1, y2, y3, y4, y5, y6, y7, y8, y9, y10, y11⟩ := (F2.out.on HW2.out).out
                go_wp2_with fail
                go_quiet (fail)
                have HW3 : Hid (Below w3.heap.size w3 (wq.drewN nq)) := ⟨HW2.out.os, HW2.out.tape, HW2.out.output, HW2.out.size, HW2.out.block⟩
                clear HW2 x0 y0 x1 y1 x2 y2 x3 y3 x4 y4 x5 y5 x6 y6 x7 y7 x8 y8 x9 y9 x10 y10 x11 y11
                generalize wq.drewN nq = ws at HW3 ⊢
                clear nq
                go_wp2
                go_roundg (L.length - (k + 1))
                case measure => omega
                case rel => exact ⟨k + 1, z + 1 - 1, by omega, rfl, by go_num, by first | rfl | go_num | (congr 1; omega), by omega, by omega, Lib.hid (by have e1 := ZA.out; have e2 := ZC.out; have e3 := HZ.out; rw [h1] at e1; rw [h2] at e2; simp at e1 e2; omega), HW3⟩
              | false =>
                obtain ⟨x0, x1, x2, x3, x4, x5, x6, x7, x8, x9, x10, x11⟩ := (FA.out.on HW.out).out
                obtain ⟨y0, y1, y2, y3, y4, y5, y6, y7, y8, y9, y10, y11⟩ := (F2.out.on HW.out).out
                go_wp2_with fail
                go_quiet (fail)
                have HW2 : Hid (Below w3.heap.size w3 (wr.drewN nq)) := ⟨HW.out.os, HW.out.tape, HW.out.output, HW.out.size, HW.out.block⟩
                clear HW x0 y0 x1 y1 x2 y2 x3 y3 x4 y4 x5 y5 x6 y6 x7 y7 x8 y8 x9 y9 x10 y10 x11 y11
                generalize wr.drewN nq = wq at HW2 ⊢
                clear nq
                obtain ⟨x0, x1, x2, x3, x4, x5, x6, x7, x8, x9, x10, x11⟩ := (FC.out.on HW2.out).out
                obtain ⟨y0, y1, y2, y3, y4, y5, y6, y7, y8, y9, y10, y11⟩ := (F2.out.on HW2.out).out
                go_wp2_with fail
                go_quiet (fail)
                have HW3 : Hid (Below w3.heap.size w3 (wq.drewN nq)) := ⟨HW2.out.os, HW2.out.tape, HW2.out.output, HW2.out.size, HW2.out.block⟩
                clear HW2 x0 y0 x1 y1 x2 y2 x3 y3 x4 y4 x5 y5 x6 y6 x7 y7 x8 y8 x9 y9 x10 y10 x11 y11
                generalize wq.drewN nq = ws at HW3 ⊢
                clear nq
                go_wp2
                go_roundg (L.length - (k + 1))
                case measure => omega
                case rel => exact ⟨k + 1, z + 1, by omega, rfl, by go_num, by first | rfl | go_num | (congr 1; omega), by omega, by omega, Lib.hid (by have e1 := ZA.out; have e2 := ZC.out; have e3 := HZ.out; rw [h1] at e1; rw [h2] at e2; simp at e1 e2; omega), HW3⟩
            | false =>
              cases h2 : eqR c r with
              | true =>
                obtain ⟨x0, x1, x2, x3, x4, x5, x6, x7, x8, x9, x10, x11⟩ := (FA.out.on HW.out).out
                obtain ⟨y0, y1, y2, y3, y4, y5, y6, y7, y8, y9, y10, y11⟩ := (F2.out.on HW.out).out
                go_wp2_with fail
                go_quiet (fail)
                have HW2 : Hid (Below w3.heap.size w3 (wr.drewN nq)) := ⟨HW.out.os, HW.out.tape, HW.out.output, HW.out.size, HW.out.block⟩
                clear HW x0 y0 x1 y1 x2 y2 x3 y3 x4 y4 x5 y5 x6 y6 x7 y7 x8 y8 x9 y9 x10 y10 x11 y11
                generalize wr.drewN nq = wq at HW2 ⊢
                clear nq
                obtain ⟨x0, x1, x2, x3, x4, x5, x6, x7, x8, x9, x10, x11⟩ := (FC.out.on HW2.out).out
                obtain ⟨y0, y1, y2, y3, y4, y5, y6, y7, y8, y9, y10, y11⟩ := (F2.out.on HW2.out).out
                go_wp2_with fail
                go_quiet (fail)
                have HW3 : Hid (Below w3.heap.size w3 (wq.drewN nq)) := ⟨HW2.out.os, HW2.out.tape, HW2.out.output, HW2.out.size, HW2.out.block⟩
                clear HW2 x0 y0 x1 y1 x2 y2 x3 y3 x4 y4 x5 y5 x6 y6 x7 y7 x8 y8 x9 y9 x10 y10 x11 y11
                generalize wq.drewN nq = ws at HW3 ⊢
                clear nq
                go_wp2
                go_roundg (L.length - (k + 1))
                case measure => omega
                case rel => exact ⟨k + 1, z - 1, by omega, rfl, by go_num, by first | rfl | go_num | (congr 1; omega), by omega, by omega, Lib.hid (by have e1 := ZA.out; have e2 := ZC.out; have e3 := HZ.out; rw [h1] at e1; rw [h2] at e2; simp at e1 e2; omega), HW3⟩
              | false =>
                obtain ⟨x0, x1, x2, x3, x4, x5, x6, x7, x8, x9, x10, x11⟩ := (FA.out.on HW.out).out
                obtain ⟨y0, y1, y2, y3, y4, y5, y6, y7, y8, y9, y10, y11⟩ := (F2.out.on HW.out).out
                go_wp2_with fail
                go_quiet (fail)
                have HW2 : Hid (Below w3.heap.size w3 (wr.drewN nq)) := ⟨HW.out.os, HW.out.tape, HW.out.output, HW.out.size, HW.out.block⟩
                clear HW x0 y0 x1 y1 x2 y2 x3 y3 x4 y4 x5 y5 x6 y6 x7 y7 x8 y8 x9 y9 x10 y10 x11 y11
                generalize wr.drewN nq = wq at HW2 ⊢
                clear nq
                obtain ⟨x0, x1, x2, x3, x4, x5, x6, x7, x8, x9, x10, x11⟩ := (FC.out.on HW2.out).out
                obtain ⟨y0, y1, y2, y3, y4, y5, y6, y7, y8, y9, y10, y11⟩ := (F2.out.on HW2.out).out
                go_wp2_with fail
                go_quiet (fail)
                have HW3 : Hid (Below w3.heap.size w3 (wq.drewN nq)) := ⟨HW2.out.os, HW2.out.tape, HW2.out.output, HW2.out.size, HW2.out.block⟩
                clear HW2 x0 y0 x1 y1 x2 y2 x3 y3 x4 y4 x5 y5 x6 y6 x7 y7 x8 y8 x9 y9 x10 y10 x11 y11
                generalize wq.drewN nq = ws at HW3 ⊢
                clear nq
                go_wp2
                go_roundg (L.length - (k + 1))
                case measure => omega
                case rel => exact ⟨k + 1, z, by omega, rfl, by go_num, by first | rfl | go_num | (congr 1; omega), by omega, by omega, Lib.hid (by have e1 := ZA.out; have e2 := ZC.out; have e3 := HZ.out; rw [h1] at e1; rw [h2] at e2; simp at e1 e2; omega), HW3⟩
          · have hklz : ¬ (k : Int) < (L.length : Int) := by omega
            have hz0 : z = 0 := by
              have e := HZ.out
              obtain rfl : k = L.length := by omega
              have e2 : (srt L).take L.length = srt L := by rw [← srt_len L, List.take_length]
              rw [List.take_length, e2, cR_perm (srt_perm L)] at e
              omega
            subst hz0
            clear HZ F1 F2
            go_wp2
            go_roundg (L.length - (i + 1))
            case measure => omega
            case rel => exact ⟨i + 1, by omega, rfl, by go_num, HW⟩
      · have hi0d : decide (0 < i) = true := by simp; omega
        have hi0n : 0 < i := by omega
        obtain ⟨q, hq⟩ : ∃ q, q + 1 = i := ⟨i - 1, by omega⟩
        have rq : IntKind.i64.wrap ((i : Int) - 1) = (q : Int) := by rw [IntKind.wrap_i64]; omega
        have rq' : (i : Int) - 1 = (q : Int) := by omega
        have hqz : (q : Int) < (L.length : Int) := by omega
        have rqq : IntKind.i64.wrap (q : Int) = (q : Int) := by rw [IntKind.wrap_i64]; omega
        obtain ⟨p, hp⟩ : ∃ p, (srt L)[q]? = some p := ⟨_, List.getElem?_eq_getElem (by rw [srt_len]; omega)⟩
        have F3 := Lib.hid (g2 q p hp)
        have HP : Hid (decide (p.pri < r.pri) = false) := by
          show decide (p.pri < r.pri) = false
          have hd := srt_dec L
          rw [List.pairwise_iff_getElem] at hd
          obtain ⟨hq1, rfl⟩ := List.getElem?_eq_some_iff.1 hp
          obtain ⟨hi1, rfl⟩ := List.getElem?_eq_some_iff.1 HR.out
          have := hd q i hq1 hi1 (by omega)
          simp; omega
        clear g2 HR hp
        have KP : ∀ W, Below w3.heap.size w3 W → (Below w3.heap.size w3 W ∧ W.cell? ⟨b2, o2 + i * 12, none⟩ = some (.int .i64 r.pri) ∧ W.cell? ⟨b2, o2 + i * 12 + 1, none⟩ = some (.int .u64 (uv r.m.vh)) ∧ W.cell? ⟨b2, o2 + i * 12 + 2, none⟩ = some (.int .u64 (uv r.m.vl)) ∧ W.cell? ⟨b2, o2 + i * 12 + 3, none⟩ = some (.int .u64 (uv r.m.ch)) ∧ W.cell? ⟨b2, o2 + i * 12 + 4, none⟩ = some (.int .u64 (uv r.m.cl)) ∧ W.cell? ⟨b2, o2 + i * 12 + 5, none⟩ = some (.int .i64 r.kind) ∧ W.cell? ⟨b2, o2 + i * 12 + 6, none⟩ = some (.int .i64 r.port) ∧ W.cell? ⟨b2, o2 + i * 12 + 7, none⟩ = some (.int .i64 r.tab) ∧ W.cell? ⟨b2, o2 + i * 12 + 8, none⟩ = some (.int .u64 (uv r.s.vh)) ∧ W.cell? ⟨b2, o2 + i * 12 + 9, none⟩ = some (.int .u64 (uv r.s.vl)) ∧ W.cell? ⟨b2, o2 + i * 12 + 10, none⟩ = some (.int .u64 (uv r.s.ch)) ∧ W.cell? ⟨b2, o2 + i * 12 + 11, none⟩ = some (.int .u64 (uv r.s.cl)) ∧ W.cell? ⟨b1, o1 + i * 12, none⟩ = some (.int .i64 r.pri) ∧ W.cell? ⟨b1, o1 + i * 12 + 1, none⟩ = some (.int .u64 (uv r.m.vh)) ∧ W.cell? ⟨b1, o1 + i * 12 + 2, none⟩ = some (.int .u64 (uv r.m.vl)) ∧ W.cell? ⟨b1, o1 + i * 12 + 3, none⟩ = some (.int .u64 (uv r.m.ch)) ∧ W.cell? ⟨b1, o1 + i * 12 + 4, none⟩ = some (.int .u64 (uv r.m.cl)) ∧ W.cell? ⟨b1, o1 + i * 12 + 5, none⟩ = some (.int .i64 r.kind) ∧ W.cell? ⟨b1, o1 + i * 12 + 6, none⟩ = some (.int .i64 r.port) ∧ W.cell? ⟨b1, o1 + i * 12 + 7, none⟩ = some (.int .i64 r.tab) ∧ W.cell? ⟨b1, o1 + i * 12 + 8, none⟩ = some (.int .u64 (uv r.s.vh)) ∧ W.cell? ⟨b1, o1 + i * 12 + 9, none⟩ = some (.int .u64 (uv r.s.vl)) ∧ W.cell? ⟨b1, o1 + i * 12 + 10, none⟩ = some (.int .u64 (uv r.s.ch)) ∧ W.cell? ⟨b1, o1 + i * 12 + 11, none⟩ = some (.int .u64 (uv r.s.cl)) ∧ W.cell? ⟨b2, o2 + q * 12, none⟩ = some (.int .i64 p.pri) ∧ W.cell? ⟨b2, o2 + q * 12 + 1, none⟩ = some (.int .u64 (uv p.m.vh)) ∧ W.cell? ⟨b2, o2 + q * 12 + 2, none⟩ = some (.int .u64 (uv p.m.vl)) ∧ W.cell? ⟨b2, o2 + q * 12 + 3, none⟩ = some (.int .u64 (uv p.m.ch)) ∧ W.cell? ⟨b2, o2 + q * 12 + 4, none⟩ = some (.int .u64 (uv p.m.cl)) ∧ W.cell? ⟨b2, o2 + q * 12 + 5, none⟩ = some (.int .i64 p.kind) ∧ W.cell? ⟨b2, o2 + q * 12 + 6, none⟩ = some (.int .i64 p.port) ∧ W.cell? ⟨b2, o2 + q * 12 + 7, none⟩ = some (.int .i64 p.tab) ∧ W.cell? ⟨b2, o2 + q * 12 + 8, none⟩ = some (.int .u64 (uv p.s.vh)) ∧ W.cell? ⟨b2, o2 + q * 12 + 9, none⟩ = some (.int .u64 (uv p.s.vl)) ∧ W.cell? ⟨b2, o2 + q * 12 + 10, none⟩ = some (.int .u64 (uv p.s.ch)) ∧ W.cell? ⟨b2, o2 + q * 12 + 11, none⟩ = some (.int .u64 (uv p.s.cl))) := fun W hb => by
          obtain ⟨x0, x1, x2, x3, x4, x5, x6, x7, x8, x9, x10, x11⟩ := (F2.out.on hb).out
          obtain ⟨y0, y1, y2, y3, y4, y5, y6, y7, y8, y9, y10, y11⟩ := (F1.out.on hb).out
          obtain ⟨z0, z1, z2, z3, z4, z5, z6, z7, z8, z9, z10, z11⟩ := (F3.out.on hb).out
          exact ⟨hb, x0, x1, x2, x3, x4, x5, x6, x7, x8, x9, x10, x11, y0, y1, y2, y3, y4, y5, y6, y7, y8, y9, y10, y11, z0, z1, z2, z3, z4, z5, z6, z7, z8, z9, z10, z11⟩
        have HKP := Lib.hid KP
        clear KP
        go_upto_region 8 with (fail)
        refine wp_region_held_drew (S := fun w' => Below w3.heap.size w3 w' ∧ w'.cell? ⟨b2, o2 + i * 12, none⟩ = some (.int .i64 r.pri) ∧ w'.cell? ⟨b2, o2 + i * 12 + 1, none⟩ = some (.int .u64 (uv r.m.vh)) ∧ w'.cell? ⟨b2, o2 + i * 12 + 2, none⟩ = some (.int .u64 (uv r.m.vl)) ∧ w'.cell? ⟨b2, o2 + i * 12 + 3, none⟩ = some (.int .u64 (uv r.m.ch)) ∧ w'.cell? ⟨b2, o2 + i * 12 + 4, none⟩ = some (.int .u64 (uv r.m.cl)) ∧ w'.cell? ⟨b2, o2 + i * 12 + 5, none⟩ = some (.int .i64 r.kind) ∧ w'.cell? ⟨b2, o2 + i * 12 + 6, none⟩ = some (.int .i64 r.port) ∧ w'.cell? ⟨b2, o2 + i * 12 + 7, none⟩ = some (.int .i64 r.tab) ∧ w'.cell? ⟨b2, o2 + i * 12 + 8, none⟩ = some (.int .u64 (uv r.s.vh)) ∧ w'.cell? ⟨b2, o2 + i * 12 + 9, none⟩ = some (.int .u64 (uv r.s.vl)) ∧ w'.cell? ⟨b2, o2 + i * 12 + 10, none⟩ = some (.int .u64 (uv r.s.ch)) ∧ w'.cell? ⟨b2, o2 + i * 12 + 11, none⟩ = some (.int .u64 (uv r.s.cl)) ∧ w'.cell? ⟨b1, o1 + i * 12, none⟩ = some (.int .i64 r.pri) ∧ w'.cell? ⟨b1, o1 + i * 12 + 1, none⟩ = some (.int .u64 (uv r.m.vh)) ∧ w'.cell? ⟨b1, o1 + i * 12 + 2, none⟩ = some (.int .u64 (uv r.m.vl)) ∧ w'.cell? ⟨b1, o1 + i * 12 + 3, none⟩ = some (.int .u64 (uv r.m.ch)) ∧ w'.cell? ⟨b1, o1 + i * 12 + 4, none⟩ = some (.int .u64 (uv r.m.cl)) ∧ w'.cell? ⟨b1, o1 + i * 12 + 5, none⟩ = some (.int .i64 r.kind) ∧ w'.cell? ⟨b1, o1 + i * 12 + 6, none⟩ = some (.int .i64 r.port) ∧ w'.cell? ⟨b1, o1 + i * 12 + 7, none⟩ = some (.int .i64 r.tab) ∧ w'.cell? ⟨b1, o1 + i * 12 + 8, none⟩ = some (.int .u64 (uv r.s.vh)) ∧ w'.cell? ⟨b1, o1 + i * 12 + 9, none⟩ = some (.int .u64 (uv r.s.vl)) ∧ w'.cell? ⟨b1, o1 + i * 12 + 10, none⟩ = some (.int .u64 (uv r.s.ch)) ∧ w'.cell? ⟨b1, o1 + i * 12 + 11, none⟩ = some (.int .u64 (uv r.s.cl)) ∧ w'.cell? ⟨b2, o2 + q * 12, none⟩ = some (.int .i64 p.pri) ∧ w'.cell? ⟨b2, o2 + q * 12 + 1, none⟩ = some (.int .u64 (uv p.m.vh)) ∧ w'.cell? ⟨b2, o2 + q * 12 + 2, none⟩ = some (.int .u64 (uv p.m.vl)) ∧ w'.cell? ⟨b2, o2 + q * 12 + 3, none⟩ = some (.int .u64 (uv p.m.ch)) ∧ w'.cell? ⟨b2, o2 + q * 12 + 4, none⟩ = some (.int .u64 (uv p.m.cl)) ∧ w'.cell? ⟨b2, o2 + q * 12 + 5, none⟩ = some (.int .i64 p.kind) ∧ w'.cell? ⟨b2, o2 + q * 12 + 6, none⟩ = some (.int .i64 p.port) ∧ w'.cell? ⟨b2, o2 + q * 12 + 7, none⟩ = some (.int .i64 p.tab) ∧ w'.cell? ⟨b2, o2 + q * 12 + 8, none⟩ = some (.int .u64 (uv p.s.vh)) ∧ w'.cell? ⟨b2, o2 + q * 12 + 9, none⟩ = some (.int .u64 (uv p.s.vl)) ∧ w'.cell? ⟨b2, o2 + q * 12 + 10, none⟩ = some (.int .u64 (uv p.s.ch)) ∧ w'.cell? ⟨b2, o2 + q * 12 + 11, none⟩ = some (.int .u64 (uv p.s.cl))) (by kernel_rfl) (HKP.out _ HB.out.drew) (fun hHeld => ?_)
        refine wpAnyH_take (i := 0) (oi := ⟨some 34, _, _, _, _, _⟩) (v := ?vg0) rfl (by kernel_rfl) (by kernel_rfl) (by kernel_rfl) (fun _ _ _ h => h) (Or.inl ⟨by rfl, ?yg0⟩) hHeld ?rg0
        case yg0 => (intro w' hSw; (try dsimp only at hSw); go_simp; try (with_reducible rfl))
        simp only [Act.put, List.setIfInBounds_toArray, List.set_cons_zero, List.set_cons_succ]
        refine wpAnyH_take (i := 1) (oi := ⟨some 35, _, _, _, _, _⟩) (v := ?vg1) rfl (by kernel_rfl) (by kernel_rfl) (by kernel_rfl) (fun _ _ _ h => h) (Or.inl ⟨by rfl, ?yg1⟩) hHeld ?rg1
        case yg1 => (intro w' hSw; (try dsimp only at hSw); go_simp; try (with_reducible rfl))
        simp only [Act.put, List.setIfInBounds_toArray, List.set_cons_zero, List.set_cons_succ]
        refine wpAnyH_take (i := 2) (oi := ⟨some 36, _, _, _, _, _⟩) (v := ?vg2) rfl (by kernel_rfl) (by kernel_rfl) (by kernel_rfl) (fun _ _ _ h => h) (Or.inl ⟨by rfl, ?yg2⟩) hHeld ?rg2
        case yg2 => (intro w' hSw; (try dsimp only at hSw); go_simp; try (with_reducible rfl))
        simp only [Act.put, List.setIfInBounds_toArray, List.set_cons_zero, List.set_cons_succ]
        refine wpAnyH_take (i := 3) (oi := ⟨some 37, _, _, _, _, _⟩) (v := ?vg3) rfl (by kernel_rfl) (by kernel_rfl) (by kernel_rfl) (fun _ _ _ h => h) (Or.inl ⟨by rfl, ?yg3⟩) hHeld ?rg3
        case yg3 => (intro w' hSw; (try dsimp only at hSw); go_simp; try (with_reducible rfl))
        simp only [Act.put, List.setIfInBounds_toArray, List.set_cons_zero, List.set_cons_succ]
        refine wpAnyH_take (i := 4) (oi := ⟨some 38, _, _, _, _, _⟩) (v := ?vg4) rfl (by kernel_rfl) (by kernel_rfl) (by kernel_rfl) (fun _ _ _ h => h) (Or.inl ⟨by rfl, ?yg4⟩) hHeld ?rg4
        case yg4 => (intro w' hSw; (try dsimp only at hSw); go_simp; try (with_reducible rfl))
        simp only [Act.put, List.setIfInBounds_toArray, List.set_cons_zero, List.set_cons_succ]
        refine wpAnyH_take (i := 5) (oi := ⟨some 39, _, _, _, _, _⟩) (v := ?vg5) rfl (by kernel_rfl) (by kernel_rfl) (by kernel_rfl) (fun _ _ _ h => h) (Or.inl ⟨by rfl, ?yg5⟩) hHeld ?rg5
        case yg5 => (intro w' hSw; (try dsimp only at hSw); go_simp; try (with_reducible rfl))
        simp only [Act.put, List.setIfInBounds_toArray, List.set_cons_zero, List.set_cons_succ]
        refine wpAnyH_take (i := 6) (oi := ⟨some 40, _, _, _, _, _⟩) (v := ?vg6) rfl (by kernel_rfl) (by kernel_rfl) (by kernel_rfl) (fun _ _ _ h => h) (Or.inl ⟨by rfl, ?yg6⟩) hHeld ?rg6
        case yg6 => (intro w' hSw; (try dsimp only at hSw); go_simp; try (with_reducible rfl))
        simp only [Act.put, List.setIfInBounds_toArray, List.set_cons_zero, List.set_cons_succ]
        refine wpAnyH_take (i := 7) (oi := ⟨some 41, _, _, _, _, _⟩) (v := ?vg7) rfl (by kernel_rfl) (by kernel_rfl) (by kernel_rfl) (fun _ _ _ h => h) (Or.inl ⟨by rfl, ?yg7⟩) hHeld ?rg7
        case yg7 => (intro w' hSw; (try dsimp only at hSw); go_simp; try (with_reducible rfl))
        simp only [Act.put, List.setIfInBounds_toArray, List.set_cons_zero, List.set_cons_succ]
        refine wpAnyH_take (i := 8) (oi := ⟨some 42, _, _, _, _, _⟩) (v := ?vg8) rfl (by kernel_rfl) (by kernel_rfl) (by kernel_rfl) (fun _ _ _ h => h) (Or.inl ⟨by rfl, ?yg8⟩) hHeld ?rg8
        case yg8 => (intro w' hSw; (try dsimp only at hSw); go_simp; try (with_reducible rfl))
        simp only [Act.put, List.setIfInBounds_toArray, List.set_cons_zero, List.set_cons_succ]
        refine wpAnyH_take (i := 9) (oi := ⟨some 43, _, _, _, _, _⟩) (v := ?vg9) rfl (by kernel_rfl) (by kernel_rfl) (by kernel_rfl) (fun _ _ _ h => h) (Or.inl ⟨by rfl, ?yg9⟩) hHeld ?rg9
        case yg9 => (intro w' hSw; (try dsimp only at hSw); go_simp; try (with_reducible rfl))
        simp only [Act.put, List.setIfInBounds_toArray, List.set_cons_zero, List.set_cons_succ]
        refine wpAnyH_take (i := 10) (oi := ⟨some 44, _, _, _, _, _⟩) (v := ?vg10) rfl (by kernel_rfl) (by kernel_rfl) (by kernel_rfl) (fun _ _ _ h => h) (Or.inl ⟨by rfl, ?yg10⟩) hHeld ?rg10
        case yg10 => (intro w' hSw; (try dsimp only at hSw); go_simp; try (with_reducible rfl))
        simp only [Act.put, List.setIfInBounds_toArray, List.set_cons_zero, List.set_cons_succ]
        refine wpAnyH_take (i := 11) (oi := ⟨some 45, _, _, _, _, _⟩) (v := ?vg11) rfl (by kernel_rfl) (by kernel_rfl) (by kernel_rfl) (fun _ _ _ h => h) (Or.inl ⟨by rfl, ?yg11⟩) hHeld ?rg11
        case yg11 => (intro w' hSw; (try dsimp only at hSw); go_simp; try (with_reducible rfl))
        simp only [Act.put, List.setIfInBounds_toArray, List.set_cons_zero, List.set_cons_succ]
        refine wpAnyH_take (i := 12) (oi := ⟨some 46, _, _, _, _, _⟩) (v := ?vg12) rfl (by kernel_rfl) (by kernel_rfl) (by kernel_rfl) (fun _ _ _ h => h) (Or.inl ⟨by rfl, ?yg12⟩) hHeld ?rg12
        case yg12 => (intro w' hSw; (try dsimp only at hSw); go_simp; try (with_reducible rfl))
        simp only [Act.put, List.setIfInBounds_toArray, List.set_cons_zero, List.set_cons_succ]
        refine wpAnyH_take (i := 13) (oi := ⟨some 47, _, _, _, _, _⟩) (v := ?vg13) rfl (by kernel_rfl) (by kernel_rfl) (by kernel_rfl) (fun _ _ _ h => h) (Or.inl ⟨by rfl, ?yg13⟩) hHeld ?rg13
        case yg13 => (intro w' hSw; (try dsimp only at hSw); go_simp; try (with_reducible rfl))
        simp only [Act.put, List.setIfInBounds_toArray, List.set_cons_zero, List.set_cons_succ]
        refine wpAnyH_take (i := 14) (oi := ⟨some 48, _, _, _, _, _⟩) (v := ?vg14) rfl (by kernel_rfl) (by kernel_rfl) (by kernel_rfl) (fun _ _ _ h => h) (Or.inl ⟨by rfl, ?yg14⟩) hHeld ?rg14
        case yg14 => (intro w' hSw; (try dsimp only at hSw); go_simp; try (with_reducible rfl))
        simp only [Act.put, List.setIfInBounds_toArray, List.set_cons_zero, List.set_cons_succ]
        refine wpAnyH_take (i := 15) (oi := ⟨some 49, _, _, _, _, _⟩) (v := ?vg15) rfl (by kernel_rfl) (by kernel_rfl) (by kernel_rfl) (fun _ _ _ h => h) (Or.inl ⟨by rfl, ?yg15⟩) hHeld ?rg15
        case yg15 => (intro w' hSw; (try dsimp only at hSw); go_simp; try (with_reducible rfl))
        simp only [Act.put, List.setIfInBounds_toArray, List.set_cons_zero, List.set_cons_succ]
        refine wpAnyH_take (i := 16) (oi := ⟨some 50, _, _, _, _, _⟩) (v := ?vg16) rfl (by kernel_rfl) (by kernel_rfl) (by kernel_rfl) (fun _ _ _ h => h) (Or.inl ⟨by rfl, ?yg16⟩) hHeld ?rg16
        case yg16 => (intro w' hSw; (try dsimp only at hSw); go_simp; try (with_reducible rfl))
        simp only [Act.put, List.setIfInBounds_toArray, List.set_cons_zero, List.set_cons_succ]
        refine wpAnyH_take (i := 17) (oi := ⟨some 51, _, _, _, _, _⟩) (v := ?vg17) rfl (by kernel_rfl) (by kernel_rfl) (by kernel_rfl) (fun _ _ _ h => h) (Or.inl ⟨by rfl, ?yg17⟩) hHeld ?rg17
        case yg17 => (intro w' hSw; (try dsimp only at hSw); go_simp; try (with_reducible rfl))
        simp only [Act.put, List.setIfInBounds_toArray, List.set_cons_zero, List.set_cons_succ]
        refine wpAnyH_take (i := 18) (oi := ⟨some 52, _, _, _, _, _⟩) (v := ?vg18) rfl (by kernel_rfl) (by kernel_rfl) (by kernel_rfl) (fun _ _ _ h => h) (Or.inl ⟨by rfl, ?yg18⟩) hHeld ?rg18
        case yg18 => (intro w' hSw; (try dsimp only at hSw); go_simp; try (with_reducible rfl))
        simp only [Act.put, List.setIfInBounds_toArray, List.set_cons_zero, List.set_cons_succ]
        refine wpAnyH_take (i := 19) (oi := ⟨some 53, _, _, _, _, _⟩) (v := ?vg19) rfl (by kernel_rfl) (by kernel_rfl) (by kernel_rfl) (fun _ _ _ h => h) (Or.inl ⟨by rfl, ?yg19⟩) hHeld ?rg19
        case yg19 => (intro w' hSw; (try dsimp only at hSw); go_simp; try (with_reducible rfl))
        simp only [Act.put, List.setIfInBounds_toArray, List.set_cons_zero, List.set_cons_succ]
        refine wpAnyH_take (i := 20) (oi := ⟨some 54, _, _, _, _, _⟩) (v := ?vg20) rfl (by kernel_rfl) (by kernel_rfl) (by kernel_rfl) (fun _ _ _ h => h) (Or.inl ⟨by rfl, ?yg20⟩) hHeld ?rg20
        case yg20 => (intro w' hSw; (try dsimp only at hSw); go_simp; try (with_reducible rfl))
        simp only [Act.put, List.setIfInBounds_toArray, List.set_cons_zero, List.set_cons_succ]
        refine wpAnyH_take (i := 21) (oi := ⟨some 55, _, _, _, _, _⟩) (v := ?vg21) rfl (by kernel_rfl) (by kernel_rfl) (by kernel_rfl) (fun _ _ _ h => h) (Or.inl ⟨by rfl, ?yg21⟩) hHeld ?rg21
        case yg21 => (intro w' hSw; (try dsimp only at hSw); go_simp; try (with_reducible rfl))
        simp only [Act.put, List.setIfInBounds_toArray, List.set_cons_zero, List.set_cons_succ]
        refine wpAnyH_ready (rs := [22]) (by kernel_rfl) (by simp) ?_
        refine AllReadyH.cons (o := ⟨some 56, _, _, _, _, _⟩) rfl (fun K hK => ?_) AllReadyH.nil
        go_simp
        (with_reducible refine (before_r r p false _ HP.out).mono ?_)
        rintro e w5 ⟨rfl, hb⟩
        (try dsimp only)
        refine hK.out _ _ (HKP.out _ (hHeld.1.trans (hb.mono hHeld.1.size))) (fun hNext => ?_)
        clear hK K hHeld
        have hHeld := hNext
        clear hNext
        try simp only [Act.put, List.setIfInBounds_toArray, List.set_cons_zero, List.set_cons_succ]
        refine wpAnyH_take (i := 23) (oi := ⟨some 57, _, _, _, _, _⟩) (v := ?vg23) rfl (by kernel_rfl) (by kernel_rfl) (by kernel_rfl) (fun _ _ _ h => h) (Or.inl ⟨by rfl, ?yg23⟩) hHeld ?rg23
        case yg23 => (intro w' hSw; (try dsimp only at hSw); go_simp; try (with_reducible rfl))
        simp only [Act.put, List.setIfInBounds_toArray, List.set_cons_zero, List.set_cons_succ]
        refine wpAnyH_take (i := 24) (oi := ⟨some 58, _, _, _, _, _⟩) (v := ?vg24) rfl (by kernel_rfl) (by kernel_rfl) (by kernel_rfl) (fun _ _ _ h => h) (Or.inl ⟨by rfl, ?yg24⟩) hHeld ?rg24
        case yg24 => (intro w' hSw; (try dsimp only at hSw); go_simp; try (with_reducible rfl))
        simp only [Act.put, List.setIfInBounds_toArray, List.set_cons_zero, List.set_cons_succ]
        refine wpAnyH_done (by kernel_rfl) ?_ _
        have HC := Lib.hid hHeld.1
        clear hHeld HKP HB
        go_wp2
        go_loopg [6, 7] L.length (fun gi s6 s7 wr2 => ∃ (k : Nat) (z : Int), k ≤ L.length ∧ gi = L.length - k ∧ s7 = .int .i64 k ∧ s6 = .int .i64 z ∧ -(k : Int) ≤ z ∧ z ≤ (k : Int) ∧ Hid (z = cR (L.take k) r - cR ((srt L).take k) r) ∧ Hid (Below w3.heap.size w3 wr2))
        case atStart => exact ⟨0, 0, Nat.zero_le _, rfl, rfl, rfl, by omega, by omega, Lib.hid (by simp [cR]), HC⟩
        case round =>
          clear HC
          obtain ⟨k, z, hk, rfl, rfl, rfl, hz1, hz2, HZ, HW⟩ := hrel
          by_cases hkl : k < L.length
          · have hklz : (k : Int) < (L.length : Int) := by omega
            obtain ⟨a, ha⟩ : ∃ a, L[k]? = some a := ⟨_, List.getElem?_eq_getElem hkl⟩
            obtain ⟨c, hc⟩ : ∃ c, (srt L)[k]? = some c := ⟨_, List.getElem?_eq_getElem (by rw [srt_len]; exact hkl)⟩
            have FA := Lib.hid (G0.out k a ha)
            have FC := Lib.hid (G1.out k c hc)
            have ZA := Lib.hid (cR_snoc r ha)
            have ZC := Lib.hid (cR_snoc r hc)
            have rz1 : IntKind.i64.wrap (z + 1) = z + 1 := by rw [IntKind.wrap_i64]; omega
            have rz2 : IntKind.i64.wrap (z - 1) = z - 1 := by rw [IntKind.wrap_i64]; omega
            have rz3 : IntKind.i64.wrap (z + 1 - 1) = z + 1 - 1 := by rw [IntKind.wrap_i64]; omega
            clear ha hc
            cases h1 : eqR a r with
            | true =>
              cases h2 : eqR c r with
              | true =>
                obtain ⟨x0, x1, x2, x3, x4, x5, x6, x7, x8, x9, x10, x11⟩ := (FA.out.on HW.out).out
                obtain ⟨y0, y1, y2, y3, y4, y5, y6, y7, y8, y9, y10, y11⟩ := (F2.out.on HW.out).out
                go_wp2_with fail
                go_quiet (fail)
                have HW2 : Hid (Below w3.heap.size w3 (wr.drewN nq)) := ⟨HW.out.os, HW.out.tape, HW.out.output, HW.out.size, HW.out.block⟩
                clear HW x0 y0 x1 y1 x2 y2 x3 y3 x4 y4 x5 y5 x6 y6 x7 y7 x8 y8 x9 y9 x10 y10 x11 y11
                generalize wr.drewN nq = wq at HW2 ⊢
                clear nq
                obtain ⟨x0, x1, x2, x3, x4, x5, x6, x7, x8, x9, x10, x11⟩ := (FC.out.on HW2.out).out
                obtain ⟨y0, y1, y2, y3, y4, y5, y6, y7, y8, y9, y10, y11⟩ := (F2.out.on HW2.out).out
                go_wp2_with fail
                go_quiet (fail)
                have HW3 : Hid (Below w3.heap.size w3 (wq.drewN nq)) := ⟨HW2.out.os, HW2.out.tape, HW2.out.output, HW2.out.size, HW2.out.block⟩
                clear HW2 x0 y0 x1 y1 x2 y2 x3 y3 x4 y4 x5 y5 x6 y6 x7 y7 x8 y8 x9 y9 x10 y10 x11 y11
                generalize wq.drewN nq = ws at HW3 ⊢
                clear nq
                go_wp2
                go_roundg (L.length - (k + 1))
                case measure => omega
                case rel => exact ⟨k + 1, z + 1 - 1, by omega, rfl, by go_num, by first | rfl | go_num | (congr 1; omega), by omega, by omega, Lib.hid (by have e1 := ZA.out; have e2 := ZC.out; have e3 := HZ.out; rw [h1] at e1; rw [h2] at e2; simp at e1 e2; omega), HW3⟩
              | false =>
                obtain ⟨x0, x1, x2, x3, x4, x5, x6, x7, x8, x9, x10, x11⟩ := (FA.out.on HW.out).out
                obtain ⟨y0, y1, y2, y3, y4, y5, y6, y7, y8, y9, y10, y11⟩ := (F2.out.on HW.out).out
                go_wp2_with fail
                go_quiet (fail)
                have HW2 : Hid (Below w3.heap.size w3 (wr.drewN nq)) := ⟨HW.out.os, HW.out.tape, HW.out.output, HW.out.size, HW.out.block⟩
                clear HW x0 y0 x1 y1 x2 y2 x3 y3 x4 y4 x5 y5 x6 y6 x7 y7 x8 y8 x9 y9 x10 y10 x11 y11
                generalize wr.drewN nq = wq at HW2 ⊢
                clear nq
                obtain ⟨x0, x1, x2, x3, x4, x5, x6, x7, x8, x9, x10, x11⟩ := (FC.out.on HW2.out).out
                obtain ⟨y0, y1, y2, y3, y4, y5, y6, y7, y8, y9, y10, y11⟩ := (F2.out.on HW2.out).out
                go_wp2_with fail
                go_quiet (fail)
                have HW3 : Hid (Below w3.heap.size w3 (wq.drewN nq)) := ⟨HW2.out.os, HW2.out.tape, HW2.out.output, HW2.out.size, HW2.out.block⟩
                clear HW2 x0 y0 x1 y1 x2 y2 x3 y3 x4 y4 x5 y5 x6 y6 x7 y7 x8 y8 x9 y9 x10 y10 x11 y11
                generalize wq.drewN nq = ws at HW3 ⊢
                clear nq
                go_wp2
                go_roundg (L.length - (k + 1))
                case measure => omega
                case rel => exact ⟨k + 1, z + 1, by omega, rfl, by go_num, by first | rfl | go_num | (congr 1; omega), by omega, by omega, Lib.hid (by have e1 := ZA.out; have e2 := ZC.out; have e3 := HZ.out; rw [h1] at e1; rw [h2] at e2; simp at e1 e2; omega), HW3⟩
            | false =>
              cases h2 : eqR c r with
              | true =>
                obtain ⟨x0, x1, x2, x3, x4, x5, x6, x7, x8, x9, x10, x11⟩ := (FA.out.on HW.out).out
                obtain ⟨y0, y1, y2, y3, y4, y5, y6, y7, y8, y9, y10, y11⟩ := (F2.out.on HW.out).out
                go_wp2_with fail
                go_quiet (fail)
                have HW2 : Hid (Below w3.heap.size w3 (wr.drewN nq)) := ⟨HW.out.os, HW.out.tape, HW.out.output, HW.out.size, HW.out.block⟩
                clear HW x0 y0 x1 y1 x2 y2 x3 y3 x4 y4 x5 y5 x6 y6 x7 y7 x8 y8 x9 y9 x10 y10 x11 y11
                generalize wr.drewN nq = wq at HW2 ⊢
                clear nq
                obtain ⟨x0, x1, x2, x3, x4, x5, x6, x7, x8, x9, x10, x11⟩ := (FC.out.on HW2.out).out
                obtain ⟨y0, y1, y2, y3, y4, y5, y6, y7, y8, y9, y10, y11⟩ := (F2.out.on HW2.out).out
                go_wp2_with fail
                go_quiet (fail)
                have HW3 : Hid (Below w3.heap.size w3 (wq.drewN nq)) := ⟨HW2.out.os, HW2.out.tape, HW2.out.output, HW2.out.size, HW2.out.block⟩
                clear HW2 x0 y0 x1 y1 x2 y2 x3 y3 x4 y4 x5 y5 x6 y6 x7 y7 x8 y8 x9 y9 x10 y10 x11 y11
                generalize wq.drewN nq = ws at HW3 ⊢
                clear nq
                go_wp2
                go_roundg (L.length - (k + 1))
                case measure => omega
                case rel => exact ⟨k + 1, z - 1, by omega, rfl, by go_num, by first | rfl | go_num | (congr 1; omega), by omega, by omega, Lib.hid (by have e1 := ZA.out; have e2 := ZC.out; have e3 := HZ.out; rw [h1] at e1; rw [h2] at e2; simp at e1 e2; omega), HW3⟩
              | false =>
                obtain ⟨x0, x1, x2, x3, x4, x5, x6, x7, x8, x9, x10, x11⟩ := (FA.out.on HW.out).out
                obtain ⟨y0, y1, y2, y3, y4, y5, y6, y7, y8, y9, y10, y11⟩ := (F2.out.on HW.out).out
                go_wp2_with fail
                go_quiet (fail)
                have HW2 : Hid (Below w3.heap.size w3 (wr.drewN nq)) := ⟨HW.out.os, HW.out.tape, HW.out.output, HW.out.size, HW.out.block⟩
                clear HW x0 y0 x1 y1 x2 y2 x3 y3 x4 y4 x5 y5 x6 y6 x7 y7 x8 y8 x9 y9 x10 y10 x11 y11
                generalize wr.drewN nq = wq at HW2 ⊢
                clear nq
                obtain ⟨x0, x1, x2, x3, x4, x5, x6, x7, x8, x9, x10, x11⟩ := (FC.out.on HW2.out).out
                obtain ⟨y0, y1, y2, y3, y4, y5, y6, y7, y8, y9, y10, y11⟩ := (F2.out.on HW2.out).out
                go_wp2_with fail
                go_quiet (fail)
                have HW3 : Hid (Below w3.heap.size w3 (wq.drewN nq)) := ⟨HW2.out.os, HW2.out.tape, HW2.out.output, HW2.out.size, HW2.out.block⟩
                clear HW2 x0 y0 x1 y1 x2 y2 x3 y3 x4 y4 x5 y5 x6 y6 x7 y7 x8 y8 x9 y9 x10 y10 x11 y11
                generalize wq.drewN nq = ws at HW3 ⊢
                clear nq
                go_wp2
                go_roundg (L.length - (k + 1))
                case measure => omega
                case rel => exact ⟨k + 1, z, by omega, rfl, by go_num, by first | rfl | go_num | (congr 1; omega), by omega, by omega, Lib.hid (by have e1 := ZA.out; have e2 := ZC.out; have e3 := HZ.out; rw [h1] at e1; rw [h2] at e2; simp at e1 e2; omega), HW3⟩
          · have hklz : ¬ (k : Int) < (L.length : Int) := by omega
            have hz0 : z = 0 := by
              have e := HZ.out
              obtain rfl : k = L.length := by omega
              have e2 : (srt L).take L.length = srt L := by rw [← srt_len L, List.take_length]
              rw [List.take_length, e2, cR_perm (srt_perm L)] at e
              omega
            subst hz0
            clear HZ F1 F2 F3
            go_wp2
            go_roundg (L.length - (i + 1))
            case measure => omega
            case rel => exact ⟨i + 1, by omega, rfl, by go_num, HW⟩
    · have hltz : ¬ (i : Int) < (L.length : Int) := by omega
      have HE := B3.out.trans (HB.out.mono B3.out.size)
      clear H1 H2 H0 HB
      go_wp2
      go_ret
      exact ⟨rfl, HE⟩
end Go.Proofs

namespace Go.Proofs.Ytkbeppknmdejnaa
open Go.ChangeShapes Go.WideShapes Go.ChangeAt Go.RowKit Go.Joins Go.Proofs.Hd

theorem laidOut_rnl : laidOutB Try.prog = true := by kernel_rfl
set_option maxRecDepth 100000 in
theorem rnl_lifted (os : Os) (started : os.Started) (H : Type) (enc : TypeId × Value → H) :
    ReturnsInHanded {} Try.checked os 6 .any (Rows.ruleOnceSpec.pre6 enc Try.prog Try.f6 Rows.ruleOnceRow.domain false) (Rows.ruleOnceSpec.post enc Try.prog Try.f6 false true false false) := by
  refine returnsInHanded_of_change_sized (C := Try.checked) own started (by kernel_rfl) Try.func6
    (ChangeSpec.witness6 (enc := enc) (C := Try.checked) false ⟨#[], #[.slice none 0 0], []⟩ 8 (by kernel_rfl) (by kernel_rfl) (by kernel_rfl) (by kernel_rfl)) ?_
  intro W base args ds gs before hval0 hW hcnd hsz _
  have hval : ∀ (j : Nat) t v, Try.f6.params[j]? = some t → args[j]? = some v → Value.okWide Try.prog W .any base t v := hval0
  have hW' := hW
  obtain ⟨p, q, hA0, hV, rfl, hfz, hnd⟩ := hW
  have hA : DataW.TrodAll enc Try.prog W 0 (fun _ => true) true Try.f6.params.toList args.toList ds p := hA0
  rw [Try.params6] at hA hval
  obtain ⟨v0, vs0, d0, ds0, p0, q0, hargs, rfl, rfl, h0, r0⟩ := trodAll_cons hA
  obtain ⟨rfl, rfl, rfl⟩ := trodAll_nil r0
  obtain rfl : args = #[v0] := by cases args; simp_all
  obtain ⟨rfl, rfl⟩ := trodVars_none hV
  have k0 := h0
  have lt0 : ∀ x ∈ p0, x.block < W.heap.size := by obtain ⟨m, hm⟩ := k0; exact DataW.trod_lt m _ _ _ hm
  obtain ⟨aA, ac, aL, rfl, pa, da⟩ := open_rules (hval 0 34 v0 rfl rfl) h0
  have za : aL.length ≤ 1466015503658 := by
    rcases da with e | ⟨el, sp, e1, e2⟩
    · omega
    · subst e1
      have hh := sized_slice hsz (j := 0) (t := 34) (by rw [Try.params6]; rfl) rfl Try.underlying34
      have hb : Try.checked.prog.bytesOf 30 = 96 := by kernel_rfl
      have hr : reachBytes ≤ 140737488351232 := by decide
      rw [hb] at hh
      omega
  clear hA0 hval0
  refine (rnl_c _ aL W za pa).mono fun e W' ⟨he, hg⟩ => ?_
  subst he
  exact ⟨_, rfl, _, _, _, [], _, [], hW', trodAll_mk1 (shut_bool Try.underlying4 _), (trodAll_cons_mk (Below.trod laidOut_rnl (by kernel_rfl) (of_decide_eq_true (by kernel_rfl)) k0 hg lt0) trodAll_mk0), rfl, hg.frame _, (fun h => by cases h)⟩

theorem rnl_holds : Rows.RuleOnceSaid :=
  OpenClaim.holds_of_wide 6 Try.f6 rfl rfl rfl rfl rfl rfl rfl ⟨rfl, rfl, rfl, rfl, rfl⟩ rfl rfl rfl rfl rfl (by kernel_rfl) Try.func6 (by kernel_rfl)
    (of_decide_eq_true (by kernel_rfl)) (by unfold Func.isWrapper; first | (rw [if_pos (by decide +kernel)]; kernel_rfl) | (rw [if_neg (by decide +kernel)]; exact ⟨rfl, rfl⟩))
    (fun os started H enc _ => rnl_lifted os started H enc)
#print axioms rnl_holds
end Go.Proofs.Ytkbeppknmdejnaa
