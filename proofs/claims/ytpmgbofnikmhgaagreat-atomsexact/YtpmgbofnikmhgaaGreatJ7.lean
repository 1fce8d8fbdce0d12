/-
  Contracts of the reference's Texts, Same and Has of layer 3. Conditions as each theorem lists them.
  Plain facts: texts of sound cubes are apart; a list of sound cubes without the spare ones, place by place. No program in sight. Conditions as each theorem lists them.
  Mathematics of piles: what is left of a sound pile is sound; leaning twice; a cube has its own value. No conditions but those of each theorem.
  Plain facts: a list without its spare cubes, taken cube by cube; cubes that are not sound don't matter. No program in sight. No conditions.
  Atoms of cubes as mathematics: splitting by a cube, by many, merging. No program in sight. Conditions as each theorem lists them.
  Atoms of cubes: how many there are, and which headers are together, hang on nothing but which headers the cubes tell apart. No program in sight. Conditions as each theorem lists them.
  Sets of numbers as lists that increase. No program in sight. Conditions as each theorem lists them.
  Atoms as the program makes them: the parts of a pile that a cube does not cut, splitting, refining, merging by places. No program in sight. Conditions as each theorem lists them.
  Numbers in memory (Nm); contracts of ids.Sound, of slices.Index, slices.Contains and ids.Has, and of the law's own has. Conditions as each theorem lists them.
  The library's contracts of slices.Sort, slices.Compact, cmp.Less and slices.isNaN over ints lie at this program: their functions' bodies are compared by the kernel. No conditions.
-/
import Derived.Test.YtpmgbofnikmhgaaGreatJ6
import Derived.Deep.LoopGhost
import Derived.BigQuiet
import Derived.Lib.Hide
import Derived.Shelf.RegionOpenPlain
import Derived.Shelf.Sort.Plain
import Derived.Shelf.Slices.CompactI
import Derived.Shelf.Slices.SearchI
import Derived.Shelf.Slices.In.SortNone
import Derived.Shelf.SlicesG.SearchI
import Derived.Test.YtpmgbofnikmhgaaGreatProg
namespace Go.Proofs.Hd
open Go.RowKit
/-- v is a slice of the texts of the cubes L. -/
def PlT (w : World) (v : Value) (L : List Cb) : Prop := (L = [] ∧ ∃ A cap, v = .slice A 0 cap) ∨ ∃ g cap, v = .slice (some ⟨g, 0, none⟩) L.length cap ∧ g < w.heap.size ∧ ∀ (k : Nat) (c : Cb), L[k]? = some c → w.cell? ⟨g, k, none⟩ = some (.string (txt c))
theorem PlT.on {w w' : World} {v : Value} {L : List Cb} (h : PlT w v L) (hb : Below w.heap.size w w') : PlT w' v L := by
  rcases h with h | ⟨g, cap, e, hg, h⟩
  · exact .inl h
  · exact .inr ⟨g, cap, e, Nat.lt_of_lt_of_le hg hb.size, fun k c hk => on_some hb (h k c hk)⟩
theorem PlT.form {w : World} {v : Value} {L : List Cb} (h : PlT w v L) : ∃ A cap, v = .slice A L.length cap ∧ (L ≠ [] → ∃ g, A = some ⟨g, 0, none⟩ ∧ g < w.heap.size ∧ ∀ (k : Nat) (c : Cb), L[k]? = some c → w.cell? ⟨g, k, none⟩ = some (.string (txt c))) := by
  rcases h with ⟨rfl, A, cap, rfl⟩ | ⟨g, cap, rfl, hg, hc⟩
  · exact ⟨A, cap, rfl, fun h => absurd rfl h⟩
  · exact ⟨_, cap, rfl, fun _ => ⟨g, rfl, hg, hc⟩⟩
theorem own_PlT {w : World} {base : Nat} {v : Value} {L : List Cb} (h : w.ownsRow base 9 1 v L.length (strs L)) : PlT w v L := by
  rcases h.2 with ⟨rfl, h0⟩ | ⟨g, cap, cur, hv, hge, hheap, _⟩
  · exact .inl ⟨List.eq_nil_of_length_eq_zero h0, _, _, rfl⟩
  · subst hv
    refine .inr ⟨g, cap, rfl, (h.lt g rfl).2, fun k c hk => ?_⟩
    have hj := (List.getElem?_eq_some_iff.1 hk).1
    rw [h.cellAt k (by omega)]
    unfold strs
    rw [List.getElem?_map, hk]; rfl
/-- All of them sound: the texts, and whether there are not too many; else nothing and false. -/
def TextsPost (w : World) (L : List Cb) (e : Ending) (w' : World) : Prop :=
  (L.all Cb.snd = true → ∃ v, e = .returned (.tuple #[v, .bool (decide (L.length ≤ 200))]) ∧ w'.ownsRow w.heap.size 9 1 v L.length (strs L) ∧ Below w.heap.size w w') ∧
  (L.all Cb.snd = false → e = .returned (.tuple #[.slice none 0 0, .bool false]) ∧ Below w.heap.size w w')
theorem all_take {L : List Cb} {k : Nat} {c : Cb} (h : L[k]? = some c) (ha : (L.take k).all Cb.snd = true) (hc : c.snd = true) : (L.take (k + 1)).all Cb.snd = true := by
  obtain ⟨hk, rfl⟩ := List.getElem?_eq_some_iff.1 h
  rw [List.take_succ_eq_append_getElem hk, List.all_append, ha]
  simp [hc]
theorem all_no {L : List Cb} {k : Nat} {c : Cb} (h : L[k]? = some c) (hc : c.snd = false) : L.all Cb.snd = false := by
  rw [List.all_eq_false]
  exact ⟨c, List.mem_of_getElem? h, by rw [hc]; simp⟩
theorem strs_take {L : List Cb} {k : Nat} {c : Cb} {s : ByteArray} (h : L[k]? = some c) (hs : txt c = s) : strs (L.take (k + 1)) = strs (L.take k) ++ [.string s] := by
  obtain ⟨hk, rfl⟩ := List.getElem?_eq_some_iff.1 h
  rw [List.take_succ_eq_append_getElem hk, strs_snoc, hs]
end Go.Proofs.Hd
namespace Go.Proofs
open Go.RowKit Go.Proofs.Hd Go.Lib
attribute [local go_sem] uv_nonneg
set_option maxHeartbeats 1000000 in
set_option maxRecDepth 100000 in
theorem texts_c (v : Value) (L : List Cb) (w : World) (hl : L.length ≤ 4398046511104) (hv : Pl w v L) : Calls Tryz.prog 10 #[v] w (TextsPost w L) := by
  obtain ⟨is, his, hs0, hs1, hs2⟩ := info_parts infoStr
  obtain ⟨A, cap, rfl, _, hA⟩ := hv.form
  have hlz : (L.length : Int) ≤ 4398046511104 := by omega
  have HA := Lib.hid hA
  have HB := Lib.hid (below1 w (.cells #[] 9))
  have HO := Lib.hid (World.ownsRow_made (base := w.heap.size) (e := 9) (size := 1) w #[] 0 (Nat.le_refl _) (Nat.zero_le _) rfl)
  clear hv hA
  go_enter Tryz.func10, Tryz.ntmps10
  go_wp2
  go_loopg [4, 5] L.length (fun gk s4 s5 wr => ∃ k : Nat, k ≤ L.length ∧ gk = L.length - k ∧ s5 = .int .i64 k ∧ Hid ((L.take k).all Cb.snd = true) ∧ Below w.heap.size w wr ∧ wr.ownsRow w.heap.size 9 1 s4 k (strs (L.take k)))
  case atStart => exact ⟨0, Nat.zero_le _, rfl, rfl, rfl, HB.out, HO.out⟩
  case round =>
    clear HB HO
    obtain ⟨k, hk, rfl, rfl, HS, W, O⟩ := hrel
    by_cases hlt : k < L.length
    · have hltz : (k : Int) < (L.length : Int) := by omega
      obtain ⟨c, hc⟩ : ∃ c, L[k]? = some c := ⟨_, List.getElem?_eq_getElem hlt⟩
      obtain ⟨b, off, rfl, hb, hpc⟩ := HA.out (ne_nil_of hc)
      obtain ⟨c0, c1, c2, c3⟩ := (hpc k c hc).on W
      have HC := Lib.hid hc
      clear hc hpc
      cases hs : c.snd with
      | false =>
        go_wp2_with fail
        (with_reducible refine (text_no c _ hs).mono ?_)
        rintro e w2 ⟨rfl, hb2⟩
        have W2 := W.trans (hb2.mono W.size)
        have HN : Hid (L.all Cb.snd = false) := all_no HC.out hs
        clear W O hb2 c0 c1 c2 c3 HC
        go_wp2
        go_ret2
        exact ⟨(fun h => by rw [HN.out] at h; cases h), fun _ => ⟨rfl, W2⟩⟩
      | true =>
        obtain ⟨s, HT⟩ : ∃ s, Hid (txt c = s) := ⟨_, rfl⟩
        go_wp2_with fail
        (with_reducible refine (text_s s c _ hs HT.out).mono ?_)
        rintro e w2 ⟨rfl, hb2⟩
        have W2 := W.trans (hb2.mono W.size)
        have O2 := own_on O hb2
        have HN := Lib.hid (all_take HC.out HS.out hs)
        have HM := Lib.hid (strs_take HC.out HT.out)
        clear W O hb2 c0 c1 c2 c3 HC HS
        go_upto_region 8 with (fail)
        have hb3 := below1 w2 (.cells #[.string s] 9)
        have N3 : Blk (w2.alloc (.cells #[.string s] 9)) w2.heap.size 9 #[.string s] := Blk.new w2 _ _
        have W3 := W2.trans (hb3.mono W2.size)
        have O3 := own_on O2 hb3
        have hz3 := W3.size
        clear W2 O2 hb3
        go_wp2_with (at_builtin; refine wpList_append_lies _ rfl (.tmp 25) (.tmp 27) 27 rfl w.heap.size 9 is _ 1 16 Tryz.underlying27 his hs0 hs1 hs2 rfl (by decide) _ _ _ rfl O3 ⟨w2.heap.size, 0, none⟩ 1 1 [.string s] rfl rfl (World.news_of_block N3) (by intro u hu; simp only [List.mem_singleton] at hu; subst hu; rfl) (by omega) (by unfold maxLen; omega) (by omega) hz3 _ rfl ?_)
        intro g4 cap4 w4 O4 hg4 hat hgl
        have W4 := W3.grown hg4 hz3 (fun j hj => (O3.lt j hj).1)
        clear W3 O3 N3 hg4 hat hgl
        go_wp2
        go_roundg (L.length - (k + 1))
        case measure => omega
        case rel => exact ⟨k + 1, by omega, rfl, by go_num, HN, W4, by rw [HM.out]; exact O4⟩
    · have hltz : ¬ (k : Int) < (L.length : Int) := by omega
      obtain rfl : k = L.length := by omega
      rw [List.take_length] at O HS
      by_cases h2 : L.length ≤ 200
      · have h2z : (L.length : Int) ≤ 200 := by omega
        go_wp2
        go_ret2
        exact ⟨fun _ => ⟨_, by rw [decide_eq_true h2]; rfl, O, W⟩, fun h => by rw [HS.out] at h; cases h⟩
      · have h2z : ¬ (L.length : Int) ≤ 200 := by omega
        go_wp2
        go_ret2
        exact ⟨fun _ => ⟨_, by rw [decide_eq_false h2]; rfl, O, W⟩, fun h => by rw [HS.out] at h; cases h⟩
set_option maxHeartbeats 1000000 in
set_option maxRecDepth 100000 in
theorem same_c (v u : Value) (L : List Cb) (w : World) (hl : L.length ≤ 1000000) (hs : ∀ c ∈ L, c.snd = true) (hv : Pl w v L) (hu : PlT w u L) : Calls Tryz.prog 22 #[v, u] w fun e w' => e = .returned (.bool true) ∧ Below w.heap.size w w' := by
  obtain ⟨A, cap, rfl, _, hA⟩ := hv.form
  obtain ⟨T, tcap, rfl, hT⟩ := hu.form
  have hlz : (L.length : Int) ≤ 1000000 := by omega
  have HA := Lib.hid hA
  have HT := Lib.hid hT
  have HS := Lib.hid hs
  clear hv hA hu hT hs
  go_enter Tryz.func22, Tryz.ntmps22
  go_wp2
  go_loopg [5] L.length (fun gk s5 wr => ∃ k : Nat, k ≤ L.length ∧ gk = L.length - k ∧ s5 = .int .i64 k ∧ Below w.heap.size w wr)
  case atStart => exact ⟨0, Nat.zero_le _, rfl, rfl, Below.refl _ _⟩
  case round =>
    obtain ⟨k, hk, rfl, rfl, W⟩ := hrel
    by_cases hlt : k < L.length
    · have hltz : (k : Int) < (L.length : Int) := by omega
      obtain ⟨c, hc⟩ : ∃ c, L[k]? = some c := ⟨_, List.getElem?_eq_getElem hlt⟩
      obtain ⟨b, off, rfl, hb, hpc⟩ := HA.out (ne_nil_of hc)
      obtain ⟨g, rfl, hg, hpt⟩ := HT.out (ne_nil_of hc)
      obtain ⟨c0, c1, c2, c3⟩ := (hpc k c hc).on W
      have hsn := HS.out c (List.mem_of_getElem? hc)
      obtain ⟨s, HX⟩ : ∃ s, Hid (txt c = s) := ⟨_, rfl⟩
      have ht := on_some W (hpt k c hc)
      rw [HX.out] at ht
      clear hc hpc hpt
      go_wp2_with fail
      (with_reducible refine (text_s s c _ hsn HX.out).mono ?_)
      rintro e w2 ⟨rfl, hb2⟩
      have W2 := W.trans (hb2.mono W.size)
      have ht2 := on_some hb2 ht
      clear W hb2 c0 c1 c2 c3 ht
      go_wp2
      go_roundg (L.length - (k + 1))
      case measure => omega
      case rel => exact ⟨k + 1, by omega, rfl, by go_num, W2⟩
    · have hltz : ¬ (k : Int) < (L.length : Int) := by omega
      go_wp2
      go_ret
      exact ⟨rfl, W⟩
set_option maxHeartbeats 1000000 in
set_option maxRecDepth 100000 in
theorem rhas3_c (x : Bool) (v : Value) (L : List Cb) (hh hl : BitVec 64) (w : World) (hl2 : L.length ≤ 4611686018427387904) (hx : anyHas L hh hl = x) (hv : Pl w v L) : Calls Tryz.prog 16 #[v, .agg #[.int .u64 (uv hh), .int .u64 (uv hl)]] w fun e w' => e = .returned (.bool x) ∧ Below w.heap.size w w' := by
  obtain ⟨A, cap, rfl, _, hA⟩ := hv.form
  have hlz : (L.length : Int) ≤ 4611686018427387904 := by omega
  have HA := Lib.hid hA
  have HX := Lib.hid hx
  have b0 := below1 w (.cells #[.int .u64 (uv hh), .int .u64 (uv hl)] 25)
  have N0 : Blk (w.alloc (.cells #[.int .u64 (uv hh), .int .u64 (uv hl)] 25)) w.heap.size 25 #[.int .u64 (uv hh), .int .u64 (uv hl)] := Blk.new w _ _
  have HB := Lib.hid b0
  have HN := Lib.hid N0
  clear hv hA hx b0 N0
  go_enter Tryz.func16, Tryz.ntmps16
  go_wp2
  go_loopg [5] L.length (fun gk s5 wr => ∃ k : Nat, k ≤ L.length ∧ gk = L.length - k ∧ s5 = .int .i64 k ∧ Below w.heap.size w wr ∧ Blk wr w.heap.size 25 #[.int .u64 (uv hh), .int .u64 (uv hl)] ∧ Hid (anyHas (L.take k) hh hl = false))
  case atStart => exact ⟨0, Nat.zero_le _, rfl, rfl, HB.out, HN.out, rfl⟩
  case round =>
    clear HB HN
    obtain ⟨k, hk, rfl, rfl, W, N, HK⟩ := hrel
    by_cases hlt : k < L.length
    · have hltz : (k : Int) < (L.length : Int) := by omega
      obtain ⟨c, hc⟩ : ∃ c, L[k]? = some c := ⟨_, List.getElem?_eq_getElem hlt⟩
      obtain ⟨b, off, rfl, hb, hpc⟩ := HA.out (ne_nil_of hc)
      obtain ⟨c0, c1, c2, c3⟩ := (hpc k c hc).on W
      have HC : Hid (anyHas (L.take (k + 1)) hh hl = c.has hh hl) := by
        show _ = _
        obtain ⟨hkl, rfl⟩ := List.getElem?_eq_some_iff.1 hc
        have := HK.out
        unfold anyHas at this ⊢
        rw [List.take_succ_eq_append_getElem hkl, List.any_append, this]
        simp
      have HY : Hid (c.has hh hl = true → x = true) := fun h => by
        rw [← HX.out]
        unfold anyHas
        rw [List.any_eq_true]
        exact ⟨c, List.mem_of_getElem? hc, h⟩
      clear hc hpc
      cases hs : c.snd with
      | false =>
        have hf := has_none hh hl hs
        have HD : Hid (anyHas (L.take (k + 1)) hh hl = false) := by show _ = _; rw [HC.out, hf]
        go_wp2_with fail
        (with_reducible refine (text_no c _ hs).mono ?_)
        rintro e w2 ⟨rfl, hb2⟩
        have W2 := W.trans (hb2.mono W.size)
        have N2 := N.on hb2
        clear W N hb2 c0 c1 c2 c3 HC HY hf
        go_wp2
        go_roundg (L.length - (k + 1))
        case measure => omega
        case rel => exact ⟨k + 1, by omega, rfl, by go_num, W2, N2, HD⟩
      | true =>
        obtain ⟨s, HT⟩ : ∃ s, Hid (txt c = s) := ⟨_, rfl⟩
        go_wp2_with fail
        (with_reducible refine (text_s s c _ hs HT.out).mono ?_)
        rintro e w2 ⟨rfl, hb2⟩
        have W2 := W.trans (hb2.mono W.size)
        have N2 := N.on hb2
        have n2 := Blk.pair N2
        clear W N hb2 c0 c1 c2 c3
        cases hq : c.has hh hl with
        | true =>
          obtain rfl := HY.out hq
          go_wp2_with fail
          (with_reducible refine (rhas_is true s c hh hl _ hs HT.out hq).mono ?_)
          rintro e w3 ⟨rfl, hb3⟩
          have W3 := W2.trans (hb3.mono W2.size)
          clear W2 N2 n2 hb3 HC HY
          go_wp2
          go_ret
          exact ⟨rfl, W3⟩
        | false =>
          have HD : Hid (anyHas (L.take (k + 1)) hh hl = false) := by show _ = _; rw [HC.out, hq]
          go_wp2_with fail
          (with_reducible refine (rhas_is false s c hh hl _ hs HT.out hq).mono ?_)
          rintro e w3 ⟨rfl, hb3⟩
          have W3 := W2.trans (hb3.mono W2.size)
          have N3 := N2.on hb3
          clear W2 N2 n2 hb3 HC HY
          go_wp2
          go_roundg (L.length - (k + 1))
          case measure => omega
          case rel => exact ⟨k + 1, by omega, rfl, by go_num, W3, N3, HD⟩
    · have hltz : ¬ (k : Int) < (L.length : Int) := by omega
      obtain rfl : k = L.length := by omega
      rw [List.take_length] at HK
      have e : x = false := by rw [← HX.out]; exact HK.out
      subst e
      go_wp2
      go_ret
      exact ⟨rfl, W⟩
end Go.Proofs

namespace Go.Proofs.Hd
open Go.RowKit
theorem sgn_inj {a b : Cb} {j : Nat} (hj : j < 128) (ha : a.snd = true) (hb : b.snd = true) (h : sgn a j = sgn b j) : a.K j = b.K j ∧ a.V j = b.V j := by
  have ha' := (Cb.snd_iff a).1 ha j hj
  have hb' := (Cb.snd_iff b).1 hb j hj
  unfold sgn at h
  revert h ha' hb'
  cases a.K j <;> cases b.K j <;> cases a.V j <;> cases b.V j <;> simp
theorem txt_inj {a b : Cb} (ha : a.snd = true) (hb : b.snd = true) (h : txt a = txt b) : a = b := by
  have hs : ∀ j, j < 128 → sgn a j = sgn b j := fun j hj => by
    have h1 : (txtL a)[127 - j]? = (txtL b)[127 - j]? := by
      have : (txtL a).toArray = (txtL b).toArray := congrArg ByteArray.data h
      rw [Array.mk.inj this]
    unfold txtL at h1
    simp only [List.getElem?_map, List.getElem?_range (show 127 - j < 128 by omega), Option.map_some, Option.some.injEq, show 127 - (127 - j) = j by omega] at h1
    exact h1
  exact cb_ext (fun j hj => (sgn_inj hj ha hb (hs j hj)).2) (fun j hj => (sgn_inj hj ha hb (hs j hj)).1)
theorem same_txt {a b : Cb} (ha : a.snd = true) (hb : b.snd = true) : a.same b = true ↔ txt a = txt b := by
  rw [Cb.same_iff]
  exact ⟨fun h => by rw [h], txt_inj ha hb⟩
/-- Is number i spare beside one of the first k? -/
def spareU (L : List Cb) (i k : Nat) : Bool := (List.range k).any fun k => match L[i]?, L[k]? with
  | some a, some b => spareBy a i b k
  | _, _ => false
theorem spareU_zero (L : List Cb) (i : Nat) : spareU L i 0 = false := rfl
theorem spareU_succ {L : List Cb} {i k : Nat} {a b : Cb} (ha : L[i]? = some a) (hb : L[k]? = some b) : spareU L i (k + 1) = (spareU L i k || spareBy a i b k) := by
  unfold spareU
  rw [List.range_succ, List.any_append]
  simp [ha, hb]
theorem spareU_all (L : List Cb) (i : Nat) : spareU L i L.length = spare L i := rfl
theorem spareU_true {L : List Cb} {i k : Nat} (hk : k ≤ L.length) (h : spareU L i k = true) : spare L i = true := by
  unfold spareU at h
  unfold spare
  rw [List.any_eq_true] at h ⊢
  obtain ⟨j, hj, h⟩ := h
  exact ⟨j, List.mem_range.2 (Nat.lt_of_lt_of_le (List.mem_range.1 hj) hk), h⟩
/-- The first i places, without the spare ones. -/
def leanU (L : List Cb) (i : Nat) : List Cb := (List.range i).filterMap fun i => if spare L i = true then none else L[i]?
theorem leanU_succ {L : List Cb} {i : Nat} {a : Cb} (ha : L[i]? = some a) : leanU L (i + 1) = if spare L i = true then leanU L i else leanU L i ++ [a] := by
  unfold leanU
  rw [List.range_succ, List.filterMap_append]
  by_cases h : spare L i = true <;> simp [h, ha]
theorem leanU_len (L : List Cb) (i : Nat) : (leanU L i).length ≤ i := by
  unfold leanU
  exact Nat.le_trans (List.length_filterMap_le _ _) (by simp)
theorem leanU_all {L : List Cb} (hs : ∀ c ∈ L, c.snd = true) : leanU L L.length = leanS L := by
  unfold leanU leanS leanI
  have e : sI L L.length = List.range L.length := by
    unfold sI
    rw [List.filter_eq_self]
    intro k hk
    have := List.mem_range.1 hk
    rw [sndAt_some (List.getElem?_eq_getElem this)]
    exact hs _ (List.getElem_mem this)
  rw [e, List.filterMap_filter]
  congr 1
  funext i
  cases spare L i <;> simp
end Go.Proofs.Hd

namespace Go.Proofs.Hd
open Go.RowKit
theorem lessL_snd {N : List Cb} : ∀ {M R : List Cb}, (∀ c ∈ M, c.snd = true) → lessL M N = some R → ∀ c ∈ R, c.snd = true := by
  induction N with
  | nil => intro M R hM h; rw [lessL] at h; injection h with h; subst h; exact hM
  | cons g N ih =>
    intro M R hM h
    rw [lessL] at h
    by_cases hl : (leanS (offL M g)).length ≤ 200
    · rw [if_pos hl] at h; exact ih (leanS_snd _) h
    · rw [if_neg hl] at h; cases h
theorem lessL_len {N : List Cb} : ∀ {M R : List Cb}, M.length ≤ 200 → lessL M N = some R → R.length ≤ 200 := by
  induction N with
  | nil => intro M R hM h; rw [lessL] at h; injection h with h; subst h; exact hM
  | cons g N ih =>
    intro M R hM h
    rw [lessL] at h
    by_cases hl : (leanS (offL M g)).length ≤ 200
    · rw [if_pos hl] at h; exact ih hl h
    · rw [if_neg hl] at h; cases h
theorem leanS_at {L : List Cb} {i : Nat} {a : Cb} (h : (leanS L)[i]? = some a) : ∃ p, (leanI L)[i]? = some p ∧ L[p]? = some a := by
  have hi := (List.getElem?_eq_some_iff.1 h).1
  rw [leanS_len] at hi
  refine ⟨_, List.getElem?_eq_getElem hi, ?_⟩
  have hp := leanI_lt (List.getElem_mem hi)
  rw [List.getElem?_eq_getElem hp]
  have e := leanS_take L i _ _ (List.getElem?_eq_getElem hi) (List.getElem?_eq_getElem hp)
  have hl := take_len L i (by omega)
  have hall : leanS L = ((leanI L).take (i + 1)).filterMap (fun i => L[i]?) ++ ((leanI L).drop (i + 1)).filterMap (fun i => L[i]?) := by
    unfold leanS
    rw [← List.filterMap_append, List.take_append_drop]
  rw [hall, e, List.append_assoc, List.getElem?_append_right (by omega), hl, Nat.sub_self] at h
  simpa using h
theorem leanI_sorted (L : List Cb) : (leanI L).Pairwise (· < ·) := List.Pairwise.sublist List.filter_sublist (sI_sorted L _)
theorem spare_lean (L : List Cb) (i : Nat) (hi : i < (leanS L).length) : spare (leanS L) i = false := by
  cases hs : spare (leanS L) i with
  | false => rfl
  | true =>
    exfalso
    obtain ⟨k, b, hb, hki, hw, hor⟩ := (spare_iff (List.getElem?_eq_getElem hi)).1 hs
    obtain ⟨p, hp, hpa⟩ := leanS_at (List.getElem?_eq_getElem hi)
    obtain ⟨q, hq, hqb⟩ := leanS_at hb
    have hsp : spare L p = false := by
      have := (List.mem_filter.1 (List.mem_of_getElem? hp)).2
      simpa using this
    obtain ⟨hpi, ep⟩ := List.getElem?_eq_some_iff.1 hp
    obtain ⟨hqi, eq⟩ := List.getElem?_eq_some_iff.1 hq
    have hpw := List.pairwise_iff_getElem.1 (leanI_sorted L)
    have hne : q ≠ p := by
      rcases Nat.lt_or_gt_of_ne hki with h | h
      · have := hpw k i hqi hpi h; rw [ep, eq] at this; omega
      · have := hpw i k hpi hqi h; rw [ep, eq] at this; omega
    have : spare L p = true := (spare_iff hpa).2 ⟨q, b, hqb, hne, hw, hor.imp id (fun h => by have := hpw k i hqi hpi h; rw [ep, eq] at this; exact this)⟩
    rw [hsp] at this; cases this
theorem leanS_idem (L : List Cb) : leanS (leanS L) = leanS L := by
  rw [← leanU_all (leanS_snd L)]
  unfold leanU
  have h : ∀ n, n ≤ (leanS L).length → (List.range n).filterMap (fun i => if spare (leanS L) i = true then none else (leanS L)[i]?) = (leanS L).take n := by
    intro n
    induction n with
    | zero => intro _; rfl
    | succ n ih =>
      intro hn
      rw [List.range_succ, List.filterMap_append, ih (by omega), List.take_succ_eq_append_getElem (by omega)]
      congr 1
      have hs := spare_lean L n (by omega)
      rw [List.filterMap_cons_some (b := (leanS L)[n]) (by rw [hs]; simp)]
      rfl
  rw [h _ (Nat.le_refl _), List.take_length]
theorem has_value {c : Cb} (h : c.snd = true) : c.has c.vh c.vl = true := by
  rw [Cb.has_iff]
  rw [Cb.snd_iff] at h
  intro j hj
  have := h j hj
  show (c.V j && c.K j) = c.V j
  revert this
  cases c.V j <;> cases c.K j <;> simp
theorem none_has {R : List Cb} (hs : ∀ c ∈ R, c.snd = true) (h : ∀ x y, anyHas R x y = false) : R = [] := by
  cases R with
  | nil => rfl
  | cons c R =>
    have := h c.vh c.vl
    unfold anyHas at this
    rw [List.any_cons, has_value (hs c (List.mem_cons_self ..))] at this
    cases this
/-- Nothing is left of a list without one that has all that it has. -/
theorem lessL_none {M N R : List Cb} (hM : ∀ c ∈ M, c.snd = true) (hN : ∀ c ∈ N, c.snd = true) (h : ∀ x y, anyHas M x y = true → anyHas N x y = true) (hR : lessL M N = some R) : R = [] := by
  refine none_has (lessL_snd hM hR) fun x y => ?_
  rw [lessL_has x y hN hM hR]
  have := h x y
  revert this
  cases anyHas M x y <;> cases anyHas N x y <;> simp
end Go.Proofs.Hd

namespace Go.Proofs.Hd
open Go.RowKit
/-- Is c wanted, behind P and ahead of Q? -/
def keepB (P : List Cb) (c : Cb) (Q : List Cb) : Bool := c.snd && (!P.any (fun b => c.wit b) && !Q.any (fun b => c.wit b && !c.same b))
def leanR (P : List Cb) : List Cb → List Cb
  | [] => []
  | c :: Q => (if keepB P c Q = true then [c] else []) ++ leanR (P ++ [c]) Q
theorem spare_mid (P : List Cb) (c : Cb) (Q : List Cb) : spare (P ++ c :: Q) P.length = (P.any (fun b => c.wit b) || Q.any (fun b => c.wit b && !c.same b)) := by
  have ha : (P ++ c :: Q)[P.length]? = some c := by simp
  rw [Bool.eq_iff_iff, spare_iff ha, Bool.or_eq_true, List.any_eq_true, List.any_eq_true]
  constructor
  · rintro ⟨k, b, hb, hne, hw, hor⟩
    rcases Nat.lt_or_ge k P.length with h | h
    · left
      rw [List.getElem?_append_left h] at hb
      exact ⟨b, List.mem_of_getElem? hb, hw⟩
    · right
      have hk : ¬ k < P.length := by omega
      rw [List.getElem?_append_right h] at hb
      obtain ⟨j, hj⟩ : ∃ j, k - P.length = j + 1 := ⟨k - P.length - 1, by omega⟩
      rw [hj, List.getElem?_cons_succ] at hb
      refine ⟨b, List.mem_of_getElem? hb, ?_⟩
      rw [Bool.and_eq_true]
      refine ⟨hw, ?_⟩
      have hcb := hor.resolve_right hk
      cases e : c.same b with
      | false => rfl
      | true => exact absurd ((Cb.same_iff c b).1 e) hcb
  · rintro (⟨b, hb, hw⟩ | ⟨b, hb, hw⟩)
    · obtain ⟨k, hk⟩ := List.mem_iff_getElem?.1 hb
      have hlt := (List.getElem?_eq_some_iff.1 hk).1
      exact ⟨k, b, by rw [List.getElem?_append_left hlt]; exact hk, by omega, hw, .inr hlt⟩
    · obtain ⟨k, hk⟩ := List.mem_iff_getElem?.1 hb
      rw [Bool.and_eq_true] at hw
      refine ⟨P.length + 1 + k, b, ?_, by omega, hw.1, .inl fun e => ?_⟩
      · rw [List.getElem?_append_right (by omega), show P.length + 1 + k - P.length = k + 1 by omega, List.getElem?_cons_succ]; exact hk
      · subst e
        have := hw.2
        rw [(Cb.same_iff c c).2 rfl] at this
        cases this
theorem leanS_form (L : List Cb) : leanS L = (List.range L.length).filterMap fun i => if sndAt L i = true ∧ spare L i = false then L[i]? else none := by
  unfold leanS leanI sI
  rw [List.filterMap_filter, List.filterMap_filter]
  congr 1
  funext i
  cases sndAt L i <;> cases spare L i <;> simp
theorem leanR_range (Q P L : List Cb) (h : L = P ++ Q) : (List.range' P.length Q.length).filterMap (fun i => if sndAt L i = true ∧ spare L i = false then L[i]? else none) = leanR P Q := by
  induction Q generalizing P with
  | nil => rfl
  | cons c Q ih =>
    have hc : L[P.length]? = some c := by rw [h]; simp
    have h1 := ih (P ++ [c]) (by rw [h]; simp)
    rw [List.length_append, show [c].length = 1 from rfl] at h1
    rw [List.length_cons, List.range'_succ, leanR, ← h1]
    have hsp := spare_mid P c Q
    rw [← h] at hsp
    by_cases hk : keepB P c Q = true
    · rw [if_pos hk, List.filterMap_cons_some (b := c)]
      · rfl
      · unfold keepB at hk
        rw [Bool.and_eq_true, Bool.and_eq_true] at hk
        rw [if_pos ⟨by rw [sndAt_some hc]; exact hk.1, by rw [hsp]; simpa using hk.2⟩, hc]
    · rw [if_neg hk, List.filterMap_cons_none, List.nil_append]
      rw [if_neg]
      rintro ⟨a1, a2⟩
      apply hk
      rw [sndAt_some hc] at a1
      rw [hsp] at a2
      unfold keepB
      rw [a1]
      simpa using a2
theorem leanS_R (L : List Cb) : leanS L = leanR [] L := by
  rw [leanS_form, List.range_eq_range', ← leanR_range L [] L rfl]; rfl
theorem any_wit (c : Cb) (P : List Cb) (f : Cb → Bool) : (P.filter Cb.snd).any (fun b => c.wit b && f b) = P.any (fun b => c.wit b && f b) := by
  induction P with
  | nil => rfl
  | cons d P ih =>
    rw [List.any_cons, ← ih]
    cases hd : d.snd with
    | true => rw [List.filter_cons_of_pos hd, List.any_cons]
    | false =>
      rw [List.filter_cons_of_neg (by rw [hd]; simp)]
      have : c.wit d = false := by
        cases e : c.wit d with
        | false => rfl
        | true => have := ((Cb.wit_iff c d).1 e).2.1; rw [hd] at this; cases this
      rw [this]; simp
theorem any_wit1 (c : Cb) (P : List Cb) : (P.filter Cb.snd).any (fun b => c.wit b) = P.any (fun b => c.wit b) := by
  have := any_wit c P (fun _ => true)
  simpa using this
theorem leanR_filter (Q P : List Cb) : leanR (P.filter Cb.snd) (Q.filter Cb.snd) = leanR P Q := by
  induction Q generalizing P with
  | nil => rfl
  | cons c Q ih =>
    have h := ih (P ++ [c])
    rw [List.filter_append] at h
    cases hc : c.snd with
    | true =>
      rw [List.filter_cons_of_pos hc, leanR, leanR, ← h, List.filter_cons_of_pos hc]
      unfold keepB
      rw [any_wit1, any_wit]
      rfl
    | false =>
      rw [List.filter_cons_of_neg (by rw [hc]; simp)] at h ⊢
      rw [leanR, ← h]
      unfold keepB
      rw [hc]
      simp
/-- Cubes that are not sound don't matter. -/
theorem leanS_filter (L : List Cb) : leanS (L.filter Cb.snd) = leanS L := by
  rw [leanS_R, leanS_R]
  exact leanR_filter L []
theorem filter_snd (L : List Cb) : ∀ c ∈ L.filter Cb.snd, c.snd = true := fun _ hc => (List.mem_filter.1 hc).2
theorem filter_take {L : List Cb} {k : Nat} {c : Cb} (h : L[k]? = some c) : (L.take (k + 1)).filter Cb.snd = (L.take k).filter Cb.snd ++ (if c.snd = true then [c] else []) := by
  obtain ⟨hk, rfl⟩ := List.getElem?_eq_some_iff.1 h
  rw [List.take_succ_eq_append_getElem hk, List.filter_append]
  by_cases h : L[k].snd = true <;> simp [h]
end Go.Proofs.Hd

namespace Go.Proofs.Hd
open Go.RowKit
/-- A header, an atom of cubes. -/
abbrev Hx := BitVec 64 × BitVec 64
abbrev AtC := Atm (List Cb) Hx
def hasP (p : List Cb) (x : Hx) : Bool := anyHas p x.1 x.2
def meP (c : Cb) (p : List Cb) : Option (List Cb) := capL (leanS (metL p [c]))
def leP (c : Cb) (p : List Cb) : Option (List Cb) := lessL p [c]
def jnP (p q : List Cb) : Option (List Cb) := capL (leanS (p ++ q))
def topP : List Cb → Hx
  | [] => (0, 0)
  | c :: _ => (c.vh, c.vl)
theorem hasP_nil (x : Hx) : hasP [] x = false := rfl
theorem hasP_one (c : Cb) (x : Hx) : hasP [c] x = c.has x.1 x.2 := by simp [hasP, anyHas]
theorem hasP_emp : ∀ (q : List Cb) (x : Hx), q.isEmpty = true → hasP q x = false := fun q x h => by
  rw [List.isEmpty_iff] at h
  subst h
  rfl
theorem one_snd {c : Cb} (h : c.snd = true) : ∀ d ∈ [c], d.snd = true := fun d hd => by rw [List.mem_singleton] at hd; rw [hd]; exact h
theorem capL_le {L R : List Cb} (h : capL L = some R) : R.length ≤ 200 := by
  unfold capL at h
  split at h
  · rename_i hl
    injection h with h
    exact h ▸ hl
  · cases h
theorem leP_form {c : Cb} {p l : List Cb} (h : leP c p = some l) : l = leanS (offL p c) ∧ l.length ≤ 200 := by
  unfold leP at h
  rw [lessL] at h
  split at h
  · rename_i hl
    rw [lessL] at h
    injection h with h
    exact ⟨h.symm, h ▸ hl⟩
  · cases h
theorem meP_form {c : Cb} {p m : List Cb} (h : meP c p = some m) : m = leanS (metL p [c]) ∧ m.length ≤ 200 := ⟨capL_some h, capL_le h⟩
theorem jnP_form {p q r : List Cb} (h : jnP p q = some r) : r = leanS (p ++ q) ∧ r.length ≤ 200 := ⟨capL_some h, capL_le h⟩
theorem meP_has {c : Cb} {p m : List Cb} (hp : ∀ d ∈ p, d.snd = true) (hc : c.snd = true) (h : meP c p = some m) (x : Hx) : hasP m x = (hasP p x && c.has x.1 x.2) := by
  have := meeting_has hp (one_snd hc) h x.1 x.2
  rw [← hasP_one c x]
  exact this
theorem leP_has {c : Cb} {p l : List Cb} (hp : ∀ d ∈ p, d.snd = true) (hc : c.snd = true) (h : leP c p = some l) (x : Hx) : hasP l x = (hasP p x && !c.has x.1 x.2) := by
  have := lessL_has x.1 x.2 (one_snd hc) hp h
  rw [← hasP_one c x]
  exact this
theorem jnP_has {p q r : List Cb} (hp : ∀ d ∈ p, d.snd = true) (hq : ∀ d ∈ q, d.snd = true) (h : jnP p q = some r) (x : Hx) : hasP r x = (hasP p x || hasP q x) := joined_has hp hq h x.1 x.2
/-- What each atom bears: a lean sound pile that is not empty, whose first cube's value is its head. -/
structure GoodA (a : AtC) : Prop where
  ne : a.pl ≠ []
  snd : ∀ c ∈ a.pl, c.snd = true
  len : a.pl.length ≤ 200
  top : a.hd = topP a.pl
  lean : leanS a.pl = a.pl
theorem GoodA.head {a : AtC} (h : GoodA a) : hasP a.pl a.hd = true := by
  have h1 := h.ne
  have h2 := h.snd
  rw [h.top]
  match hp : a.pl, h1 with
  | c :: p, _ =>
    have hc := h2 c (by rw [hp]; exact List.mem_cons_self ..)
    show anyHas (c :: p) c.vh c.vl = true
    unfold anyHas
    rw [List.any_cons, has_value hc]
    rfl
def splC (c : Cb) (id : Int) (al : List AtC) : Option (List AtC) := splO (meP c) (leP c) List.isEmpty topP id al
theorem spl_good {c : Cb} {id : Int} {al bs : List AtC} (h : splC c id al = some bs) : ∀ b ∈ bs, GoodA b := by
  intro b hb
  obtain ⟨a, ha, h1, h2, h3⟩ := spl_mem h b hb
  have hne : b.pl ≠ [] := fun e => by rw [e] at h3; cases h3
  rcases h1 with ⟨_, h1⟩ | ⟨_, h1⟩
  · obtain ⟨e, hl⟩ := meP_form h1
    exact ⟨hne, by rw [e]; exact leanS_snd _, hl, h2, by rw [e]; exact leanS_idem _⟩
  · obtain ⟨e, hl⟩ := leP_form h1
    exact ⟨hne, by rw [e]; exact leanS_snd _, hl, h2, by rw [e]; exact leanS_idem _⟩
theorem splC_ids {c : Cb} {id : Int} {al bs : List AtC} (hc : c.snd = true) (hg : ∀ a ∈ al, GoodA a) (h : splC c id al = some bs) (x : Hx) : idsAt hasP bs x = (idsAt hasP al x).map fun I => if c.has x.1 x.2 = true then I ++ [id] else I :=
  spl_ids (fun q hq => hasP_emp q x hq) (fun a ha => ⟨fun _ hm => meP_has (hg a ha).snd hc hm x, fun _ hl => leP_has (hg a ha).snd hc hl x⟩) h
theorem splC_below {c : Cb} {i : Nat} {al bs : List AtC} (hb : ∀ a ∈ al, ∀ n ∈ a.ids, n < (i : Int)) (h : splC c (i : Int) al = some bs) : ∀ b ∈ bs, ∀ n ∈ b.ids, n < ((i + 1 : Nat) : Int) := by
  intro b hbb n hn
  obtain ⟨a, ha, h1, _, _⟩ := spl_mem h b hbb
  rcases h1 with ⟨e, _⟩ | ⟨e, _⟩
  · rw [e, List.mem_append, List.mem_singleton] at hn
    rcases hn with hn | hn
    · have := hb a ha n hn; omega
    · omega
  · rw [e] at hn
    have := hb a ha n hn
    omega
/-- The numbers, from i on, of the cubes that have a header. -/
def inF (x : Hx) : Nat → List Cb → List Int
  | _, [] => []
  | i, c :: cs => (if c.has x.1 x.2 = true then [(i : Int)] else []) ++ inF x (i + 1) cs
theorem inF_snoc (x : Hx) : ∀ (i : Nat) (cs : List Cb) (c : Cb), inF x i (cs ++ [c]) = inF x i cs ++ (if c.has x.1 x.2 = true then [((i + cs.length : Nat) : Int)] else [])
  | i, [], c => by simp [inF]
  | i, d :: cs, c => by
    rw [List.cons_append, inF, inF_snoc x (i + 1) cs c, inF, List.append_assoc, List.length_cons, show i + 1 + cs.length = i + (cs.length + 1) by omega]
theorem inF_take {x : Hx} {cs : List Cb} {k : Nat} {c : Cb} (h : cs[k]? = some c) : inF x 0 (cs.take (k + 1)) = inF x 0 (cs.take k) ++ (if c.has x.1 x.2 = true then [(k : Int)] else []) := by
  have hk := (List.getElem?_eq_some_iff.1 h).1
  rw [List.take_add_one, h]
  show inF x 0 (cs.take k ++ [c]) = _
  rw [inF_snoc, List.length_take, Nat.min_eq_left (by omega), Nat.zero_add]
theorem inF_ge {x : Hx} {n : Int} : ∀ {i : Nat} {cs : List Cb}, n ∈ inF x i cs → (i : Int) ≤ n ∧ n < ((i + cs.length : Nat) : Int)
  | i, [], h => by simp [inF] at h
  | i, c :: cs, h => by
    rw [inF, List.mem_append] at h
    rw [List.length_cons]
    rcases h with h | h
    · split at h
      · rw [List.mem_singleton] at h; omega
      · simp at h
    · have := inF_ge h
      omega
/-- Splitting by many cubes, in order. -/
def spsC : Nat → List Cb → List AtC → Option (List AtC)
  | _, [], al => some al
  | i, c :: cs, al => match splC c (i : Int) al with
    | some bs => spsC (i + 1) cs bs
    | none => none
/-- The atoms of no cube. -/
def cAll : Cb := ⟨0, 0, 0, 0⟩
def atm0 : List AtC := [⟨[], (0, 0), [cAll]⟩]
structure AtInv (i : Nat) (al : List AtC) : Prop where
  good : ∀ a ∈ al, GoodA a
  dst : Dst al
  below : ∀ a ∈ al, ∀ n ∈ a.ids, n < (i : Int)
theorem AtInv.spl {c : Cb} {i : Nat} {al bs : List AtC} (hi : AtInv i al) (h : splC c (i : Int) al = some bs) : AtInv (i + 1) bs :=
  ⟨spl_good h, spl_dst hi.dst (fun a ha hn => by have := hi.below a ha _ hn; omega) h, splC_below hi.below h⟩
theorem sps_inv : ∀ {cs : List Cb} {i : Nat} {al bs : List AtC}, (∀ c ∈ cs, c.snd = true) → AtInv i al → spsC i cs al = some bs → AtInv (i + cs.length) bs ∧ ∀ x, idsAt hasP bs x = (idsAt hasP al x).map fun I => I ++ inF x i cs
  | [], i, al, bs, _, hi, h => by
    rw [spsC] at h
    injection h with h
    subst h
    exact ⟨hi, fun x => by simp [inF]⟩
  | c :: cs, i, al, bs, hs, hi, h => by
    rw [spsC] at h
    split at h
    · rename_i ds hd
      obtain ⟨h1, h2⟩ := sps_inv (fun d hd => hs d (List.mem_cons_of_mem _ hd)) (hi.spl hd) h
      refine ⟨by rw [List.length_cons, show i + (cs.length + 1) = i + 1 + cs.length by omega]; exact h1, fun x => ?_⟩
      rw [h2, splC_ids (hs c (List.mem_cons_self ..)) hi.good hd, List.map_map]
      apply List.map_congr_left
      intro I _
      simp only [Function.comp_apply, inF]
      split <;> simp
    · cases h
theorem atm0_inv : AtInv 0 atm0 := by
  refine ⟨fun a ha => ?_, by simp [Dst, atm0], fun a ha n hn => ?_⟩
  · have e : a = ⟨[], (0, 0), [cAll]⟩ := by simpa [atm0] using ha
    subst e
    refine ⟨by simp, fun c hc => ?_, by simp, rfl, ?_⟩
    · have e : c = cAll := by simpa using hc
      subst e; decide
    · show leanS [cAll] = [cAll]
      rw [leanS_R, leanR, leanR]
      rw [show keepB [] cAll [] = true by decide]
      rfl
  · have e : a = ⟨[], (0, 0), [cAll]⟩ := by simpa [atm0] using ha
    subst e
    simp at hn
theorem all_has (x : Hx) : hasP [cAll] x = true := by
  rw [hasP_one, Cb.has_iff]
  intro j hj
  show (hbit x.1 x.2 j && hbit 0 0 j) = hbit 0 0 j
  have h0 : hbit 0 0 j = false := by simp [hbit]
  rw [h0, Bool.and_false]
theorem atm0_ids (x : Hx) : idsAt hasP atm0 x = [[]] := by
  unfold atm0
  rw [idsAt_cons, idsAt_nil]
  show (if hasP [cAll] x = true then _ else _) ++ _ = _
  rw [if_pos (all_has x)]
  rfl
/-- The atoms of some cubes: each header is in just one, which has the numbers of the cubes that have it. -/
theorem sps_right {cs : List Cb} {bs : List AtC} (hs : ∀ c ∈ cs, c.snd = true) (h : spsC 0 cs atm0 = some bs) : AtInv cs.length bs ∧ ∀ x, idsAt hasP bs x = [inF x 0 cs] := by
  obtain ⟨h1, h2⟩ := sps_inv hs atm0_inv h
  refine ⟨by rw [Nat.zero_add] at h1; exact h1, fun x => ?_⟩
  rw [h2, atm0_ids]
  rfl
/-- Merging: the first cube of the one that was there stays the first. -/
theorem lean_cons {c : Cb} {p : List Cb} (h : leanS (c :: p) = c :: p) : c.snd = true ∧ p.any (fun b => c.wit b && !c.same b) = false := by
  have hle : ∀ (P Q : List Cb), (leanR P Q).length ≤ Q.length := by
    intro P Q
    induction Q generalizing P with
    | nil => simp [leanR]
    | cons d Q ih =>
      rw [leanR, List.length_append, List.length_cons]
      have := ih (P ++ [d])
      split
      · simp only [List.length_cons, List.length_nil]; omega
      · simp only [List.length_nil]; omega
  rw [leanS_R, leanR] at h
  cases hk : keepB [] c p with
  | true =>
    unfold keepB at hk
    simp only [Bool.and_eq_true, Bool.not_eq_true'] at hk
    exact ⟨hk.1, hk.2.2⟩
  | false =>
    rw [hk] at h
    have := hle ([] ++ [c]) p
    have h2 := congrArg List.length h
    simp only [List.length_cons, Bool.false_eq_true, if_false, List.nil_append] at h2 this
    omega
theorem jn_top {p q r : List Cb} (hp : p ≠ []) (hl : leanS p = p) (hd : ∀ x, hasP p x = true → hasP q x = false) (h : jnP p q = some r) : topP r = topP p ∧ r ≠ [] := by
  obtain ⟨e, _⟩ := jnP_form h
  match p, hp with
  | c :: p, _ =>
    obtain ⟨hc, ha⟩ := lean_cons hl
    have hv : hasP (c :: p) (c.vh, c.vl) = true := by
      show anyHas (c :: p) c.vh c.vl = true
      unfold anyHas
      rw [List.any_cons, has_value hc]
      rfl
    have hk : keepB [] c (p ++ q) = true := by
      unfold keepB
      rw [hc, List.any_append, ha]
      have hqn : q.any (fun b => c.wit b && !c.same b) = false := by
        rw [List.any_eq_false]
        intro b hb hw
        simp only [Bool.and_eq_true] at hw
        have := wit_has c.vh c.vl hw.1 (has_value hc)
        have hb2 : hasP q (c.vh, c.vl) = true := by
          show anyHas q c.vh c.vl = true
          unfold anyHas
          rw [List.any_eq_true]
          exact ⟨b, hb, this⟩
        rw [hd _ hv] at hb2
        cases hb2
      rw [hqn]
      rfl
    rw [e, List.cons_append, leanS_R, leanR, hk]
    exact ⟨rfl, by simp⟩
/-- Merging keeps what each atom bears, where no header is in two. -/
theorem mrg_good : ∀ {al out r : List AtC}, (∀ b ∈ out, GoodA b) → (∀ a ∈ al, GoodA a) → (∀ x, (idsAt hasP out x ++ idsAt hasP al x).length ≤ 1) → mrgO jnP out al = some r →
    (∀ b ∈ r, GoodA b) ∧ ∀ x, idsAt hasP r x = idsAt hasP out x ++ idsAt hasP al x
  | [], out, r, ho, _, _, h => by
    rw [mrgO] at h
    injection h with h
    subst h
    exact ⟨ho, fun x => by rw [idsAt_nil, List.append_nil]⟩
  | a :: al, out, r, ho, ha, hx, h => by
    rw [mrgO] at h
    split at h
    · rename_i r' hr
      have ha0 := ha a (List.mem_cons_self ..)
      have hdis : ∀ x, hasP a.pl x = false ∨ idsAt hasP out x = [] := fun x => by
        cases hq : hasP a.pl x with
        | false => exact .inl rfl
        | true =>
          right
          have hl := hx x
          rw [idsAt_cons, hq, if_pos rfl] at hl
          apply List.eq_nil_of_length_eq_zero
          simp only [List.length_append, List.length_cons] at hl
          omega
      have hids : ∀ x, idsAt hasP r' x = idsAt hasP out x ++ (if hasP a.pl x = true then [a.ids] else []) := fun x =>
        put_ids (fun b hb _ p hp => jnP_has (ho b hb).snd ha0.snd hp x) hr (hdis x)
      have hgr : ∀ b ∈ r', GoodA b := by
        rcases putO_cases hr with ⟨rfl, _⟩ | ⟨u, b, v, p, rfl, _, h3, h4, rfl⟩
        · intro c hc
          rcases List.mem_append.1 hc with hc | hc
          · exact ho c hc
          · rw [List.mem_singleton] at hc; subst hc; exact ha0
        · intro c hc
          rcases List.mem_append.1 hc with hc | hc
          · exact ho c (List.mem_append_left _ hc)
          · rcases List.mem_cons.1 hc with rfl | hc
            · have hb := ho b (List.mem_append_right _ (List.mem_cons_self ..))
              have hd : ∀ x, hasP b.pl x = true → hasP a.pl x = false := fun x hbx => by
                rcases hdis x with h1 | h1
                · exact h1
                · rw [idsAt_app, idsAt_cons, hbx, if_pos rfl] at h1
                  simp at h1
              obtain ⟨e1, e2⟩ := jn_top hb.ne hb.lean hd h4
              obtain ⟨e3, e4⟩ := jnP_form h4
              exact ⟨e2, by show ∀ c ∈ p, _; rw [e3]; exact leanS_snd _, e4, by show b.hd = topP p; rw [e1]; exact hb.top, by show leanS p = p; rw [e3]; exact leanS_idem _⟩
            · exact ho c (List.mem_append_right _ (List.mem_cons_of_mem _ hc))
      obtain ⟨h5, h6⟩ := mrg_good hgr (fun b hb => ha b (List.mem_cons_of_mem _ hb)) (fun x => by
        have := hx x
        rw [idsAt_cons] at this
        rw [hids, List.append_assoc]
        exact this) h
      exact ⟨h5, fun x => by rw [h6, hids, idsAt_cons, List.append_assoc]⟩
    · cases h
/-- An atom without a number. -/
def outA (id : Int) (a : AtC) : AtC := ⟨a.ids.filter fun n => decide (n ≠ id), a.hd, a.pl⟩
def crsC (id : Int) (al : List AtC) : Option (List AtC) := mrgO jnP [] (al.map (outA id))
theorem out_ids (id : Int) (x : Hx) : ∀ al : List AtC, idsAt hasP (al.map (outA id)) x = (idsAt hasP al x).map fun I => I.filter fun n => decide (n ≠ id)
  | [] => rfl
  | a :: al => by
    rw [List.map_cons, idsAt_cons, idsAt_cons, List.map_append, out_ids id x al]
    congr 1
    show (if hasP a.pl x = true then _ else _) = _
    split <;> rfl
/-- Atoms with one number less. -/
theorem crs_right {id : Int} {al bs : List AtC} {J : Hx → List Int} (hg : ∀ a ∈ al, GoodA a) (hx : ∀ x, idsAt hasP al x = [J x]) (h : crsC id al = some bs) :
    (∀ b ∈ bs, GoodA b) ∧ Dst bs ∧ ∀ x, idsAt hasP bs x = [(J x).filter fun n => decide (n ≠ id)] := by
  have hgo : ∀ a ∈ al.map (outA id), GoodA a := fun a ha => by
    obtain ⟨b, hb, rfl⟩ := List.mem_map.1 ha
    have := hg b hb
    exact ⟨this.ne, this.snd, this.len, this.top, this.lean⟩
  have hl : ∀ x, (idsAt hasP ([] : List AtC) x ++ idsAt hasP (al.map (outA id)) x).length ≤ 1 := fun x => by
    rw [idsAt_nil, out_ids, hx]; simp
  obtain ⟨h1, h2⟩ := mrg_good (by simp) hgo hl h
  refine ⟨h1, mrg_dst List.Pairwise.nil h, fun x => ?_⟩
  rw [h2, idsAt_nil, out_ids, hx]
  rfl
end Go.Proofs.Hd

namespace Go.Proofs.Hd
open Go.RowKit
theorem len_sub {α : Type} [DecidableEq α] : ∀ {l m : List α}, l.Nodup → (∀ x, x ∈ l → x ∈ m) → l.length ≤ m.length
  | [], m, _, _ => Nat.zero_le _
  | a :: l, m, hn, hs => by
    rw [List.nodup_cons] at hn
    have ha : a ∈ m := hs a (List.mem_cons_self ..)
    have h1 := len_sub (m := m.erase a) hn.2 (fun x hx => (List.mem_erase_of_ne (by rintro rfl; exact hn.1 hx)).2 (hs x (List.mem_cons_of_mem _ hx)))
    rw [List.length_erase_of_mem ha] at h1
    have := List.length_pos_of_mem ha
    rw [List.length_cons]
    omega
theorem ids_of {al : List AtC} {J : Hx → List Int} (h : ∀ x, idsAt hasP al x = [J x]) {a : AtC} (ha : a ∈ al) {x : Hx} (hx : hasP a.pl x = true) : a.ids = J x := by
  have h1 : a.ids ∈ idsAt hasP al x := List.mem_map.2 ⟨a, List.mem_filter.2 ⟨ha, hx⟩, rfl⟩
  rw [h x, List.mem_singleton] at h1
  exact h1
/-- Where the numbers K tell apart all that the numbers J tell apart, there are no fewer atoms. -/
theorem at_len {al bl : List AtC} {J K : Hx → List Int} (ga : ∀ a ∈ al, GoodA a) (da : Dst al) (ha : ∀ x, idsAt hasP al x = [J x]) (hb : ∀ x, idsAt hasP bl x = [K x]) (hJK : ∀ x y, K x = K y → J x = J y) : al.length ≤ bl.length := by
  have h1 : (al.map fun a => K a.hd).Nodup := by
    rw [List.Nodup, List.pairwise_map]
    have h2 : al.Pairwise fun a b => (GoodA a ∧ a ∈ al) → (GoodA b ∧ b ∈ al) → K a.hd ≠ K b.hd := da.imp fun {a b} hne ka kb e => hne (by
      rw [ids_of ha ka.2 ka.1.head, ids_of ha kb.2 kb.1.head]
      exact hJK _ _ e)
    refine List.Pairwise.imp_of_mem (fun {a b} hma hmb h => h ⟨ga a hma, hma⟩ ⟨ga b hmb, hmb⟩) h2
  have h3 := len_sub h1 (m := bl.map Atm.ids) (fun I hI => by
    obtain ⟨a, _, rfl⟩ := List.mem_map.1 hI
    have h4 : K a.hd ∈ idsAt hasP bl a.hd := by rw [hb]; exact List.mem_cons_self ..
    obtain ⟨b, hbm, e⟩ := List.mem_map.1 h4
    exact List.mem_map.2 ⟨b, (List.mem_filter.1 hbm).1, e⟩)
  rwa [List.length_map, List.length_map] at h3
/-- Two headers have the same numbers just where each cube has both or none. -/
theorem inF_eq {x y : Hx} : ∀ {i : Nat} {cs : List Cb}, inF x i cs = inF y i cs ↔ ∀ c ∈ cs, c.has x.1 x.2 = c.has y.1 y.2
  | i, [] => by simp [inF]
  | i, c :: cs => by
    rw [inF, inF]
    have hx : (i : Int) ∉ inF x (i + 1) cs := fun h => by have := (inF_ge h).1; omega
    have hy : (i : Int) ∉ inF y (i + 1) cs := fun h => by have := (inF_ge h).1; omega
    constructor
    · intro h
      have hc : c.has x.1 x.2 = c.has y.1 y.2 := by
        cases h1 : c.has x.1 x.2 <;> cases h2 : c.has y.1 y.2
        · rfl
        · rw [h1, h2, if_neg (by simp), if_pos rfl, List.nil_append] at h
          exact absurd (h ▸ List.mem_append_left _ (List.mem_cons_self ..)) hx
        · rw [h1, h2, if_neg (by simp : ¬ (false = true)), if_pos rfl, List.nil_append] at h
          exact absurd (h ▸ List.mem_append_left _ (List.mem_cons_self ..)) hy
        · rfl
      rw [hc] at h
      have h2 := List.append_cancel_left h
      intro d hd
      rcases List.mem_cons.1 hd with rfl | hd
      · exact hc
      · exact inF_eq.1 h2 d hd
    · intro h
      rw [h c (List.mem_cons_self ..), inF_eq.2 (fun d hd => h d (List.mem_cons_of_mem _ hd))]
/-- The atoms of two lists of the same cubes. -/
theorem same_cubes {cs ds : List Cb} (h : ∀ c, c ∈ cs ↔ c ∈ ds) (x y : Hx) : inF x 0 cs = inF y 0 cs ↔ inF x 0 ds = inF y 0 ds := by
  rw [inF_eq, inF_eq]
  exact ⟨fun k c hc => k c ((h c).2 hc), fun k c hc => k c ((h c).1 hc)⟩
theorem sps_order {cs ds : List Cb} {al bl : List AtC} (hs : ∀ c ∈ cs, c.snd = true) (h : ∀ c, c ∈ cs ↔ c ∈ ds) (ha : spsC 0 cs atm0 = some al) (hb : spsC 0 ds atm0 = some bl) : al.length = bl.length := by
  obtain ⟨i1, h1⟩ := sps_right hs ha
  obtain ⟨i2, h2⟩ := sps_right (fun c hc => hs c ((h c).2 hc)) hb
  have := at_len i1.good i1.dst h1 h2 (fun x y e => (same_cubes h x y).2 e)
  have := at_len i2.good i2.dst h2 h1 (fun x y e => (same_cubes h x y).1 e)
  omega
/-- A number that no cube has had so far, added and taken away. -/
theorem spl_out {c : Cb} {id : Int} {al bl : List AtC} {J : Hx → List Int} (hc : c.snd = true) (hg : ∀ a ∈ al, GoodA a) (hx : ∀ x, idsAt hasP al x = [J x]) (h : splC c id al = some bl) (x : Hx) : idsAt hasP bl x = [if c.has x.1 x.2 = true then J x ++ [id] else J x] := by
  rw [splC_ids hc hg h, hx]
  rfl
theorem filter_out {I : List Int} {id : Int} (h : id ∉ I) : (I.filter fun n => decide (n ≠ id)) = I := by
  rw [List.filter_eq_self]
  intro n hn
  rw [decide_eq_true_eq]
  rintro rfl
  exact h hn
theorem back_ids {c : Cb} {id : Int} {J : Hx → List Int} (hn : ∀ x, id ∉ J x) (x : Hx) : ((if c.has x.1 x.2 = true then J x ++ [id] else J x).filter fun n => decide (n ≠ id)) = J x := by
  split
  · rw [List.filter_append, filter_out (hn x)]
    simp
  · exact filter_out (hn x)
/-- With a cube more, and then without it, there are as many atoms as there were, with the same numbers. -/
theorem spl_back {c : Cb} {id : Int} {al bl dl : List AtC} {J : Hx → List Int} (hc : c.snd = true) (hg : ∀ a ∈ al, GoodA a) (hd : Dst al) (hx : ∀ x, idsAt hasP al x = [J x]) (hn : ∀ x, id ∉ J x) (h : splC c id al = some bl) (hb : crsC id bl = some dl) :
    dl.length = al.length ∧ Dst dl ∧ ∀ x, idsAt hasP dl x = [J x] := by
  obtain ⟨h1, h2, h3⟩ := crs_right (spl_good h) (spl_out hc hg hx h) hb
  have h4 : ∀ x, idsAt hasP dl x = [J x] := fun x => by rw [h3, back_ids hn]
  have := at_len hg hd hx h4 (fun x y e => e)
  have := at_len h1 h2 h4 hx (fun x y e => e)
  exact ⟨by omega, h2, h4⟩
end Go.Proofs.Hd

namespace Go.Proofs.Hd
/-- Strictly increasing. -/
def Inc (L : List Int) : Prop := L.Pairwise (· < ·)
theorem Inc.ext : ∀ {A B : List Int}, Inc A → Inc B → (∀ x, x ∈ A ↔ x ∈ B) → A = B
  | [], [], _, _, _ => rfl
  | [], b :: _, _, _, h => absurd ((h b).2 (List.mem_cons_self ..)) (List.not_mem_nil)
  | a :: _, [], _, _, h => absurd ((h a).1 (List.mem_cons_self ..)) (List.not_mem_nil)
  | a :: A, b :: B, hA, hB, h => by
    rw [Inc, List.pairwise_cons] at hA hB
    have e : a = b := by
      rcases List.mem_cons.1 ((h a).1 (List.mem_cons_self ..)) with e | h1
      · exact e
      · rcases List.mem_cons.1 ((h b).2 (List.mem_cons_self ..)) with e | h2
        · exact e.symm
        · have h3 := hB.1 a h1
          have h4 := hA.1 b h2
          omega
    subst e
    have e2 : A = B := Inc.ext hA.2 hB.2 fun x => by
      constructor
      · intro hx
        rcases List.mem_cons.1 ((h x).1 (List.mem_cons_of_mem _ hx)) with e | h1
        · have := hA.1 x hx; omega
        · exact h1
      · intro hx
        rcases List.mem_cons.1 ((h x).2 (List.mem_cons_of_mem _ hx)) with e | h1
        · have := hB.1 x hx; omega
        · exact h1
    rw [e2]
theorem Inc.filter {L : List Int} (h : Inc L) (p : Int → Bool) : Inc (L.filter p) := List.Pairwise.filter p h
theorem Inc.nodup {L : List Int} (h : Inc L) : L.Nodup := h.imp fun h => by omega
/-- One number more. -/
def insI (x : Int) : List Int → List Int
  | [] => [x]
  | y :: L => if x < y then x :: y :: L else if x = y then y :: L else y :: insI x L
theorem mem_insI {x z : Int} : ∀ {L : List Int}, z ∈ insI x L ↔ z = x ∨ z ∈ L
  | [] => by simp [insI]
  | y :: L => by
    rw [insI]
    by_cases h1 : x < y
    · rw [if_pos h1, List.mem_cons]
    · rw [if_neg h1]
      by_cases h2 : x = y
      · rw [if_pos h2, h2]
        constructor
        · exact fun h => .inr h
        · rintro (rfl | h)
          · exact List.mem_cons_self ..
          · exact h
      · rw [if_neg h2, List.mem_cons, mem_insI, List.mem_cons]
        constructor
        · rintro (h | h | h)
          · exact .inr (.inl h)
          · exact .inl h
          · exact .inr (.inr h)
        · rintro (h | h | h)
          · exact .inr (.inl h)
          · exact .inl h
          · exact .inr (.inr h)
theorem inc_insI {x : Int} : ∀ {L : List Int}, Inc L → Inc (insI x L)
  | [], _ => by simp [insI, Inc]
  | y :: L, h => by
    have h' := h
    rw [Inc, List.pairwise_cons] at h'
    rw [insI]
    by_cases h1 : x < y
    · rw [if_pos h1, Inc, List.pairwise_cons]
      refine ⟨fun z hz => ?_, h⟩
      rcases List.mem_cons.1 hz with rfl | hz
      · exact h1
      · have := h'.1 z hz; omega
    · rw [if_neg h1]
      by_cases h2 : x = y
      · rw [if_pos h2]; exact h
      · rw [if_neg h2, Inc, List.pairwise_cons]
        refine ⟨fun z hz => ?_, inc_insI h'.2⟩
        rcases mem_insI.1 hz with rfl | hz
        · omega
        · exact h'.1 z hz
/-- The set of a list. -/
def setI (L : List Int) : List Int := L.foldl (fun A x => insI x A) []
theorem setI_nil : setI [] = [] := rfl
theorem setI_snoc (L : List Int) (x : Int) : setI (L ++ [x]) = insI x (setI L) := by simp [setI]
theorem foldI_mem {z : Int} : ∀ {L A : List Int}, z ∈ L.foldl (fun A x => insI x A) A ↔ z ∈ A ∨ z ∈ L
  | [], A => by simp
  | x :: L, A => by
    rw [List.foldl_cons, foldI_mem, mem_insI, List.mem_cons]
    constructor
    · rintro ((h | h) | h)
      · exact .inr (.inl h)
      · exact .inl h
      · exact .inr (.inr h)
    · rintro (h | h | h)
      · exact .inl (.inr h)
      · exact .inl (.inl h)
      · exact .inr h
theorem foldI_inc : ∀ {L A : List Int}, Inc A → Inc (L.foldl (fun A x => insI x A) A)
  | [], _, h => h
  | x :: L, A, h => by rw [List.foldl_cons]; exact foldI_inc (inc_insI h)
theorem mem_setI {z : Int} {L : List Int} : z ∈ setI L ↔ z ∈ L := by unfold setI; rw [foldI_mem]; simp
theorem inc_setI (L : List Int) : Inc (setI L) := foldI_inc (by simp [Inc])
theorem setI_of {L M : List Int} (h : Inc M) (hm : ∀ x, x ∈ M ↔ x ∈ L) : setI L = M := (inc_setI L).ext h fun x => by rw [mem_setI, hm]
theorem setI_inc {L : List Int} (h : Inc L) : setI L = L := setI_of h fun _ => Iff.rfl
theorem setI_len (L : List Int) : (setI L).length ≤ L.length := by
  have h : ∀ (L A : List Int), (L.foldl (fun A x => insI x A) A).length ≤ A.length + L.length := by
    intro L
    induction L with
    | nil => intro A; simp
    | cons x L ih =>
      intro A
      rw [List.foldl_cons]
      refine Nat.le_trans (ih _) ?_
      have h2 : ∀ A : List Int, (insI x A).length ≤ A.length + 1 := by
        intro A
        induction A with
        | nil => simp [insI]
        | cons y A ih2 =>
          rw [insI]
          split
          · simp
          · split
            · simp
            · simp only [List.length_cons]; omega
      have := h2 A
      simp only [List.length_cons]
      omega
  have h3 := h L []
  simp only [List.length_nil, Nat.zero_add] at h3
  exact h3
/-- A number that is not there comes in behind all that are less. -/
theorem insI_at {x : Int} : ∀ {L : List Int} {k : Nat}, Inc L → x ∉ L → (∀ (i : Nat) (y : Int), L[i]? = some y → (y < x ↔ i < k)) → k ≤ L.length → insI x L = L.take k ++ x :: L.drop k
  | [], k, _, _, _, hk => by
    obtain rfl : k = 0 := by simpa using hk
    rfl
  | y :: L, k, h, hn, hi, hk => by
    have h0 := hi 0 y rfl
    have hne : ¬ x = y := fun e => hn (by rw [e]; exact List.mem_cons_self ..)
    rw [insI]
    cases k with
    | zero =>
      have h1 : ¬ y < x := fun e => absurd (h0.1 e) (Nat.not_lt_zero _)
      rw [if_pos (by omega)]
      rfl
    | succ k =>
      have h1 : y < x := h0.2 (Nat.succ_pos _)
      rw [if_neg (by omega), if_neg hne]
      have ih := insI_at (L := L) (k := k) (List.pairwise_cons.1 h).2 (fun e => hn (List.mem_cons_of_mem _ e)) (fun i z hz => by
        have := hi (i + 1) z (by rw [List.getElem?_cons_succ]; exact hz)
        rw [this]
        omega) (by simpa using hk)
      rw [ih]
      rfl
/-- Which of two sets is less. -/
def lexI : List Int → List Int → Int
  | [], [] => 0
  | [], _ :: _ => -1
  | _ :: _, [] => 1
  | a :: A, b :: B => if a < b then -1 else if b < a then 1 else lexI A B
theorem lexI_neg : ∀ (A B : List Int), lexI B A = - lexI A B
  | [], [] => rfl
  | [], _ :: _ => rfl
  | _ :: _, [] => rfl
  | a :: A, b :: B => by
    rw [lexI, lexI]
    by_cases h1 : a < b
    · rw [if_neg (by omega), if_pos h1, if_pos h1]; rfl
    · by_cases h2 : b < a
      · rw [if_pos h2, if_neg h1, if_pos h2]
      · rw [if_neg h2, if_neg h1, if_neg h1, if_neg h2, lexI_neg A B]
/-- Union, intersection, difference. -/
def joinI (A B : List Int) : List Int := setI (A ++ B)
def meetI (A B : List Int) : List Int := (setI A).filter fun x => decide (x ∈ B)
def diffI (A B : List Int) : List Int := (setI A).filter fun x => !decide (x ∈ B)
theorem mem_joinI {A B : List Int} {x : Int} : x ∈ joinI A B ↔ x ∈ A ∨ x ∈ B := by unfold joinI; rw [mem_setI, List.mem_append]
theorem mem_meetI {A B : List Int} {x : Int} : x ∈ meetI A B ↔ x ∈ A ∧ x ∈ B := by unfold meetI; rw [List.mem_filter, mem_setI]; simp
theorem mem_diffI {A B : List Int} {x : Int} : x ∈ diffI A B ↔ x ∈ A ∧ x ∉ B := by unfold diffI; rw [List.mem_filter, mem_setI]; simp
theorem inc_joinI (A B : List Int) : Inc (joinI A B) := inc_setI _
theorem inc_meetI (A B : List Int) : Inc (meetI A B) := (inc_setI A).filter _
theorem inc_diffI (A B : List Int) : Inc (diffI A B) := (inc_setI A).filter _
theorem join_parts (A B : List Int) : joinI (meetI A B) (diffI A B) = setI A := (inc_joinI _ _).ext (inc_setI A) fun x => by
  rw [mem_joinI, mem_meetI, mem_diffI, mem_setI]
  constructor
  · rintro (h | h)
    · exact h.1
    · exact h.1
  · intro h
    by_cases hb : x ∈ B
    · exact .inl ⟨h, hb⟩
    · exact .inr ⟨h, hb⟩
theorem meet_parts (A B : List Int) : meetI (meetI A B) (diffI A B) = [] := (inc_meetI _ _).ext (by simp [Inc]) fun x => by
  rw [mem_meetI, mem_meetI, mem_diffI]
  constructor
  · rintro ⟨⟨_, h1⟩, _, h2⟩
    exact absurd h1 h2
  · intro h
    simp at h
theorem meet_swap (A B : List Int) : meetI A B = meetI B A := (inc_meetI _ _).ext (inc_meetI _ _) fun x => by rw [mem_meetI, mem_meetI, And.comm]
theorem join_swap (A B : List Int) : joinI A B = joinI B A := (inc_joinI _ _).ext (inc_joinI _ _) fun x => by rw [mem_joinI, mem_joinI, Or.comm]
/-- Among the first k of L, those below a are less than x, and no others. -/
def AtIs (L : List Int) (x : Int) (k a : Nat) : Prop := a ≤ k ∧ ∀ (i : Nat) (y : Int), i < k → L[i]? = some y → (y < x ↔ i < a)
theorem AtIs.zero (L : List Int) (x : Int) : AtIs L x 0 0 := ⟨Nat.le_refl _, fun _ _ h => absurd h (Nat.not_lt_zero _)⟩
theorem inc_get {L : List Int} (h : Inc L) {i j : Nat} {y z : Int} (hi : L[i]? = some y) (hj : L[j]? = some z) (hij : i < j) : y < z := by
  obtain ⟨h1, rfl⟩ := List.getElem?_eq_some_iff.1 hi
  obtain ⟨h2, rfl⟩ := List.getElem?_eq_some_iff.1 hj
  exact List.pairwise_iff_getElem.1 h i j h1 h2 hij
theorem AtIs.yes {L : List Int} {x y : Int} {k : Nat} (hL : Inc L) (hy : L[k]? = some y) (hx : y < x) : AtIs L x (k + 1) (k + 1) := by
  refine ⟨Nat.le_refl _, fun i z hi hz => ⟨fun _ => hi, fun _ => ?_⟩⟩
  rcases Nat.lt_or_ge i k with h1 | h1
  · have := inc_get hL hz hy h1
    omega
  · have e : i = k := by omega
    subst e
    rw [hy] at hz
    injection hz with hz
    omega
theorem AtIs.no {L : List Int} {x y : Int} {k a : Nat} (h : AtIs L x k a) (hy : L[k]? = some y) (hx : ¬ y < x) : AtIs L x (k + 1) a := by
  refine ⟨by have := h.1; omega, fun i z hi hz => ?_⟩
  rcases Nat.lt_or_ge i k with h1 | h1
  · exact h.2 i z h1 hz
  · have e : i = k := by omega
    subst e
    rw [hy] at hz
    injection hz with hz
    have := h.1
    constructor
    · intro h2; omega
    · intro h2; omega
theorem AtIs.done {L : List Int} {x : Int} {a : Nat} (hL : Inc L) (hn : x ∉ L) (h : AtIs L x L.length a) : insI x L = L.take a ++ x :: L.drop a :=
  insI_at hL hn (fun i y hy => h.2 i y (List.getElem?_eq_some_iff.1 hy).1 hy) h.1
theorem insI_in {x : Int} : ∀ {L : List Int}, Inc L → x ∈ L → insI x L = L := fun {L} h hx => (inc_insI h).ext h fun z => by
  rw [mem_insI]
  constructor
  · rintro (rfl | h)
    · exact hx
    · exact h
  · exact .inr
/-- The order, step by step. -/
theorem lexI_drop {A B : List Int} {i : Nat} {a b : Int} (ha : A[i]? = some a) (hb : B[i]? = some b) : lexI (A.drop i) (B.drop i) = if a < b then -1 else if b < a then 1 else lexI (A.drop (i + 1)) (B.drop (i + 1)) := by
  obtain ⟨h1, rfl⟩ := List.getElem?_eq_some_iff.1 ha
  obtain ⟨h2, rfl⟩ := List.getElem?_eq_some_iff.1 hb
  rw [List.drop_eq_getElem_cons h1, List.drop_eq_getElem_cons h2, lexI]
theorem lexI_left {A B : List Int} {i : Nat} (ha : A.length ≤ i) (hb : i < B.length) : lexI (A.drop i) (B.drop i) = -1 := by
  rw [List.drop_eq_nil_of_le ha, List.drop_eq_getElem_cons hb, lexI]
theorem lexI_right {A B : List Int} {i : Nat} (ha : i < A.length) (hb : B.length ≤ i) : lexI (A.drop i) (B.drop i) = 1 := by
  rw [List.drop_eq_nil_of_le hb, List.drop_eq_getElem_cons ha, lexI]
theorem lexI_both {A B : List Int} {i : Nat} (ha : A.length ≤ i) (hb : B.length ≤ i) : lexI (A.drop i) (B.drop i) = 0 := by
  rw [List.drop_eq_nil_of_le hb, List.drop_eq_nil_of_le ha, lexI]
theorem lexI_cases (A B : List Int) : lexI A B = -1 ∨ lexI A B = 0 ∨ lexI A B = 1 := by
  induction A generalizing B with
  | nil => cases B <;> simp [lexI]
  | cons a A ih =>
    cases B with
    | nil => simp [lexI]
    | cons b B =>
      rw [lexI]
      split
      · exact .inl rfl
      · split
        · exact .inr (.inr rfl)
        · exact ih B
instance decInc (L : List Int) : Decidable (Inc L) := inferInstanceAs (Decidable (L.Pairwise (· < ·)))
/-- Is a list strictly increasing so far? -/
def incB (L : List Int) (k : Nat) : Bool := decide (Inc (L.take k))
theorem inc_take_succ {L : List Int} {k : Nat} {y z : Int} (hy : L[k]? = some y) (hz : L[k + 1]? = some z) : Inc (L.take (k + 1 + 1)) ↔ Inc (L.take (k + 1)) ∧ y < z := by
  have e : L.take (k + 1 + 1) = L.take (k + 1) ++ [z] := by rw [List.take_add_one (i := k + 1), hz]; rfl
  have e2 : L.take (k + 1) = L.take k ++ [y] := by rw [List.take_add_one, hy]; rfl
  rw [e, Inc, List.pairwise_append]
  constructor
  · rintro ⟨h1, -, h2⟩
    exact ⟨h1, h2 y (by rw [e2]; simp) z (by simp)⟩
  · rintro ⟨h1, h2⟩
    refine ⟨h1, by simp, fun a ha c hc => ?_⟩
    rw [List.mem_singleton] at hc
    subst hc
    rw [e2, List.mem_append] at ha
    rcases ha with ha | ha
    · have h3 : Inc (L.take k ++ [y]) := e2 ▸ h1
      have h4 := (List.pairwise_append.1 h3).2.2 a ha y (by simp)
      omega
    · rw [List.mem_singleton] at ha
      omega
end Go.Proofs.Hd

namespace Go.Proofs.Hd
open Go.RowKit
theorem wit_join {a b : Cb} (h : a.wit b = true) : a.join b = a := by
  rw [Cb.wit_iff] at h
  obtain ⟨ha, hb, hk, hv⟩ := h
  rw [Cb.snd_iff] at ha hb
  have h1 : a.vh ||| b.vh = a.vh ∧ a.vl ||| b.vl = a.vl := head_ext fun j hj => by
    rw [hbit_or]
    have g1 := ha j hj
    have g2 := hb j hj
    have g3 := hk j hj
    have g4 := hv j hj
    unfold Cb.V Cb.K at *
    revert g1 g2 g3 g4
    cases hbit a.vh a.vl j <;> cases hbit a.ch a.cl j <;> cases hbit b.vh b.vl j <;> cases hbit b.ch b.cl j <;> simp
  have h2 : a.ch ||| b.ch = a.ch ∧ a.cl ||| b.cl = a.cl := head_ext fun j hj => by
    rw [hbit_or]
    have g3 := hk j hj
    unfold Cb.V Cb.K at *
    revert g3
    cases hbit a.ch a.cl j <;> cases hbit b.ch b.cl j <;> simp
  unfold Cb.join
  rw [h1.1, h1.2, h2.1, h2.2]
theorem wit_met {a b : Cb} (h : a.wit b = true) : a.met b = true := by
  rw [Cb.wit_iff] at h
  rw [met_eq a b h.1 h.2.1, Cb.agr_iff]
  exact h.2.2.2
theorem wit_less {a b : Cb} (h : a.wit b = true) : lessC a b = [] := by
  have h2 := h
  rw [Cb.wit_iff] at h
  unfold lessC
  rw [if_pos ((Cb.agr_iff a b).2 h.2.2.2)]
  have e : openBits a b = [] := by
    unfold openBits
    apply List.eq_nil_iff_forall_not_mem.2
    intro k hk
    have := (open_iff a b k).1 hk
    have h3 := h.2.2.1 k this.1 this.2.1
    rw [this.2.2] at h3
    cases h3
  rw [e]
  rfl
theorem nomet_less {a b : Cb} (ha : a.snd = true) (hb : b.snd = true) (h : a.met b = false) : lessC a b = [a] := by
  rw [met_eq a b ha hb] at h
  unfold lessC
  rw [if_neg (by rw [h]; simp)]
theorem metL_nil (B : List Cb) : metL [] B = [] := rfl
theorem metL_cons (a : Cb) (A B : List Cb) : metL (a :: A) B = metR a B ++ metL A B := rfl
theorem metR_one (a c : Cb) : metR a [c] = if a.met c = true then [a.join c] else [] := by
  unfold metR met1
  by_cases h : a.met c = true
  · rw [if_pos h, List.filterMap_cons_some (b := a.join c) (by rw [if_pos h])]; rfl
  · rw [if_neg h, List.filterMap_cons_none (by rw [if_neg h])]; rfl
theorem metL_none {c : Cb} : ∀ {p : List Cb}, p.any (fun d => d.met c) = false → metL p [c] = []
  | [], _ => rfl
  | a :: p, h => by
    rw [List.any_cons, Bool.or_eq_false_iff] at h
    rw [metL_cons, metR_one, if_neg (by rw [h.1]; simp), metL_none h.2]
    rfl
theorem metL_within {c : Cb} : ∀ {p : List Cb}, p.any (fun d => !d.wit c) = false → metL p [c] = p
  | [], _ => rfl
  | a :: p, h => by
    rw [List.any_cons, Bool.or_eq_false_iff] at h
    have h1 : a.wit c = true := by simpa using h.1
    rw [metL_cons, metR_one, if_pos (wit_met h1), metL_within h.2, wit_join h1]
    rfl
theorem offL_none {c : Cb} (hc : c.snd = true) : ∀ {p : List Cb}, (∀ d ∈ p, d.snd = true) → p.any (fun d => d.met c) = false → offL p c = p
  | [], _, _ => rfl
  | a :: p, hp, h => by
    rw [List.any_cons, Bool.or_eq_false_iff] at h
    show lessC a c ++ offL p c = _
    rw [nomet_less (hp a (List.mem_cons_self ..)) hc h.1, offL_none hc (fun d hd => hp d (List.mem_cons_of_mem _ hd)) h.2]
    rfl
theorem offL_within {c : Cb} : ∀ {p : List Cb}, p.any (fun d => !d.wit c) = false → offL p c = []
  | [], _ => rfl
  | a :: p, h => by
    rw [List.any_cons, Bool.or_eq_false_iff] at h
    have h1 : a.wit c = true := by simpa using h.1
    show lessC a c ++ offL p c = _
    rw [wit_less h1, offL_within h.2]
    rfl
theorem leanS_nil : leanS [] = [] := by rw [leanS_R]; rfl
theorem leanS_short (L : List Cb) : (leanS L).length ≤ L.length := by
  have hle : ∀ (P Q : List Cb), (leanR P Q).length ≤ Q.length := by
    intro P Q
    induction Q generalizing P with
    | nil => simp [leanR]
    | cons d Q ih =>
      rw [leanR, List.length_append, List.length_cons]
      have := ih (P ++ [d])
      split
      · simp only [List.length_cons, List.length_nil]; omega
      · simp only [List.length_nil]; omega
  rw [leanS_R]
  exact hle [] L
/-- A lean pile of sound cubes, some of which there are, is not empty. -/
theorem lean_ne {p : List Cb} (hs : ∀ d ∈ p, d.snd = true) (hne : p ≠ []) : leanS p ≠ [] := by
  intro e
  match p, hne with
  | c :: p, _ =>
    have h1 := leanS_has hs c.vh c.vl
    rw [e] at h1
    have h2 : anyHas (c :: p) c.vh c.vl = true := by
      unfold anyHas
      rw [List.any_cons, has_value (hs c (List.mem_cons_self ..))]
      rfl
    rw [h2] at h1
    cases h1
/-- Intersection and difference, where neither is too large. -/
def cutP (c : Cb) (p : List Cb) : Option (List Cb × List Cb) := match meP c p, leP c p with
  | some m, some l => some (m, l)
  | _, _ => none
/-- The two parts as the program makes them. -/
def partP (c : Cb) (p : List Cb) : Option (List Cb × List Cb) :=
  if p.any (fun d => d.met c) = false then some ([], p) else if p.any (fun d => !d.wit c) = false then some (p, []) else cutP c p
theorem capL_ok {L : List Cb} (h : L.length ≤ 200) : capL L = some L := by unfold capL; rw [if_pos h]
theorem leP_ok {c : Cb} {p : List Cb} (h : (leanS (offL p c)).length ≤ 200) : leP c p = some (leanS (offL p c)) := by
  unfold leP
  rw [lessL, if_pos h]
  rfl
/-- The program's parts, made lean. -/
theorem part_lean {c : Cb} {p : List Cb} (hc : c.snd = true) (hp : ∀ d ∈ p, d.snd = true) (hl : p.length ≤ 200) : (partP c p).map (fun x => (leanS x.1, leanS x.2)) = cutP c p := by
  have hs := leanS_short p
  unfold partP
  by_cases h1 : p.any (fun d => d.met c) = false
  · rw [if_pos h1]
    have e1 : meP c p = some [] := by unfold meP; rw [metL_none h1, leanS_nil]; rfl
    have e2 : leP c p = some (leanS p) := by rw [leP_ok (by rw [offL_none hc hp h1]; omega), offL_none hc hp h1]
    unfold cutP
    rw [e1, e2]
    show some (leanS [], leanS p) = _
    rw [leanS_nil]
  · rw [if_neg h1]
    by_cases h2 : p.any (fun d => !d.wit c) = false
    · rw [if_pos h2]
      have e1 : meP c p = some (leanS p) := by unfold meP; rw [metL_within h2]; exact capL_ok (by omega)
      have e2 : leP c p = some [] := by rw [leP_ok (by rw [offL_within h2, leanS_nil]; simp), offL_within h2, leanS_nil]
      unfold cutP
      rw [e1, e2]
      show some (leanS p, leanS []) = _
      rw [leanS_nil]
    · rw [if_neg h2]
      unfold cutP
      split
      · rename_i m l e1 e2
        show some (leanS m, leanS l) = _
        rw [(meP_form e1).1, (leP_form e2).1, leanS_idem, leanS_idem]
      · rfl
theorem part_of_lean {c : Cb} {p : List Cb} (hc : c.snd = true) (hp : ∀ d ∈ p, d.snd = true) (hl : p.length ≤ 200) (he : leanS p = p) : partP c p = cutP c p := by
  rw [← part_lean hc hp hl]
  unfold partP
  by_cases h1 : p.any (fun d => d.met c) = false
  · rw [if_pos h1]
    show _ = some (leanS [], leanS p)
    rw [leanS_nil, he]
  · rw [if_neg h1]
    by_cases h2 : p.any (fun d => !d.wit c) = false
    · rw [if_pos h2]
      show _ = some (leanS p, leanS [])
      rw [leanS_nil, he]
    · rw [if_neg h2]
      unfold cutP
      split
      · rename_i m l e1 e2
        show _ = some (leanS m, leanS l)
        rw [(meP_form e1).1, (leP_form e2).1, leanS_idem, leanS_idem]
      · rfl
/-- What bears on the parts of a sound pile. -/
theorem part_snd {c : Cb} {p m l : List Cb} (hp : ∀ d ∈ p, d.snd = true) (hl : p.length ≤ 200) (h : partP c p = some (m, l)) : (∀ d ∈ m, d.snd = true) ∧ (∀ d ∈ l, d.snd = true) ∧ m.length ≤ 200 ∧ l.length ≤ 200 := by
  unfold partP at h
  by_cases h1 : p.any (fun d => d.met c) = false
  · rw [if_pos h1] at h
    injection h with h
    injection h with h3 h4
    subst h3 h4
    exact ⟨by simp, hp, by simp, hl⟩
  · rw [if_neg h1] at h
    by_cases h2 : p.any (fun d => !d.wit c) = false
    · rw [if_pos h2] at h
      injection h with h
      injection h with h3 h4
      subst h3 h4
      exact ⟨hp, by simp, hl, by simp⟩
    · rw [if_neg h2] at h
      unfold cutP at h
      split at h
      · rename_i m' l' e1 e2
        injection h with h
        injection h with h3 h4
        subst h3 h4
        obtain ⟨f1, f2⟩ := meP_form e1
        obtain ⟨f3, f4⟩ := leP_form e2
        exact ⟨by rw [f1]; exact leanS_snd _, by rw [f3]; exact leanS_snd _, f2, f4⟩
      · cases h
/-- One atom's parts. -/
def prtG (c : Cb) (id : Int) (a : AtC) : List AtC := match partP c a.pl with
  | some (m, l) => (if m.isEmpty = true then [] else [⟨joinI a.ids [id], topP m, m⟩]) ++ (if l.isEmpty = true then [] else [⟨a.ids, topP l, l⟩])
  | none => []
def okA (c : Cb) (a : AtC) : Bool := (partP c a.pl).isSome
/-- Splitting, as the program does it. -/
def splG (c : Cb) (id : Int) (al : List AtC) : Option (List AtC) := if al.all (okA c) = true then some (al.flatMap (prtG c id)) else none
theorem prtG_len (c : Cb) (id : Int) (a : AtC) : (prtG c id a).length ≤ 2 := by
  unfold prtG
  split
  · split <;> split <;> simp
  · simp
theorem flat_len2 (c : Cb) (id : Int) (al : List AtC) : (al.flatMap (prtG c id)).length ≤ 2 * al.length := by
  induction al with
  | nil => simp
  | cons a al ih =>
    rw [List.flatMap_cons, List.length_append, List.length_cons]
    have := prtG_len c id a
    omega
theorem flat_take {c : Cb} {id : Int} {al : List AtC} {k : Nat} {a : AtC} (h : al[k]? = some a) : (al.take (k + 1)).flatMap (prtG c id) = (al.take k).flatMap (prtG c id) ++ prtG c id a := by
  rw [List.take_add_one, h, List.flatMap_append]
  simp
theorem splG_none {c : Cb} {id : Int} {al : List AtC} {k : Nat} {a : AtC} (h : al[k]? = some a) (hn : partP c a.pl = none) : splG c id al = none := by
  unfold splG
  rw [if_neg]
  rw [List.all_eq_true]
  intro hh
  have := hh a (List.mem_of_getElem? h)
  unfold okA at this
  rw [hn] at this
  cases this
theorem splG_some {c : Cb} {id : Int} {al : List AtC} (h : ∀ (k : Nat) (a : AtC), al[k]? = some a → okA c a = true) : splG c id al = some (al.flatMap (prtG c id)) := by
  unfold splG
  rw [if_pos]
  rw [List.all_eq_true]
  intro a ha
  obtain ⟨k, hk⟩ := List.mem_iff_getElem?.1 ha
  exact h k a hk
theorem splG_cons (c : Cb) (id : Int) (a : AtC) (al : List AtC) : splG c id (a :: al) = match partP c a.pl, splG c id al with
    | some _, some bs => some (prtG c id a ++ bs)
    | _, _ => none := by
  unfold splG
  rw [List.all_cons, List.flatMap_cons]
  unfold okA
  cases h : partP c a.pl with
  | none => rfl
  | some x =>
    by_cases h2 : al.all (fun a => (partP c a.pl).isSome) = true
    · rw [if_pos h2, if_pos (by rw [h2]; rfl)]
    · rw [if_neg h2, if_neg (by simpa using h2)]
theorem join_last {I : List Int} {id : Int} (hi : Inc I) (hb : ∀ n ∈ I, n < id) : joinI I [id] = I ++ [id] := by
  refine setI_inc ?_
  rw [Inc, List.pairwise_append]
  exact ⟨hi, by simp, fun a ha b hb' => by rw [List.mem_singleton] at hb'; rw [hb']; exact hb a ha⟩
/-- Of good atoms it is the splitting that the document tells. -/
theorem splG_good {c : Cb} {id : Int} (hc : c.snd = true) : ∀ {al : List AtC}, (∀ a ∈ al, GoodA a) → (∀ a ∈ al, Inc a.ids) → (∀ a ∈ al, ∀ n ∈ a.ids, n < id) → splG c id al = splC c id al
  | [], _, _, _ => rfl
  | a :: al, hg, hi, hb => by
    have ih := splG_good hc (fun b hbm => hg b (List.mem_cons_of_mem _ hbm)) (fun b hbm => hi b (List.mem_cons_of_mem _ hbm)) (fun b hbm => hb b (List.mem_cons_of_mem _ hbm))
    have ha := hg a (List.mem_cons_self ..)
    have hj := join_last (hi a (List.mem_cons_self ..)) (hb a (List.mem_cons_self ..))
    have hp := part_of_lean hc ha.snd ha.len ha.lean
    rw [splG_cons, ih]
    show _ = splO (meP c) (leP c) List.isEmpty topP id (a :: al)
    rw [splO]
    unfold prtG
    rw [hp, hj]
    unfold cutP
    cases h1 : meP c a.pl with
    | none => rfl
    | some m =>
      cases h2 : leP c a.pl with
      | none => rfl
      | some l =>
        show (match some (m, l), splC c id al with
          | some _, some bs => _
          | _, _ => none) = _
        unfold splC
        cases h3 : splO (meP c) (leP c) List.isEmpty topP id al with
        | none => rfl
        | some bs => rfl
theorem spl_inc {c : Cb} {id : Int} {al bs : List AtC} (hi : ∀ a ∈ al, Inc a.ids) (hb : ∀ a ∈ al, ∀ n ∈ a.ids, n < id) (h : splC c id al = some bs) : ∀ b ∈ bs, Inc b.ids := by
  intro b hbm
  obtain ⟨a, ha, h1, _, _⟩ := spl_mem h b hbm
  rcases h1 with ⟨e, _⟩ | ⟨e, _⟩
  · rw [e, Inc, List.pairwise_append]
    exact ⟨hi a ha, by simp, fun x hx y hy => by rw [List.mem_singleton] at hy; rw [hy]; exact hb a ha x hx⟩
  · rw [e]; exact hi a ha
theorem spl_len {c : Cb} {id : Int} : ∀ {al bs : List AtC}, splC c id al = some bs → bs.length ≤ 2 * al.length
  | [], bs, h => by
    unfold splC at h
    rw [splO] at h
    injection h with h
    subst h
    simp
  | a :: al, bs, h => by
    obtain ⟨m, l, cs, _, _, e3, rfl⟩ := splO_cons h
    have := spl_len (c := c) (id := id) e3
    have h2 : (prt List.isEmpty topP id a.ids m l).length ≤ 2 := by
      unfold prt
      split <;> split <;> simp
    rw [List.length_append, List.length_cons]
    omega
theorem sps_len : ∀ {cs : List Cb} {i : Nat} {al bs : List AtC}, spsC i cs al = some bs → bs.length ≤ 2 ^ cs.length * al.length
  | [], i, al, bs, h => by
    rw [spsC] at h
    injection h with h
    subst h
    simp
  | c :: cs, i, al, bs, h => by
    rw [spsC] at h
    split at h
    · rename_i ds hd
      have h1 := sps_len h
      have h2 := spl_len hd
      rw [List.length_cons, Nat.pow_succ]
      have := Nat.mul_le_mul_left (2 ^ cs.length) h2
      rw [← Nat.mul_assoc] at this
      omega
    · cases h
/-- The atoms of the first cubes. -/
theorem sps_take : ∀ {cs : List Cb} {i k : Nat} {al : List AtC}, k ≤ cs.length → spsC i cs al = match spsC i (cs.take k) al with
    | some bs => spsC (i + k) (cs.drop k) bs
    | none => none
  | cs, i, 0, al, _ => by simp [spsC]
  | [], i, k + 1, al, h => by simp at h
  | c :: cs, i, k + 1, al, h => by
    rw [List.take_succ_cons, spsC, spsC, List.drop_succ_cons]
    cases splC c (i : Int) al with
    | none => rfl
    | some bs =>
      show spsC (i + 1) cs bs = match spsC (i + 1) (cs.take k) bs with
        | some ds => spsC (i + (k + 1)) (cs.drop k) ds
        | none => none
      rw [show i + (k + 1) = i + 1 + k by omega]
      exact sps_take (by simpa using h)
theorem sps_inc : ∀ {cs : List Cb} {i : Nat} {al bs : List AtC}, AtInv i al → (∀ a ∈ al, Inc a.ids) → (∀ c ∈ cs, c.snd = true) → spsC i cs al = some bs → ∀ b ∈ bs, Inc b.ids
  | [], i, al, bs, _, hi, _, h => by
    rw [spsC] at h
    injection h with h
    subst h
    exact hi
  | c :: cs, i, al, bs, hv, hi, hs, h => by
    rw [spsC] at h
    split at h
    · rename_i ds hd
      exact sps_inc (hv.spl hd) (spl_inc hi (fun a ha n hn => hv.below a ha n hn) hd) (fun d hd => hs d (List.mem_cons_of_mem _ hd)) h
    · cases h
/-- An atom with sorted numbers and a lean pile. -/
def nrm (a : AtC) : AtC := ⟨setI a.ids, topP (leanS a.pl), leanS a.pl⟩
/-- Refining, as the program does it. -/
def refG (c : Cb) (id : Int) (al : List AtC) : Option (List AtC) := (splG c id al).map (List.map nrm)
theorem nrm_good {a : AtC} (h : GoodA a) (hi : Inc a.ids) : nrm a = a := by
  unfold nrm
  rw [h.lean, setI_inc hi, ← h.top]
theorem refG_good {c : Cb} {id : Int} {al : List AtC} (hc : c.snd = true) (hg : ∀ a ∈ al, GoodA a) (hi : ∀ a ∈ al, Inc a.ids) (hb : ∀ a ∈ al, ∀ n ∈ a.ids, n < id) : refG c id al = splC c id al := by
  unfold refG
  rw [splG_good hc hg hi hb]
  cases h : splC c id al with
  | none => rfl
  | some bs =>
    show some (bs.map nrm) = some bs
    have h1 := spl_good h
    have h2 := spl_inc hi hb h
    have h3 : bs.map nrm = bs.map (fun b => b) := List.map_congr_left fun b hbm => nrm_good (h1 b hbm) (h2 b hbm)
    rw [h3, List.map_id']
/-- An atom without a number, as the program makes it. -/
def outG (id : Int) (a : AtC) : AtC := ⟨diffI a.ids [id], a.hd, a.pl⟩
def crsG (id : Int) (al : List AtC) : Option (List AtC) := mrgO jnP [] (al.map (outG id))
theorem outG_inc {id : Int} {a : AtC} (h : Inc a.ids) : outG id a = outA id a := by
  unfold outG outA diffI
  rw [setI_inc h]
  congr 1
  apply List.filter_congr
  intro x _
  simp
theorem crsG_inc {id : Int} {al : List AtC} (h : ∀ a ∈ al, Inc a.ids) : crsG id al = crsC id al := by
  unfold crsG crsC
  rw [List.map_congr_left fun a ha => outG_inc (h a ha)]
theorem put_no {jn : List Cb → List Cb → Option (List Cb)} {a : AtC} : ∀ {out : List AtC}, (∀ b ∈ out, b.ids ≠ a.ids) → putO jn a out = some (out ++ [a])
  | [], _ => rfl
  | b :: out, h => by
    rw [putO, if_neg (h b (List.mem_cons_self ..)), put_no (fun c hc => h c (List.mem_cons_of_mem _ hc))]
    rfl
theorem put_at {jn : List Cb → List Cb → Option (List Cb)} {a b : AtC} : ∀ {out : List AtC} {n : Nat}, out[n]? = some b → b.ids = a.ids → (∀ (j : Nat) (d : AtC), j < n → out[j]? = some d → d.ids ≠ a.ids) → putO jn a out = (jn b.pl a.pl).map fun p => out.set n ⟨b.ids, b.hd, p⟩
  | [], n, h, _, _ => by simp at h
  | d :: out, 0, h, e, _ => by
    simp only [List.getElem?_cons_zero, Option.some.injEq] at h
    subst h
    rw [putO, if_pos e]
    cases jn d.pl a.pl <;> rfl
  | d :: out, n + 1, h, e, hn => by
    rw [List.getElem?_cons_succ] at h
    rw [putO, if_neg (hn 0 d (Nat.succ_pos _) rfl), put_at h e (fun j f hj hf => hn (j + 1) f (by omega) (by rw [List.getElem?_cons_succ]; exact hf))]
    cases jn b.pl a.pl <;> rfl
theorem mrg_step {jn : List Cb → List Cb → Option (List Cb)} {out al : List AtC} {a : AtC} {k : Nat} (h : al[k]? = some a) : mrgO jn out (al.drop k) = match putO jn a out with
    | some r => mrgO jn r (al.drop (k + 1))
    | none => none := by
  obtain ⟨hk, rfl⟩ := List.getElem?_eq_some_iff.1 h
  rw [List.drop_eq_getElem_cons hk, mrgO]
  cases putO jn al[k] out <;> rfl
/-- The piles behind a split, pile by pile. -/
def pprt (c : Cb) (p : List Cb) : List (List Cb) := (if (leanS (metL p [c])).isEmpty = true then [] else [leanS (metL p [c])]) ++ (if (leanS (offL p c)).isEmpty = true then [] else [leanS (offL p c)])
theorem spl_piles {c : Cb} {id : Int} : ∀ {al bs : List AtC}, splC c id al = some bs → bs.map Atm.pl = (al.map Atm.pl).flatMap (pprt c) ∧ ∀ a ∈ al, (leanS (metL a.pl [c])).length ≤ 200 ∧ leP c a.pl = some (leanS (offL a.pl c))
  | [], bs, h => by
    unfold splC at h
    rw [splO] at h
    injection h with h
    subst h
    exact ⟨rfl, by simp⟩
  | a :: al, bs, h => by
    obtain ⟨m, l, cs, e1, e2, e3, rfl⟩ := splO_cons h
    obtain ⟨h1, h2⟩ := spl_piles (c := c) (id := id) e3
    obtain ⟨f1, f2⟩ := meP_form e1
    obtain ⟨f3, f4⟩ := leP_form e2
    refine ⟨?_, fun b hb => ?_⟩
    · rw [List.map_append, List.map_cons, List.flatMap_cons, h1]
      congr 1
      unfold prt pprt
      rw [← f1, ← f3, List.map_append]
      congr 1
      · split <;> rfl
      · split <;> rfl
    · rcases List.mem_cons.1 hb with rfl | hb
      · exact ⟨by rw [← f1]; exact f2, by rw [e2, f3]⟩
      · exact h2 b hb
end Go.Proofs.Hd

namespace Go.Proofs.Hd
open Go.RowKit
/-- v is a slice that reads as the numbers L (a nil one let in), no longer than its capacity. -/
def Nm (w : World) (v : Value) (L : List Int) : Prop := ∃ A c, v = .slice A L.length c ∧ L.length ≤ c ∧ c ≤ maxLen ∧ (L = [] ∨ ∃ b o, A = some ⟨b, o, none⟩ ∧ b < w.heap.size ∧ ∀ (k : Nat) (x : Int), L[k]? = some x → w.cell? ⟨b, o + k, none⟩ = some (.int .i64 x))
theorem Nm.on {w w' : World} {v : Value} {L : List Int} (h : Nm w v L) (hb : Below w.heap.size w w') : Nm w' v L := by
  obtain ⟨A, c, e, h1, h2, h3⟩ := h
  refine ⟨A, c, e, h1, h2, ?_⟩
  rcases h3 with h | ⟨b, o, e, hlt, h⟩
  · exact .inl h
  · exact .inr ⟨b, o, e, Nat.lt_of_lt_of_le hlt hb.size, fun k x hk => on_some hb (h k x hk)⟩
theorem Nm.nil (w : World) : Nm w (.slice none 0 0) [] := ⟨none, 0, rfl, Nat.le_refl _, Nat.zero_le _, .inl rfl⟩
theorem bdn {B : Nat} {w w' : World} (h : Below B w w') (n : Nat) : Below B w (w'.drewN n) := ⟨h.os, h.tape, h.output, h.size, h.block⟩
theorem Nm.take {w : World} {A : Option Addr} {n c : Nat} {L : List Int} (h : Nm w (.slice A n c) L) {k : Nat} (hk : k ≤ L.length) : Nm w (.slice A k c) (L.take k) := by
  obtain ⟨A', c', e, h1, h2, h3⟩ := h
  injection e with e1 e2 e3
  subst e1 e2 e3
  have hl : (L.take k).length = k := by rw [List.length_take]; omega
  refine ⟨A, c, by rw [hl], by omega, h2, ?_⟩
  rcases h3 with h | ⟨b, o, e, hlt, h⟩
  · left; rw [h]; simp
  · refine .inr ⟨b, o, e, hlt, fun j x hj => h j x ?_⟩
    rw [List.getElem?_take] at hj
    split at hj
    · exact hj
    · cases hj
theorem incB_iff {L : List Int} : decide (Inc L) = true ↔ Inc L := by simp
/-- The step of Sound. -/
theorem inc_step {L : List Int} {j k : Nat} {y z : Int} (e : j + 1 = k) (hy : L[j]? = some y) (hz : L[k]? = some z) : Inc (L.take (k + 1)) ↔ Inc (L.take k) ∧ y < z := by
  subst e
  exact inc_take_succ hy hz
theorem inc_one {L : List Int} {k : Nat} (h : k ≤ 1) : Inc (L.take k) := by
  match L, k, h with
  | [], k, _ => simp [Inc]
  | a :: L, 0, _ => simp [Inc]
  | a :: L, 1, _ => simp [Inc]
theorem inc_take {L : List Int} (h : Inc L) (k : Nat) : Inc (L.take k) := List.Pairwise.sublist (List.take_sublist k L) h
theorem pred_wrap {j k : Nat} (e : j + 1 = k) (h : k ≤ 4611686018427387904) : IntKind.i64.wrap ((k : Int) - 1) = (j : Int) := by rw [IntKind.wrap_i64]; omega
end Go.Proofs.Hd
namespace Go.Proofs
open Go.RowKit Go.Proofs.Hd Go.Lib
attribute [local go_sem] uv_nonneg
set_option maxHeartbeats 2000000 in
theorem idsound_c (v : Value) (L : List Int) (w : World) (hl : L.length ≤ 4611686018427387904) (hv : Nm w v L) : Calls Tryz.prog 82 #[v] w fun e w' => e = .returned (.bool (decide (Inc L))) ∧ Below w.heap.size w w' := by
  obtain ⟨A, c, rfl, _, _, h3⟩ := hv
  have hlz : (L.length : Int) ≤ 4611686018427387904 := by omega
  obtain ⟨r, hr⟩ : ∃ r, decide (Inc L) = r := ⟨_, rfl⟩
  rw [hr]
  rcases h3 with rfl | ⟨b, o, rfl, hb, hc⟩
  · obtain rfl : r = true := by rw [← hr]; simp [Inc]
    clear hr
    go_enter Tryz.func82, Tryz.ntmps82
    go_wp2
    refine wp_loop_rounds 1 ?_
    rw [rounds_succ]
    go_wp2
    go_ret
    exact ⟨rfl, Below.refl _ _⟩
  · have HC := Lib.hid hc
    have HR := Lib.hid hr
    clear hc hr
    go_enter Tryz.func82, Tryz.ntmps82
    go_wp2
    go_loopg [3] L.length (fun gk s3 wr => ∃ k : Nat, 1 ≤ k ∧ gk + k = L.length + 1 ∧ s3 = .int .i64 k ∧ Hid (Below w.heap.size w wr) ∧ Hid (Inc (L.take k)))
    case atStart => exact ⟨1, Nat.le_refl _, by omega, rfl, Below.refl _ _, inc_one (Nat.le_refl _)⟩
    case round =>
      obtain ⟨k, hk, hgk, rfl, HB, HI⟩ := hrel
      by_cases hlt : k < L.length
      · have hltz : (k : Int) < (L.length : Int) := by omega
        obtain ⟨j, e⟩ : ∃ j, j + 1 = k := ⟨k - 1, by omega⟩
        have hjz : (j : Int) < (L.length : Int) := by omega
        have q1 := pred_wrap e (by omega)
        have q2 : (k : Int) - 1 = (j : Int) := by omega
        obtain ⟨y, hy⟩ : ∃ y, L[j]? = some y := ⟨_, List.getElem?_eq_getElem (by omega)⟩
        obtain ⟨z, hz⟩ : ∃ z, L[k]? = some z := ⟨_, List.getElem?_eq_getElem hlt⟩
        have d1 := on_some HB.out (HC.out j y hy)
        have d2 := on_some HB.out (HC.out k z hz)
        have st := Lib.hid (inc_step e hy hz)
        have E := Lib.hid e
        clear hy hz e
        by_cases hyz : y < z
        · have hd : decide (z ≤ y) = false := by simp; omega
          go_wp2_with fail
          go_quiet (fail)
          have HB2 := Lib.hid (bdn HB.out nq)
          clear d1 d2 HB
          generalize wr.drewN nq = w2 at HB2 ⊢
          go_wp2
          go_roundg (L.length + 1 - (k + 1))
          case measure => omega
          case rel => exact ⟨k + 1, by omega, by omega, by go_num, HB2, st.out.2 ⟨HI.out, hyz⟩⟩
        · have hd : decide (z ≤ y) = true := by simp; omega
          have hrf : r = false := by
            cases r with
            | false => rfl
            | true =>
              have h1 : Inc L := by simpa using HR.out
              exact absurd (st.out.1 (inc_take h1 _)).2 hyz
          subst hrf
          go_wp2_with fail
          go_quiet (fail)
          have HB2 := Lib.hid (bdn HB.out nq)
          clear d1 d2 HB
          generalize wr.drewN nq = w2 at HB2 ⊢
          go_wp2
          go_ret
          exact ⟨rfl, HB2.out⟩
      · have hltz : ¬ (k : Int) < (L.length : Int) := by omega
        have hrt : r = true := by
          have h1 := HI.out
          rw [List.take_of_length_le (by omega)] at h1
          have h2 := HR.out
          simpa [h1] using h2.symm
        subst hrt
        go_wp2
        go_ret
        exact ⟨rfl, HB.out⟩
set_option maxHeartbeats 2000000 in
theorem sindex_c (v : Value) (L : List Int) (x : Int) (w : World) (hl : L.length ≤ 4611686018427387904) (hv : Nm w v L) : Calls Tryz.prog 75 #[v, .int .i64 x] w fun e w' => ∃ r : Int, e = .returned (.int .i64 r) ∧ w' = w ∧ (0 ≤ r ↔ x ∈ L) := by
  obtain ⟨A, c, rfl, _, _, h3⟩ := hv
  have hlz : (L.length : Int) ≤ 4611686018427387904 := by omega
  rcases h3 with rfl | ⟨b, o, rfl, hb, hc⟩
  · go_enter Tryz.func75, Tryz.ntmps75
    go_wp2
    refine wp_loop_rounds 1 ?_
    rw [rounds_succ]
    go_wp2
    go_ret
    exact ⟨-1, rfl, rfl, by simp⟩
  · have HC := Lib.hid hc
    clear hc
    go_enter Tryz.func75, Tryz.ntmps75
    go_wp2
    go_loopg [5, 8] L.length (fun gk _ s8 wr => ∃ k : Nat, k ≤ L.length ∧ gk = L.length - k ∧ s8 = .int .i64 k ∧ wr = w ∧ Hid (x ∉ L.take k))
    case atStart => exact ⟨0, Nat.zero_le _, rfl, rfl, rfl, by simp [Hid]⟩
    case round =>
      obtain ⟨k, hk, rfl, rfl, rfl, HI⟩ := hrel
      by_cases hlt : k < L.length
      · have hltz : (k : Int) < (L.length : Int) := by omega
        obtain ⟨y, hy⟩ : ∃ y, L[k]? = some y := ⟨_, List.getElem?_eq_getElem hlt⟩
        have d1 := HC.out k y hy
        have HY := Lib.hid hy
        clear hy
        by_cases e : x = y
        · have hd : (x == y) = true := by simpa using e
          have E := Lib.hid e
          clear e
          go_wp2
          go_ret
          exact ⟨(k : Int), rfl, rfl, by simp [E.out, List.mem_of_getElem? HY.out]⟩
        · have hd : (x == y) = false := by simpa using e
          have E := Lib.hid e
          clear e
          go_wp2
          go_roundg (L.length - (k + 1))
          case measure => omega
          case rel =>
            refine ⟨k + 1, by omega, rfl, by go_num, rfl, fun h => ?_⟩
            rw [List.take_add_one, HY.out, List.mem_append] at h
            rcases h with h | h
            · exact HI.out h
            · simp at h; exact E.out h
      · have hltz : ¬ (k : Int) < (L.length : Int) := by omega
        have h1 := HI.out
        rw [List.take_of_length_le (by omega)] at h1
        have H1 := Lib.hid h1
        clear h1
        go_wp2
        go_ret
        exact ⟨-1, rfl, rfl, ⟨fun h => absurd h (by decide), fun h => absurd h H1.out⟩⟩
theorem idhas_c (v : Value) (L : List Int) (x : Int) (w : World) (hl : L.length ≤ 4611686018427387904) (hv : Nm w v L) : Calls Tryz.prog 36 #[v, .int .i64 x] w fun e w' => e = .returned (.bool (decide (x ∈ L))) ∧ w' = w := by
  have hcon := sindex_c v L x w hl hv
  obtain ⟨r, hr⟩ : ∃ r, decide (x ∈ L) = r := ⟨_, rfl⟩
  rw [hr]
  have HR := Lib.hid hr
  clear hr hv
  have hcon2 : Calls Tryz.prog 55 #[v, .int .i64 x] w fun e w' => e = .returned (.bool r) ∧ w' = w := by
    go_enter Tryz.func55, Tryz.ntmps55
    go_wp2_with fail
    (with_reducible refine hcon.mono ?_)
    rintro e w1 ⟨k, rfl, rfl, hk⟩
    cases r with
    | true =>
      have h1 : (0 : Int) ≤ k := hk.2 (by simpa using HR.out)
      clear hk HR
      go_wp2
      go_ret
      exact ⟨rfl, rfl⟩
    | false =>
      have h1 : decide ((0 : Int) ≤ k) = false := by
        have h2 := HR.out
        simp only [decide_eq_false_iff_not] at h2 ⊢
        exact fun h => h2 (hk.1 h)
      clear hk HR
      go_wp2
      go_ret
      exact ⟨rfl, rfl⟩
  clear hcon HR
  go_enter Tryz.func36, Tryz.ntmps36
  go_wp2_with fail
  (with_reducible refine hcon2.mono ?_)
  rintro e w1 ⟨rfl, rfl⟩
  go_wp2
  go_ret
  exact ⟨rfl, rfl⟩
end Go.Proofs

namespace Go.Proofs
open Go.Shelf Go.RowKit Go.Lib Go.Sort
def Tryz.lays189_ren : Go.Shelf.Ren := ⟨fun | 189 => 59 | 125 => 78 | 257 => 77 | 128 => 99 | 129 => 100 | 294 => 90 | 295 => 91 | 296 => 92 | 297 => 93 | 298 => 94 | 299 => 95 | 216 => 96 | 300 => 97 | 301 => 98 | 328 => 110 | 329 => 111 | 330 => 112 | 331 => 113 | 332 => 114 | 215 => 115 | 343 => 123 | n => n, fun | 28 => 36 | 3 => 3 | 46 => 87 | 0 => 0 | 51 => 125 | 53 => 23 | 4 => 4 | 183 => 118 | 182 => 117 | 131 => 38 | 5 => 5 | 9 => 9 | 218 => 134 | 222 => 138 | 228 => 143 | 229 => 144 | n => n, fun | n => n⟩
theorem Tryz.lays189 : Go.Proofs.Lays.n189 Tryz.prog Tryz.lays189_ren := {
  mixed := by kernel_rfl
  f125 := Tryz.func78.trans (congrArg some (by kernel_rfl))
  f128 := Tryz.func99.trans (congrArg some (by kernel_rfl))
  f129 := Tryz.func100.trans (congrArg some (by kernel_rfl))
  f189 := Tryz.func59.trans (congrArg some (by kernel_rfl))
  f215 := Tryz.func115.trans (congrArg some (by kernel_rfl))
  f216 := Tryz.func96.trans (congrArg some (by kernel_rfl))
  f257 := Tryz.func77.trans (congrArg some (by kernel_rfl))
  f294 := Tryz.func90.trans (congrArg some (by kernel_rfl))
  f295 := Tryz.func91.trans (congrArg some (by kernel_rfl))
  f296 := Tryz.func92.trans (congrArg some (by kernel_rfl))
  f297 := Tryz.func93.trans (congrArg some (by kernel_rfl))
  f298 := Tryz.func94.trans (congrArg some (by kernel_rfl))
  f299 := Tryz.func95.trans (congrArg some (by kernel_rfl))
  f300 := Tryz.func97.trans (congrArg some (by kernel_rfl))
  f301 := Tryz.func98.trans (congrArg some (by kernel_rfl))
  f328 := Tryz.func110.trans (congrArg some (by kernel_rfl))
  f329 := Tryz.func111.trans (congrArg some (by kernel_rfl))
  f330 := Tryz.func112.trans (congrArg some (by kernel_rfl))
  f331 := Tryz.func113.trans (congrArg some (by kernel_rfl))
  f332 := Tryz.func114.trans (congrArg some (by kernel_rfl))
  f343 := Tryz.func123.trans (congrArg some (by kernel_rfl))
  t0 := Tryz.underlying0
  a0 := Tryz.isAgg0
  z0 := Tryz.sizeOf0
  v0 := Tryz.zeroValue0
  t3 := Tryz.underlying3
  a3 := Tryz.isAgg3
  z3 := Tryz.sizeOf3
  v3 := Tryz.zeroValue3
  t4 := Tryz.underlying4
  a4 := Tryz.isAgg4
  z4 := Tryz.sizeOf4
  v4 := Tryz.zeroValue4
  t5 := Tryz.underlying5
  a5 := Tryz.isAgg5
  z5 := Tryz.sizeOf5
  v5 := Tryz.zeroValue5
  t9 := Tryz.underlying9
  a9 := Tryz.isAgg9
  z9 := Tryz.sizeOf9
  v9 := Tryz.zeroValue9
  t28 := Tryz.underlying36
  a28 := Tryz.isAgg36
  z28 := Tryz.sizeOf36
  v28 := Tryz.zeroValue36
  t46 := Tryz.underlying87
  a46 := Tryz.isAgg87
  z46 := Tryz.sizeOf87
  v46 := Tryz.zeroValue87
  t51 := Tryz.underlying125
  a51 := Tryz.isAgg125
  z51 := Tryz.sizeOf125
  v51 := Tryz.zeroValue125
  t53 := Tryz.underlying23
  a53 := Tryz.isAgg23
  z53 := Tryz.sizeOf23
  v53 := Tryz.zeroValue23
  t131 := Tryz.underlying38
  a131 := Tryz.isAgg38
  z131 := Tryz.sizeOf38
  v131 := Tryz.zeroValue38
  t182 := Tryz.underlying117
  a182 := Tryz.isAgg117
  z182 := Tryz.sizeOf117
  v182 := Tryz.zeroValue117
  t183 := Tryz.underlying118
  a183 := Tryz.isAgg118
  z183 := Tryz.sizeOf118
  v183 := Tryz.zeroValue118
  t218 := Tryz.underlying134
  a218 := Tryz.isAgg134
  z218 := Tryz.sizeOf134
  v218 := Tryz.zeroValue134
  t222 := Tryz.underlying138
  a222 := Tryz.isAgg138
  z222 := Tryz.sizeOf138
  v222 := Tryz.zeroValue138
  t228 := Tryz.underlying143
  a228 := Tryz.isAgg143
  z228 := Tryz.sizeOf143
  v228 := Tryz.zeroValue143
  t229 := Tryz.underlying144
  a229 := Tryz.isAgg144
  z229 := Tryz.sizeOf144
  v229 := Tryz.zeroValue144 }
theorem Tryz.slices_Sort_int (blk off cap : Nat) (zs : List Int) (w : World) (hH : Holds (Value.int .i64) w blk off zs.toArray) (hblk : blk < w.heap.size) (hsz : zs.length < 4611686018427387904) :
    Calls Tryz.prog 59 #[.slice (some ⟨blk, off, none⟩) zs.length cap] w fun e w' =>
      e = .returned (.tuple #[]) ∧ ∃ n os, w' = grow (putRow (Value.int .i64) (Sort.ahead w n) blk off (zs.mergeSort fun x y => decide (x ≤ y)).toArray) os := Any.slices_Sort_int Tryz.lays189 blk off cap zs w hH hblk hsz
def Tryz.laysNm220_ren : Go.Shelf.Ren := ⟨fun | 20 => 60 | n => n, fun | 22 => 36 | 3 => 3 | 4 => 4 | 0 => 0 | n => n, fun | n => n⟩
theorem Tryz.laysNm220 : Go.Proofs.Lays2.n20 Tryz.prog Tryz.laysNm220_ren := {
  mixed := by kernel_rfl
  f20 := Tryz.func60.trans (congrArg some (by kernel_rfl))
  t0 := Tryz.underlying0
  a0 := Tryz.isAgg0
  z0 := Tryz.sizeOf0
  v0 := Tryz.zeroValue0
  t3 := Tryz.underlying3
  a3 := Tryz.isAgg3
  z3 := Tryz.sizeOf3
  v3 := Tryz.zeroValue3
  t4 := Tryz.underlying4
  a4 := Tryz.isAgg4
  z4 := Tryz.sizeOf4
  v4 := Tryz.zeroValue4
  t22 := Tryz.underlying36
  a22 := Tryz.isAgg36
  z22 := Tryz.sizeOf36
  v22 := Tryz.zeroValue36
  i3 := by kernel_rfl }
theorem Tryz.slices_Compact_int (blk off cap : Nat) (zs : List Int) (w : World) (hH : Holds (Value.int .i64) w blk off zs.toArray) (hsz : zs.length ≤ 9223372036854775807) (hcap : zs.length ≤ cap) :
    Calls Tryz.prog 60 #[.slice (some ⟨blk, off, none⟩) zs.length cap] w fun e w' => e = .returned (.slice (some ⟨blk, off, none⟩) (Lib.compact zs).length cap) ∧ ∃ q, w' = putRow (Value.int .i64) (Sort.ahead w q) blk off (Lib.compact zs ++ List.replicate (zs.length - (Lib.compact zs).length) 0).toArray := Any.slices_Compact_int Tryz.laysNm220 blk off cap zs w hH hsz hcap
theorem Tryz.slices_Compact_int_empty (a : Option Addr) (cap : Nat) (w : World) :
    Calls Tryz.prog 60 #[.slice a 0 cap] w fun e w' => e = .returned (.slice a 0 cap) ∧ w' = w := Any.slices_Compact_int_empty Tryz.laysNm220 a cap w
def Tryz.laysNm237_ren : Go.Shelf.Ren := ⟨fun | 37 => 115 | n => n, fun | 3 => 3 | 4 => 4 | n => n, fun | n => n⟩
theorem Tryz.laysNm237 : Go.Proofs.Lays2.n37 Tryz.prog Tryz.laysNm237_ren := {
  mixed := by kernel_rfl
  f37 := Tryz.func115.trans (congrArg some (by kernel_rfl))
  t3 := Tryz.underlying3
  a3 := Tryz.isAgg3
  z3 := Tryz.sizeOf3
  v3 := Tryz.zeroValue3
  t4 := Tryz.underlying4
  a4 := Tryz.isAgg4
  z4 := Tryz.sizeOf4
  v4 := Tryz.zeroValue4 }
theorem Tryz.cmp_isNaN_int2 (x : Int) (w : World) :
    Calls Tryz.prog 115 #[.int .i64 x] w fun e w' => e = .returned (.bool false) ∧ w' = w := Any.cmp_isNaN_int2 Tryz.laysNm237 x w
def Tryz.laysNm232_ren : Go.Shelf.Ren := ⟨fun | 32 => 118 | n => n, fun | 3 => 3 | 4 => 4 | n => n, fun | n => n⟩
theorem Tryz.laysNm232 : Go.Proofs.Lays2.n32 Tryz.prog Tryz.laysNm232_ren := {
  mixed := by kernel_rfl
  f32 := Tryz.func118.trans (congrArg some (by kernel_rfl))
  t3 := Tryz.underlying3
  a3 := Tryz.isAgg3
  z3 := Tryz.sizeOf3
  v3 := Tryz.zeroValue3
  t4 := Tryz.underlying4
  a4 := Tryz.isAgg4
  z4 := Tryz.sizeOf4
  v4 := Tryz.zeroValue4 }
theorem Tryz.slices_isNaN_int2 (x : Int) (w : World) :
    Calls Tryz.prog 118 #[.int .i64 x] w fun e w' => e = .returned (.bool false) ∧ w' = w := Any.slices_isNaN_int2 Tryz.laysNm232 x w
def Tryz.laysNm231_ren : Go.Shelf.Ren := ⟨fun | 31 => 96 | 37 => 115 | n => n, fun | 3 => 3 | 4 => 4 | n => n, fun | n => n⟩
theorem Tryz.laysNm231 : Go.Proofs.Lays2.n31 Tryz.prog Tryz.laysNm231_ren := {
  mixed := by kernel_rfl
  f31 := Tryz.func96.trans (congrArg some (by kernel_rfl))
  f37 := Tryz.func115.trans (congrArg some (by kernel_rfl))
  t3 := Tryz.underlying3
  a3 := Tryz.isAgg3
  z3 := Tryz.sizeOf3
  v3 := Tryz.zeroValue3
  t4 := Tryz.underlying4
  a4 := Tryz.isAgg4
  z4 := Tryz.sizeOf4
  v4 := Tryz.zeroValue4 }
theorem Tryz.cmp_Less_int2 (x y : Int) (w : World) :
    Calls Tryz.prog 96 #[.int .i64 x, .int .i64 y] w fun e w' => e = .returned (.bool (decide (x < y))) ∧ w' = w := Any.cmp_Less_int2 Tryz.laysNm231 x y w
theorem Tryz.slices_Sort_int_none (p : Option Addr) (cap : Nat) (w : World) :
    Calls Tryz.prog 59 #[.slice p 0 cap] w fun e w' => e = .returned (.tuple #[]) ∧ w' = w := Any.slices_Sort_int_none Tryz.lays189 p cap w
def Tryz.searchI_ren : Go.Shelf.Ren := ⟨fun | 49 => 107 | 59 => 96 | 60 => 118 | 68 => 115 | n => n, fun | 0 => 0 | 3 => 3 | 4 => 4 | 22 => 92 | 23 => 3 | 51 => 87 | n => n, fun | n => n⟩
theorem Tryz.searchI : Go.Proofs.SlLaysN.n49 Tryz.prog Tryz.searchI_ren := {
  mixed := by kernel_rfl
  f49 := ⟨Tryz.f107.name, by decide, Tryz.func107.trans (congrArg some (by kernel_rfl))⟩
  f59 := ⟨Tryz.f96.name, by decide, Tryz.func96.trans (congrArg some (by kernel_rfl))⟩
  f60 := ⟨Tryz.f118.name, by decide, Tryz.func118.trans (congrArg some (by kernel_rfl))⟩
  f68 := ⟨Tryz.f115.name, by decide, Tryz.func115.trans (congrArg some (by kernel_rfl))⟩
  t0 := Tryz.underlying0
  a0 := Tryz.isAgg0
  z0 := Tryz.sizeOf0
  v0 := Tryz.zeroValue0
  t3 := Tryz.underlying3
  a3 := Tryz.isAgg3
  z3 := Tryz.sizeOf3
  v3 := Tryz.zeroValue3
  t4 := Tryz.underlying4
  a4 := Tryz.isAgg4
  z4 := Tryz.sizeOf4
  v4 := Tryz.zeroValue4
  t22 := Tryz.underlying92
  a22 := Tryz.isAgg92
  z22 := Tryz.sizeOf92
  v22 := Tryz.zeroValue92
  t23 := Tryz.underlying3
  a23 := Tryz.isAgg3
  z23 := Tryz.sizeOf3
  v23 := Tryz.zeroValue3
  t51 := Tryz.underlying87
  a51 := Tryz.isAgg87
  z51 := Tryz.sizeOf87
  v51 := Tryz.zeroValue87 }
theorem Tryz.slices_BinarySearch_int (b off n c : Nat) (zs : List Int) (x : Int) (w : World) (hz : n ≤ zs.length) (hbig : n < 4611686018427387904) (hc : ∀ j, j < zs.length → w.cell? ⟨b, off + j, none⟩ = some (.int .i64 (zs.getD j 0))) (hs : (zs.take n).Pairwise (· ≤ ·)) :
    Calls Tryz.prog 107 #[.slice (some ⟨b, off, none⟩) n c, .int .i64 x] w fun e w' => e = .returned (.tuple #[.int .i64 ((zs.take n).countP (· < x) : Nat), .bool ((zs.take n).contains x)]) ∧ ∃ q, w' = w.drewN q :=
  AnyG.slices_BinarySearch_int Tryz.searchI b off n c zs x w hz hbig hc hs
end Go.Proofs
