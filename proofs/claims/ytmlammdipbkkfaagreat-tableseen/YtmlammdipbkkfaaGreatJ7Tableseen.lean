/-
  Contracts of slices.ContainsFunc and slices.Sort over ints and of the closure of pile.leanUpTo. Conditions as each theorem lists them.
  Appending a slice of cubes, wherever it lies, to a row of the call's own; contracts of slices.Clone, slices.Grow (of nil) and slices.Concat (of two) over cubes. Conditions as each theorem lists them.
  Contract of pile.leanUpTo and of pile.Lean: the cubes that remain, or ErrCubes where there are more than the limit. Conditions as each theorem lists them.
  Contracts of pile.Lean and pile.Pick. Conditions as each theorem lists them.
  Contracts of slices.Clone, slices.Grow (of nil) and slices.Concat (of two) over cubes. Conditions as each theorem lists them.
  Contract: Has of the reference of layer 2 tells whether a header is in the cube of a text. Conditions: the text is that of a sound cube.
  The law CubeHas returns true for all cubes and headers, and changes nothing that was there. No conditions.
  Plain facts on rows of bytes in memory and on the signs of two cubes' intersection. No program in sight. No conditions.
  Contracts: Meet and Within of the reference of layer 2, on the texts of two sound cubes. Conditions: both texts are those of sound cubes.
  Plain facts on the bits of a field. No conditions.
  Plain facts on whole arrays that are written place by place. No conditions.
  Contract: Cube of the reference of layer 2 returns the cube of a text. Conditions: the text is that of a sound cube.
  The law CubeMeets returns true for all cubes, and changes nothing that was there. No conditions.
  Contract of pile.without: the differences of each cube and the one that goes, in a row. Conditions as the theorem lists them.
  Contracts of pile.Join, pile.Less and pile.Within. Conditions as each theorem lists them.
-/
import Derived.Test.YtmlammdipbkkfaaGreatJ6Tableseen
import Derived.Shelf.Slices.In.SortNone
import Derived.Maps.AppendAt
import Derived.Lib.AppendZeros
import Derived.Laws.AppendOwnNone
import Derived.Laws.MakeOwn
import Derived.Lib.SliceRun
import Derived.Deep.QuietTactic
import Derived.BigQuiet
import Derived.Deep.RegionHeld
namespace Go.Proofs
open Go.RowKit Go.Proofs.Hd Go.Sort Go.Shelf Go.Lib
attribute [local go_sem] uv_nonneg
set_option maxHeartbeats 2000000 in
set_option maxRecDepth 100000 in
theorem idx_ints (g : Nat) (lb : Array Value) (q : Nat → Bool) (eg : ∀ args w, (callFunc g args).run Tryz.prog w = .ok (.enter g args) w) (v : Value) (ks : List Nat) (w : World) (r : Int) (hr : IdxIs q ks r) (hlen : ks.length ≤ 1000000)
    (hp : ∀ (W : World) (k : Nat), k ∈ ks → Below w.heap.size w W → Calls Tryz.prog g (#[.int .i64 (k : Int)] ++ lb) W fun e w' => e = .returned (.bool (q k)) ∧ Below w.heap.size w w') (hv : PlI w v ks) :
    Calls Tryz.prog 80 #[v, .func (.func g) #[] lb] w fun e w' => e = .returned (.int .i64 r) ∧ Below w.heap.size w w' := by
  rcases hv with ⟨rfl, A, cap, rfl⟩ | ⟨b, cap, rfl, hb, hc⟩
  · obtain rfl : r = -1 := hr.miss (fun j d h => by simp at h)
    clear hp hr
    go_enter Tryz.func80, Tryz.ntmps80
    go_wp2
    refine wp_loop_rounds 1 ?_
    rw [rounds_succ]
    go_wp2
    go_ret
    exact ⟨rfl, Below.refl _ _⟩
  · have HR := Lib.hid hr
    have HC := Lib.hid hc
    have HP := Lib.hid hp
    have hl : (ks.length : Int) ≤ 1000000 := by omega
    clear hr hc hp
    go_enter Tryz.func80, Tryz.ntmps80
    go_wp2
    go_loopg [5, 8] ks.length (fun gg _ s8 wr => ∃ kk : Nat, kk ≤ ks.length ∧ ks.length - kk ≤ gg ∧ s8 = .int .i64 kk ∧ Hid (Below w.heap.size w wr) ∧ Hid (∀ (j d : Nat), j < kk → ks[j]? = some d → q d = false))
    case atStart => exact ⟨0, Nat.zero_le _, by omega, rfl, Below.refl _ w, fun j d hj => absurd hj (Nat.not_lt_zero _)⟩
    case round =>
      obtain ⟨kk, hkk, hg, rfl, BW, A⟩ := hrel
      by_cases hlt : kk < ks.length
      · have hltz : (kk : Int) < (ks.length : Int) := by omega
        obtain ⟨c, hc⟩ : ∃ c, ks[kk]? = some c := ⟨_, List.getElem?_eq_getElem hlt⟩
        have c0 := (BW.out.cell (p := ⟨b, kk, none⟩) hb).trans (HC.out kk c hc)
        have hcall := HP.out wr c (List.mem_of_getElem? hc) BW.out
        have B := Lib.hid hc
        clear HP HC hc
        cases hq : q c with
        | true =>
          rw [hq] at hcall
          go_wp2_with (go_at_fn g; refine hcall.mono ?_; rintro e w' ⟨rfl, hb'⟩)
          go_ret
          exact ⟨by rw [HR.out.hit B.out hq A.out]; rfl, hb'⟩
        | false =>
          rw [hq] at hcall
          go_wp2_with (go_at_fn g; refine hcall.mono ?_; rintro e w' ⟨rfl, hb'⟩)
          go_roundg (ks.length - (kk + 1))
          case measure => omega
          case rel =>
            refine ⟨kk + 1, by omega, by omega, by go_num, hb', fun j d hj hd => ?_⟩
            by_cases e : j = kk
            · subst e
              have := B.out
              rw [hd] at this; injection this with this; subst this; exact hq
            · exact A.out j d (by omega) hd
      · have hltz : ¬ (kk : Int) < (ks.length : Int) := by omega
        have hk : kk = ks.length := by omega
        have := HR.out.miss (fun j d hd => A.out j d (by rw [hk]; exact (List.getElem?_eq_some_iff.1 hd).1) hd)
        subst this
        go_wp2
        go_ret
        exact ⟨rfl, BW.out⟩
theorem cont_ints (g : Nat) (lb : Array Value) (q : Nat → Bool) (eg : ∀ args w, (callFunc g args).run Tryz.prog w = .ok (.enter g args) w) (v : Value) (ks : List Nat) (w : World) (x : Bool) (hx : ks.any q = x) (hlen : ks.length ≤ 1000000)
    (hp : ∀ (W : World) (k : Nat), k ∈ ks → Below w.heap.size w W → Calls Tryz.prog g (#[.int .i64 (k : Int)] ++ lb) W fun e w' => e = .returned (.bool (q k)) ∧ Below w.heap.size w w') (hv : PlI w v ks) :
    Calls Tryz.prog 66 #[v, .func (.func g) #[] lb] w fun e w' => e = .returned (.bool x) ∧ Below w.heap.size w w' := by
  obtain ⟨r, hr⟩ := IdxIs.ex q ks
  have hcon := idx_ints g lb q eg v ks w r hr hlen hp hv
  have ha := hr.any
  rw [hx] at ha
  subst ha
  clear hr hx hp hv
  go_enter Tryz.func66, Tryz.ntmps66
  go_wp2_with (go_at_call 80; refine hcon.mono ?_; rintro e w' ⟨rfl, hb'⟩)
  go_ret
  exact ⟨rfl, hb'⟩
set_option maxHeartbeats 2000000 in
set_option maxRecDepth 100000 in
theorem cov1_c (x : Bool) (ci cj : Cb) (i j n b off cap pb nb : Nat) (w : World) (hx : ci.wit cj = x) (hi : i < n) (hj : j < n) (hn : n ≤ maxLen)
    (hp : w.cell? ⟨pb, 0, none⟩ = some (.slice (some ⟨b, off, none⟩) n cap)) (hq : w.cell? ⟨nb, 0, none⟩ = some (.int .i64 (i : Int))) (h1 : At4 w b (off + i * 4) ci) (h2 : At4 w b (off + j * 4) cj) :
    Calls Tryz.prog 64 #[.int .i64 j, .pointer (some ⟨pb, 0, none⟩), .pointer (some ⟨nb, 0, none⟩)] w fun e w' => e = .returned (.bool x) ∧ Below w.heap.size w w' := by
  have hiz : (i : Int) < (n : Int) := by omega
  have hjz : (j : Int) < (n : Int) := by omega
  have hnz : (n : Int) ≤ 9223372036854775807 := by unfold maxLen at hn; omega
  obtain ⟨a0, a1, a2, a3⟩ := h1
  obtain ⟨b0, b1, b2, b3⟩ := h2
  have HX := Lib.hid hx
  clear hx
  go_enter Tryz.func64, Tryz.ntmps64
  go_wp2_with fail
  go_region_held3 (fun w' => Below w.heap.size w w' ∧ w'.cell? ⟨pb, 0, none⟩ = some (.slice (some ⟨b, off, none⟩) n cap) ∧ w'.cell? ⟨nb, 0, none⟩ = some (.int .i64 (i : Int)) ∧ w'.cell? ⟨b, off + i * 4, none⟩ = some (.int .u64 (uv ci.vh)) ∧ w'.cell? ⟨b, off + i * 4 + 1, none⟩ = some (.int .u64 (uv ci.vl)) ∧ w'.cell? ⟨b, off + i * 4 + 2, none⟩ = some (.int .u64 (uv ci.ch)) ∧ w'.cell? ⟨b, off + i * 4 + 3, none⟩ = some (.int .u64 (uv ci.cl)) ∧ w'.cell? ⟨b, off + j * 4, none⟩ = some (.int .u64 (uv cj.vh)) ∧ w'.cell? ⟨b, off + j * 4 + 1, none⟩ = some (.int .u64 (uv cj.vl)) ∧ w'.cell? ⟨b, off + j * 4 + 2, none⟩ = some (.int .u64 (uv cj.ch)) ∧ w'.cell? ⟨b, off + j * 4 + 3, none⟩ = some (.int .u64 (uv cj.cl)))
    (first
      | exact hold10 (by assumption) (by assumption)
      | exact ⟨(Below.refl _ _).drew, hp, hq, a0, a1, a2, a3, b0, b1, b2, b3⟩)
    (first
      | (go_at_call 65; (with_reducible refine (cwithin _ ci cj _ HX.out).mono ?_); rintro e w' ⟨rfl, hb⟩))
  go_wp2
  go_ret
  exact ⟨rfl, And.left (by assumption)⟩
theorem sort_c (v : Value) (ks ks' : List Nat) (base : Nat) (w : World) (hown : w.ownsRow base 3 1 v ks.length (ints ks)) (hsz : ks.length ≤ 1000000) (hk : ((ks.map fun (k : Nat) => (k : Int)).mergeSort fun x y => decide (x ≤ y)) = ks'.map fun (k : Nat) => (k : Int)) :
    Calls Tryz.prog 67 #[v] w fun e w' => e = .returned (.tuple #[]) ∧ w.grownBy w' v.ownBlock ∧ PlI w' v ks' := by
  have hl : ks'.length = ks.length := by
    have := congrArg List.length hk
    simpa [List.length_mergeSort] using this.symm
  have none_case : ∀ A cap, v = .slice A 0 cap → ks = [] → Calls Tryz.prog 67 #[v] w fun e w' => e = .returned (.tuple #[]) ∧ w.grownBy w' v.ownBlock ∧ PlI w' v ks' := by
    rintro A cap rfl rfl
    have e : ks' = [] := List.eq_nil_of_length_eq_zero hl
    subst e
    have hcon := Any.slices_Sort_int_none Tryz.sortI A cap w
    change Calls Tryz.prog 67 _ _ _ at hcon
    refine hcon.mono ?_
    rintro e w' ⟨rfl, rfl⟩
    exact ⟨rfl, ⟨rfl, rfl, rfl, Nat.le_refl _, fun _ _ _ => rfl⟩, .inl ⟨rfl, _, _, rfl⟩⟩
  rcases hown.2 with ⟨rfl, h0⟩ | ⟨g, cp, cur, hv, hge, hheap, _⟩
  · exact none_case none 0 rfl (List.eq_nil_of_length_eq_zero h0)
  · by_cases h0 : ks = []
    · exact none_case (some ⟨g, 0, none⟩) cp (by rw [hv, h0]; rfl) h0
    · subst hv
      have hlt : g < w.heap.size := by
        rcases Nat.lt_or_ge g w.heap.size with h | h
        · exact h
        · rw [Array.getElem?_eq_none h] at hheap; cases hheap
      have hH : Holds (Value.int .i64) w g 0 (ks.map fun (k : Nat) => (k : Int)).toArray := fun j hj => by
        have hj' : j < ks.length := by simpa using hj
        constructor
        · rw [Nat.zero_add, hown.cellAt j (by omega)]
          unfold ints
          rw [List.getElem?_map, List.getElem?_eq_getElem hj', getElem!_pos _ j hj]
          simp
        · exact hown.frozenAt _
      have hcon := Any.slices_Sort_int Tryz.sortI g 0 cp (ks.map fun (k : Nat) => (k : Int)) w hH hlt (by simp; omega)
      change Calls Tryz.prog 67 _ _ _ at hcon
      rw [hk, List.length_map] at hcon
      refine hcon.mono ?_
      rintro e w' ⟨rfl, n, os, rfl⟩
      have hg := sortWorld_grown (Value.int .i64) w g 0 n (ks'.map fun (k : Nat) => (k : Int)).toArray os
      refine ⟨rfl, hg, .inr ⟨g, cp, by rw [hl], Nat.lt_of_lt_of_le hlt hg.size, fun j k hk => ?_⟩⟩
      have hjl : j < ks'.length := (List.getElem?_eq_some_iff.1 hk).1
      rw [cell?_grow _ _ _ (by rw [size_putRow]; exact hlt)]
      have := cell?_putRow (Value.int .i64) (Sort.ahead w n) g 0 (ks.map fun (k : Nat) => (k : Int)).toArray (ks'.map fun (k : Nat) => (k : Int)).toArray hH (by simp [hl]) j (by simpa using hjl)
      rw [Nat.zero_add] at this
      rw [this, getElem!_pos _ j (by simpa using hjl)]
      have e := (List.getElem?_eq_some_iff.1 hk).2
      simp [e]
end Go.Proofs

namespace Go.Proofs.Hd
open Go.RowKit
theorem flat_one (L : List Cb) : ∀ u ∈ flat L, u.oneCell' = true := by
  induction L with
  | nil => intro u hu; simp [flat] at hu
  | cons c L ih =>
    intro u hu
    have : u ∈ c.cells ++ flat L := by simpa [flat] using hu
    rcases List.mem_append.1 this with h | h
    · simp only [Cb.cells, List.mem_cons, List.not_mem_nil, or_false] at h
      rcases h with rfl | rfl | rfl | rfl <;> rfl
    · exact ih u h
theorem Pl.src {w : World} {v : Value} {L : List Cb} (h : Pl w v L) : Src w 4 v L.length (flat L) := by
  refine ⟨flat_len L, flat_one L, ?_⟩
  rcases h with ⟨rfl, A, cap, rfl⟩ | ⟨b, off, cap, rfl, hlen, hb, hc⟩
  · cases A with
    | none => exact .inl ⟨rfl, cap, rfl⟩
    | some ad => exact .inr ⟨ad, cap, rfl, fun j u hu => by simp [flat] at hu⟩
  · refine .inr ⟨_, cap, rfl, fun j u hu => ?_⟩
    have hj : j < L.length * 4 := by rw [← flat_len]; exact (List.getElem?_eq_some_iff.1 hu).1
    have hk : j / 4 < L.length := by omega
    have hg := flat_get L (j / 4) hk (j % 4) (Nat.mod_lt _ (by omega))
    rw [show j / 4 * 4 + j % 4 = j by omega, hu] at hg
    have h4 := hc (j / 4) _ (List.getElem?_eq_getElem hk)
    have e : (⟨b, off, none⟩ : Addr).add j = ⟨b, off + j / 4 * 4 + j % 4, none⟩ := by
      unfold Addr.add
      by_cases h0 : j = 0
      · subst h0; rfl
      · rw [if_neg h0]; simp; omega
    rw [e]
    obtain ⟨h0, h1, h2, h3⟩ := h4
    have hm : j % 4 = 0 ∨ j % 4 = 1 ∨ j % 4 = 2 ∨ j % 4 = 3 := by omega
    rcases hm with hm | hm | hm | hm <;> rw [hm] at hg ⊢
    · rw [Nat.add_zero, h0]; exact hg.symm
    · rw [h1]; exact hg.symm
    · rw [h2]; exact hg.symm
    · rw [h3]; exact hg.symm
theorem Pl.form {w : World} {v : Value} {L : List Cb} (h : Pl w v L) : ∃ A cap, v = .slice A L.length cap ∧ L.length ≤ maxLen ∧ (L ≠ [] → ∃ b off, A = some ⟨b, off, none⟩ ∧ b < w.heap.size ∧ ∀ (k : Nat) (c : Cb), L[k]? = some c → At4 w b (off + k * 4) c) := by
  rcases h with ⟨rfl, A, cap, rfl⟩ | ⟨b, off, cap, rfl, hlen, hb, hc⟩
  · exact ⟨A, cap, rfl, by simp [maxLen], fun h => absurd rfl h⟩
  · exact ⟨_, cap, rfl, hlen, fun _ => ⟨b, off, rfl, hb, hc⟩⟩
theorem own_Pl {w : World} {base : Nat} {v : Value} {L : List Cb} (h : w.ownsRow base 47 4 v L.length (flat L)) : Pl w v L := by
  rcases h.2 with ⟨rfl, h0⟩ | ⟨g, cap, cur, hv, hge, hheap, hlc, hcm, _⟩
  · exact .inl ⟨List.eq_nil_of_length_eq_zero h0, _, _, rfl⟩
  · subst hv
    refine .inr ⟨g, 0, cap, rfl, Nat.le_trans hlc hcm, (h.lt g rfl).2, fun k c hc => ?_⟩
    rw [Nat.zero_add]
    exact ⟨own_at h k hc 0 (by omega), own_at h k hc 1 (by omega), own_at h k hc 2 (by omega), own_at h k hc 3 (by omega)⟩
theorem ne_nil_of {α : Type} {L : List α} {k : Nat} {c : α} (h : L[k]? = some c) : L ≠ [] := fun e => by rw [e] at h; simp at h
end Go.Proofs.Hd

namespace Go.Proofs.Hd
open Go.RowKit
theorem own_PlI {w : World} {base : Nat} {v : Value} {ks : List Nat} (h : w.ownsRow base 3 1 v ks.length (ints ks)) : PlI w v ks := by
  rcases h.2 with ⟨rfl, h0⟩ | ⟨g, cap, cur, hv, hge, hheap, _⟩
  · exact .inl ⟨List.eq_nil_of_length_eq_zero h0, _, _, rfl⟩
  · subst hv
    refine .inr ⟨g, cap, rfl, (h.lt g rfl).2, fun j k hk => ?_⟩
    have hj := (List.getElem?_eq_some_iff.1 hk).1
    rw [h.cellAt j (by omega)]
    unfold ints
    rw [List.getElem?_map, hk]; rfl
theorem PlI.at {w : World} {v : Value} {ks : List Nat} (h : PlI w v ks) : ∃ A cap, v = .slice A ks.length cap ∧ (ks ≠ [] → ∃ g, A = some ⟨g, 0, none⟩ ∧ g < w.heap.size ∧ ∀ (j k : Nat), ks[j]? = some k → w.cell? ⟨g, j, none⟩ = some (.int .i64 (k : Int))) := by
  rcases h with ⟨rfl, A, cap, rfl⟩ | ⟨g, cap, rfl, hg, hc⟩
  · exact ⟨A, cap, rfl, fun h => absurd rfl h⟩
  · exact ⟨_, cap, rfl, fun _ => ⟨g, rfl, hg, hc⟩⟩
end Go.Proofs.Hd
namespace Go.Proofs
open Go.RowKit Go.Proofs.Hd Go.Sort Go.Shelf Go.Lib
attribute [local go_sem] uv_nonneg
set_option maxHeartbeats 4000000 in
set_option maxRecDepth 100000 in
theorem leanUp_c (limit : Nat) (v : Value) (L : List Cb) (w : World) (hl : L.length ≤ 1000000) (hm : limit ≤ 1000000) (hv : Pl w v L) :
    Calls Tryz.prog 42 #[.int .i64 (limit : Int), v] w fun e w' => Below w.heap.size w w' ∧ (((leanS L).length ≤ limit ∧ ∃ s, e = .returned (.tuple #[s, .int .i64 0]) ∧ w'.ownsRow w.heap.size 47 4 s (leanS L).length (flat (leanS L))) ∨ (limit < (leanS L).length ∧ e = .returned (.tuple #[.slice none 0 0, .int .i64 10]))) := by
  obtain ⟨A, cap, rfl, hlen, hA⟩ := hv.form
  have HV := Lib.hid hv
  clear hv
  have hb0 := below1 w (.cells #[.slice A L.length cap] 24)
  have X0 := Blk.new w 24 #[.slice A L.length cap]
  have hcon := widest_c _ L _ hl (HV.out.on hb0)
  clear HV
  go_enter Tryz.func42, Tryz.ntmps42
  go_wp2_with fail
  refine hcon.mono ?_
  rintro e wA ⟨s, ks, rfl, hbA, hp, hs, PI⟩
  have BA : Below w.heap.size w wA := hb0.trans (hbA.mono hb0.size)
  have XA := X0.on hbA
  have HP := Lib.hid hp
  have HS := Lib.hid hs
  have hkl : ks.length ≤ L.length := by rw [hp.length_eq]; exact sI_len L _
  obtain ⟨SA, scap, rfl, hSA⟩ := PI.at
  have HC : Hid (∀ (k : Nat) (c : Cb), L[k]? = some c → ∃ b off, A = some ⟨b, off, none⟩ ∧ b < wA.heap.size ∧ ∀ (k : Nat) (c : Cb), L[k]? = some c → At4 wA b (off + k * 4) c) := fun k c hc => by
    obtain ⟨b, off, e, hb, h⟩ := hA (ne_nil_of hc)
    exact ⟨b, off, e, Nat.lt_of_lt_of_le hb BA.size, fun k c hc => (h k c hc).on BA⟩
  have HSA := Lib.hid hSA
  have zA : w.heap.size < wA.heap.size := XA.lt
  have HX := Lib.hid XA
  have HBA := Lib.hid BA
  clear hb0 X0 hcon hbA hp hs PI hA hSA XA BA
  have hkz : (ks.length : Int) ≤ 1000000 := by omega
  have hlz : (L.length : Int) ≤ 1000000 := by omega
  have hmz : (limit : Int) ≤ 1000000 := by omega
  go_wp2_with fail
  go_loopg [6, 16] ks.length (fun gk s6 s16 wr => ∃ i : Nat, i ≤ ks.length ∧ gk = ks.length - i ∧ s16 = .int .i64 i ∧ Below wA.heap.size wA wr ∧ wr.ownsRow wA.heap.size 3 1 s6 (keptOf L ks i).length (ints (keptOf L ks i)) ∧ (keptOf L ks i).length ≤ limit)
  case atStart => exact ⟨0, Nat.zero_le _, rfl, rfl, Below.refl _ _, by simp [keptOf, ints]; exact World.ownsRow_nil _ _ _ _, by simp [keptOf]⟩
  case round =>
    obtain ⟨i, hi, rfl, rfl, B, O, hk⟩ := hrel
    have hkl2 : (keptOf L ks i).length ≤ i := by unfold keptOf; exact Nat.le_trans (List.length_filter_le _ _) (by simp; omega)
    by_cases hlt : i < ks.length
    · have hltz : (i : Int) < (ks.length : Int) := by omega
      obtain ⟨n, hn⟩ : ∃ n, ks[i]? = some n := ⟨_, List.getElem?_eq_getElem hlt⟩
      obtain ⟨a, ha, has⟩ := sI_mem.1 (HP.out.mem_iff.1 (List.mem_of_getElem? hn))
      obtain ⟨g, rfl, hg, hsc⟩ := HSA.out (ne_nil_of hn)
      obtain ⟨b, off, rfl, hb, hpc⟩ := HC.out n a ha
      have hnl : n < L.length := (List.getElem?_eq_some_iff.1 ha).1
      have c0 := on_some B (hsc i n hn)
      have hb1 := below1 wr (.cells #[.int .i64 (n : Int)] 3)
      have N1 := Blk.new wr 3 #[.int .i64 (n : Int)]
      have B1 := B.trans (hb1.mono B.size)
      have O1 := own_on O hb1
      have eg : ∀ args w, (callFunc 64 args).run Tryz.prog w = .ok (.enter 64 args) w := enters_of Tryz.func64 (by kernel_rfl) rfl
      have hcon := cont_ints 64 #[.pointer (some ⟨w.heap.size, 0, none⟩), .pointer (some ⟨wr.heap.size, 0, none⟩)] (fun k => witAt L n k) eg _ (keptOf L ks i) (wr.alloc (.cells #[.int .i64 (n : Int)] 3)) (spare L n) (spare_kept HP.out HS.out hn) (by omega)
        (fun W k hkm hW => by
          obtain ⟨d, hd⟩ : ∃ d, L[k]? = some d := ⟨_, List.getElem?_eq_getElem (keptOf_lt HP.out i hkm)⟩
          have hBW : Below wA.heap.size wA W := B1.trans (hW.mono B1.size)
          exact (cov1_c (witAt L n k) a d n k L.length b off cap w.heap.size wr.heap.size W (witAt_some ha hd).symm hnl (keptOf_lt HP.out i hkm) hlen (on_some hBW (HX.out.cell 0)) (on_some hW (N1.cell 0)) ((hpc n a ha).on hBW) ((hpc k d hd).on hBW)).mono fun e w' h => ⟨h.1, hW.trans (h.2.mono hW.size)⟩)
        (own_PlI O1)
      have HK := Lib.hid (keptOf_succ (L := L) hn)
      have n0 : wr.cell? ⟨g, i, none⟩ = some (.int .i64 (n : Int)) := c0
      clear hsc hpc hb1 B O c0
      cases hsp : spare L n with
      | true =>
        rw [hsp] at hcon
        have HE : Hid (keptOf L ks (i + 1) = keptOf L ks i) := Lib.hid (by rw [HK.out, hsp]; rfl)
        clear HK
        go_wp2_with (go_at_call 66; refine hcon.mono ?_; rintro e w2 ⟨rfl, hb2⟩)
        have B2 := B1.trans (hb2.mono B1.size)
        have O2 := own_on O1 hb2
        go_roundg (ks.length - (i + 1))
        case measure => omega
        case rel =>
          exact ⟨i + 1, by omega, rfl, by go_num, B2, by rw [HE.out]; exact O2, by rw [HE.out]; exact hk⟩
      | false =>
        rw [hsp] at hcon
        have HE : Hid (keptOf L ks (i + 1) = keptOf L ks i ++ [n]) := Lib.hid (by rw [HK.out, hsp]; rfl)
        clear HK
        by_cases he : (keptOf L ks i).length = limit
        · have hez : ((keptOf L ks i).length : Int) = (limit : Int) := by omega
          have HT : Hid (limit < (leanS L).length) := by
            have h1 := keptOf_le (L := L) HP.out (i + 1)
            rw [HE.out] at h1
            simp at h1
            exact (show limit < (leanS L).length by omega)
          obtain ⟨ka, kc, hu, _⟩ := own_form O1
          subst hu
          clear he
          go_wp2_with fail
          refine hcon.mono ?_
          rintro e w2 ⟨rfl, hb2⟩
          go_wp2
          go_ret2
          exact ⟨HBA.out.trans ((B1.trans (hb2.mono B1.size)).mono HBA.out.size), .inr ⟨HT.out, rfl⟩⟩
        · have hez : ¬ ((keptOf L ks i).length : Int) = (limit : Int) := by omega
          obtain ⟨ka, kc, hu, _⟩ := own_form O1
          subst hu
          go_wp2_with fail
          refine hcon.mono ?_
          rintro e w2 ⟨rfl, hb2⟩
          have B2 := B1.trans (hb2.mono B1.size)
          have O2 := own_on O1 hb2
          have N2 := N1.on hb2
          have m0 := N2.cell 0
          have hb3 := below1 w2 (.cells #[.int .i64 (n : Int)] 3)
          have N3 := Blk.new w2 3 #[.int .i64 (n : Int)]
          have B3 := B2.trans (hb3.mono B2.size)
          have O3 := own_on O2 hb3
          have hz3 := B3.size
          obtain ⟨i0, hi0, hz0, hz1, hz2⟩ := info_parts infoInt
          clear O1 O2 B1 B2 hb3 N1 N2 hcon
          go_wp2_with (at_builtin; refine wpList_append_lies _ rfl (.tmp 28) (.tmp 30) 32 rfl wA.heap.size 3 i0 _ 1 8 Tryz.underlying32 hi0 hz0 hz1 hz2 rfl (by decide) _ (keptOf L ks i).length (ints (keptOf L ks i)) rfl O3 ⟨w2.heap.size, 0, none⟩ 1 1 [.int .i64 (n : Int)] rfl rfl (World.news_of_block N3) (by intro u hu; simp only [List.mem_singleton] at hu; subst hu; rfl) (by omega) (by unfold maxLen; omega) (by omega) hz3 _ rfl ?_)
          intro g2 cap2 w4 hown hgrow hat hgl
          have B4 : Below wA.heap.size wA w4 := B3.grown hgrow hz3 (fun j hj => (O3.lt j hj).1)
          clear O3 B3 N3 hi0 hz0 hz1 hz2 hgrow hat
          go_wp2
          go_roundg (ks.length - (i + 1))
          case measure => omega
          case rel =>
            exact ⟨i + 1, by omega, rfl, by go_num, B4, by rw [HE.out, ints_snoc]; simpa using hown, by rw [HE.out]; simp; omega⟩
    · have hltz : ¬ (i : Int) < (ks.length : Int) := by omega
      obtain rfl : i = ks.length := by omega
      have hlim : Hid ((leanS L).length ≤ limit) := Lib.hid (by rw [leanS_len, ← (keptOf_all HP.out).length_eq]; exact hk)
      have hLI : (leanI L).length ≤ 1000000 := by rw [← (keptOf_all HP.out).length_eq]; omega
      have hcon := sort_c _ (keptOf L ks ks.length) (leanI L) wA.heap.size wr O (by omega) (kept_sorted HP.out)
      have HG : Hid (∀ w', wr.grownBy w' u6.ownBlock → Below wA.heap.size wA w') := fun w' hg => B.grown hg B.size (fun j hj => (O.lt j hj).1)
      obtain ⟨ka, kc, hu, _⟩ := own_form O
      subst hu
      clear hk hkl2 O B HS
      go_wp2_with fail
      refine hcon.mono ?_
      rintro e wB ⟨rfl, hg, PB⟩
      have BB := HG.out wB hg
      have hLe : (keptOf L ks ks.length).length = (leanI L).length := (keptOf_all HP.out).length_eq
      have HL1 := Lib.hid hLe
      have BL := BB.cell (p := ⟨w.heap.size, 0, none⟩) zA
      obtain ⟨KA, kcap, hke, hKA⟩ := PB.at
      have e1 : ka = KA ∧ kc = kcap := by injection hke with e1 e2 e3; exact ⟨e1, e3⟩
      obtain ⟨rfl, rfl⟩ := e1
      have HKA := Lib.hid hKA
      have HBB := Lib.hid BB
      obtain ⟨ic, hic, hcz0, hcz1, hcz2⟩ := info_parts infoCube
      obtain ⟨wM, hmk, OM, GM⟩ := run_make_own (P := Tryz.prog) wB wB.heap.size 24 47 ic _ 4 Tryz.underlying24 hic hcz0 hcz1 .i64 .i64 (leanI L).length (by rw [hcz2]; omega) (by unfold maxLen; omega) (Nat.le_refl _)
      have HM : Hid (Below wB.heap.size wB wM) := (Below.refl _ _).grown GM (Nat.le_refl _) (fun j hj => by cases hj)
      rw [hLe]
      clear hg PB BB hke hKA GM hLe BL hcon HG
      have hLz : ((leanI L).length : Int) ≤ 1000000 := by omega
      go_wp2_with fail
      go_loopg [10, 40] (leanI L).length (fun gk s10 s40 wq => ∃ k : Nat, k ≤ (leanI L).length ∧ gk = (leanI L).length - k ∧ s40 = .int .i64 k ∧ Below wB.heap.size wB wq ∧ wq.ownsRow wB.heap.size 47 4 s10 k (flat (((leanI L).take k).filterMap fun i => L[i]?)))
      case atStart => exact ⟨0, Nat.zero_le _, rfl, rfl, HM.out, by simpa [flat] using OM⟩
      case round =>
        clear hmk OM HM
        obtain ⟨k, hk, rfl, rfl, B, O⟩ := hrel
        by_cases hlt : k < (leanI L).length
        · have hltz : (k : Int) < ((leanI L).length : Int) := by omega
          obtain ⟨i, hi⟩ : ∃ i, (leanI L)[k]? = some i := ⟨_, List.getElem?_eq_getElem hlt⟩
          have hil : i < L.length := leanI_lt (List.mem_of_getElem? hi)
          have hilz : (i : Int) < (L.length : Int) := by omega
          obtain ⟨c, hc⟩ : ∃ c, L[i]? = some c := ⟨_, List.getElem?_eq_getElem hil⟩
          obtain ⟨g, rfl, hg, hsc⟩ := HKA.out (ne_nil_of hi)
          obtain ⟨b, off, rfl, hb, hpc⟩ := HC.out i c hc
          have n0 := on_some B (hsc k i hi)
          have x0 := on_some B (on_some HBB.out (HX.out.cell 0))
          obtain ⟨c0, c1, c2, c3⟩ := ((hpc i c hc).on HBB.out).on B
          have HT := Lib.hid (leanS_take L k i c hi hc)
          have hb1 := below1 wr (.cells #[.int .u64 (uv c.vh), .int .u64 (uv c.vl), .int .u64 (uv c.ch), .int .u64 (uv c.cl)] 47)
          have N1 : Blk (wr.alloc (.cells #[.int .u64 (uv c.vh), .int .u64 (uv c.vl), .int .u64 (uv c.ch), .int .u64 (uv c.cl)] 47)) wr.heap.size 47 c.arr := Blk.new wr _ _
          have B1 := B.trans (hb1.mono B.size)
          have O1 := own_on O hb1
          have hz1' := B1.size
          clear hsc hpc B O hb1 hi hc
          go_wp2_with (at_builtin; refine wpList_append_lies _ rfl (.tmp 44) (.tmp 49) 24 rfl wB.heap.size 47 ic _ 4 32 Tryz.underlying24 hic hcz0 hcz1 hcz2 rfl (by decide) _ k (flat (((leanI L).take k).filterMap fun i => L[i]?)) rfl O1 ⟨wr.heap.size, 0, none⟩ 1 1 c.cells rfl rfl (World.news_of_block N1) (by intro u hu; simp only [Cb.cells, List.mem_cons, List.not_mem_nil, or_false] at hu; rcases hu with rfl | rfl | rfl | rfl <;> rfl) (by omega) (by unfold maxLen; omega) (by omega) hz1' _ rfl ?_)
          intro g2 cap2 w4 hown hgrow hat hgl
          have B4 : Below wB.heap.size wB w4 := B1.grown hgrow hz1' (fun j hj => (O1.lt j hj).1)
          clear O1 B1 N1 hgrow hat
          go_wp2
          go_roundg ((leanI L).length - (k + 1))
          case measure => omega
          case rel => exact ⟨k + 1, by omega, rfl, by go_num, B4, by rw [HT.out, flat_snoc]; exact hown⟩
        · have hltz : ¬ (k : Int) < ((leanI L).length : Int) := by omega
          obtain rfl : k = (leanI L).length := by omega
          go_wp2
          go_ret2
          have hsz := HBA.out.size
          have hsz2 := HBB.out.size
          refine ⟨HBA.out.trans ((HBB.out.trans (B.mono hsz2)).mono hsz), .inl ⟨hlim.out, _, rfl, ?_⟩⟩
          rw [List.take_length] at O
          rw [leanS_len]
          exact O.mono (by omega)
end Go.Proofs

namespace Go.Proofs.Hd
open Go.RowKit
theorem leanS_le (L : List Cb) : (leanS L).length ≤ L.length := by
  rw [leanS_len]
  exact Nat.le_trans (List.length_filter_le _ _) (sI_len L _)
end Go.Proofs.Hd
namespace Go.Proofs
open Go.RowKit Go.Proofs.Hd Go.Sort Go.Shelf Go.Lib
attribute [local go_sem] uv_nonneg
end Go.Proofs

namespace Go.Proofs
open Go.RowKit Go.Proofs.Hd Go.Lib
attribute [local go_sem] uv_nonneg
theorem nilCubes : ∀ (w : World) (a : Option Addr) (n c n' c' : Nat), (binOp .eql 24 (.slice a n c) (.slice none n' c')).run Tryz.prog w = .ok (.bool a.isNone) w := fun w a n c n' c' => Lib.run_eql_slice_nil w _ _ a n c n' c' Tryz.underlying24
set_option maxRecDepth 100000 in
theorem clone_c (v : Value) (L : List Cb) (w : World) (hl : L.length ≤ 1000000) (hv : Pl w v L) : Calls Tryz.prog 41 #[v] w (Got w L) := by
  have hs := hv.src
  have B0 := below1 w (.cells #[] 47)
  have hs1 := (hv.on B0).src
  have q := nilCubes
  clear hv
  obtain ⟨ic, hic, hcz0, hcz1, hcz2⟩ := info_parts infoCube
  obtain ⟨_, _, ⟨h0, c, rfl⟩ | ⟨ad, c, rfl, _⟩⟩ := hs
  · obtain rfl : L = [] := List.eq_nil_of_length_eq_zero h0
    go_enter Tryz.func41, Tryz.ntmps41
    go_wp2
    go_ret
    exact ⟨_, rfl, World.ownsRow_nil _ _ _ _, Below.refl _ _⟩
  · have O := World.ownsRow_made (base := w.heap.size) (e := 47) (size := 4) w #[] 0 (Nat.le_refl _) (Nat.zero_le _) rfl
    go_enter Tryz.func41, Tryz.ntmps41
    go_wp2_with (at_builtin; refine wpList_app _ rfl (.tmp 5) (.tmp 6) 24 rfl w.heap.size 47 ic _ 4 32 Tryz.underlying24 hic hcz0 hcz1 hcz2 rfl (by decide) _ 0 [] rfl O _ L.length (flat L) rfl hs1 (by unfold maxLen; omega) (by omega) (by simp) ?_)
    intro v2 w2 hown hg
    have B2 := B0.grown hg (by simp) (fun j hj => by simp [Value.ownBlock] at hj; omega)
    clear hs1 O B0 hg
    go_wp2
    go_ret
    exact ⟨_, rfl, by simpa using hown, B2⟩
end Go.Proofs

namespace Go.Proofs
open Go.RowKit Go.Proofs.Hd
attribute [local go_sem] uv_nonneg
theorem has_match (c : Cb) (h l : BitVec 64) (hs : c.snd = true) : c.has h l = true ↔ ∀ j, j < 128 → c.K j = true → hbit h l j = c.V j := by
  rw [Cb.has_iff]
  rw [Cb.snd_iff] at hs
  constructor
  · intro H j hj hk
    have := H j hj
    rw [hk, Bool.and_true] at this
    exact this
  · intro H j hj
    cases hk : c.K j with
    | true => rw [H j hj hk, Bool.and_true]
    | false =>
      cases hv : c.V j with
      | false => simp
      | true => rw [hs j hj hv] at hk; cases hk
/-- Sign k of a text. -/
theorem sign_x {c : Cb} {s : ByteArray} (hs : txt c = s) (k m : Nat) (hm : m + k = 127) (hk : k < s.size) (h : c.K m = false) : ((s[k]'hk).toNat : Int) = 120 := by
  subst hs; rw [txt_get, show 127 - k = m by omega]; unfold sgn; rw [h]; rfl
theorem sign_1 {c : Cb} {s : ByteArray} (hs : txt c = s) (k m : Nat) (hm : m + k = 127) (hk : k < s.size) (h : c.K m = true) (hv : c.V m = true) : ((s[k]'hk).toNat : Int) = 49 := by
  subst hs; rw [txt_get, show 127 - k = m by omega]; unfold sgn; rw [h, hv]; rfl
theorem sign_0 {c : Cb} {s : ByteArray} (hs : txt c = s) (k m : Nat) (hm : m + k = 127) (hk : k < s.size) (h : c.K m = true) (hv : c.V m = false) : ((s[k]'hk).toNat : Int) = 48 := by
  subst hs; rw [txt_get, show 127 - k = m by omega]; unfold sgn; rw [h, hv]; rfl
theorem has_fails {c : Cb} {h l : BitVec 64} {j : Nat} (hs : c.snd = true) (hj : j < 128) (hk : c.K j = true) (hne : ¬ hbit h l j = c.V j) : c.has h l = false := by
  cases e : c.has h l with
  | false => rfl
  | true => exact absurd ((has_match c h l hs).1 e j hj hk) hne
theorem step_ok {P : Nat → Prop} {k m : Nat} (hm : m + k = 127) (h : ∀ j, j < 128 → 128 ≤ j + k → P j) (hp : P m) : ∀ j, j < 128 → 128 ≤ j + (k + 1) → P j := fun j hj hk => by
  by_cases e : j = m
  · subst e; exact hp
  · exact h j hj (by omega)
theorem text_len {c : Cb} {s : ByteArray} (hs : txt c = s) : s.size = 128 := by subst hs; exact txt_size c

end Go.Proofs

namespace Go.Proofs
open Go.RowKit Go.Proofs.Hd
attribute [local go_sem] uv_nonneg eq4_self eq2_self
attribute [local go_sem high] run_eq2 run_eq4
theorem text_s (s : ByteArray) (c : Cb) (w : World) (hs : c.snd = true) (h : txt c = s) : Calls Tryz.prog 18 #[.agg #[.int .u64 (uv c.vh), .int .u64 (uv c.vl), .int .u64 (uv c.ch), .int .u64 (uv c.cl)]] w fun e w' => e = .returned (.tuple #[.string s, .bool true]) ∧ Below w.heap.size w w' := by
  subst h; exact text_yes c w hs
theorem has_none {c : Cb} (h l : BitVec 64) (hs : c.snd = false) : c.has h l = false := by
  cases e : c.has h l with
  | false => rfl
  | true =>
    have hh := (Cb.has_iff c h l).1 e
    have := (Cb.snd_iff c).2 (fun j hj hv => by have := hh j hj; rw [hv] at this; revert this; cases c.K j <;> simp)
    rw [hs] at this; cases this
end Go.Proofs

namespace Go.Proofs.Hd
open Go.RowKit
/-- Block b begins with the 128 bytes f, which may be written. -/
def ByRow (w : World) (b : Nat) (f : Nat → UInt8) : Prop := ∀ i, i < 128 → w.cell? ⟨b, i, none⟩ = some (.int .u8 (f i).toNat) ∧ w.frozen? ⟨b, i, none⟩ = false
theorem ByRow.start (w : World) (s : ByteArray) (cap : Nat) (t : TypeId) (hs : s.size = 128) (f : Nat → UInt8) (hf : ∀ i (h : i < s.size), s[i] = f i) :
    ByRow (w.drew.alloc (.cells (bytesRow s cap) t ((bytesRow s cap).size, (bytesRow s cap).size + 1))) w.heap.size f := by
  intro i hi
  have hh : (w.drew.alloc (.cells (bytesRow s cap) t ((bytesRow s cap).size, (bytesRow s cap).size + 1))).heap[w.heap.size]? = some (.cells (bytesRow s cap) t ((bytesRow s cap).size, (bytesRow s cap).size + 1)) := heap_alloc_new w.drew _
  have hn : 128 ≤ (bytesRow s cap).size := by
    unfold bytesRow
    rw [Array.size_append, Array.size_map]
    have : s.data.size = 128 := hs
    omega
  constructor
  · rw [cell_of_row _ _ _ _ _ _ hh]
    unfold bytesRow
    have hd : i < s.data.size := by have : s.data.size = 128 := hs; omega
    rw [Array.getElem?_append_left (by rw [Array.size_map]; exact hd), Array.getElem?_map, Array.getElem?_eq_getElem hd]
    have := hf i (by omega)
    rw [← this]; rfl
  · simp only [World.frozen?, hh]
    simp; omega
theorem ByRow.set {w : World} {b : Nat} {f : Nat → UInt8} (h : ByRow w b f) (k : Nat) (hk : k < 128) (g : Nat → UInt8) (v : Int) (hv : v = ((g k).toNat : Int)) (hg : ∀ i, i < 128 → i ≠ k → g i = f i) : ByRow (w.setCell ⟨b, k, none⟩ (.int .u8 v)) b g := by
  intro i hi
  subst hv
  refine ⟨?_, by rw [World.frozen?_setCell]; exact (h i hi).2⟩
  by_cases e : i = k
  · subst e; exact World.cell?_setCell_same _ _ _ (h i hi).1
  · rw [World.cell?_setCell_other (h := by intro c; injection c with _ c; exact e c.symm), (h i hi).1, hg i hi e]
theorem ByRow.congr {w : World} {b : Nat} {f g : Nat → UInt8} (h : ByRow w b f) (hg : ∀ i, i < 128 → g i = f i) : ByRow w b g := fun i hi => by rw [hg i hi]; exact h i hi
theorem ByRow.on {w w' : World} {b : Nat} {f : Nat → UInt8} (h : ByRow w b f) (hb : Below w.heap.size w w') : ByRow w' b f := fun i hi =>
  have hl := World.block_lt_of_cell? w ⟨b, i, none⟩ (h i hi).1
  ⟨(hb.cell hl).trans (h i hi).1, (hb.frozen hl).trans (h i hi).2⟩
theorem join_sign {a b : Cb} (ha : a.snd = true) (hb : b.snd = true) {j : Nat} (hj : j < 128) :
    (a.K j = false → sgn (a.join b) j = sgn b j) ∧ (a.K j = true → (b.K j = true → a.V j = b.V j) → sgn (a.join b) j = sgn a j) := by
  have jv : (a.join b).V j = (a.V j || b.V j) := by unfold Cb.V Cb.join; rw [hbit_or]
  have jk : (a.join b).K j = (a.K j || b.K j) := by unfold Cb.K Cb.join; rw [hbit_or]
  have h3 := (Cb.snd_iff a).1 ha j hj
  have h4 := (Cb.snd_iff b).1 hb j hj
  unfold sgn
  rw [jv, jk]
  revert h3 h4
  generalize a.K j = k1
  generalize b.K j = k2
  generalize a.V j = v1
  generalize b.V j = v2
  cases k1 <;> cases k2 <;> cases v1 <;> cases v2 <;> simp
/-- The first k signs are those of the intersection, the others those of the first. -/
def mixT (a b : Cb) (k : Nat) : Nat → UInt8 := fun i => if i < k then sgn (a.join b) (127 - i) else sgn a (127 - i)
theorem mixT_zero (a b : Cb) (i : Nat) : mixT a b 0 i = sgn a (127 - i) := by simp [mixT]
theorem mixT_far (a b : Cb) (k : Nat) : ∀ i, i < 128 → i ≠ k → mixT a b (k + 1) i = mixT a b k i := fun i _ h => by
  unfold mixT
  by_cases c : i < k
  · rw [if_pos c, if_pos (by omega)]
  · rw [if_neg c, if_neg (by omega)]
theorem mixT_at (a b : Cb) (k : Nat) : mixT a b (k + 1) k = sgn (a.join b) (127 - k) := by unfold mixT; rw [if_pos (by omega)]
theorem mixT_same (a b : Cb) (k m : Nat) (hm : m + k = 127) (h : sgn (a.join b) m = sgn a m) : ∀ i, i < 128 → mixT a b (k + 1) i = mixT a b k i := fun i hi => by
  by_cases e : i = k
  · subst e
    rw [mixT_at, show 127 - i = m by omega, h]
    unfold mixT; rw [if_neg (by omega), show 127 - i = m by omega]
  · exact mixT_far a b k i hi e
theorem mixT_all (a b : Cb) (i : Nat) (hi : i < 128) : mixT a b 128 i = sgn (a.join b) (127 - i) := by unfold mixT; rw [if_pos hi]
theorem txtL_get (c : Cb) (j : Nat) (hj : j < (txtL c).length) : (txtL c)[j] = sgn c (127 - j) := by simp [txtL]
theorem agr_fails {a b : Cb} {j : Nat} (hj : j < 128) (h1 : a.K j = true) (h2 : b.K j = true) (hne : ¬ a.V j = b.V j) : a.agr b = false := by
  cases e : a.agr b with
  | false => rfl
  | true => exact absurd ((Cb.agr_iff a b).1 e j hj h1 h2) hne
theorem wit_match {a b : Cb} (ha : a.snd = true) (hb : b.snd = true) : a.wit b = true ↔ ∀ j, j < 128 → b.K j = true → a.K j = true ∧ a.V j = b.V j := by
  rw [Cb.wit_iff]
  constructor
  · rintro ⟨_, _, h3, h4⟩ j hj hk; exact ⟨h3 j hj hk, h4 j hj (h3 j hj hk) hk⟩
  · intro H; exact ⟨ha, hb, fun j hj hk => (H j hj hk).1, fun j hj _ hk => (H j hj hk).2⟩
theorem wit_fails {a b : Cb} (ha : a.snd = true) (hb : b.snd = true) {j : Nat} (hj : j < 128) (h2 : b.K j = true) (hne : ¬ (a.K j = true ∧ a.V j = b.V j)) : a.wit b = false := by
  cases e : a.wit b with
  | false => rfl
  | true => exact absurd ((wit_match ha hb).1 e j hj h2) hne
end Go.Proofs.Hd

namespace Go.Proofs
open Go.RowKit Go.Proofs.Hd
attribute [local go_sem] uv_nonneg
theorem bel_drewN {B : Nat} {w w' : World} (n : Nat) (h : Below B w w') : Below B w (w'.drewN n) := ⟨h.os, h.tape, h.output, h.size, h.block⟩
theorem sgnat {c : Cb} {s : ByteArray} (hs : txt c = s) (k m : Nat) (hm : m + k = 127) (hk : k < s.size) : s[k]'hk = sgn c m := by
  subst hs; rw [txt_get, show 127 - k = m by omega]
theorem toBytes (u : World) (s : ByteArray) : (convert 9 58 (.string s)).run Tryz.prog u = .ok (.slice (some ⟨u.heap.size, 0, none⟩) s.size (grownCap u s.size 0 5))
      (u.drew.alloc (.cells (bytesRow s (grownCap u s.size 0 5)) 5 ((bytesRow s (grownCap u s.size 0 5)).size, (bytesRow s (grownCap u s.size 0 5)).size + 1))) :=
  run_bytes_of_string u 9 58 5 s Tryz.underlying9 Tryz.underlying58 Tryz.underlying5
theorem fromBytes (u : World) (c : Cb) (b n cap : Nat) (hn : n = 128) (h : ByRow u b (fun i => sgn c (127 - i))) : (convert 58 9 (.slice (some ⟨b, 0, none⟩) n cap)).run Tryz.prog u = .ok (.string (txt c)) u := by
  subst hn
  have k := run_convert_bytes_back (P := Tryz.prog) u 58 9 5 ⟨b, 0, none⟩ cap (txtL c) Tryz.underlying58 Tryz.underlying5 Tryz.underlying9 (fun j hj => by
    have ha : (⟨b, 0, none⟩ : Addr).add j = ⟨b, j, none⟩ := by unfold Addr.add; split <;> simp_all
    rw [ha, (h j (by rw [txtL_len] at hj; exact hj)).1, txtL_get])
  rw [txtL_len] at k
  exact k

set_option maxHeartbeats 4000000 in
set_option maxRecDepth 100000 in
theorem rwithin_s (s t : ByteArray) (a b : Cb) (w : World) (ha : a.snd = true) (hb : b.snd = true) (hs : txt a = s) (ht : txt b = t) :
    Calls Tryz.prog 45 #[.string s, .string t] w fun e w' => e = .returned (.bool (a.wit b)) ∧ Below w.heap.size w w' := by
  have l1 : s.size ≤ 128 := by rw [text_len hs]; omega
  have l2 : 128 ≤ s.size := by rw [text_len hs]; omega
  have l3 : t.size ≤ 128 := by rw [text_len ht]; omega
  have l4 : 128 ≤ t.size := by rw [text_len ht]; omega
  have HS := Lib.hid hs
  have HT := Lib.hid ht
  have HA := Lib.hid ha
  have HB := Lib.hid hb
  clear hs ht ha hb
  obtain ⟨x, hx⟩ : ∃ x, a.wit b = x := ⟨_, rfl⟩
  rw [hx]
  have HX := Lib.hid hx
  clear hx
  go_enter Tryz.func45, Tryz.ntmps45
  go_wp2_with fail
  go_loopg [5] 128 (fun g i wr => ∃ k : Nat, k ≤ 128 ∧ g = 128 - k ∧ i = .int .i64 k ∧ (∀ j, j < 128 → 128 ≤ j + k → b.K j = true → a.K j = true ∧ a.V j = b.V j) ∧ Below w.heap.size w wr)
  case atStart => exact ⟨0, by omega, rfl, rfl, fun j hj h => by omega, Below.refl _ _⟩
  case round =>
    obtain ⟨k, hk, rfl, rfl, hok, BW⟩ := hrel
    have HOK := Lib.hid hok
    clear hok
    by_cases hlt : k < 128
    · skip
      have hlt' : (k : Int) < 128 := by omega
      have hks : k < s.size := by omega
      have hks' : (k : Int) < (s.size : Int) := by omega
      have hkt : k < t.size := by omega
      have hkt' : (k : Int) < (t.size : Int) := by omega
      obtain ⟨m, hm⟩ : ∃ m, m + k = 127 := ⟨127 - k, by omega⟩
      have hm1 : m < 128 := by omega
      have HM := Lib.hid hm
      clear hm
      cases hKb : b.K m
      · have sgt := sign_x HT.out k m HM.out hkt hKb
        have HK := Lib.hid hKb
        clear hKb
        go_wp2
        go_quiet (fail)
        go_wp2
        go_roundg (128 - (k + 1))
        case measure => omega
        case rel => exact ⟨k + 1, by omega, rfl, by go_num, step_ok HM.out HOK.out (fun h => by rw [HK.out] at h; cases h), bel_drewN _ BW⟩
      · cases hVb : b.V m <;> cases hKa : a.K m <;> cases hVa : a.V m
        · have sgt := sign_0 HT.out k m HM.out hkt hKb hVb
          have sgs := sign_x HS.out k m HM.out hks hKa
          have e := HX.out
          rw [wit_fails HA.out HB.out hm1 hKb (fun h => by have h1 := h.1; rw [hKa] at h1; cases h1)] at e
          subst e
          clear hKb hVb hKa hVa
          go_wp2
          go_quiet (fail)
          go_wp2
          go_ret
          exact ⟨rfl, bel_drewN _ BW⟩
        · have sgt := sign_0 HT.out k m HM.out hkt hKb hVb
          have sgs := sign_x HS.out k m HM.out hks hKa
          have e := HX.out
          rw [wit_fails HA.out HB.out hm1 hKb (fun h => by have h1 := h.1; rw [hKa] at h1; cases h1)] at e
          subst e
          clear hKb hVb hKa hVa
          go_wp2
          go_quiet (fail)
          go_wp2
          go_ret
          exact ⟨rfl, bel_drewN _ BW⟩
        · have sgt := sign_0 HT.out k m HM.out hkt hKb hVb
          have sgs := sign_0 HS.out k m HM.out hks hKa hVa
          have HV := Lib.hid (And.intro hKa (hVa.trans hVb.symm))
          clear hKb hVb hKa hVa
          go_wp2
          go_quiet (fail)
          go_wp2
          go_roundg (128 - (k + 1))
          case measure => omega
          case rel => exact ⟨k + 1, by omega, rfl, by go_num, step_ok HM.out HOK.out (fun _ => HV.out), bel_drewN _ BW⟩
        · have sgt := sign_0 HT.out k m HM.out hkt hKb hVb
          have sgs := sign_1 HS.out k m HM.out hks hKa hVa
          have e := HX.out
          rw [wit_fails HA.out HB.out hm1 hKb (fun h => by have h1 := h.2; rw [hVa, hVb] at h1; cases h1)] at e
          subst e
          clear hKb hVb hKa hVa
          go_wp2
          go_quiet (fail)
          go_wp2
          go_ret
          exact ⟨rfl, bel_drewN _ BW⟩
        · have sgt := sign_1 HT.out k m HM.out hkt hKb hVb
          have sgs := sign_x HS.out k m HM.out hks hKa
          have e := HX.out
          rw [wit_fails HA.out HB.out hm1 hKb (fun h => by have h1 := h.1; rw [hKa] at h1; cases h1)] at e
          subst e
          clear hKb hVb hKa hVa
          go_wp2
          go_quiet (fail)
          go_wp2
          go_ret
          exact ⟨rfl, bel_drewN _ BW⟩
        · have sgt := sign_1 HT.out k m HM.out hkt hKb hVb
          have sgs := sign_x HS.out k m HM.out hks hKa
          have e := HX.out
          rw [wit_fails HA.out HB.out hm1 hKb (fun h => by have h1 := h.1; rw [hKa] at h1; cases h1)] at e
          subst e
          clear hKb hVb hKa hVa
          go_wp2
          go_quiet (fail)
          go_wp2
          go_ret
          exact ⟨rfl, bel_drewN _ BW⟩
        · have sgt := sign_1 HT.out k m HM.out hkt hKb hVb
          have sgs := sign_0 HS.out k m HM.out hks hKa hVa
          have e := HX.out
          rw [wit_fails HA.out HB.out hm1 hKb (fun h => by have h1 := h.2; rw [hVa, hVb] at h1; cases h1)] at e
          subst e
          clear hKb hVb hKa hVa
          go_wp2
          go_quiet (fail)
          go_wp2
          go_ret
          exact ⟨rfl, bel_drewN _ BW⟩
        · have sgt := sign_1 HT.out k m HM.out hkt hKb hVb
          have sgs := sign_1 HS.out k m HM.out hks hKa hVa
          have HV := Lib.hid (And.intro hKa (hVa.trans hVb.symm))
          clear hKb hVb hKa hVa
          go_wp2
          go_quiet (fail)
          go_wp2
          go_roundg (128 - (k + 1))
          case measure => omega
          case rel => exact ⟨k + 1, by omega, rfl, by go_num, step_ok HM.out HOK.out (fun _ => HV.out), bel_drewN _ BW⟩
    · obtain rfl : k = 128 := by omega
      have e := HX.out
      rw [(wit_match HA.out HB.out).2 (fun j hj => HOK.out j hj (by omega))] at e
      subst e
      go_wp2
      go_ret
      exact ⟨rfl, BW⟩

set_option maxHeartbeats 4000000 in
set_option maxRecDepth 100000 in
theorem rmeet_s (s t : ByteArray) (a b : Cb) (w : World) (ha : a.snd = true) (hb : b.snd = true) (hs : txt a = s) (ht : txt b = t) (x : Bool) (r : ByteArray) (hx : a.agr b = x) (HR : Hid (x = true → r = txt (a.join b))) (HN : Hid (x = false → r = ⟨#[]⟩)) :
    Calls Tryz.prog 44 #[.string s, .string t] w fun e w' => e = .returned (.tuple #[.string r, .bool x]) ∧ Below w.heap.size w w' := by
  have l1 : s.size ≤ 128 := by rw [text_len hs]; omega
  have l2 : 128 ≤ s.size := by rw [text_len hs]; omega
  have l3 : t.size ≤ 128 := by rw [text_len ht]; omega
  have l4 : 128 ≤ t.size := by rw [text_len ht]; omega
  have HS := Lib.hid hs
  have HT := Lib.hid ht
  have HA := Lib.hid ha
  have HB := Lib.hid hb
  have R0 := ByRow.start w s (grownCap w s.size 0 5) 5 (text_len hs) (mixT a b 0) (fun i h => by subst hs; rw [txt_get, mixT_zero])
  have HR0 := Lib.hid R0
  have hcv := toBytes w s
  clear hs ht ha hb R0
  have HX := Lib.hid hx
  clear hx
  go_enter Tryz.func44, Tryz.ntmps44
  go_wp2_with fail
  generalize grownCap w s.size 0 5 = cap at *
  clear hcv
  go_loopg [7] 128 (fun g i wr => ∃ k : Nat, k ≤ 128 ∧ g = 128 - k ∧ i = .int .i64 k ∧ (∀ j, j < 128 → 128 ≤ j + k → a.K j = true → b.K j = true → a.V j = b.V j) ∧ Below w.heap.size w wr ∧ ByRow wr w.heap.size (mixT a b k))
  case atStart => exact ⟨0, by omega, rfl, rfl, fun j hj h => by omega, ((Below.refl _ w).drew).alloc (Nat.le_refl _) _, HR0.out⟩
  case round =>
    clear HR0
    obtain ⟨k, hk, rfl, rfl, hok, BW, RW⟩ := hrel
    have HOK := Lib.hid hok
    clear hok
    by_cases hlt : k < 128
    · skip
      have hlt' : (k : Int) < 128 := by omega
      have hks : k < s.size := by omega
      have hks' : (k : Int) < (s.size : Int) := by omega
      have hkt : k < t.size := by omega
      have hkt' : (k : Int) < (t.size : Int) := by omega
      obtain ⟨m, hm⟩ : ∃ m, m + k = 127 := ⟨127 - k, by omega⟩
      have hm1 : m < 128 := by omega
      have HM := Lib.hid hm
      clear hm
      have f1 := (RW k hlt).1
      have f2 := (RW k hlt).2
      have J := Lib.hid (join_sign HA.out HB.out hm1)
      cases hKa : a.K m
      · have sgs := sign_x HS.out k m HM.out hks hKa
        have HSB := Lib.hid (sgnat HT.out k m HM.out hkt)
        have HKA := Lib.hid hKa
        clear hKa
        go_wp2
        go_roundg (128 - (k + 1))
        case measure => omega
        case rel => exact ⟨k + 1, by omega, rfl, by go_num, step_ok HM.out HOK.out (fun h => by rw [HKA.out] at h; cases h), BW.setCell (Nat.le_refl _) _, RW.set k hlt _ _ (by rw [mixT_at, show 127 - k = m by have := HM.out; omega, J.out.1 HKA.out, HSB.out]) (mixT_far a b k)⟩
      · cases hVa : a.V m <;> cases hKb : b.K m <;> cases hVb : b.V m
        · have sgs := sign_0 HS.out k m HM.out hks hKa hVa
          have sgt := sign_x HT.out k m HM.out hkt hKb
          have HOK2 := Lib.hid (step_ok (P := fun j => a.K j = true → b.K j = true → a.V j = b.V j) HM.out HOK.out (fun _ => fun h => by rw [hKb] at h; cases h))
          have HSM := Lib.hid (mixT_same a b k m HM.out (J.out.2 hKa (fun h => by rw [hKb] at h; cases h)))
          clear hKb hVb hKa hVa
          go_wp2
          go_quiet (fail)
          go_wp2
          go_roundg (128 - (k + 1))
          case measure => omega
          case rel => exact ⟨k + 1, by omega, rfl, by go_num, HOK2.out, bel_drewN _ BW, RW.congr HSM.out⟩
        · have sgs := sign_0 HS.out k m HM.out hks hKa hVa
          have sgt := sign_x HT.out k m HM.out hkt hKb
          have HOK2 := Lib.hid (step_ok (P := fun j => a.K j = true → b.K j = true → a.V j = b.V j) HM.out HOK.out (fun _ => fun h => by rw [hKb] at h; cases h))
          have HSM := Lib.hid (mixT_same a b k m HM.out (J.out.2 hKa (fun h => by rw [hKb] at h; cases h)))
          clear hKb hVb hKa hVa
          go_wp2
          go_quiet (fail)
          go_wp2
          go_roundg (128 - (k + 1))
          case measure => omega
          case rel => exact ⟨k + 1, by omega, rfl, by go_num, HOK2.out, bel_drewN _ BW, RW.congr HSM.out⟩
        · have sgs := sign_0 HS.out k m HM.out hks hKa hVa
          have sgt := sign_0 HT.out k m HM.out hkt hKb hVb
          have HOK2 := Lib.hid (step_ok (P := fun j => a.K j = true → b.K j = true → a.V j = b.V j) HM.out HOK.out (fun _ => fun _ => hVa.trans hVb.symm))
          have HSM := Lib.hid (mixT_same a b k m HM.out (J.out.2 hKa (fun _ => hVa.trans hVb.symm)))
          clear hKb hVb hKa hVa
          go_wp2
          go_quiet (fail)
          go_wp2
          go_roundg (128 - (k + 1))
          case measure => omega
          case rel => exact ⟨k + 1, by omega, rfl, by go_num, HOK2.out, bel_drewN _ BW, RW.congr HSM.out⟩
        · have sgs := sign_0 HS.out k m HM.out hks hKa hVa
          have sgt := sign_1 HT.out k m HM.out hkt hKb hVb
          have e := HX.out
          rw [agr_fails hm1 hKa hKb (fun h => by rw [hVa, hVb] at h; cases h)] at e
          subst e
          have er := HN.out rfl
          subst er
          clear HR HN hKb hVb hKa hVa
          go_wp2
          go_quiet (fail)
          go_wp2
          go_ret2
          exact ⟨rfl, bel_drewN _ BW⟩
        · have sgs := sign_1 HS.out k m HM.out hks hKa hVa
          have sgt := sign_x HT.out k m HM.out hkt hKb
          have HOK2 := Lib.hid (step_ok (P := fun j => a.K j = true → b.K j = true → a.V j = b.V j) HM.out HOK.out (fun _ => fun h => by rw [hKb] at h; cases h))
          have HSM := Lib.hid (mixT_same a b k m HM.out (J.out.2 hKa (fun h => by rw [hKb] at h; cases h)))
          clear hKb hVb hKa hVa
          go_wp2
          go_quiet (fail)
          go_wp2
          go_roundg (128 - (k + 1))
          case measure => omega
          case rel => exact ⟨k + 1, by omega, rfl, by go_num, HOK2.out, bel_drewN _ BW, RW.congr HSM.out⟩
        · have sgs := sign_1 HS.out k m HM.out hks hKa hVa
          have sgt := sign_x HT.out k m HM.out hkt hKb
          have HOK2 := Lib.hid (step_ok (P := fun j => a.K j = true → b.K j = true → a.V j = b.V j) HM.out HOK.out (fun _ => fun h => by rw [hKb] at h; cases h))
          have HSM := Lib.hid (mixT_same a b k m HM.out (J.out.2 hKa (fun h => by rw [hKb] at h; cases h)))
          clear hKb hVb hKa hVa
          go_wp2
          go_quiet (fail)
          go_wp2
          go_roundg (128 - (k + 1))
          case measure => omega
          case rel => exact ⟨k + 1, by omega, rfl, by go_num, HOK2.out, bel_drewN _ BW, RW.congr HSM.out⟩
        · have sgs := sign_1 HS.out k m HM.out hks hKa hVa
          have sgt := sign_0 HT.out k m HM.out hkt hKb hVb
          have e := HX.out
          rw [agr_fails hm1 hKa hKb (fun h => by rw [hVa, hVb] at h; cases h)] at e
          subst e
          have er := HN.out rfl
          subst er
          clear HR HN hKb hVb hKa hVa
          go_wp2
          go_quiet (fail)
          go_wp2
          go_ret2
          exact ⟨rfl, bel_drewN _ BW⟩
        · have sgs := sign_1 HS.out k m HM.out hks hKa hVa
          have sgt := sign_1 HT.out k m HM.out hkt hKb hVb
          have HOK2 := Lib.hid (step_ok (P := fun j => a.K j = true → b.K j = true → a.V j = b.V j) HM.out HOK.out (fun _ => fun _ => hVa.trans hVb.symm))
          have HSM := Lib.hid (mixT_same a b k m HM.out (J.out.2 hKa (fun _ => hVa.trans hVb.symm)))
          clear hKb hVb hKa hVa
          go_wp2
          go_quiet (fail)
          go_wp2
          go_roundg (128 - (k + 1))
          case measure => omega
          case rel => exact ⟨k + 1, by omega, rfl, by go_num, HOK2.out, bel_drewN _ BW, RW.congr HSM.out⟩
    · obtain rfl : k = 128 := by omega
      have e := HX.out
      rw [(Cb.agr_iff a b).2 (fun j hj => HOK.out j hj (by omega))] at e
      subst e
      have er := HR.out rfl
      have hcv := fromBytes wr (a.join b) w.heap.size s.size cap (by omega) (RW.congr (fun i hi => (mixT_all a b i hi).symm))
      rw [← er] at hcv
      clear er HR HN
      go_wp2
      go_ret2
      exact ⟨rfl, BW⟩
end Go.Proofs

namespace Go.Proofs.Hd
open Go.RowKit
/-- The bits a .. a + k - 1. -/
def mk (a k : Nat) : Nat → Bool := fun j => decide (a ≤ j) && decide (j < a + k)
theorem mk_zero (a : Nat) : bl (mk a 0) = bl (fun _ => false) := bl_congr fun j _ => by
  unfold mk; by_cases h : a ≤ j
  · simp [h, show ¬ j < a by omega]
  · simp [h]
theorem mk_succ (a k : Nat) : (bl (mk a k)).set (a + k) (.bool true) = bl (mk a (k + 1)) := by
  rw [bl_set]
  apply bl_congr
  intro j _
  unfold mk
  by_cases e : j = a + k
  · subst e; simp
  · by_cases h : a ≤ j
    · have : (j < a + (k + 1)) ↔ (j < a + k) := by omega
      simp [e, h, this]
    · simp [e, h]
theorem mk_num (a n : Nat) (h : a + n ≤ 128) : num (mk a n) 64 64 = maskH a n ∧ num (mk a n) 0 64 = maskL a n :=
  num_of_bits fun j hj => by rw [mask_bit a n j h hj]; rfl
/-- A header's bits, of which k from a on are those of v. -/
def pt (h l v : BitVec 64) (a k : Nat) : Nat → Bool := fun j => if a ≤ j ∧ j < a + k then v.getLsbD (j - a) else hbit h l j
theorem pt_zero (h l v : BitVec 64) (a : Nat) : pt h l v a 0 = hbit h l := by
  funext j; unfold pt; rw [if_neg (by omega)]
theorem pt_succ (h l v : BitVec 64) (a k : Nat) (b : Bool) (hb : b = v.getLsbD k) : (bl (pt h l v a k)).set (a + k) (.bool b) = bl (pt h l v a (k + 1)) := by
  subst hb
  rw [bl_set]
  apply bl_congr
  intro j _
  unfold pt
  by_cases e : j = a + k
  · subst e; rw [if_pos rfl, if_pos (by omega), Nat.add_sub_cancel_left]
  · rw [if_neg e]
    by_cases c : a ≤ j ∧ j < a + k
    · rw [if_pos c, if_pos (by omega)]
    · rw [if_neg c, if_neg (by omega)]
theorem fit_bits (v : BitVec 64) (n i : Nat) (hn : n ≤ 64) (h : ¬ uv (low n) < uv v) (hi : n ≤ i) : v.getLsbD i = false := by
  unfold uv at h
  rw [low_nat n hn] at h
  have h2 : v.toNat < 2 ^ n := by have := Nat.two_pow_pos n; omega
  rw [BitVec.getLsbD, Nat.testBit_lt_two_pow]
  exact Nat.lt_of_lt_of_le h2 (Nat.pow_le_pow_right (by omega) hi)
theorem pt_num (h l v : BitVec 64) (a n : Nat) (hn : n ≤ 64) (hv : ¬ uv (low n) < uv v) : num (pt h l v a n) 64 64 = putH h a n v ∧ num (pt h l v a n) 0 64 = putL l a n v :=
  num_of_bits fun j hj => by
    rw [put_bit h l a n v j hn hj]
    unfold pt
    by_cases c : a ≤ j ∧ j < a + n
    · rw [if_pos c]; simp [c.1, c.2]
    · rw [if_neg c]
      by_cases c1 : a ≤ j
      · have c2 : ¬ j < a + n := fun h2 => c ⟨c1, h2⟩
        simp [c1, c2, fit_bits v n (j - a) hn hv (by omega)]
      · simp [c1]
theorem over_small (v : BitVec 64) (n : Nat) (hn : n ≤ 64) (hv : uv (low n) < uv v) : n < 64 ∧ (uv (v >>> n) != 0) = true := by
  unfold uv at *
  rw [low_nat n hn] at hv
  have hl := v.isLt
  have hp := Nat.two_pow_pos n
  have h1 : n < 64 := by
    rcases Nat.lt_or_ge n 64 with h | h
    · exact h
    · have : n = 64 := by omega
      subst this; omega
  refine ⟨h1, ?_⟩
  rw [BitVec.toNat_ushiftRight, Nat.shiftRight_eq_div_pow]
  have : 0 < v.toNat / 2 ^ n := Nat.div_pos (by omega) hp
  simp only [bne_iff_ne, ne_eq]; omega
theorem fit_small (v : BitVec 64) (n : Nat) (hn : n ≤ 64) (hv : ¬ uv (low n) < uv v) : (uv (v >>> n) != 0) = false := by
  unfold uv at *
  rw [low_nat n hn] at hv
  have hp := Nat.two_pow_pos n
  rw [BitVec.toNat_ushiftRight, Nat.shiftRight_eq_div_pow, Nat.div_eq_of_lt (by omega)]
  rfl
theorem v_bit (v : BitVec 64) (k : Nat) : ((uv (v >>> k)).tmod 2 == 1) = v.getLsbD k := by
  rw [uv_odd, BitVec.getLsbD_ushiftRight, Nat.add_zero]
end Go.Proofs.Hd

namespace Go.Proofs.Hd
open Go.RowKit
/-- The array f lies in block b, whole, and may be written. -/
def Row (w : World) (b : Nat) (f : Nat → Bool) : Prop := w.rangeAt b 0 (bl f) ∧ w.there b 0 128
theorem Row.cell {w : World} {b k : Nat} {f : Nat → Bool} (h : Row w b f) (hk : k < 128) : w.cell? ⟨b, k, none⟩ = some (.bool (f k)) := range_cell h.1 hk
theorem Row.froz {w : World} {b k : Nat} {f : Nat → Bool} (h : Row w b f) (hk : k < 128) : w.frozen? ⟨b, k, none⟩ = false := by
  have := (h.2 k hk).2; rwa [Nat.zero_add] at this
theorem Row.lt {w : World} {b : Nat} {f : Nat → Bool} (h : Row w b f) : b < w.heap.size := World.block_lt_of_cell? w ⟨b, 0, none⟩ (h.cell (by omega))
theorem Row.drew {w : World} {b : Nat} {f : Nat → Bool} (h : Row w b f) : Row w.drew b f := h
theorem Row.far {w : World} {b : Nat} {f : Nat → Bool} {p : Addr} {v : Value} (h : Row w b f) (hp : p.block ≠ b) : Row (w.setCell p v) b f := by
  refine ⟨fun j x hj => ?_, fun j hj => ?_⟩
  · rw [World.cell?_setCell_far w p ⟨b, 0 + j, none⟩ v hp]; exact h.1 j x hj
  · rw [World.cell?_setCell_far w p ⟨b, 0 + j, none⟩ v hp, World.frozen?_setCell]; exact h.2 j hj
theorem Row.set {w : World} {b k : Nat} {f g : Nat → Bool} {x : Bool} (h : Row w b f) (hk : k < 128) (e : (bl f).set k (.bool x) = bl g) : Row (w.setCell ⟨b, k, none⟩ (.bool x)) b g := by
  have hc : ∀ j, j < 128 → (w.setCell ⟨b, k, none⟩ (.bool x)).cell? ⟨b, j, none⟩ = some (if j = k then .bool x else .bool (f j)) := by
    intro j hj
    by_cases ej : j = k
    · subst ej; rw [if_pos rfl]; exact World.cell?_setCell_same w ⟨b, j, none⟩ (.bool x) (h.cell hj)
    · rw [if_neg ej, World.cell?_setCell_other w ⟨b, k, none⟩ ⟨b, j, none⟩ (.bool x) (fun e2 => ej (by injection e2 with _ e3; exact e3.symm)), h.cell hj]
  refine ⟨fun j y hj => ?_, fun j hj => ?_⟩
  · have hj' : j < 128 := by
      have := (List.getElem?_eq_some_iff.1 hj).1; rwa [bl_len] at this
    rw [Nat.zero_add, hc j hj', ← hj, ← e, bl_set, bl_get _ _ hj']
    by_cases ej : j = k <;> simp [ej]
  · rw [Nat.zero_add, hc j hj, World.frozen?_setCell]
    exact ⟨rfl, h.froz hj⟩
theorem Row.below {B b : Nat} {w w' : World} {f : Nat → Bool} (h : Row w b f) (hb : Below B w w') (hl : b < B) : Row w' b f := ⟨range_below hb h.1 hl, there_below hb h.2 hl⟩
theorem Row.of_set {w : World} {b : Nat} (f : Nat → Bool) (h : w.there b 0 128) : Row (w.setCells b 0 (bl f)) b f :=
  ⟨World.rangeAt_setCells_same w b 0 (bl f) (by rw [bl_len]; exact h), World.there_setCells h b 0 (bl f)⟩
theorem Row.apart {w : World} {b c : Nat} {f : Nat → Bool} {vs : List Value} (h : Row w b f) (hne : b ≠ c) : Row (w.setCells c 0 vs) b f :=
  ⟨World.rangeAt_setCells_apart h.1 c 0 vs (Or.inl hne), World.there_setCells h.2 c 0 vs⟩
theorem Row.congr {w : World} {b : Nat} {f g : Nat → Bool} (h : Row w b f) (e : bl f = bl g) : Row w b g := ⟨e ▸ h.1, h.2⟩
/-- g below k, f from k on. -/
def mix (f g : Nat → Bool) (k : Nat) : Nat → Bool := fun j => if j < k then g j else f j
theorem mix_zero (f g : Nat → Bool) : mix f g 0 = f := by funext j; simp [mix]
theorem mix_all (f g : Nat → Bool) : bl (mix f g 128) = bl g := bl_congr fun j hj => by simp [mix, hj]
theorem mix_set (f g : Nat → Bool) (k : Nat) (b : Bool) (h : b = g k) : (bl (mix f g k)).set k (.bool b) = bl (mix f g (k + 1)) := by
  subst h
  rw [bl_set]
  apply bl_congr
  intro j _
  unfold mix
  by_cases e : j = k
  · subst e; simp
  · rw [if_neg e]
    have : (j < k + 1) ↔ (j < k) := by omega
    simp [this]
theorem and127i (m : Nat) (h : m < 128) : bits .and .i64 (m : Int) 127 = (m : Int) := by
  have e : wrap64 (uv (BitVec.ofNat 64 m)) = (m : Int) := by
    rw [uv_ofNat, IntKind.wrap_u64]; unfold wrap64; omega
  have := and127 (BitVec.ofNat 64 m)
  rw [e, BitVec.toNat_ofNat] at this
  have e2 : (2 : Nat) ^ 64 = 18446744073709551616 := by decide +kernel
  rw [this, e2]; omega
/-- Bit n of a header, false outside 0 .. 127. -/
def bitI (h l : BitVec 64) (n : Int) : Bool := if 0 ≤ n ∧ n < 128 then hbit h l n.toNat else false
theorem and_num (h l p q : BitVec 64) : num (fun j => hbit h l j && hbit p q j) 64 64 = h &&& p ∧ num (fun j => hbit h l j && hbit p q j) 0 64 = l &&& q := num_of_bits fun j _ => hbit_and h l p q j
theorem or_num (h l p q : BitVec 64) : num (fun j => hbit h l j || hbit p q j) 64 64 = h ||| p ∧ num (fun j => hbit h l j || hbit p q j) 0 64 = l ||| q := num_of_bits fun j _ => hbit_or h l p q j
theorem xor_num (h l p q : BitVec 64) : num (fun j => hbit h l j ^^ hbit p q j) 64 64 = h ^^^ p ∧ num (fun j => hbit h l j ^^ hbit p q j) 0 64 = l ^^^ q := num_of_bits fun j _ => hbit_xor h l p q j
theorem less_num (h l p q : BitVec 64) : num (fun j => hbit h l j && !hbit p q j) 64 64 = h &&& ~~~p ∧ num (fun j => hbit h l j && !hbit p q j) 0 64 = l &&& ~~~q := num_of_bits fun j hj => hbit_andNot h l p q j hj
theorem two_Rows {V : World} {b c : Nat} (f g : Nat → Bool) (h1 : V.there b 0 128) (h2 : V.there c 0 128) (hne : b ≠ c) :
    Row ((V.setCells b 0 (bl f)).setCells c 0 (bl g)) b f ∧ Row ((V.setCells b 0 (bl f)).setCells c 0 (bl g)) c g :=
  ⟨(Row.of_set f h1).apart hne, Row.of_set g (World.there_setCells h2 b 0 (bl f))⟩
theorem four_Rows {V : World} {b c d e : Nat} (f : Nat → Bool) (h1 : V.there b 0 128) (h2 : V.there c 0 128) (h3 : V.there d 0 128) (h4 : V.there e 0 128) (n1 : b ≠ c) (n2 : b ≠ d) (n3 : b ≠ e) (n4 : c ≠ d) (n5 : c ≠ e) (n6 : d ≠ e) :
    Row ((((V.setCells b 0 (bl f)).setCells c 0 (bl f)).setCells d 0 (bl f)).setCells e 0 (bl f)) b f ∧ Row ((((V.setCells b 0 (bl f)).setCells c 0 (bl f)).setCells d 0 (bl f)).setCells e 0 (bl f)) c f ∧
    Row ((((V.setCells b 0 (bl f)).setCells c 0 (bl f)).setCells d 0 (bl f)).setCells e 0 (bl f)) d f ∧ Row ((((V.setCells b 0 (bl f)).setCells c 0 (bl f)).setCells d 0 (bl f)).setCells e 0 (bl f)) e f :=
  ⟨(((Row.of_set f h1).apart n1).apart n2).apart n3, ((Row.of_set f (World.there_setCells h2 _ _ _)).apart n4).apart n5, (Row.of_set f (World.there_setCells (World.there_setCells h3 _ _ _) _ _ _)).apart n6, Row.of_set f (World.there_setCells (World.there_setCells (World.there_setCells h4 _ _ _) _ _ _) _ _ _)⟩
end Go.Proofs.Hd

namespace Go.Proofs
open Go.RowKit Go.Proofs.Hd
attribute [local go_sem] uv_nonneg
/-- The bits from bit 128 - k on. -/
def upB (f : Nat → Bool) (k : Nat) : Nat → Bool := fun j => decide (128 ≤ j + k) && f j
theorem upB_zero (f : Nat → Bool) : bl (fun _ => false) = bl (upB f 0) := bl_congr fun j hj => by simp [upB]; omega
theorem upB_put (f : Nat → Bool) (k m : Nat) (hm : m + k = 127) (x : Bool) (hx : f m = x) : (bl (upB f k)).set m (.bool x) = bl (upB f (k + 1)) := by
  subst hx
  rw [bl_set]
  apply bl_congr
  intro j hj
  unfold upB
  by_cases e : j = m
  · subst e; rw [if_pos rfl]; simp; omega
  · rw [if_neg e]
    have : (128 ≤ j + (k + 1)) ↔ (128 ≤ j + k) := by omega
    simp [this]
theorem upB_num (h l : BitVec 64) : num (upB (hbit h l) 128) 64 64 = h ∧ num (upB (hbit h l) 128) 0 64 = l := num_of_bits fun j hj => by simp [upB]
theorem zfar {w : World} {r : Nat} {p : Addr} {v : Value} (h : Zero4 w r) (hp : p.block ≠ r) : Zero4 (w.setCell p v) r := fun i hi =>
  ⟨(World.cell?_setCell_far w p ⟨r, i, none⟩ v hp).trans (h i hi).1, by rw [World.frozen?_setCell]; exact (h i hi).2⟩
theorem zcells {w : World} {r b : Nat} {vs : List Value} (h : Zero4 w r) (hp : r < b) : Zero4 (w.setCells b 0 vs) r := by
  have hb : Below b w (w.setCells b 0 vs) := Below.setCells vs 0 w (Below.refl _ _) (Nat.le_refl _)
  exact fun i hi => ⟨(hb.cell (p := ⟨r, i, none⟩) hp).trans (h i hi).1, (hb.frozen (p := ⟨r, i, none⟩) hp).trans (h i hi).2⟩

theorem range_apart4 {b r : Nat} {f : Nat → Bool} {w : World} {a0 a1 a2 a3 : Value} (h : w.rangeAt b 0 (bl f)) (hne : r ≠ b) : ((((w.setCell ⟨r, 0, none⟩ a0).setCell ⟨r, 1, none⟩ a1).setCell ⟨r, 2, none⟩ a2).setCell ⟨r, 3, none⟩ a3).rangeAt b 0 (bl f) := by
  intro j v hv
  rw [World.cell?_setCell_far _ _ _ _ hne, World.cell?_setCell_far _ _ _ _ hne, World.cell?_setCell_far _ _ _ _ hne, World.cell?_setCell_far _ _ _ _ hne]
  exact h j v hv
theorem range_on {b : Nat} {f : Nat → Bool} {w w' : World} (hb : Below w.heap.size w w') (h : w.rangeAt b 0 (bl f)) : w'.rangeAt b 0 (bl f) := range_below hb h (World.block_lt_of_cell? w ⟨b, 0, none⟩ (range_cell h (by omega : 0 < 128)))
end Go.Proofs

namespace Go.Proofs
open Go.RowKit Go.Proofs.Hd
attribute [local go_sem] uv_nonneg eq4_self eq2_self
attribute [local go_sem high] run_eq2 run_eq4
theorem cless_no (a b : Cb) (w : World) (h : a.snd = false ∨ (a.snd = true ∧ b.snd = false)) : Calls Tryz.prog 68 #[.agg #[.int .u64 (uv a.vh), .int .u64 (uv a.vl), .int .u64 (uv a.ch), .int .u64 (uv a.cl)], .agg #[.int .u64 (uv b.vh), .int .u64 (uv b.vl), .int .u64 (uv b.ch), .int .u64 (uv b.cl)]] w fun e w' => e = .returned (.slice none 0 0) ∧ Below w.heap.size w w' := by
  rcases h with h | ⟨h1, h2⟩
  · exact less_no1 a b w h
  · exact less_no2 a b w h1 h2
theorem met_no {a b : Cb} (h : a.snd = false ∨ (a.snd = true ∧ b.snd = false)) : a.met b = false := by
  unfold Cb.met metB
  show (a.snd && (b.snd && a.agr b)) = false
  rcases h with h | ⟨h1, h2⟩
  · rw [h]; rfl
  · rw [h1, h2]; rfl
theorem wit_no {a b : Cb} (h : a.snd = false ∨ (a.snd = true ∧ b.snd = false)) : a.wit b = false := by
  cases e : a.wit b with
  | false => rfl
  | true =>
    have := (Cb.wit_iff a b).1 e
    rcases h with h | ⟨h1, h2⟩
    · rw [h] at this; cases this.1
    · rw [h2] at this; cases this.2.1
theorem rwithin_is (x : Bool) (s t : ByteArray) (a b : Cb) (w : World) (ha : a.snd = true) (hb : b.snd = true) (hs : txt a = s) (ht : txt b = t) (hx : a.wit b = x) :
    Calls Tryz.prog 45 #[.string s, .string t] w fun e w' => e = .returned (.bool x) ∧ Below w.heap.size w w' := by
  subst hx; exact rwithin_s s t a b w ha hb hs ht
theorem rmeet_t (s t r : ByteArray) (a b : Cb) (w : World) (ha : a.snd = true) (hb : b.snd = true) (hs : txt a = s) (ht : txt b = t) (hx : a.agr b = true) (hr : txt (a.join b) = r) :
    Calls Tryz.prog 44 #[.string s, .string t] w fun e w' => e = .returned (.tuple #[.string r, .bool true]) ∧ Below w.heap.size w w' :=
  rmeet_s s t a b w ha hb hs ht true r hx (Lib.hid fun _ => hr.symm) (Lib.hid fun h => by cases h)
theorem rmeet_f (s t : ByteArray) (a b : Cb) (w : World) (ha : a.snd = true) (hb : b.snd = true) (hs : txt a = s) (ht : txt b = t) (hx : a.agr b = false) :
    Calls Tryz.prog 44 #[.string s, .string t] w fun e w' => e = .returned (.tuple #[.string ⟨#[]⟩, .bool false]) ∧ Below w.heap.size w w' :=
  rmeet_s s t a b w ha hb hs ht false _ hx (Lib.hid fun h => by cases h) (Lib.hid fun _ => rfl)
theorem join_snd {a b : Cb} (ha : a.snd = true) (hb : b.snd = true) : (a.join b).snd = true := by
  rw [Cb.snd_iff] at *
  intro j hj h
  have jv : (a.join b).V j = (a.V j || b.V j) := by unfold Cb.V Cb.join; rw [hbit_or]
  have jk : (a.join b).K j = (a.K j || b.K j) := by unfold Cb.K Cb.join; rw [hbit_or]
  rw [jv] at h
  rw [jk]
  have h1 := ha j hj
  have h2 := hb j hj
  revert h h1 h2
  cases a.V j <;> cases b.V j <;> cases a.K j <;> cases b.K j <;> simp
end Go.Proofs

namespace Go.Proofs.Hd
open Go.RowKit
/-- The differences of each cube of L and g. -/
def offL (L : List Cb) (g : Cb) : List Cb := L.flatMap fun c => lessC c g
theorem offL_take {L : List Cb} {g : Cb} {k : Nat} {c : Cb} (h : L[k]? = some c) : offL (L.take (k + 1)) g = offL (L.take k) g ++ lessC c g := by
  obtain ⟨hk, rfl⟩ := List.getElem?_eq_some_iff.1 h
  unfold offL
  rw [List.take_succ_eq_append_getElem hk, List.flatMap_append]
  simp
theorem offL_len (L : List Cb) (g : Cb) : (offL L g).length ≤ L.length * 128 := by
  unfold offL
  induction L with
  | nil => simp
  | cons c L ih =>
    rw [List.flatMap_cons, List.length_append]
    have := lessC_le c g
    simp only [List.length_cons]
    omega
theorem offL_le (L : List Cb) (g : Cb) (k : Nat) : (offL (L.take k) g).length ≤ (offL L g).length := by
  have h : offL L g = offL (L.take k) g ++ offL (L.drop k) g := by unfold offL; rw [← List.flatMap_append, List.take_append_drop]
  rw [h, List.length_append]; omega
theorem offL_snd {L : List Cb} {g : Cb} (hL : ∀ c ∈ L, c.snd = true) : ∀ c ∈ offL L g, c.snd = true := by
  intro c hc
  unfold offL at hc
  obtain ⟨d, hd, hcd⟩ := List.mem_flatMap.1 hc
  exact ((Cb.wit_iff _ _).1 (lessC_wit (hL d hd) c hcd)).1
theorem flat_append (A B : List Cb) : flat (A ++ B) = flat A ++ flat B := by simp [flat]
end Go.Proofs.Hd
namespace Go.Proofs
open Go.RowKit Go.Proofs.Hd Go.Lib
attribute [local go_sem] uv_nonneg
set_option maxHeartbeats 1000000 in
set_option maxRecDepth 100000 in
theorem without_c (v : Value) (L : List Cb) (g : Cb) (w : World) (hl : L.length ≤ 4000) (hL : ∀ c ∈ L, c.snd = true) (hg : g.snd = true) (hv : Pl w v L) :
    Calls Tryz.prog 43 #[v, .agg #[.int .u64 (uv g.vh), .int .u64 (uv g.vl), .int .u64 (uv g.ch), .int .u64 (uv g.cl)]] w (Got w (offL L g)) := by
  obtain ⟨ic, hic, hcz0, hcz1, hcz2⟩ := info_parts infoCube
  obtain ⟨A, cap, rfl, _, hA⟩ := hv.form
  have hlz : (L.length : Int) ≤ 4000 := by omega
  have HA := Lib.hid hA
  have HL := Lib.hid hL
  have hb0 := below1 w (.cells #[.int .u64 (uv g.vh), .int .u64 (uv g.vl), .int .u64 (uv g.ch), .int .u64 (uv g.cl)] 47)
  have X0 : Blk (w.alloc (.cells #[.int .u64 (uv g.vh), .int .u64 (uv g.vl), .int .u64 (uv g.ch), .int .u64 (uv g.cl)] 47)) w.heap.size 47 g.arr := Blk.new w _ _
  have HX := Lib.hid X0
  have HB := Lib.hid hb0
  have hTot := offL_len L g
  clear hv hA hL X0 hb0
  go_enter Tryz.func43, Tryz.ntmps43
  go_wp2
  go_loopg [5, 10] L.length (fun gk s5 s10 wr => ∃ k : Nat, k ≤ L.length ∧ gk = L.length - k ∧ s10 = .int .i64 k ∧ Below w.heap.size w wr ∧ Blk wr w.heap.size 47 g.arr ∧ wr.ownsRow (w.heap.size + 1) 47 4 s5 (offL (L.take k) g).length (flat (offL (L.take k) g)))
  case atStart => exact ⟨0, Nat.zero_le _, rfl, rfl, HB.out, HX.out, by simp [offL, flat]; exact World.ownsRow_nil _ _ _ _⟩
  case round =>
    clear HX HB
    obtain ⟨k, hk, rfl, rfl, B, X, O⟩ := hrel
    by_cases hlt : k < L.length
    · have hltz : (k : Int) < (L.length : Int) := by omega
      obtain ⟨c, hc⟩ : ∃ c, L[k]? = some c := ⟨_, List.getElem?_eq_getElem hlt⟩
      obtain ⟨b, off, rfl, hb, hpc⟩ := HA.out (ne_nil_of hc)
      have hcs := HL.out c (List.mem_of_getElem? hc)
      obtain ⟨c0, c1, c2, c3⟩ := (hpc k c hc).on B
      have HT := Lib.hid (offL_take (g := g) hc)
      have hle1 := offL_le L g k
      have hle2 := offL_le L g (k + 1)
      have hle3 : (offL (L.take k) g).length + (lessC c g).length ≤ (offL L g).length := by rw [HT.out, List.length_append] at hle2; exact hle2
      have hb1 := below1 wr (.cells #[.int .u64 (uv c.vh), .int .u64 (uv c.vl), .int .u64 (uv c.ch), .int .u64 (uv c.cl)] 47)
      have N1 : Blk (wr.alloc (.cells #[.int .u64 (uv c.vh), .int .u64 (uv c.vl), .int .u64 (uv c.ch), .int .u64 (uv c.cl)] 47)) wr.heap.size 47 c.arr := Blk.new wr _ _
      have B1 := B.trans (hb1.mono B.size)
      have O1 := own_on O hb1
      have X1 := X.on hb1
      obtain ⟨x0, x1, x2, x3⟩ := Blk.four X1
      have hbase : w.heap.size + 1 ≤ wr.heap.size := X.lt
      clear hc hpc B O X hb1 hle1 hle2
      go_wp2_with fail
      (with_reducible refine (cless_q c g _ _ hcs hg rfl).mono ?_)
      rintro e w2 ⟨v2, rfl, O2, hb2⟩
      have B2 := B1.trans (hb2.mono B1.size)
      have O3 := own_on O1 hb2
      have X3 := X1.on hb2
      have S2 := (own_Pl O2).src
      have hz2 := hb2.size
      have hz3 : w.heap.size + 1 ≤ w2.heap.size := X3.lt
      clear B1 O1 X1 hb2 O2 N1
      go_wp2_with (at_builtin; refine wpList_app _ rfl (.tmp 14) (.tmp 17) 24 rfl (w.heap.size + 1) 47 ic _ 4 32 Tryz.underlying24 hic hcz0 hcz1 hcz2 rfl (by decide) _ _ _ rfl O3 _ (lessC c g).length (flat (lessC c g)) rfl S2 (by unfold maxLen; omega) (by omega) hz3 ?_)
      intro v4 w4 O4 hg4
      have B4 := B2.grown hg4 B2.size (fun j hj => by have := (O3.lt j hj).1; omega)
      have X4 := X3.grown hg4 (own_base O3 (by omega))
      clear B2 O3 X3 S2 hg4
      go_wp2
      go_roundg (L.length - (k + 1))
      case measure => omega
      case rel => exact ⟨k + 1, by omega, rfl, by go_num, B4, X4, by rw [HT.out, flat_append, List.length_append]; exact O4⟩
    · have hltz : ¬ (k : Int) < (L.length : Int) := by omega
      obtain rfl : k = L.length := by omega
      rw [List.take_length] at O
      go_wp2
      go_ret
      exact ⟨_, rfl, O.mono (by omega), B⟩
end Go.Proofs

namespace Go.Proofs.Hd
open Go.RowKit
/-- A list of cubes and no error were returned, in memory of the call's own. -/
def Got2 (w : World) (L : List Cb) (e : Ending) (w' : World) : Prop := ∃ v, e = .returned (.tuple #[v, .int .i64 0]) ∧ w'.ownsRow w.heap.size 47 4 v L.length (flat L) ∧ Below w.heap.size w w'
/-- No list and an error were returned. -/
def Err2 (w : World) (k : Int) (e : Ending) (w' : World) : Prop := e = .returned (.tuple #[.slice none 0 0, .int .i64 k]) ∧ Below w.heap.size w w'
/-- Either. -/
def Opt2 (w : World) (o : Option (List Cb)) (e : Ending) (w' : World) : Prop := (∀ R, o = some R → Got2 w R e w') ∧ (o = none → Err2 w 10 e w')
def capL (L : List Cb) : Option (List Cb) := if L.length ≤ 200 then some L else none
theorem Opt2.yes {w w' : World} {L : List Cb} {e : Ending} (hl : L.length ≤ 200) (h : Got2 w L e w') : Opt2 w (capL L) e w' := ⟨fun R hR => by unfold capL at hR; rw [if_pos hl] at hR; injection hR with hR; subst hR; exact h, fun hn => by unfold capL at hn; rw [if_pos hl] at hn; cases hn⟩
theorem Opt2.no {w w' : World} {L : List Cb} {e : Ending} (hl : 200 < L.length) (h : Err2 w 10 e w') : Opt2 w (capL L) e w' := ⟨(fun R hR => by unfold capL at hR; rw [if_neg (by omega)] at hR; cases hR), fun _ => h⟩
theorem sndL_len {L : List Cb} (h : sndL L = true) : L.length ≤ 200 := by
  unfold sndL at h
  simp only [Bool.and_eq_true, decide_eq_true_eq] at h
  exact h.1
theorem sndL_all {L : List Cb} (h : sndL L = true) : ∀ c ∈ L, c.snd = true := by
  unfold sndL at h
  simp only [Bool.and_eq_true, List.all_eq_true] at h
  exact h.2
theorem leanS_snd (L : List Cb) : ∀ c ∈ leanS L, c.snd = true := fun c hc => by
  obtain ⟨i, _, hs, _⟩ := leanS_mem.1 hc
  exact hs
/-- What is left of A when the cubes of B are taken off, one after another; none: too many. -/
def lessL (A : List Cb) : List Cb → Option (List Cb)
  | [] => some A
  | g :: B => if (leanS (offL A g)).length ≤ 200 then lessL (leanS (offL A g)) B else none
theorem lessL_drop {A B : List Cb} {g : Cb} {k : Nat} (h : B[k]? = some g) : lessL A (B.drop k) = if (leanS (offL A g)).length ≤ 200 then lessL (leanS (offL A g)) (B.drop (k + 1)) else none := by
  obtain ⟨hk, rfl⟩ := List.getElem?_eq_some_iff.1 h
  rw [List.drop_eq_getElem_cons hk, lessL]
/-- What the loop of pile.Less knows. -/
def LeftIs (A B : List Cb) (k : Nat) (cur : List Cb) : Prop := cur.length ≤ 200 ∧ (∀ c ∈ cur, c.snd = true) ∧ lessL A B = lessL cur (B.drop k)
end Go.Proofs.Hd
namespace Go.Proofs
open Go.RowKit Go.Proofs.Hd Go.Lib
attribute [local go_sem] uv_nonneg
section
variable (a b : Value) (A B : List Cb) (w : World) (ha : Pl w a A) (hb : Pl w b B)
include ha hb
theorem pless_bad (h : (sndL A && sndL B) = false) : Calls Tryz.prog 28 #[a, b] w (Err2 w 2) := by
  cases h1 : sndL A with
  | false =>
    have hcon := psound_c false a A w h1 ha
    clear h h1
    go_enter Tryz.func28, Tryz.ntmps28
    go_wp2_with (go_at_call 40; refine hcon.mono ?_; rintro e w' ⟨rfl, hb'⟩)
    go_ret2
    exact ⟨rfl, hb'⟩
  | true =>
    have h2 : sndL B = false := by rw [h1] at h; exact h
    have hcon := psound_c true a A w h1 ha
    have hcon2 := fun w1 (hb1 : Below w.heap.size w w1) => psound_c false b B w1 h2 (hb.on hb1)
    clear h h1 h2
    go_enter Tryz.func28, Tryz.ntmps28
    go_wp2_with fail
    refine hcon.mono ?_
    rintro e w1 ⟨rfl, hb1⟩
    have hcon3 := hcon2 w1 hb1
    clear hcon hcon2
    go_wp2_with fail
    refine hcon3.mono ?_
    rintro e w2 ⟨rfl, hb2⟩
    have B2 := hb1.trans (hb2.mono hb1.size)
    clear hcon3 hb1 hb2
    go_wp2
    go_ret2
    exact ⟨rfl, B2⟩
theorem pless_any (h1 : sndL A = true) (h2 : sndL B = true) : Calls Tryz.prog 28 #[a, b] w (Opt2 w (lessL A B)) := by
  have hcon := psound_c true a A w h1 ha
  have hcon2 := fun w1 (hb1 : Below w.heap.size w w1) => psound_c true b B w1 h2 (hb.on hb1)
  have hA := sndL_len h1
  have hB := sndL_len h2
  have HSA := Lib.hid (sndL_all h1)
  have HSB := Lib.hid (sndL_all h2)
  obtain ⟨A1, c1, rfl, _, _⟩ := ha.form
  obtain ⟨A2, c2, rfl, _, hF⟩ := hb.form
  have HA := Lib.hid ha
  have HB := Lib.hid hF
  have hBz : (B.length : Int) ≤ 200 := by omega
  clear ha hb h1 h2 hF
  go_enter Tryz.func28, Tryz.ntmps28
  go_wp2_with fail
  refine hcon.mono ?_
  rintro e w1 ⟨rfl, hb1⟩
  have hcon3 := hcon2 w1 hb1
  clear hcon hcon2
  go_wp2_with fail
  refine hcon3.mono ?_
  rintro e w2 ⟨rfl, hb2⟩
  have B2 := hb1.trans (hb2.mono hb1.size)
  have hcl := clone_c _ A w2 (by omega) (HA.out.on B2)
  clear hcon3 hb1 hb2
  go_wp2_with fail
  refine hcl.mono ?_
  rintro e w3 ⟨v3, rfl, O3, hb3⟩
  have B3 := B2.trans (hb3.mono B2.size)
  have HO : Hid (w3.ownsRow w.heap.size 47 4 v3 A.length (flat A)) := O3.mono B2.size
  have HB3 := Lib.hid B3
  clear hcl hb3 B2 O3 B3
  go_wp2
  go_loopg [6, 22] B.length (fun gk s6 s22 wr => ∃ k : Nat, k ≤ B.length ∧ gk = B.length - k ∧ s22 = .int .i64 k ∧ ∃ cur, Hid (LeftIs A B k cur) ∧ Below w.heap.size w wr ∧ wr.ownsRow w.heap.size 47 4 s6 cur.length (flat cur))
  case atStart => exact ⟨0, Nat.zero_le _, rfl, rfl, A, ⟨hA, HSA.out, rfl⟩, HB3.out, HO.out⟩
  case round =>
    clear HO HB3
    obtain ⟨k, hk, rfl, rfl, cur, HL, W, O⟩ := hrel
    by_cases hlt : k < B.length
    · have hltz : (k : Int) < (B.length : Int) := by omega
      obtain ⟨c, hc⟩ : ∃ c, B[k]? = some c := ⟨_, List.getElem?_eq_getElem hlt⟩
      obtain ⟨bb, off, rfl, hbb, hpc⟩ := HB.out (ne_nil_of hc)
      have hcs := HSB.out c (List.mem_of_getElem? hc)
      obtain ⟨c0, c1, c2, c3⟩ := (hpc k c hc).on W
      have HT := Lib.hid (lessL_drop (A := cur) hc)
      have hb1 := below1 wr (.cells #[.int .u64 (uv c.vh), .int .u64 (uv c.vl), .int .u64 (uv c.ch), .int .u64 (uv c.cl)] 47)
      have W1 := W.trans (hb1.mono W.size)
      have O1 := own_on O hb1
      have hwo := without_c _ cur c _ (by have := HL.out.1; omega) HL.out.2.1 hcs (own_Pl O1)
      clear hc hpc W O hb1
      go_wp2_with fail
      refine hwo.mono ?_
      rintro e w2 ⟨v2, rfl, O2, hb2⟩
      have W2 := W1.trans (hb2.mono W1.size)
      have hup := leanUp_c 200 v2 (offL cur c) w2 (by have := offL_len cur c; have := HL.out.1; omega) (by omega) (own_Pl O2)
      clear hwo W1 O1 hb2 O2 c0 c1 c2 c3
      go_wp2_with fail
      refine hup.mono ?_
      rintro e w3 ⟨hb3, h⟩
      have W3 := W2.trans (hb3.mono W2.size)
      have hz := W2.size
      clear hup W2 hb3
      rcases h with ⟨hle, s, rfl, O3⟩ | ⟨hgt, rfl⟩
      · have HN : Hid (LeftIs A B (k + 1) (leanS (offL cur c))) := ⟨hle, leanS_snd _, by rw [HL.out.2.2, HT.out, if_pos hle]⟩
        have O4 := O3.mono hz
        clear hle O3 HT HL
        go_wp2
        go_roundg (B.length - (k + 1))
        case measure => omega
        case rel => exact ⟨k + 1, by omega, rfl, by go_num, _, HN, W3, O4⟩
      · have HN : Hid (lessL A B = none) := by show _ = _; rw [HL.out.2.2, HT.out, if_neg (by omega)]
        clear hgt HT HL
        go_wp2
        go_ret2
        exact ⟨(fun R hR => by rw [HN.out] at hR; cases hR), fun _ => ⟨rfl, W3⟩⟩
    · have hltz : ¬ (k : Int) < (B.length : Int) := by omega
      obtain rfl : k = B.length := by omega
      have HN : Hid (lessL A B = some cur) := by show _ = _; rw [HL.out.2.2, List.drop_length, lessL]
      clear HL
      go_wp2
      go_ret2
      exact ⟨fun R hR => by rw [HN.out] at hR; injection hR with hR; subst hR; exact ⟨_, rfl, O, W⟩, fun hn => by rw [HN.out] at hn; cases hn⟩
end
end Go.Proofs
