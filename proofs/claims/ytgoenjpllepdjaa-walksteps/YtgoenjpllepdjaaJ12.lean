/-
  Contract: Has of the reference of layer 2 tells whether a header is in the cube of a text. Conditions: the text is that of a sound cube.
  Plain facts on rows of bytes in memory and on the signs of two cubes' intersection. No program in sight. No conditions.
  Contracts: Meet and Within of the reference of layer 2, on the texts of two sound cubes. Conditions: both texts are those of sound cubes.
  Contract: Cube of the reference of layer 2 returns the cube of a text. Conditions: the text is that of a sound cube.
  Contract: Set of the reference of layer 2: a header some bits of which are set. No conditions.
  Contract of the reference's Stamp of layer 8. Conditions as the theorem lists them.
  Contracts of walk.outlasts and walk.Run. Conditions as each theorem lists them.
  The configuration that the law's awake of layer 9 looks at; contract of the law's ring; what becomes of packets there. No conditions.
  Contract of the law's awake of layer 9: it returns true. No conditions.
  walk.Run by its two kinds of answers: an error, or a run. Conditions as each theorem lists them.
-/
import Derived.Test.YtgoenjpllepdjaaJ11
import Derived.Deep.QuietTactic
import Derived.BigQuiet
namespace Go.Proofs
open Go.RowKit Go.Proofs.Hd
attribute [local go_sem] uv_nonneg
theorem has_match (c : Cb) (h l : BitVec 64) (hs : c.snd = true) : c.has h l = true ↔ ∀ j, j < 128 → c.K j = true → hbit h l j = c.V j := by
  rw [Cb.has_iff]
  rw [Cb.snd_iff] at hs
  constructor
  · intro H j hj hk
    have := H j hj
    rw [hk, Bool.and_true] at this
    exact this
  · intro H j hj
    cases hk : c.K j with
    | true => rw [H j hj hk, Bool.and_true]
    | false =>
      cases hv : c.V j with
      | false => simp
      | true => rw [hs j hj hv] at hk; cases hk
/-- Sign k of a text. -/
theorem sign_x {c : Cb} {s : ByteArray} (hs : txt c = s) (k m : Nat) (hm : m + k = 127) (hk : k < s.size) (h : c.K m = false) : ((s[k]'hk).toNat : Int) = 120 := by
  subst hs; rw [txt_get, show 127 - k = m by omega]; unfold sgn; rw [h]; rfl
theorem sign_1 {c : Cb} {s : ByteArray} (hs : txt c = s) (k m : Nat) (hm : m + k = 127) (hk : k < s.size) (h : c.K m = true) (hv : c.V m = true) : ((s[k]'hk).toNat : Int) = 49 := by
  subst hs; rw [txt_get, show 127 - k = m by omega]; unfold sgn; rw [h, hv]; rfl
theorem sign_0 {c : Cb} {s : ByteArray} (hs : txt c = s) (k m : Nat) (hm : m + k = 127) (hk : k < s.size) (h : c.K m = true) (hv : c.V m = false) : ((s[k]'hk).toNat : Int) = 48 := by
  subst hs; rw [txt_get, show 127 - k = m by omega]; unfold sgn; rw [h, hv]; rfl
theorem has_fails {c : Cb} {h l : BitVec 64} {j : Nat} (hs : c.snd = true) (hj : j < 128) (hk : c.K j = true) (hne : ¬ hbit h l j = c.V j) : c.has h l = false := by
  cases e : c.has h l with
  | false => rfl
  | true => exact absurd ((has_match c h l hs).1 e j hj hk) hne
theorem step_ok {P : Nat → Prop} {k m : Nat} (hm : m + k = 127) (h : ∀ j, j < 128 → 128 ≤ j + k → P j) (hp : P m) : ∀ j, j < 128 → 128 ≤ j + (k + 1) → P j := fun j hj hk => by
  by_cases e : j = m
  · subst e; exact hp
  · exact h j hj (by omega)
theorem text_len {c : Cb} {s : ByteArray} (hs : txt c = s) : s.size = 128 := by subst hs; exact txt_size c

set_option maxRecDepth 100000 in
set_option maxHeartbeats 4000000 in
set_option maxRecDepth 100000 in
theorem rhas_s (s : ByteArray) (c : Cb) (hh hl : BitVec 64) (w : World) (hc : c.snd = true) (hs : txt c = s) :
    Calls Try.prog 20 #[.string s, .agg #[.int .u64 (uv hh), .int .u64 (uv hl)]] w fun e w' => e = .returned (.bool (c.has hh hl)) ∧ Below w.heap.size w w' := by
  have hz := zero25
  have l1 : s.size ≤ 128 := by rw [text_len hs]; omega
  have l2 : 128 ≤ s.size := by rw [text_len hs]; omega
  have HS := Lib.hid hs
  have HC := Lib.hid hc
  clear hs hc
  obtain ⟨x, hx⟩ : ∃ x, c.has hh hl = x := ⟨_, rfl⟩
  rw [hx]
  have HX := Lib.hid hx
  clear hx
  have b0 := below1 w (.cells #[.int .u64 (uv hh), .int .u64 (uv hl)] 25)
  go_enter Try.func20, Try.ntmps20
  go_wp2_with fail
  (with_reducible refine (bits_c _ _ _).mono ?_)
  rintro e w1 ⟨rfl, hb1⟩
  have B1 := b0.trans (hb1.mono b0.size)
  clear hb1 b0
  go_wp2_with (refine put_new rfl _ _ rfl (fun _ => false) (hbit hh hl) _ (by simp) rfl rfl ?_)
  go_loopg [6] 128 (fun g i wr => ∃ k : Nat, k ≤ 128 ∧ g = 128 - k ∧ i = .int .i64 k ∧ (∀ j, j < 128 → 128 ≤ j + k → c.K j = true → hbit hh hl j = c.V j) ∧ wr = w1.alloc (.cells (bl (hbit hh hl)).toArray 74))
  case atStart => exact ⟨0, by omega, rfl, rfl, fun j hj h => by omega, rfl⟩
  case round =>
    obtain ⟨k, hk, rfl, rfl, hok, rfl⟩ := hrel
    have HOK := Lib.hid hok
    clear hok
    by_cases hlt : k < 128
    · have hlt' : (k : Int) < 128 := by omega
      have hks : k < s.size := by omega
      have hks' : (k : Int) < (s.size : Int) := by omega
      obtain ⟨m, hm⟩ : ∃ m, m + k = 127 := ⟨127 - k, by omega⟩
      have hi : (127 : Int) - (k : Int) = (m : Int) := by omega
      have hm1 : m < 128 := by omega
      have hm2 : (m : Int) < 128 := by omega
      have hg := bl_get (hbit hh hl) m hm1
      have HM := Lib.hid hm
      clear hm
      cases hK : c.K m
      · have sg := sign_x HS.out k m HM.out hks hK
        have HK := Lib.hid hK
        clear hK hg
        go_wp2
        go_roundg (128 - (k + 1))
        case measure => omega
        case rel => exact ⟨k + 1, by omega, rfl, by go_num, step_ok HM.out HOK.out (fun h => by rw [HK.out] at h; cases h), rfl⟩
      · cases hV : c.V m <;> cases hB : hbit hh hl m
        · have sg := sign_0 HS.out k m HM.out hks hK hV
          rw [hB] at hg
          have HV := Lib.hid (hB.trans hV.symm)
          clear hK hV hB
          go_wp2
          go_roundg (128 - (k + 1))
          case measure => omega
          case rel => exact ⟨k + 1, by omega, rfl, by go_num, step_ok HM.out HOK.out (fun _ => HV.out), rfl⟩
        · have sg := sign_0 HS.out k m HM.out hks hK hV
          rw [hB] at hg
          have HF : c.has hh hl = false := has_fails HC.out hm1 hK (by rw [hB, hV]; simp)
          have e := HX.out
          rw [HF] at e
          subst e
          clear hK hV hB HF
          go_wp2
          go_ret
          exact ⟨rfl, B1.alloc B1.size _⟩
        · have sg := sign_1 HS.out k m HM.out hks hK hV
          rw [hB] at hg
          have HF : c.has hh hl = false := has_fails HC.out hm1 hK (by rw [hB, hV]; simp)
          have e := HX.out
          rw [HF] at e
          subst e
          clear hK hV hB HF
          go_wp2
          go_ret
          exact ⟨rfl, B1.alloc B1.size _⟩
        · have sg := sign_1 HS.out k m HM.out hks hK hV
          rw [hB] at hg
          have HV := Lib.hid (hB.trans hV.symm)
          clear hK hV hB
          go_wp2
          go_roundg (128 - (k + 1))
          case measure => omega
          case rel => exact ⟨k + 1, by omega, rfl, by go_num, step_ok HM.out HOK.out (fun _ => HV.out), rfl⟩
    · obtain rfl : k = 128 := by omega
      have HT : c.has hh hl = true := (has_match c hh hl HC.out).2 (fun j hj => HOK.out j hj (by omega))
      have e := HX.out
      rw [HT] at e
      subst e
      clear HT
      go_wp2
      go_ret
      exact ⟨rfl, B1.alloc B1.size _⟩
end Go.Proofs

namespace Go.Proofs.Hd
open Go.RowKit
end Go.Proofs.Hd

namespace Go.Proofs
open Go.RowKit Go.Proofs.Hd
attribute [local go_sem] uv_nonneg
end Go.Proofs

namespace Go.Proofs
open Go.RowKit Go.Proofs.Hd
attribute [local go_sem] uv_nonneg
theorem rhead_is (f : Nat → Bool) (h l : BitVec 64) (w : World) (hn : num f 64 64 = h ∧ num f 0 64 = l) : Calls Try.prog 23 #[.agg (bl f).toArray] w fun e w' => e = .returned (.agg #[.int .u64 (uv h), .int .u64 (uv l)]) ∧ Below w.heap.size w w' := by
  obtain ⟨rfl, rfl⟩ := hn; exact refhead_c f w
end Go.Proofs

namespace Go.Proofs
open Go.RowKit Go.Proofs.Hd
attribute [local go_sem] uv_nonneg
def setB (hh hl svh svl sch scl : BitVec 64) : Nat → Bool := fun j => if hbit sch scl j = true then hbit svh svl j else hbit hh hl j
theorem setB_num (hh hl svh svl sch scl : BitVec 64) : num (setB hh hl svh svl sch scl) 64 64 = ((hh &&& ~~~sch) ||| (svh &&& sch)) ∧ num (setB hh hl svh svl sch scl) 0 64 = ((hl &&& ~~~scl) ||| (svl &&& scl)) :=
  num_of_bits fun j hj => by
    rw [hbit_or, hbit_andNot _ _ _ _ _ hj, hbit_and]
    unfold setB
    cases hbit sch scl j <;> cases hbit svh svl j <;> cases hbit hh hl j <;> rfl
theorem mix_stay (f g : Nat → Bool) (k : Nat) (h : g k = f k) : bl (mix f g k) = bl (mix f g (k + 1)) := bl_congr fun j _ => by
  unfold mix
  by_cases e : j = k
  · subst e; rw [if_neg (by omega), if_pos (by omega), h]
  · by_cases c : j < k
    · rw [if_pos c, if_pos (by omega)]
    · rw [if_neg c, if_neg (by omega)]
theorem z2far {w : World} {r : Nat} {p : Addr} {v : Value} (h : Zero2 w r) (hp : p.block ≠ r) : Zero2 (w.setCell p v) r := fun i hi =>
  ⟨(World.cell?_setCell_far w p ⟨r, i, none⟩ v hp).trans (h i hi).1, by rw [World.frozen?_setCell]; exact (h i hi).2⟩

set_option maxRecDepth 100000 in
set_option maxHeartbeats 4000000 in
theorem rset_c (hh hl svh svl sch scl : BitVec 64) (w : World) : Calls Try.prog 11 #[.agg #[.int .u64 (uv hh), .int .u64 (uv hl)], .agg #[.int .u64 (uv svh), .int .u64 (uv svl), .int .u64 (uv sch), .int .u64 (uv scl)]] w fun e w' => e = .returned (.agg #[.int .u64 (uv ((hh &&& ~~~sch) ||| (svh &&& sch))), .int .u64 (uv ((hl &&& ~~~scl) ||| (svl &&& scl)))]) ∧ Below w.heap.size w w' := by
  have S0 := below3 w (.cells #[.int .u64 (uv hh), .int .u64 (uv hl)] 25) (.cells #[.int .u64 (uv svh), .int .u64 (uv svl), .int .u64 (uv sch), .int .u64 (uv scl)] 34) (.cells #[.int .u64 0, .int .u64 0] 25)
  have Z0 := zero2_at ((w.alloc (.cells #[.int .u64 (uv hh), .int .u64 (uv hl)] 25)).alloc (.cells #[.int .u64 (uv svh), .int .u64 (uv svl), .int .u64 (uv sch), .int .u64 (uv scl)] 34)) (w.heap.size + 1 + 1) (by simp)
  go_enter Try.func11, Try.ntmps11
  go_upto_region 1 with (fail)
  refine set_region hh hl svh svl sch scl w _ _ ?_ ?_ ⟨S0, by go_simp, by go_simp, by go_simp, by go_simp, by go_simp, by go_simp⟩ Z0
  · intro c a d v w h; exact h
  intro b8 b9 b10 u BW ZW R8 R9 R10 g8 n1 n2 n3
  clear S0 Z0
  go_wp2_with fail
  go_loopg [8] 128 (fun g i wr => ∃ k : Nat, k ≤ 128 ∧ g = 128 - k ∧ i = .int .i64 k ∧ Below w.heap.size w wr ∧ Zero2 wr (w.heap.size + 1 + 1) ∧ Row wr b8 (mix (hbit hh hl) (setB hh hl svh svl sch scl) k) ∧ Row wr b9 (hbit svh svl) ∧ Row wr b10 (hbit sch scl))
  case atStart => exact ⟨0, by omega, rfl, rfl, BW, ZW, by rw [mix_zero]; exact R8, R9, R10⟩
  case round =>
    clear BW ZW R8 R9 R10
    obtain ⟨k, hk, rfl, rfl, BW, ZW, R8, R9, R10⟩ := hrel
    by_cases hlt : k < 128
    · have hlt' : (k : Int) < 128 := by omega
      have c8 := R8.cell hlt
      have f8 := R8.froz hlt
      have c9 := R9.cell hlt
      have c10 := R10.cell hlt
      cases hK : hbit sch scl k
      · have HN : Hid (setB hh hl svh svl sch scl k = hbit hh hl k) := Lib.hid (by unfold setB; rw [hK]; rfl)
        rw [hK] at c10
        clear hK
        go_wp2
        go_roundg (128 - (k + 1))
        case measure => omega
        case rel => exact ⟨k + 1, by omega, rfl, by go_num, BW, ZW, R8.congr (mix_stay _ _ k HN.out), R9, R10⟩
      · have HN : Hid (hbit svh svl k = setB hh hl svh svl sch scl k) := Lib.hid (by unfold setB; rw [hK]; rfl)
        rw [hK] at c10
        clear hK
        go_wp2
        go_roundg (128 - (k + 1))
        case measure => omega
        case rel => exact ⟨k + 1, by omega, rfl, by go_num, BW.setCell (by dsimp only; omega) _, z2far ZW (by dsimp only; omega), R8.set hlt (mix_set _ _ k _ HN.out), R9.far (by dsimp only; omega), R10.far (by dsimp only; omega)⟩
    · obtain rfl : k = 128 := by omega
      have RX := R8.congr (mix_all _ _)
      have hi1 : (Try.prog.info? 74).map (·.size) = some (bl (setB hh hl svh svl sch scl)).length := by rw [(zero_of_info info25).2, bl_len]
      have hN := Lib.hid (setB_num hh hl svh svl sch scl)
      clear R8 R9 R10
      go_wp2_with (refine wpList_load_mid rfl 74 (.tmp 5) rfl b8 0 rfl (bl (setB hh hl svh svl sch scl)) _ RX.1 Try.underlying74 rfl hi1 ?_)
      (with_reducible refine (rhead_is (setB hh hl svh svl sch scl) _ _ _ hN.out).mono ?_)
      rintro e w1 ⟨rfl, hb⟩
      have BE := BW.trans (hb.mono BW.size)
      have Y := (Zero2.on hb ZW).out
      clear hb RX BW ZW hi1
      go_wp2
      exact bodyPost_ret (v := .agg #[.int .u64 (uv ((hh &&& ~~~sch) ||| (svh &&& sch))), .int .u64 (uv ((hl &&& ~~~scl) ||| (svl &&& scl)))]) (by simp [results, Try.results11, go_sem, Y]) rfl ⟨rfl, BE.trans ((sets2 _ _ _ _).mono (by omega))⟩
end Go.Proofs

namespace Go.Proofs.Hd
open Go.RowKit
/-- g from a below k, f elsewhere. -/
def ov (f g : Nat → Bool) (a k : Nat) : Nat → Bool := fun j => if a ≤ j ∧ j < k then g j else f j
theorem ov_start (f g : Nat → Bool) (a : Nat) : ov f g a a = f := by funext j; unfold ov; rw [if_neg (by omega)]
theorem ov_set (f g : Nat → Bool) (a k : Nat) (b : Bool) (ha : a ≤ k) (h : b = g k) : (bl (ov f g a k)).set k (.bool b) = bl (ov f g a (k + 1)) := by
  subst h
  rw [bl_set]
  apply bl_congr
  intro j _
  unfold ov
  by_cases e : j = k
  · subst e; simp [ha]
  · rw [if_neg e]
    have : (j < k + 1) ↔ (j < k) := by omega
    simp [this]
/-- The bits of a header that was stamped. -/
def sF (hh hl : BitVec 64) (n m : Nat) : Nat → Bool := fun j => if j < 88 then hbit hh hl j else Go.Proofs.stF n m j
theorem sF_all (hh hl : BitVec 64) (n m : Nat) : bl (ov (ov (ov (hbit hh hl) (fun _ => false) 88 128) (fun j => (n + 1).testBit (j - 88)) 88 112) (fun j => m.testBit (j - 112)) 112 120) = bl (sF hh hl n m) := bl_congr fun j hj => by
  unfold ov sF Go.Proofs.stF
  by_cases h1 : j < 88
  · rw [if_pos h1, if_neg (by omega), if_neg (by omega), if_neg (by omega)]
  · rw [if_neg h1]
    by_cases h2 : j < 112
    · rw [if_pos h2, if_neg (by omega), if_pos (by omega)]
    · rw [if_neg h2]
      by_cases h3 : j < 120
      · rw [if_pos h3, if_pos (by omega)]
      · rw [if_neg h3, if_neg (by omega), if_neg (by omega), if_pos (by omega)]
theorem odd_bit (N i q : Nat) (hq : q = N / 2 ^ i) : ((q : Int) % 2 == 1) = N.testBit i := by
  have e : (q : Int) % 2 = ((q % 2 : Nat) : Int) := rfl
  rw [e, Nat.testBit_eq_decide_div_mod_eq, hq]
  by_cases h : N / 2 ^ i % 2 = 1
  · simp [h]
  · have h2 : N / 2 ^ i % 2 = 0 := by omega
    simp [h2]
theorem half (N i q : Nat) (hq : q = N / 2 ^ i) : q / 2 = N / 2 ^ (i + 1) := by rw [hq, Nat.div_div_eq_div_mul, Nat.pow_succ]
/-- What Set makes of a stamp is what Stamp makes. -/
theorem set_stamp {n m : Nat} {vh vl ch cl : BitVec 64} (h : Go.Proofs.StB n m 3 vh vl ch cl) (hh hl : BitVec 64) : num (sF hh hl n m) 64 64 = ((hh &&& ~~~ch) ||| (vh &&& ch)) ∧ num (sF hh hl n m) 0 64 = ((hl &&& ~~~cl) ||| (vl &&& cl)) := by
  refine num_of_bits fun j hj => ?_
  rw [hbit_or, hbit_andNot _ _ _ _ _ hj, hbit_and, (h j hj).1, (h j hj).2]
  have e : Go.Proofs.stE 3 = 128 := rfl
  rw [e]
  unfold sF
  by_cases h1 : j < 88
  · have h2 : ¬ 88 ≤ j := by omega
    simp [h1, h2]
  · have h2 : 88 ≤ j := by omega
    simp [h1, h2, hj]
end Go.Proofs.Hd
namespace Go.Proofs
open Go.RowKit Go.Proofs.Hd Go.Lib
attribute [local go_sem] uv_nonneg
set_option maxRecDepth 100000 in
set_option maxHeartbeats 4000000 in
theorem rstamp_c (hh hl : BitVec 64) (n m : Nat) (hn : n ≤ 3) (hm : m ≤ 255) (w : World) : Calls Try.prog 31 #[.agg #[.int .u64 (uv hh), .int .u64 (uv hl)], .int .i64 (n : Int), .int .i64 (m : Int)] w fun e w' => e = .returned (.agg #[.int .u64 (uv (num (sF hh hl n m) 64 64)), .int .u64 (uv (num (sF hh hl n m) 0 64))]) ∧ Below w.heap.size w w' := by
  have hnz : (n : Int) ≤ 3 := by omega
  have hmz : (m : Int) ≤ 255 := by omega
  have B0 := Lib.hid (below2 w (.cells #[.int .u64 (uv hh), .int .u64 (uv hl)] 25) (.cells #[.int .u64 0, .int .u64 0] 25))
  have Z0 := zero2_at (w.alloc (.cells #[.int .u64 (uv hh), .int .u64 (uv hl)] 25)) (w.heap.size + 1) (by simp)
  have hz := zero25
  have hbd := build25
  go_enter Try.func31, Try.ntmps31
  go_wp2_with fail
  (with_reducible refine (bits_c hh hl _).mono ?_)
  rintro e w1 ⟨rfl, hb1⟩
  have B1 := Lib.hid (B0.out.trans (hb1.mono B0.out.size))
  have Z1 := Lib.hid (Zero2.on hb1 Z0)
  have hzl : w.heap.size + 1 < w1.heap.size := World.block_lt_of_cell? w1 ⟨w.heap.size + 1, 0, none⟩ (Z1.out 0 (by omega)).1
  clear hb1 B0 Z0
  go_wp2_with (refine put_new rfl _ _ rfl (fun _ => false) (hbit hh hl) _ rfl rfl rfl ?_)
  have bR := below1 w1 (.cells (bl (hbit hh hl)).toArray 74)
  have hR : Row (w1.alloc (.cells (bl (hbit hh hl)).toArray 74)) w1.heap.size (hbit hh hl) := ⟨range_of_alloc w1 _ _, there_of_alloc w1 _ _⟩
  have HB := Lib.hid (B1.out.trans (bR.mono B1.out.size))
  have HZ := Lib.hid (Zero2.on bR Z1.out)
  have HR : Hid (Row (w1.alloc (.cells (bl (hbit hh hl)).toArray 74)) w1.heap.size (ov (hbit hh hl) (fun _ => false) 88 88)) := by show Row _ _ _; rw [ov_start]; exact hR
  clear bR hR hz hbd
  generalize w1.alloc (.cells (bl (hbit hh hl)).toArray 74) = w2 at HB HZ HR ⊢
  go_wp2
  go_loopg [10] 40 (fun gk s10 wr => ∃ k : Nat, 88 ≤ k ∧ k ≤ 128 ∧ gk = 128 - k ∧ s10 = .int .i64 k ∧ Hid (Row wr w1.heap.size (ov (hbit hh hl) (fun _ => false) 88 k)) ∧ Hid (Zero2 wr (w.heap.size + 1)) ∧ Hid (Below w.heap.size w wr))
  case atStart => exact ⟨88, Nat.le_refl _, by omega, rfl, rfl, HR, HZ, HB⟩
  case round =>
    clear HR HZ HB
    obtain ⟨k, hk1, hk2, rfl, rfl, HR, HZ, HB⟩ := hrel
    by_cases hlt : k < 128
    · have hlt' : (k : Int) < 128 := by omega
      have c7 := HR.out.cell hlt
      have f7 := HR.out.froz hlt
      have HR2 := Lib.hid (HR.out.set hlt (ov_set (hbit hh hl) (fun _ => false) 88 k false hk1 rfl))
      have HZ2 := Lib.hid (z2far (p := ⟨w1.heap.size, k, none⟩) (v := .bool false) HZ.out (by dsimp only; omega))
      have HB2 := Lib.hid (HB.out.setCell (p := ⟨w1.heap.size, k, none⟩) (by dsimp only; omega) (.bool false))
      clear HR HZ HB
      go_wp2
      go_roundg (128 - (k + 1))
      case measure => omega
      case rel => exact ⟨k + 1, by omega, by omega, rfl, by go_num, HR2, HZ2, HB2⟩
    · obtain rfl : k = 128 := by omega
      have HR1 : Hid (Row wr w1.heap.size (ov (ov (hbit hh hl) (fun _ => false) 88 128) (fun j => (n + 1).testBit (j - 88)) 88 88)) := by show Row _ _ _; rw [ov_start]; exact HR.out
      clear HR
      go_wp2
      go_loopg [8, 11] 24 (fun gk s8 s11 wr => ∃ (k q : Nat), 88 ≤ k ∧ k ≤ 112 ∧ gk = 112 - k ∧ s8 = .int .i64 (q : Int) ∧ s11 = .int .i64 k ∧ q ≤ 4 ∧ Hid (q = (n + 1) / 2 ^ (k - 88)) ∧ Hid (Row wr w1.heap.size (ov (ov (hbit hh hl) (fun _ => false) 88 128) (fun j => (n + 1).testBit (j - 88)) 88 k)) ∧ Hid (Zero2 wr (w.heap.size + 1)) ∧ Hid (Below w.heap.size w wr))
      case atStart => exact ⟨88, n + 1, Nat.le_refl _, by omega, rfl, rfl, rfl, by omega, (by show n + 1 = (n + 1) / 2 ^ (88 - 88); simp), HR1, HZ, HB⟩
      case round =>
        clear HR1 HZ HB
        rename_i wr0
        obtain ⟨k, q, hk1, hk2, rfl, rfl, rfl, hq4, HQ, HR, HZ, HB⟩ := hrel
        by_cases hlt : k < 112
        · have hlt' : (k : Int) < 112 := by omega
          have hlt2 : (k : Int) < 128 := by omega
          have hq4z : (q : Int) ≤ 4 := by omega
          have hk128 : k < 128 := by omega
          have c7 := HR.out.cell hk128
          have f7 := HR.out.froz hk128
          obtain ⟨b, hb⟩ : ∃ b, ((q : Int) % 2 == 1) = b := ⟨_, rfl⟩
          have hbk : b = (fun j => (n + 1).testBit (j - 88)) k := by rw [← hb]; exact odd_bit (n + 1) (k - 88) q HQ.out
          have HR2 := Lib.hid (HR.out.set hk128 (ov_set (ov (hbit hh hl) (fun _ => false) 88 128) (fun j => (n + 1).testBit (j - 88)) 88 k b hk1 hbk))
          have HZ2 := Lib.hid (z2far (p := ⟨w1.heap.size, k, none⟩) (v := .bool b) HZ.out (by dsimp only; omega))
          have HB2 := Lib.hid (HB.out.setCell (p := ⟨w1.heap.size, k, none⟩) (by dsimp only; omega) (.bool b))
          obtain ⟨q2, hq2⟩ : ∃ q2 : Nat, q2 = q / 2 := ⟨_, rfl⟩
          have hd : (q : Int).tdiv 2 = (q2 : Int) := by rw [hq2]; rfl
          have HQ2 : Hid (q2 = (n + 1) / 2 ^ (k + 1 - 88)) := by show _ = _; rw [hq2, show k + 1 - 88 = k - 88 + 1 by omega]; exact half (n + 1) (k - 88) q HQ.out
          have hq24 : q2 ≤ 4 := by omega
          have hq24z : (q2 : Int) ≤ 4 := by omega
          clear HR HZ HB hbk hq2 HQ
          go_wp2
          go_roundg (112 - (k + 1))
          case measure => omega
          case rel => exact ⟨k + 1, q2, by omega, by omega, rfl, rfl, by go_num, hq24, HQ2, HR2, HZ2, HB2⟩
        · obtain rfl : k = 112 := by omega
          have HR1 : Hid (Row wr w1.heap.size (ov (ov (ov (hbit hh hl) (fun _ => false) 88 128) (fun j => (n + 1).testBit (j - 88)) 88 112) (fun j => m.testBit (j - 112)) 112 112)) := by show Row _ _ _; rw [ov_start]; exact HR.out
          clear HR HQ
          go_wp2
          go_loopg [9, 12] 8 (fun gk s9 s12 wr => ∃ (k q : Nat), 112 ≤ k ∧ k ≤ 120 ∧ gk = 120 - k ∧ s9 = .int .i64 (q : Int) ∧ s12 = .int .i64 k ∧ q ≤ 255 ∧ Hid (q = m / 2 ^ (k - 112)) ∧ Hid (Row wr w1.heap.size (ov (ov (ov (hbit hh hl) (fun _ => false) 88 128) (fun j => (n + 1).testBit (j - 88)) 88 112) (fun j => m.testBit (j - 112)) 112 k)) ∧ Hid (Zero2 wr (w.heap.size + 1)) ∧ Hid (Below w.heap.size w wr))
          case atStart => exact ⟨112, m, Nat.le_refl _, by omega, rfl, rfl, rfl, by omega, (by show m = m / 2 ^ (112 - 112); simp), HR1, HZ, HB⟩
          case round =>
            clear HR1 HZ HB
            rename_i wr1
            obtain ⟨k, q, hk1, hk2, rfl, rfl, rfl, hq4, HQ, HR, HZ, HB⟩ := hrel
            by_cases hlt : k < 120
            · have hlt' : (k : Int) < 120 := by omega
              have hlt2 : (k : Int) < 128 := by omega
              have hq4z : (q : Int) ≤ 255 := by omega
              have hk128 : k < 128 := by omega
              have c7 := HR.out.cell hk128
              have f7 := HR.out.froz hk128
              obtain ⟨b, hb⟩ : ∃ b, ((q : Int) % 2 == 1) = b := ⟨_, rfl⟩
              have hbk : b = (fun j => m.testBit (j - 112)) k := by rw [← hb]; exact odd_bit m (k - 112) q HQ.out
              have HR2 := Lib.hid (HR.out.set hk128 (ov_set (ov (ov (hbit hh hl) (fun _ => false) 88 128) (fun j => (n + 1).testBit (j - 88)) 88 112) (fun j => m.testBit (j - 112)) 112 k b hk1 hbk))
              have HZ2 := Lib.hid (z2far (p := ⟨w1.heap.size, k, none⟩) (v := .bool b) HZ.out (by dsimp only; omega))
              have HB2 := Lib.hid (HB.out.setCell (p := ⟨w1.heap.size, k, none⟩) (by dsimp only; omega) (.bool b))
              obtain ⟨q2, hq2⟩ : ∃ q2 : Nat, q2 = q / 2 := ⟨_, rfl⟩
              have hd : (q : Int).tdiv 2 = (q2 : Int) := by rw [hq2]; rfl
              have HQ2 : Hid (q2 = m / 2 ^ (k + 1 - 112)) := by show _ = _; rw [hq2, show k + 1 - 112 = k - 112 + 1 by omega]; exact half m (k - 112) q HQ.out
              have hq24 : q2 ≤ 255 := by omega
              have hq24z : (q2 : Int) ≤ 255 := by omega
              clear HR HZ HB hbk hq2 HQ
              go_wp2
              go_roundg (120 - (k + 1))
              case measure => omega
              case rel => exact ⟨k + 1, q2, by omega, by omega, rfl, rfl, by go_num, hq24, HQ2, HR2, HZ2, HB2⟩
            · obtain rfl : k = 120 := by omega
              have RX := HR.out.congr (sF_all hh hl n m)
              have hi1 : (Try.prog.info? 74).map (·.size) = some (bl (sF hh hl n m)).length := by rw [(zero_of_info info25).2, bl_len]
              clear HR HQ
              go_wp2_with (refine wpList_load_mid rfl 74 (.tmp 7) rfl w1.heap.size 0 rfl (bl (sF hh hl n m)) _ RX.1 Try.underlying74 rfl hi1 ?_)
              (with_reducible refine (refhead_c (sF hh hl n m) _).mono ?_)
              rintro e w5 ⟨rfl, hb⟩
              have BE := Lib.hid (HB.out.trans (hb.mono HB.out.size))
              have Y := (Zero2.on hb HZ.out).out
              clear hb RX HZ HB hi1
              go_wp2
              exact bodyPost_ret (v := .agg #[.int .u64 (uv (num (sF hh hl n m) 64 64)), .int .u64 (uv (num (sF hh hl n m) 0 64))]) (by simp [results, Try.results31, go_sem, Y]) rfl ⟨rfl, BE.out.trans ((sets2 _ _ _ _).mono (by omega))⟩
end Go.Proofs

namespace Go.Proofs.Hd
open Go.RowKit
/-- Where a packet of a sound configuration comes in, there is a table. -/
theorem edge_sta {T : List (List Pt)} {ten : Int} {P : List (Int × Int)} {Q : List Wa} {BB : List (List (List Rl))} (h : cfgT T ten P Q BB = 0) {a b : Int} (he : ¬ edgT T a b < 0) : ∃ (i : Nat) (L : List Pt) (R : List Rl), a = (i : Int) ∧ StA T BB i 0 L R := by
  obtain ⟨-, -, h3, h4⟩ := cfg_parts h
  cases hp : ptAt T a b with
  | none => rw [edgT_none hp] at he; exact absurd (by decide) he
  | some p =>
    obtain ⟨n, i, L, rfl, -, hL, -⟩ := ptAt_some hp
    have hn := (List.getElem?_eq_some_iff.1 hL).1
    have hB : BB[n]? = some BB[n] := List.getElem?_eq_getElem (by omega)
    obtain ⟨hb1, -, -⟩ := sT_zero (firT_zero h4 hB hL)
    exact ⟨n, L, BB[n][0], rfl, hL, BB[n], hB, List.getElem?_eq_getElem (by omega)⟩
theorem sta_x {T : List (List Pt)} {BB : List (List (List Rl))} {n t : Nat} {L : List Pt} {R : List Rl} (h : StA T BB n t L R) : ∃ X, X ∈ BB ∧ R ∈ X := by
  obtain ⟨-, B, hB, hR⟩ := h
  exact ⟨B, List.mem_of_getElem? hB, List.mem_of_getElem? hR⟩
theorem own_sets4 {w : World} {g base : Nat} {t e : TypeId} {size n : Nat} {v : Value} {xs : List Value} {cs : Array Value} (hx : Blk w g t cs) (ho : w.ownsRow base e size v n xs) (hne : e ≠ t) (a0 a1 a2 a3 : Value) : ((((w.setCell ⟨g, 0, none⟩ a0).setCell ⟨g, 1, none⟩ a1).setCell ⟨g, 2, none⟩ a2).setCell ⟨g, 3, none⟩ a3).ownsRow base e size v n xs := by
  have hv : v.ownBlock ≠ some g := fun h => own_apart ho hx hne h.symm
  exact ownsRow_setCell_other (ownsRow_setCell_other (ownsRow_setCell_other (ownsRow_setCell_other ho hv a0) hv a1) hv a2) hv a3
/-- What Run answers. -/
inductive RunR (T : List (List Pt)) (z a b ver : Int) (hh hl : BitVec 64) (BB : List (List (List Rl))) (K base : Nat) : Ending → World → Prop
  | badz {e : Ending} {w : World} (h : z ≠ 0) (he : e = .returned (.tuple #[.agg #[.int .i64 0, .int .i64 0, .int .i64 0, .slice none 0 0], .int .i64 z])) : RunR T z a b ver hh hl BB K base e w
  | bad4 {e : Ending} {w : World} (hz : z = 0) (h : ¬ (0 ≤ ver ∧ ver ≤ 255)) (he : e = .returned (.tuple #[.agg #[.int .i64 0, .int .i64 0, .int .i64 0, .slice none 0 0], .int .i64 4])) : RunR T z a b ver hh hl BB K base e w
  | bad7 {e : Ending} {w : World} (hz : z = 0) (hv : 0 ≤ ver ∧ ver ≤ 255) (h : edgT T a b < 0) (he : e = .returned (.tuple #[.agg #[.int .i64 0, .int .i64 0, .int .i64 0, .slice none 0 0], .int .i64 7])) : RunR T z a b ver hh hl BB K base e w
  | ok {e : Ending} {w : World} {n m i : Nat} {fin sw sp : Int} {H : List Hp} {hA : Option Addr} {hc : Nat} (hz : z = 0) (hn : n ≤ 3) (hm : m ≤ 255) (hed : edgT T a b = (n : Int)) (hver : ver = (m : Int)) (ha : a = (i : Int)) (hr : runF fndI T BB K i 0 (num (sF hh hl n m) 64 64) (num (sF hh hl n m) 0 64) [] = ⟨fin, sw, sp, H⟩) (he : e = .returned (.tuple #[.agg #[.int .i64 fin, .int .i64 sw, .int .i64 sp, .slice hA H.length hc], .int .i64 0])) (ho : w.ownsRow base 64 5 (.slice hA H.length hc) H.length (H.flatMap Hp.cs)) : RunR T z a b ver hh hl BB K base e w
end Go.Proofs.Hd
namespace Go.Proofs
open Go.RowKit Go.Proofs.Hd Go.Lib
attribute [local go_sem] uv_nonneg
theorem cset_w (hh hl cvh cvl cch ccl : BitVec 64) (w : World) : Calls Try.prog 25 #[.agg #[.int .u64 (uv hh), .int .u64 (uv hl)], .agg #[.int .u64 (uv cvh), .int .u64 (uv cvl), .int .u64 (uv cch), .int .u64 (uv ccl)]] w fun e w' => e = .returned (.agg #[.int .u64 (uv ((hh &&& ~~~cch) ||| (cvh &&& cch))), .int .u64 (uv ((hl &&& ~~~ccl) ||| (cvl &&& ccl)))]) ∧ Below w.heap.size w w' := set_c hh hl cvh cvl cch ccl w
set_option maxRecDepth 100000 in
set_option maxHeartbeats 4000000 in
theorem outlasts_c {T : List (List Pt)} {ten : Int} {P : List (Int × Int)} {Q : List Wa} {BB : List (List (List Rl))} {tA pA wA bA : Option Addr} {tc pn pc wn wcp bc K : Nat} {n t : Nat} {hh hl : BitVec 64} {w wb : World} {p : Nat} {L : List Pt} {R : List Rl} (hcfg : cfgT T ten P Q BB = 0) (hT : PsT wb (.slice tA T.length tc) T) (hQ : RuQ wb (.slice bA BB.length bc) BB) (hBb : Below wb.heap.size wb w) (hp : wb.heap.size ≤ p) (hs : StA T BB n t L R) (hsz : ∀ X ∈ BB, ∀ R ∈ X, R.length ≤ 4611686018427387904) (hK : K = 10800) (hW : Wlk wb.heap.size w p tA T.length tc ten pA pn pc wA wn wcp bA BB.length bc n t hh hl 0 0 0 []) :
    Calls Try.prog 26 #[.func (.func 27) #[.pointer (some ⟨p, 0, none⟩)] #[]] w fun e w' => Below wb.heap.size wb w' ∧ ∃ (n' t' : Nat) (gh gl : BitVec 64) (fin sw sp : Int) (H' : List Hp), Wlk wb.heap.size w' p tA T.length tc ten pA pn pc wA wn wcp bA BB.length bc n' t' gh gl fin sw sp H' ∧ ((e = .returned (.bool true) ∧ fin = 0 ∧ sw = 0 ∧ sp = 0 ∧ runF fndI T BB K n t hh hl [] = ⟨4, 0, 0, H'⟩) ∨ (e = .returned (.bool false) ∧ runF fndI T BB K n t hh hl [] = ⟨fin, sw, sp, H'⟩)) := by
  have eg : ∀ args w, (callFunc 27 args).run Try.prog w = .ok (.enter 27 args) w := enters_of Try.func27 (by kernel_rfl) rfl
  have hKz : (K : Int) = 10800 := by omega
  have HCFG := Lib.hid hcfg
  have HT := Lib.hid hT
  have HQ := Lib.hid hQ
  have HSZ := Lib.hid hsz
  have HW := Lib.hid hW
  have HB := Lib.hid hBb
  have HS := Lib.hid hs
  have HK := Lib.hid hK
  clear hcfg hT hQ hsz hW hBb hs hK
  go_enter Try.func26, Try.ntmps26
  go_wp2
  go_loopg [3] K (fun gk s3 wr => ∃ (k n' t' : Nat) (gh gl : BitVec 64) (L' : List Pt) (R' : List Rl) (H' : List Hp), k ≤ K ∧ gk = K - k ∧ s3 = .int .i64 k ∧ H'.length = k ∧ Hid (StA T BB n' t' L' R') ∧ Hid (Wlk wb.heap.size wr p tA T.length tc ten pA pn pc wA wn wcp bA BB.length bc n' t' gh gl 0 0 0 H') ∧ Hid (Below wb.heap.size wb wr) ∧ Hid (runF fndI T BB K n t hh hl [] = runF fndI T BB (K - k) n' t' gh gl H'))
  case atStart => exact ⟨0, n, t, hh, hl, L, R, [], Nat.zero_le _, rfl, rfl, rfl, HS, HW, HB, rfl⟩
  case round =>
    clear HS HW HB
    obtain ⟨k, n', t', gh, gl, L', R', H', hk, rfl, rfl, hl', HS, HW, HB, HR⟩ := hrel
    by_cases hlt : k < K
    · have hltz : (k : Int) < 10800 := by omega
      have hH : (H'.length + 1) * 40 ≤ 140737488355328 := by have := HK.out; omega
      obtain ⟨X', hX1, hX2⟩ := sta_x HS.out
      have hcon := step_c HCFG.out HT.out HQ.out HB.out hp HS.out (HSZ.out X' hX1 R' hX2) hH HW.out
      have hk1 : K - k = K - (k + 1) + 1 := by omega
      rw [hk1] at HR
      have HCON := Lib.hid hcon
      clear hcon hk1 HS HW HB
      go_wp2_with fail
      go_at_fn 27
      refine HCON.out.mono ?_
      rintro e w2 ⟨hb2, ⟨n2, t2, gh2, gl2, fin, sw, sp, H2, rfl, hw2, hr2⟩ | ⟨n2, t2, gh2, gl2, L2, R2, x2, rfl, hs2, hw2, hr2⟩⟩
      · have HB2 := Lib.hid hb2
        have HW2 := Lib.hid hw2
        have HR2 := Lib.hid (HR.out.trans (hr2 (K - (k + 1))))
        clear hb2 hw2 hr2 HR HCON
        go_wp2
        go_ret
        exact ⟨HB2.out, n2, t2, gh2, gl2, fin, sw, sp, H2, HW2.out, .inr ⟨rfl, HR2.out⟩⟩
      · have HB2 := Lib.hid hb2
        have HW2 := Lib.hid hw2
        have HS2 := Lib.hid hs2
        have HR2 := Lib.hid (HR.out.trans (hr2 (K - (k + 1))))
        clear hb2 hw2 hs2 hr2 HR HCON
        go_wp2
        go_roundg (K - (k + 1))
        case measure => omega
        case rel => exact ⟨k + 1, n2, t2, gh2, gl2, L2, R2, H' ++ [x2], by omega, rfl, by go_num, by simp [hl'], HS2, HW2, HB2, HR2⟩
    · have hltz : ¬ (k : Int) < 10800 := by omega
      obtain rfl : k = K := by omega
      rw [Nat.sub_self] at HR
      go_wp2
      go_ret
      exact ⟨HB.out, n', t', gh, gl, 0, 0, 0, H', HW.out, .inl ⟨rfl, rfl, rfl, rfl, HR.out⟩⟩
set_option maxRecDepth 100000 in
set_option maxHeartbeats 8000000 in
theorem run_c (tv pv wv bv : Value) (T : List (List Pt)) (ten : Int) (P : List (Int × Int)) (Q : List Wa) (BB : List (List (List Rl))) (a b ver : Int) (hh hl : BitVec 64) (K : Nat) (w : World) (hK : K = 10800) (hT : PsT w tv T) (hP : Pe w pv P) (hQ : Wy w wv Q) (hB : RuQ w bv BB) (hsz : ∀ X ∈ BB, ∀ R ∈ X, R.length ≤ 4611686018427387904) : Calls Try.prog 12 #[.agg #[tv, .int .i64 ten, pv, wv, bv], .agg #[.int .i64 a, .int .i64 b], .agg #[.int .u64 (uv hh), .int .u64 (uv hl)], .int .i64 ver] w fun e w' => RunR T (cfgT T ten P Q BB) a b ver hh hl BB K w.heap.size e w' ∧ Below w.heap.size w w' := by
  have HT := Lib.hid hT
  have HP := Lib.hid hP
  have HQ := Lib.hid hQ
  have HBQ := Lib.hid hB
  have HSZ := Lib.hid hsz
  obtain ⟨tA, tc, rfl, -, -⟩ := hT
  obtain ⟨pA, pc, rfl, -, -⟩ := hP
  obtain ⟨wA, wcp, rfl, -, -⟩ := hQ
  obtain ⟨bA, bc, rfl, -, -⟩ := hB
  obtain ⟨z, hz⟩ : ∃ z, cfgT T ten P Q BB = z := ⟨_, rfl⟩
  have HZ := Lib.hid hz
  obtain ⟨ed, hed⟩ : ∃ ed, edgT T a b = ed := ⟨_, rfl⟩
  have HED := Lib.hid hed
  clear hz hed hsz
  have HB1 : Hid (Below w.heap.size w ((((w.alloc (.cells #[.slice tA T.length tc, .int .i64 ten, .slice pA P.length pc, .slice wA Q.length wcp, .slice bA BB.length bc] 49)).alloc (.cells #[.int .i64 a, .int .i64 b] 51)).alloc (.cells #[.int .u64 (uv hh), .int .u64 (uv hl)] 25)).alloc (.cells #[.int .i64 0, .int .i64 0, .int .i64 0, .slice none 0 0] 54))) := below4 w _ _ _ _
  have N1 : Hid (Blk ((((w.alloc (.cells #[.slice tA T.length tc, .int .i64 ten, .slice pA P.length pc, .slice wA Q.length wcp, .slice bA BB.length bc] 49)).alloc (.cells #[.int .i64 a, .int .i64 b] 51)).alloc (.cells #[.int .u64 (uv hh), .int .u64 (uv hl)] 25)).alloc (.cells #[.int .i64 0, .int .i64 0, .int .i64 0, .slice none 0 0] 54)) w.heap.size 49 #[.slice tA T.length tc, .int .i64 ten, .slice pA P.length pc, .slice wA Q.length wcp, .slice bA BB.length bc]) := (((Blk.new w _ _).on (below1 _ _)).on (below1 _ _)).on (below1 _ _)
  have M1 : Hid (Blk ((((w.alloc (.cells #[.slice tA T.length tc, .int .i64 ten, .slice pA P.length pc, .slice wA Q.length wcp, .slice bA BB.length bc] 49)).alloc (.cells #[.int .i64 a, .int .i64 b] 51)).alloc (.cells #[.int .u64 (uv hh), .int .u64 (uv hl)] 25)).alloc (.cells #[.int .i64 0, .int .i64 0, .int .i64 0, .slice none 0 0] 54)) (w.heap.size + 1) 51 #[.int .i64 a, .int .i64 b]) := ((Blk.new2 w _ _ _).on (below1 _ _)).on (below1 _ _)
  have K1 : Hid (Blk ((((w.alloc (.cells #[.slice tA T.length tc, .int .i64 ten, .slice pA P.length pc, .slice wA Q.length wcp, .slice bA BB.length bc] 49)).alloc (.cells #[.int .i64 a, .int .i64 b] 51)).alloc (.cells #[.int .u64 (uv hh), .int .u64 (uv hl)] 25)).alloc (.cells #[.int .i64 0, .int .i64 0, .int .i64 0, .slice none 0 0] 54)) (w.heap.size + 1 + 1) 25 #[.int .u64 (uv hh), .int .u64 (uv hl)]) := (Blk.new3 w _ _ _ _).on (below1 _ _)
  have X1 : Hid (Blk ((((w.alloc (.cells #[.slice tA T.length tc, .int .i64 ten, .slice pA P.length pc, .slice wA Q.length wcp, .slice bA BB.length bc] 49)).alloc (.cells #[.int .i64 a, .int .i64 b] 51)).alloc (.cells #[.int .u64 (uv hh), .int .u64 (uv hl)] 25)).alloc (.cells #[.int .i64 0, .int .i64 0, .int .i64 0, .slice none 0 0] 54)) (w.heap.size + 1 + 1 + 1) 54 #[.int .i64 0, .int .i64 0, .int .i64 0, .slice none 0 0]) := by
    have h := Blk.new3 (w.alloc (.cells #[.slice tA T.length tc, .int .i64 ten, .slice pA P.length pc, .slice wA Q.length wcp, .slice bA BB.length bc] 49)) (.cells #[.int .i64 a, .int .i64 b] 51) (.cells #[.int .u64 (uv hh), .int .u64 (uv hl)] 25) 54 #[.int .i64 0, .int .i64 0, .int .i64 0, .slice none 0 0]
    show Blk _ _ _ _
    simpa only [World.size_alloc] using h
  go_enter Try.func12, Try.ntmps12
  go_upto_region 1 with (fail)
  generalize ((((w.alloc (.cells #[.slice tA T.length tc, .int .i64 ten, .slice pA P.length pc, .slice wA Q.length wcp, .slice bA BB.length bc] 49)).alloc (.cells #[.int .i64 a, .int .i64 b] 51)).alloc (.cells #[.int .u64 (uv hh), .int .u64 (uv hl)] 25)).alloc (.cells #[.int .i64 0, .int .i64 0, .int .i64 0, .slice none 0 0] 54)) = w1 at HB1 N1 M1 K1 X1 ⊢
  obtain ⟨d0, d1, d2, d3, d4⟩ := N1.out.five
  obtain ⟨s0, s1⟩ := M1.out.both
  go_wp2_with fail
  (with_reducible refine (stamp_c _ _ _ _ T ten P Q BB a b ver _ (HT.out.on HB1.out) (HP.out.on HB1.out) (HQ.out.on HB1.out) (HBQ.out.on HB1.out)).mono ?_)
  rintro e w2 ⟨hst, hb⟩
  rw [HZ.out] at hst
  unfold stmR at hst
  rw [HED.out] at hst
  have HST0 := Lib.hid hst
  clear hst
  have hst := HST0.out
  clear HST0
  by_cases hz : z = 0
  · subst hz
    by_cases hv : 0 ≤ ver ∧ ver ≤ 255
    · by_cases hed : ed < 0
      · have hed0 := hed
        obtain rfl := hst.2.2.1 rfl hv hed
        clear hst
        have bx := below1 w2 (.cells #[.int .u64 0, .int .u64 0, .int .u64 0, .int .u64 0] 34)
        have Y2 := Lib.hid (Blk.new w2 34 #[.int .u64 0, .int .u64 0, .int .u64 0, .int .u64 0])
        have hw := hb.trans (bx.mono hb.size)
        have HB2 := Lib.hid (HB1.out.trans (hw.mono HB1.out.size))
        have N2 := Lib.hid (N1.out.on hw)
        have M2 := Lib.hid (M1.out.on hw)
        have K2 := Lib.hid (K1.out.on hw)
        have X2 := Lib.hid (X1.out.on hw)
        clear hb bx hw HB1 N1 M1 K1 X1 d0 d1 d2 d3 d4 s0 s1
        go_upto_region 2 with (fail)
        generalize hg2 : w2.alloc (.cells #[.int .u64 0, .int .u64 0, .int .u64 0, .int .u64 0] 34) = w3 at HB2 N2 M2 K2 X2 Y2 ⊢
        clear hg2
        generalize hg2 : w2.heap.size = bst at Y2 ⊢
        clear hg2
        clear N2 M2 K2 Y2
        obtain ⟨z0, z1, z2, z3⟩ := quad X2.out
        obtain ⟨f0, f1, f2, f3⟩ := free4 X2.out
        obtain ⟨q0, q1, q2, q3⟩ := quad (put4 X2.out (.int .i64 0) (.int .i64 0) (.int .i64 0) (.slice none 0 0))
        have B6 := Lib.hid (HB2.out.trans ((sets4 w3 (w.heap.size + 1 + 1 + 1) (.int .i64 0) (.int .i64 0) (.int .i64 0) (.slice none 0 0)).mono (by omega)))
        go_wp2
        exact bodyPost_ret (v := .tuple #[.agg #[.int .i64 0, .int .i64 0, .int .i64 0, .slice none 0 0], .int .i64 7]) (by simp [results, Try.results12, go_sem, q0, q1, q2, q3]) rfl ⟨.bad7 HZ.out hv (by rw [HED.out]; exact hed) rfl, B6.out⟩
      · obtain ⟨n, m, cvh, cvl, cch, ccl, hn, hm, he, hve, rfl, hs⟩ := hst.2.2.2 rfl hv hed
        clear hst
        have HS := Lib.hid hs
        have HED2 := Lib.hid he
        have HVE := Lib.hid hve
        clear hs he hve
        have bx := below1 w2 (.cells #[.int .u64 (uv cvh), .int .u64 (uv cvl), .int .u64 (uv cch), .int .u64 (uv ccl)] 34)
        have Y2 := Lib.hid (Blk.new w2 34 #[.int .u64 (uv cvh), .int .u64 (uv cvl), .int .u64 (uv cch), .int .u64 (uv ccl)])
        have hw := hb.trans (bx.mono hb.size)
        have HB2 := Lib.hid (HB1.out.trans (hw.mono HB1.out.size))
        have N2 := Lib.hid (N1.out.on hw)
        have M2 := Lib.hid (M1.out.on hw)
        have K2 := Lib.hid (K1.out.on hw)
        have X2 := Lib.hid (X1.out.on hw)
        clear hb bx hw HB1 N1 M1 K1 X1 d0 d1 d2 d3 d4 s0 s1
        go_upto_region 2 with (fail)
        generalize hg2 : w2.alloc (.cells #[.int .u64 (uv cvh), .int .u64 (uv cvl), .int .u64 (uv cch), .int .u64 (uv ccl)] 34) = w3 at HB2 N2 M2 K2 X2 Y2 ⊢
        clear hg2
        generalize hg2 : w2.heap.size = bst at Y2 ⊢
        clear hg2
        obtain ⟨i, L0, R0, rfl, hsta⟩ := edge_sta HZ.out (by rw [HED.out]; omega)
        have HSTA := Lib.hid hsta
        clear hsta
        obtain ⟨sh, hsh⟩ : ∃ sh, (num (sF hh hl n m) 64 64) = sh := ⟨_, rfl⟩
        obtain ⟨sl, hsl⟩ : ∃ sl, (num (sF hh hl n m) 0 64) = sl := ⟨_, rfl⟩
        have HSET : Hid (∀ u : World, Calls Try.prog 25 #[.agg #[.int .u64 (uv hh), .int .u64 (uv hl)], .agg #[.int .u64 (uv cvh), .int .u64 (uv cvl), .int .u64 (uv cch), .int .u64 (uv ccl)]] u fun e w' => e = .returned (.agg #[.int .u64 (uv sh), .int .u64 (uv sl)]) ∧ Below u.heap.size u w') := fun u => by
          have h := cset_w hh hl cvh cvl cch ccl u
          rw [← (set_stamp HS.out hh hl).1, ← (set_stamp HS.out hh hl).2, hsh, hsl] at h
          exact h
        have HSH := Lib.hid hsh
        have HSL := Lib.hid hsl
        clear hsh hsl
        go_upto_region 4 with (fail)
        have HKP : Hid (∀ W, Below w3.heap.size w3 W → (Below w3.heap.size w3 W ∧ W.cell? ⟨w.heap.size, 0, none⟩ = some (.slice tA T.length tc) ∧ W.cell? ⟨w.heap.size, 1, none⟩ = some (.int .i64 ten) ∧ W.cell? ⟨w.heap.size, 2, none⟩ = some (.slice pA P.length pc) ∧ W.cell? ⟨w.heap.size, 3, none⟩ = some (.slice wA Q.length wcp) ∧ W.cell? ⟨w.heap.size, 4, none⟩ = some (.slice bA BB.length bc) ∧ W.cell? ⟨w.heap.size + 1, 0, none⟩ = some (.int .i64 (i : Int)) ∧ W.cell? ⟨w.heap.size + 1, 1, none⟩ = some (.int .i64 b) ∧ W.cell? ⟨w.heap.size + 1 + 1, 0, none⟩ = some (.int .u64 (uv hh)) ∧ W.cell? ⟨w.heap.size + 1 + 1, 1, none⟩ = some (.int .u64 (uv hl)) ∧ W.cell? ⟨bst, 0, none⟩ = some (.int .u64 (uv cvh)) ∧ W.cell? ⟨bst, 1, none⟩ = some (.int .u64 (uv cvl)) ∧ W.cell? ⟨bst, 2, none⟩ = some (.int .u64 (uv cch)) ∧ W.cell? ⟨bst, 3, none⟩ = some (.int .u64 (uv ccl)))) := fun W hb => by
          obtain ⟨d0, d1, d2, d3, d4⟩ := (N2.out.on hb).five
          obtain ⟨s0, s1⟩ := (M2.out.on hb).both
          obtain ⟨h0, h1⟩ := (K2.out.on hb).both
          obtain ⟨c0, c1, c2, c3⟩ := quad (Y2.out.on hb)
          exact ⟨hb, d0, d1, d2, d3, d4, s0, s1, h0, h1, c0, c1, c2, c3⟩
        refine wp_region_held_drew (S := fun w' => Below w3.heap.size w3 w' ∧ w'.cell? ⟨w.heap.size, 0, none⟩ = some (.slice tA T.length tc) ∧ w'.cell? ⟨w.heap.size, 1, none⟩ = some (.int .i64 ten) ∧ w'.cell? ⟨w.heap.size, 2, none⟩ = some (.slice pA P.length pc) ∧ w'.cell? ⟨w.heap.size, 3, none⟩ = some (.slice wA Q.length wcp) ∧ w'.cell? ⟨w.heap.size, 4, none⟩ = some (.slice bA BB.length bc) ∧ w'.cell? ⟨w.heap.size + 1, 0, none⟩ = some (.int .i64 (i : Int)) ∧ w'.cell? ⟨w.heap.size + 1, 1, none⟩ = some (.int .i64 b) ∧ w'.cell? ⟨w.heap.size + 1 + 1, 0, none⟩ = some (.int .u64 (uv hh)) ∧ w'.cell? ⟨w.heap.size + 1 + 1, 1, none⟩ = some (.int .u64 (uv hl)) ∧ w'.cell? ⟨bst, 0, none⟩ = some (.int .u64 (uv cvh)) ∧ w'.cell? ⟨bst, 1, none⟩ = some (.int .u64 (uv cvl)) ∧ w'.cell? ⟨bst, 2, none⟩ = some (.int .u64 (uv cch)) ∧ w'.cell? ⟨bst, 3, none⟩ = some (.int .u64 (uv ccl))) (by kernel_rfl) (HKP.out _ (Below.refl _ w3).drew) (fun hHeld => ?_)
        have hB := (Below.refl w3.heap.size w3).drew
        generalize w3.drew = u0 at hHeld hB ⊢
        refine wpAnyH_take (i := 0) (oi := ⟨some 24, _, _, _, _, _⟩) (v := ?vru0_1) rfl (by kernel_rfl) (by kernel_rfl) (by kernel_rfl) (fun _ _ _ h => h) (Or.inl ⟨by rfl, ?yru0_1⟩) hHeld ?rru0_1
        case yru0_1 => (intro w' hSw; (try dsimp only at hSw); go_simp; try (with_reducible rfl))
        simp only [Act.put, List.setIfInBounds_toArray, List.set_cons_zero, List.set_cons_succ]
        refine wpAnyH_take (i := 1) (oi := ⟨some 25, _, _, _, _, _⟩) (v := ?vru1_2) rfl (by kernel_rfl) (by kernel_rfl) (by kernel_rfl) (fun _ _ _ h => h) (Or.inl ⟨by rfl, ?yru1_2⟩) hHeld ?rru1_2
        case yru1_2 => (intro w' hSw; (try dsimp only at hSw); go_simp; try (with_reducible rfl))
        simp only [Act.put, List.setIfInBounds_toArray, List.set_cons_zero, List.set_cons_succ]
        refine wpAnyH_take (i := 2) (oi := ⟨some 26, _, _, _, _, _⟩) (v := ?vru2_3) rfl (by kernel_rfl) (by kernel_rfl) (by kernel_rfl) (fun _ _ _ h => h) (Or.inl ⟨by rfl, ?yru2_3⟩) hHeld ?rru2_3
        case yru2_3 => (intro w' hSw; (try dsimp only at hSw); go_simp; try (with_reducible rfl))
        simp only [Act.put, List.setIfInBounds_toArray, List.set_cons_zero, List.set_cons_succ]
        refine wpAnyH_take (i := 3) (oi := ⟨some 27, _, _, _, _, _⟩) (v := ?vru3_4) rfl (by kernel_rfl) (by kernel_rfl) (by kernel_rfl) (fun _ _ _ h => h) (Or.inl ⟨by rfl, ?yru3_4⟩) hHeld ?rru3_4
        case yru3_4 => (intro w' hSw; (try dsimp only at hSw); go_simp; try (with_reducible rfl))
        simp only [Act.put, List.setIfInBounds_toArray, List.set_cons_zero, List.set_cons_succ]
        refine wpAnyH_take (i := 4) (oi := ⟨some 28, _, _, _, _, _⟩) (v := ?vru4_5) rfl (by kernel_rfl) (by kernel_rfl) (by kernel_rfl) (fun _ _ _ h => h) (Or.inl ⟨by rfl, ?yru4_5⟩) hHeld ?rru4_5
        case yru4_5 => (intro w' hSw; (try dsimp only at hSw); go_simp; try (with_reducible rfl))
        simp only [Act.put, List.setIfInBounds_toArray, List.set_cons_zero, List.set_cons_succ]
        refine wpAnyH_ready (rs := [5]) (by kernel_rfl) (by simp) ?_
        refine AllReadyH.cons (o := ⟨some 29, _, _, _, _, _⟩) rfl (fun K hK => ?_) AllReadyH.nil
        go_simp
        (with_reducible refine (HSET.out u0).mono ?_)
        rintro e u1 ⟨rfl, hb⟩
        (try dsimp only)
        have hB2 := hB.trans (hb.mono hB.size)
        refine hK.out _ _ (HKP.out _ hB2) (fun hNext => ?_)
        clear hK K hHeld
        have hHeld := hNext
        clear hNext
        clear hB
        have hB := hB2
        clear hB2
        clear hb
        try simp only [Act.put, List.setIfInBounds_toArray, List.set_cons_zero, List.set_cons_succ]
        refine wpAnyH_take (i := 6) (oi := ⟨some 30, _, _, _, _, _⟩) (v := ?vru6_6) rfl (by kernel_rfl) (by kernel_rfl) (by kernel_rfl) (fun _ _ _ h => h) (Or.inl ⟨by rfl, ?yru6_6⟩) hHeld ?rru6_6
        case yru6_6 => (intro w' hSw; (try dsimp only at hSw); go_simp; try (with_reducible rfl))
        simp only [Act.put, List.setIfInBounds_toArray, List.set_cons_zero, List.set_cons_succ]
        refine wpAnyH_ready (rs := [7]) (by kernel_rfl) (by simp) ?_
        refine AllReadyH.cons (o := ⟨some 31, _, _, _, _, _⟩) rfl (fun K hK => ?_) AllReadyH.nil
        go_simp
        have hb := below1 u1 (.cells #[.slice tA T.length tc, .int .i64 ten, .slice pA P.length pc, .slice wA Q.length wcp, .slice bA BB.length bc, .int .i64 (i : Int), .int .i64 0, .int .u64 (uv sh), .int .u64 (uv sl), .int .i64 0, .int .i64 0, .int .i64 0, .slice none 0 0] 81)
        have hB2 := hB.trans (hb.mono hB.size)
        refine hK.out _ _ (HKP.out _ hB2) (fun hNext => ?_)
        have kW : Blk (u1.alloc (.cells #[.slice tA T.length tc, .int .i64 ten, .slice pA P.length pc, .slice wA Q.length wcp, .slice bA BB.length bc, .int .i64 (i : Int), .int .i64 0, .int .u64 (uv sh), .int .u64 (uv sl), .int .i64 0, .int .i64 0, .int .i64 0, .slice none 0 0] 81)) u1.heap.size 81 #[.slice tA T.length tc, .int .i64 ten, .slice pA P.length pc, .slice wA Q.length wcp, .slice bA BB.length bc, .int .i64 (i : Int), .int .i64 0, .int .u64 (uv sh), .int .u64 (uv sl), .int .i64 0, .int .i64 0, .int .i64 0, .slice none 0 0] := Blk.new u1 _ _
        have hold := hB
        have hbb : Below u1.heap.size u1 (u1.alloc (.cells #[.slice tA T.length tc, .int .i64 ten, .slice pA P.length pc, .slice wA Q.length wcp, .slice bA BB.length bc, .int .i64 (i : Int), .int .i64 0, .int .u64 (uv sh), .int .u64 (uv sl), .int .i64 0, .int .i64 0, .int .i64 0, .slice none 0 0] 81)) := hb
        clear hK K hHeld
        have hHeld := hNext
        clear hNext
        clear hB hb
        have hB := hB2
        clear hB2
        try simp only [Act.put, List.setIfInBounds_toArray, List.set_cons_zero, List.set_cons_succ]
        refine wpAnyH_take (i := 8) (oi := ⟨some 12, _, _, _, _, _⟩) (v := ?vru8_7) rfl (by kernel_rfl) (by kernel_rfl) (by kernel_rfl) (fun _ _ _ h => h) (Or.inl ⟨by rfl, ?yru8_7⟩) hHeld ?rru8_7
        case yru8_7 => (intro w' hSw; (try dsimp only at hSw); go_simp; try (with_reducible rfl))
        simp only [Act.put, List.setIfInBounds_toArray, List.set_cons_zero, List.set_cons_succ]
        refine wpAnyH_done (by kernel_rfl) ?_ _
        have HBO := Lib.hid hold
        have hXb := X2.out.on hold
        have HWB : Hid (Below w.heap.size w u1) := HB2.out.trans (hold.mono HB2.out.size)
        have HW0 : Hid (Wlk u1.heap.size (u1.alloc (.cells #[.slice tA T.length tc, .int .i64 ten, .slice pA P.length pc, .slice wA Q.length wcp, .slice bA BB.length bc, .int .i64 (i : Int), .int .i64 0, .int .u64 (uv sh), .int .u64 (uv sl), .int .i64 0, .int .i64 0, .int .i64 0, .slice none 0 0] 81)) u1.heap.size tA T.length tc ten pA P.length pc wA Q.length wcp bA BB.length bc i 0 sh sl 0 0 0 []) := ⟨none, 0, kW, World.ownsRow_nil _ _ _ _⟩
        have HXB := Lib.hid hXb
        have HBB := Lib.hid hbb
        clear hHeld hB HKP hold hbb kW hXb HBO N2 M2 K2 X2 Y2 HB2 HSET
        generalize u1.alloc (.cells #[.slice tA T.length tc, .int .i64 ten, .slice pA P.length pc, .slice wA Q.length wcp, .slice bA BB.length bc, .int .i64 (i : Int), .int .i64 0, .int .u64 (uv sh), .int .u64 (uv sl), .int .i64 0, .int .i64 0, .int .i64 0, .slice none 0 0] 81) = w5 at HW0 HBB ⊢
        go_wp2_with fail
        (with_reducible refine (outlasts_c (ten := ten) (P := P) (Q := Q) HZ.out (HT.out.on HWB.out) (HBQ.out.on HWB.out) HBB.out (Nat.le_refl _) HSTA.out HSZ.out hK HW0.out).mono ?_)
        rintro e w6 ⟨hb6, n', t', gh, gl, fin, sw, sp, H', kW, hres⟩
        have hH' : H'.length ≤ K := by
          rcases hres with ⟨-, -, -, -, hr⟩ | ⟨-, hr⟩
          · have h := runF_len fndI T BB K i 0 sh sl []
            rw [hr] at h
            simpa using h
          · have h := runF_len fndI T BB K i 0 sh sl []
            rw [hr] at h
            simpa using h
        obtain ⟨hA, hc, kW6, kO6⟩ := kW
        have X6 := HXB.out.on hb6
        have hxp : w.heap.size + 1 + 1 + 1 < u1.heap.size := HXB.out.lt
        have HB6 := Lib.hid (HWB.out.trans (hb6.mono HWB.out.size))
        have HO6 := Lib.hid kO6
        clear HW0 HBB hb6 kO6 HXB
        rcases hres with ⟨rfl, rfl, rfl, rfl, hr⟩ | ⟨rfl, hr⟩
        · have k9 := (kW6.cell 9).trans rfl
          have g9 := kW6.free 9
          simp only [List.getElem?_toArray, List.getElem?_cons_succ, List.getElem?_cons_zero] at k9
          go_upto_region 7 with (fail)
          clear k9 g9
          have kW7 := kW6.set 9 (.int .i64 4)
          simp only [List.setIfInBounds_toArray, List.set_cons_succ, List.set_cons_zero] at kW7
          have HO7 := Lib.hid (ownsRow_setCell_other (a := ⟨u1.heap.size, 9, none⟩) HO6.out (fun e => own_apart HO6.out kW6 (by decide) e.symm) (.int .i64 4))
          have HB7 := Lib.hid (HB6.out.setCell (p := ⟨u1.heap.size, 9, none⟩) (show w.heap.size ≤ u1.heap.size by omega) (.int .i64 4))
          have X7 := X6.far (p := ⟨u1.heap.size, 9, none⟩) (show w.heap.size + 1 + 1 + 1 ≠ u1.heap.size by omega) (.int .i64 4)
          clear X6 HO6 HB6 kW6
          generalize w6.setCell ⟨u1.heap.size, 9, none⟩ (.int .i64 4) = w7 at kW7 HO7 HB7 X7 ⊢
          have HR : Hid (runF fndI T BB K i 0 sh sl [] = ⟨4, 0, 0, H'⟩) := hr
          clear hr
          have k9 := (kW7.cell 9).trans rfl
          have k10 := (kW7.cell 10).trans rfl
          have k11 := (kW7.cell 11).trans rfl
          have k12 := (kW7.cell 12).trans rfl
          simp only [List.getElem?_toArray, List.getElem?_cons_succ, List.getElem?_cons_zero] at k9 k10 k11 k12
          obtain ⟨z0, z1, z2, z3⟩ := quad X7
          obtain ⟨f0, f1, f2, f3⟩ := free4 X7
          obtain ⟨q0, q1, q2, q3⟩ := quad (put4 X7 (.int .i64 4) (.int .i64 0) (.int .i64 0) (.slice hA H'.length hc))
          have B8 := Lib.hid (HB7.out.trans ((sets4 w7 (w.heap.size + 1 + 1 + 1) (.int .i64 4) (.int .i64 0) (.int .i64 0) (.slice hA H'.length hc)).mono (by omega)))
          have HO8 := Lib.hid (own_sets4 X7 HO7.out (by decide) (.int .i64 4) (.int .i64 0) (.int .i64 0) (.slice hA H'.length hc))
          clear kW7 X7 HO7 HB7
          go_wp2
          exact bodyPost_ret (v := .tuple #[.agg #[.int .i64 4, .int .i64 0, .int .i64 0, .slice hA H'.length hc], .int .i64 0]) (by simp [results, Try.results12, go_sem, q0, q1, q2, q3]) rfl ⟨.ok HZ.out hn hm (HED.out.trans HED2.out) HVE.out rfl (by rw [HSH.out, HSL.out]; exact HR.out) rfl (HO8.out.mono (by omega)), B8.out⟩
        · have kW7 := kW6
          have HO7 := HO6
          have HB7 := HB6
          have X7 := X6
          clear X6 HO6 HB6 kW6
          generalize w6 = w7 at kW7 HO7 HB7 X7 ⊢
          have HR : Hid (runF fndI T BB K i 0 sh sl [] = ⟨fin, sw, sp, H'⟩) := hr
          clear hr
          have k9 := (kW7.cell 9).trans rfl
          have k10 := (kW7.cell 10).trans rfl
          have k11 := (kW7.cell 11).trans rfl
          have k12 := (kW7.cell 12).trans rfl
          simp only [List.getElem?_toArray, List.getElem?_cons_succ, List.getElem?_cons_zero] at k9 k10 k11 k12
          obtain ⟨z0, z1, z2, z3⟩ := quad X7
          obtain ⟨f0, f1, f2, f3⟩ := free4 X7
          obtain ⟨q0, q1, q2, q3⟩ := quad (put4 X7 (.int .i64 fin) (.int .i64 sw) (.int .i64 sp) (.slice hA H'.length hc))
          have B8 := Lib.hid (HB7.out.trans ((sets4 w7 (w.heap.size + 1 + 1 + 1) (.int .i64 fin) (.int .i64 sw) (.int .i64 sp) (.slice hA H'.length hc)).mono (by omega)))
          have HO8 := Lib.hid (own_sets4 X7 HO7.out (by decide) (.int .i64 fin) (.int .i64 sw) (.int .i64 sp) (.slice hA H'.length hc))
          clear kW7 X7 HO7 HB7
          go_wp2
          exact bodyPost_ret (v := .tuple #[.agg #[.int .i64 fin, .int .i64 sw, .int .i64 sp, .slice hA H'.length hc], .int .i64 0]) (by simp [results, Try.results12, go_sem, q0, q1, q2, q3]) rfl ⟨.ok HZ.out hn hm (HED.out.trans HED2.out) HVE.out rfl (by rw [HSH.out, HSL.out]; exact HR.out) rfl (HO8.out.mono (by omega)), B8.out⟩
    · have hnv := hv
      obtain rfl := hst.2.1 rfl hv
      clear hst
      have bx := below1 w2 (.cells #[.int .u64 0, .int .u64 0, .int .u64 0, .int .u64 0] 34)
      have Y2 := Lib.hid (Blk.new w2 34 #[.int .u64 0, .int .u64 0, .int .u64 0, .int .u64 0])
      have hw := hb.trans (bx.mono hb.size)
      have HB2 := Lib.hid (HB1.out.trans (hw.mono HB1.out.size))
      have N2 := Lib.hid (N1.out.on hw)
      have M2 := Lib.hid (M1.out.on hw)
      have K2 := Lib.hid (K1.out.on hw)
      have X2 := Lib.hid (X1.out.on hw)
      clear hb bx hw HB1 N1 M1 K1 X1 d0 d1 d2 d3 d4 s0 s1
      go_upto_region 2 with (fail)
      generalize hg2 : w2.alloc (.cells #[.int .u64 0, .int .u64 0, .int .u64 0, .int .u64 0] 34) = w3 at HB2 N2 M2 K2 X2 Y2 ⊢
      clear hg2
      generalize hg2 : w2.heap.size = bst at Y2 ⊢
      clear hg2
      clear N2 M2 K2 Y2
      obtain ⟨z0, z1, z2, z3⟩ := quad X2.out
      obtain ⟨f0, f1, f2, f3⟩ := free4 X2.out
      obtain ⟨q0, q1, q2, q3⟩ := quad (put4 X2.out (.int .i64 0) (.int .i64 0) (.int .i64 0) (.slice none 0 0))
      have B6 := Lib.hid (HB2.out.trans ((sets4 w3 (w.heap.size + 1 + 1 + 1) (.int .i64 0) (.int .i64 0) (.int .i64 0) (.slice none 0 0)).mono (by omega)))
      go_wp2
      exact bodyPost_ret (v := .tuple #[.agg #[.int .i64 0, .int .i64 0, .int .i64 0, .slice none 0 0], .int .i64 4]) (by simp [results, Try.results12, go_sem, q0, q1, q2, q3]) rfl ⟨.bad4 HZ.out hnv rfl, B6.out⟩
  · have hnz := hz
    obtain rfl := hst.1 hz
    clear hst
    have bx := below1 w2 (.cells #[.int .u64 0, .int .u64 0, .int .u64 0, .int .u64 0] 34)
    have Y2 := Lib.hid (Blk.new w2 34 #[.int .u64 0, .int .u64 0, .int .u64 0, .int .u64 0])
    have hw := hb.trans (bx.mono hb.size)
    have HB2 := Lib.hid (HB1.out.trans (hw.mono HB1.out.size))
    have N2 := Lib.hid (N1.out.on hw)
    have M2 := Lib.hid (M1.out.on hw)
    have K2 := Lib.hid (K1.out.on hw)
    have X2 := Lib.hid (X1.out.on hw)
    clear hb bx hw HB1 N1 M1 K1 X1 d0 d1 d2 d3 d4 s0 s1
    go_upto_region 2 with (fail)
    generalize hg2 : w2.alloc (.cells #[.int .u64 0, .int .u64 0, .int .u64 0, .int .u64 0] 34) = w3 at HB2 N2 M2 K2 X2 Y2 ⊢
    clear hg2
    generalize hg2 : w2.heap.size = bst at Y2 ⊢
    clear hg2
    clear N2 M2 K2 Y2
    obtain ⟨z0, z1, z2, z3⟩ := quad X2.out
    obtain ⟨f0, f1, f2, f3⟩ := free4 X2.out
    obtain ⟨q0, q1, q2, q3⟩ := quad (put4 X2.out (.int .i64 0) (.int .i64 0) (.int .i64 0) (.slice none 0 0))
    have B6 := Lib.hid (HB2.out.trans ((sets4 w3 (w.heap.size + 1 + 1 + 1) (.int .i64 0) (.int .i64 0) (.int .i64 0) (.slice none 0 0)).mono (by omega)))
    go_wp2
    exact bodyPost_ret (v := .tuple #[.agg #[.int .i64 0, .int .i64 0, .int .i64 0, .slice none 0 0], .int .i64 z]) (by simp [results, Try.results12, go_sem, q0, q1, q2, q3]) rfl ⟨.badz (by rw [HZ.out]; exact hnz) (by rw [HZ.out]), B6.out⟩
end Go.Proofs

namespace Go.Proofs.Hd
open Go.RowKit Go.Sort
def T9 : List (List Pt) := [[⟨1, 0, 0, 0, 0⟩, ⟨2, 0, 1, 0, 1⟩], [⟨2, 0, 0, 1, 1⟩, ⟨1, 0, 0, 0, 0⟩]]
def M9 : Cb := ⟨0#64, 1#64, 0#64, 1#64⟩
def R9a : Rl := ⟨0, M9, 3, 1, 0, ⟨0#64, 0#64, 0#64, 0#64⟩⟩
def R9b : Rl := ⟨0, M9, 2, 1, 0, ⟨0#64, 0#64, 0#64, 0#64⟩⟩
def B9 : List (List (List Rl)) := [[[R9a]], [[R9b]]]
theorem T9_sound : sTp T9 = 0 := by
  refine sTp_ok (by decide) fun n i L p hn hL hp => ?_
  match n, hn with
  | 0, _ =>
    injection hL with hL
    subst hL
    have hi : i < 2 := (List.getElem?_eq_some_iff.1 hp).1
    match i, hi with
    | 0, _ => injection hp with hp; subst hp; decide
    | 1, _ => injection hp with hp; subst hp; decide
  | 1, _ =>
    injection hL with hL
    subst hL
    have hi : i < 2 := (List.getElem?_eq_some_iff.1 hp).1
    match i, hi with
    | 0, _ => injection hp with hp; subst hp; decide
    | 1, _ => injection hp with hp; subst hp; decide
theorem T9_edges : eTo T9 T9.length = [(0, 0), (1, 1)] := by decide
theorem T9_edge : edgT T9 0 0 = 0 := rfl
theorem P9_ok : szP T9 1 [] [] := by
  rintro (h | h | h | h | h)
  · omega
  · omega
  · simp at h
  · simp at h
  · refine h fun j x hj hx => ?_
    rw [T9_edges] at hj hx
    have hj2 : j < 2 := hj
    match j, hj2 with
    | 0, _ => injection hx with hx; subst hx; rfl
    | 1, _ => injection hx with hx; subst hx; rfl
theorem P9_form : okPe [] 1 0 ∧ okWy [] 1 T9.length 0 := ⟨fun _ _ hj => absurd hj (Nat.not_lt_zero _), fun _ _ hj => absurd hj (Nat.not_lt_zero _)⟩
theorem C9 : cfgT T9 1 [] [] B9 = 0 := by
  unfold cfgT
  rw [if_pos T9_sound, polT_ok P9_ok P9_form, if_pos rfl]
  have h : B9.length = T9.length := rfl
  rw [if_pos h]
  decide +kernel
theorem B9_len : ∀ X ∈ B9, ∀ R ∈ X, R.length ≤ 4611686018427387904 := by
  intro X hX R hR
  simp [B9] at hX
  rcases hX with rfl | rfl
  · simp at hR; subst hR; decide
  · simp at hR; subst hR; decide
theorem fnd_one_yes {r : Rl} {x y : BitVec 64} (h : r.m.has x y = true) : fndI [r] x y = some 0 := fndI_some (by simp) ((hasI_at rfl x y).trans h) fun k hk _ => by
  have h0 : k = 0 := by simpa using hk
  subst h0
  exact leI_self _ _
theorem fnd_one_no {r : Rl} {x y : BitVec 64} (h : r.m.has x y = false) : fndI [r] x y = none := fndI_none fun k hk => by
  have h0 : k = 0 := by simpa using hk
  subst h0
  exact (hasI_at rfl x y).trans h
theorem S9a : StA T9 B9 0 0 [⟨1, 0, 0, 0, 0⟩, ⟨2, 0, 1, 0, 1⟩] [R9a] := ⟨rfl, [[R9a]], rfl, rfl⟩
theorem S9b : StA T9 B9 1 0 [⟨2, 0, 0, 1, 1⟩, ⟨1, 0, 0, 0, 0⟩] [R9b] := ⟨rfl, [[R9b]], rfl, rfl⟩
theorem st9a : stH R9a 16777216#64 = 16777216#64 ∧ stL R9a 1#64 = 1#64 := by decide +kernel
/-- The packet with bit 0, the packet without. -/
theorem run9a (k : Nat) : runF fndI T9 B9 (k + 2) 0 0 16777216#64 1#64 [] = ⟨2, 1, 1, [⟨0, 0, 0, 16777216#64, 1#64⟩, ⟨1, 0, 0, 16777216#64, 1#64⟩]⟩ := by
  rw [runF_hit S9a (fnd_one_yes (by decide +kernel)) (r := R9a) rfl, if_neg (by decide), if_neg (by decide), if_neg (by decide), st9a.1, st9a.2]
  have e : peerN T9 0 R9a.port = 1 := rfl
  rw [e, runF_hit S9b (fnd_one_yes (by decide +kernel)) (r := R9b) rfl, if_neg (by decide), if_pos (by decide)]
  rfl
theorem run9b (k : Nat) : runF fndI T9 B9 (k + 1) 0 0 16777216#64 0#64 [] = ⟨3, 0, 0, [⟨0, 0, -1, 16777216#64, 0#64⟩]⟩ := by
  rw [runF_miss S9a (fnd_one_no (by decide +kernel))]
  rfl
theorem st9 (y : BitVec 64) (hy : y = 1#64 ∨ y = 0#64) : num (sF 0#64 y 0 0) 64 64 = 16777216#64 ∧ num (sF 0#64 y 0 0) 0 64 = y := by
  rcases hy with rfl | rfl
  · decide +kernel
  · decide +kernel
end Go.Proofs.Hd
namespace Go.Proofs
open Go.RowKit Go.Proofs.Hd Go.Lib
set_option maxRecDepth 100000 in
set_option maxHeartbeats 4000000 in
theorem ring_c (w : World) : Calls Try.prog 21 #[] w fun e w' => ∃ tv bv, e = .returned (.agg #[tv, .int .i64 1, .slice none 0 0, .slice none 0 0, bv]) ∧ Cfo w.heap.size w' tv (.slice none 0 0) (.slice none 0 0) bv T9 [] [] B9 ∧ Below w.heap.size w w' := by
  have B1 := Lib.hid (below1 w (.cells #[.slice none 0 0, .int .i64 0, .slice none 0 0, .slice none 0 0, .slice none 0 0] 49))
  have R1 : Hid (Blk (w.alloc (.cells #[.slice none 0 0, .int .i64 0, .slice none 0 0, .slice none 0 0, .slice none 0 0] 49)) w.heap.size 49 #[.slice none 0 0, .int .i64 0, .slice none 0 0, .slice none 0 0, .slice none 0 0]) := Blk.new w _ _
  go_enter Try.func21, Try.ntmps21
  go_upto_region 1 with (fail)
  generalize w.alloc (.cells #[.slice none 0 0, .int .i64 0, .slice none 0 0, .slice none 0 0, .slice none 0 0] 49) = w1 at B1 R1 ⊢
  have hsz1 := B1.out.size
  have hb1 : w.heap.size < w1.heap.size := R1.out.lt
  have b2 := below1 w1 (.cells #[.slice none 0 0, .int .i64 1, .slice none 0 0, .slice none 0 0, .slice none 0 0] 49)
  have X2 : Hid (Blk (w1.alloc (.cells #[.slice none 0 0, .int .i64 1, .slice none 0 0, .slice none 0 0, .slice none 0 0] 49)) w1.heap.size 49 #[.slice none 0 0, .int .i64 1, .slice none 0 0, .slice none 0 0, .slice none 0 0]) := Blk.new w1 _ _
  have B2 := Lib.hid (B1.out.trans (b2.mono hsz1))
  have R2 := Lib.hid (R1.out.on b2)
  clear b2 B1 R1
  go_upto_region 2 with (fail)
  generalize w1.alloc (.cells #[.slice none 0 0, .int .i64 1, .slice none 0 0, .slice none 0 0, .slice none 0 0] 49) = w2 at X2 B2 R2 ⊢
  have hx2 : w1.heap.size < w2.heap.size := X2.out.lt
  have b3 := below3 w2 (.cells #[.int .i64 1, .int .i64 0, .int .i64 0, .int .i64 0, .int .i64 0, .int .i64 2, .int .i64 0, .int .i64 1, .int .i64 0, .int .i64 1] 88) (.cells #[.int .i64 2, .int .i64 0, .int .i64 0, .int .i64 1, .int .i64 1, .int .i64 1, .int .i64 0, .int .i64 0, .int .i64 0, .int .i64 0] 88) (.cells #[.slice (some ⟨w2.heap.size, 0, none⟩) 2 2, .slice (some ⟨w2.heap.size + 1, 0, none⟩) 2 2] 86)
  have X3 := X2.out.on b3
  have hf := X3.free 0
  obtain ⟨d0, d1, d2, d3, d4⟩ := X3.five
  have hO : O2P w1.heap.size (((w2.alloc (.cells #[.int .i64 1, .int .i64 0, .int .i64 0, .int .i64 0, .int .i64 0, .int .i64 2, .int .i64 0, .int .i64 1, .int .i64 0, .int .i64 1] 88)).alloc (.cells #[.int .i64 2, .int .i64 0, .int .i64 0, .int .i64 1, .int .i64 1, .int .i64 1, .int .i64 0, .int .i64 0, .int .i64 0, .int .i64 0] 88)).alloc (.cells #[.slice (some ⟨w2.heap.size, 0, none⟩) 2 2, .slice (some ⟨w2.heap.size + 1, 0, none⟩) 2 2] 86)) (.slice (some ⟨w2.heap.size + 1 + 1, 0, none⟩) 2 2) T9 := by
    have h1 : O1P w1.heap.size (w2.alloc (.cells #[.int .i64 1, .int .i64 0, .int .i64 0, .int .i64 0, .int .i64 0, .int .i64 2, .int .i64 0, .int .i64 1, .int .i64 0, .int .i64 1] 88)) (.slice (some ⟨w2.heap.size, 0, none⟩) 2 2) [⟨1, 0, 0, 0, 0⟩, ⟨2, 0, 1, 0, 1⟩] := World.ownsRow_lit w2 #[.int .i64 1, .int .i64 0, .int .i64 0, .int .i64 0, .int .i64 0, .int .i64 2, .int .i64 0, .int .i64 1, .int .i64 0, .int .i64 1] 2 (by omega) (by decide) rfl
    have h2 := World.ownsRow_lit (base := w1.heap.size) (e := 88) (size := 5) (w2.alloc (.cells #[.int .i64 1, .int .i64 0, .int .i64 0, .int .i64 0, .int .i64 0, .int .i64 2, .int .i64 0, .int .i64 1, .int .i64 0, .int .i64 1] 88)) #[.int .i64 2, .int .i64 0, .int .i64 0, .int .i64 1, .int .i64 1, .int .i64 1, .int .i64 0, .int .i64 0, .int .i64 0, .int .i64 0] 2 (by simp; omega) (by decide) rfl
    have e : (w2.alloc (.cells #[.int .i64 1, .int .i64 0, .int .i64 0, .int .i64 0, .int .i64 0, .int .i64 2, .int .i64 0, .int .i64 1, .int .i64 0, .int .i64 1] 88)).heap.size = w2.heap.size + 1 := by simp
    rw [e] at h2
    have h3 := World.ownsRow_lit (base := w1.heap.size) (e := 86) (size := 1) ((w2.alloc (.cells #[.int .i64 1, .int .i64 0, .int .i64 0, .int .i64 0, .int .i64 0, .int .i64 2, .int .i64 0, .int .i64 1, .int .i64 0, .int .i64 1] 88)).alloc (.cells #[.int .i64 2, .int .i64 0, .int .i64 0, .int .i64 1, .int .i64 1, .int .i64 1, .int .i64 0, .int .i64 0, .int .i64 0, .int .i64 0] 88)) #[.slice (some ⟨w2.heap.size, 0, none⟩) 2 2, .slice (some ⟨w2.heap.size + 1, 0, none⟩) 2 2] 2 (by simp; omega) (by decide) rfl
    have e2 : ((w2.alloc (.cells #[.int .i64 1, .int .i64 0, .int .i64 0, .int .i64 0, .int .i64 0, .int .i64 2, .int .i64 0, .int .i64 1, .int .i64 0, .int .i64 1] 88)).alloc (.cells #[.int .i64 2, .int .i64 0, .int .i64 0, .int .i64 1, .int .i64 1, .int .i64 1, .int .i64 0, .int .i64 0, .int .i64 0, .int .i64 0] 88)).heap.size = w2.heap.size + 1 + 1 := by simp
    rw [e2] at h3
    refine ⟨[.slice (some ⟨w2.heap.size, 0, none⟩) 2 2, .slice (some ⟨w2.heap.size + 1, 0, none⟩) 2 2], h3, fun i x hx => ?_⟩
    match i with
    | 0 => injection hx with hx; subst hx; exact ⟨_, rfl, O1P.on _ _ _ _ _ (below2 _ _ _) h1⟩
    | 1 => injection hx with hx; subst hx; exact ⟨_, rfl, O1P.on _ _ _ _ _ (below1 _ _) h2⟩
    | i + 2 => simp [T9] at hx
  have c3 : Cfo w1.heap.size (((w2.alloc (.cells #[.int .i64 1, .int .i64 0, .int .i64 0, .int .i64 0, .int .i64 0, .int .i64 2, .int .i64 0, .int .i64 1, .int .i64 0, .int .i64 1] 88)).alloc (.cells #[.int .i64 2, .int .i64 0, .int .i64 0, .int .i64 1, .int .i64 1, .int .i64 1, .int .i64 0, .int .i64 0, .int .i64 0, .int .i64 0] 88)).alloc (.cells #[.slice (some ⟨w2.heap.size, 0, none⟩) 2 2, .slice (some ⟨w2.heap.size + 1, 0, none⟩) 2 2] 86)) (.slice (some ⟨w2.heap.size + 1 + 1, 0, none⟩) 2 2) (.slice none 0 0) (.slice none 0 0) (.slice none 0 0) T9 [] [] [] := ⟨hO, World.ownsRow_nil _ _ _ _, World.ownsRow_nil _ _ _ _, Cfo.start.tabs⟩
  have C3 := Lib.hid (Cfo.box (i := 0) (u := .slice (some ⟨w2.heap.size + 1 + 1, 0, none⟩) 2 2) ⟨_, _, X3⟩ c3)
  have kX3 := X3.set 0 (.slice (some ⟨w2.heap.size + 1 + 1, 0, none⟩) 2 2)
  simp only [List.setIfInBounds_toArray, List.set_cons_zero] at kX3
  have HX3 := Lib.hid kX3
  have HB3 := Lib.hid ((B2.out.trans (b3.mono B2.out.size)).setCell (p := ⟨w1.heap.size, 0, none⟩) (show w.heap.size ≤ w1.heap.size by omega) (.slice (some ⟨w2.heap.size + 1 + 1, 0, none⟩) 2 2))
  have HR3 := Lib.hid ((R2.out.on b3).far (p := ⟨w1.heap.size, 0, none⟩) (show w.heap.size ≠ w1.heap.size by omega) (.slice (some ⟨w2.heap.size + 1 + 1, 0, none⟩) 2 2))
  clear X3 hO c3 b3 X2 B2 R2 kX3
  go_upto_region 3 with (fail)
  clear hf d0 d1 d2 d3 d4
  generalize (((w2.alloc (.cells #[.int .i64 1, .int .i64 0, .int .i64 0, .int .i64 0, .int .i64 0, .int .i64 2, .int .i64 0, .int .i64 1, .int .i64 0, .int .i64 1] 88)).alloc (.cells #[.int .i64 2, .int .i64 0, .int .i64 0, .int .i64 1, .int .i64 1, .int .i64 1, .int .i64 0, .int .i64 0, .int .i64 0, .int .i64 0] 88)).alloc (.cells #[.slice (some ⟨w2.heap.size, 0, none⟩) 2 2, .slice (some ⟨w2.heap.size + 1, 0, none⟩) 2 2] 86)).setCell ⟨w1.heap.size, 0, none⟩ (.slice (some ⟨w2.heap.size + 1 + 1, 0, none⟩) 2 2) = w3 at C3 HX3 HB3 HR3 ⊢
  obtain ⟨TV, hTV⟩ : ∃ TV : Value, TV = .slice (some ⟨w2.heap.size + 1 + 1, 0, none⟩) 2 2 := ⟨_, rfl⟩
  rw [← hTV] at C3 HX3
  clear hTV
  have bm := below1 w3 (.cells #[.int .u64 0, .int .u64 1, .int .u64 0, .int .u64 1] 34)
  have M4 := Lib.hid (Blk.new w3 34 #[.int .u64 0, .int .u64 1, .int .u64 0, .int .u64 1])
  have C4 := Lib.hid (C3.out.on bm)
  have HX4 := Lib.hid (HX3.out.on bm)
  have HB4 := Lib.hid (HB3.out.trans (bm.mono HB3.out.size))
  have HR4 := Lib.hid (HR3.out.on bm)
  clear bm C3 HX3 HB3 HR3
  go_upto_region 4 with (fail)
  generalize hgen : w3.alloc (.cells #[.int .u64 0, .int .u64 1, .int .u64 0, .int .u64 1] 34) = w4 at M4 C4 HX4 HB4 HR4 ⊢
  clear hgen
  generalize hgen : w3.heap.size = bq at M4 ⊢
  clear hgen
  have hx4 : w1.heap.size < w4.heap.size := HX4.out.lt
  obtain ⟨m0, m1, m2, m3⟩ := quad M4.out
  have b5 := below4 w4 (.cells #[.int .i64 0, .int .u64 0, .int .u64 1, .int .u64 0, .int .u64 1, .int .i64 3, .int .i64 1, .int .i64 0, .int .u64 0, .int .u64 0, .int .u64 0, .int .u64 0] 38) (.cells #[.slice (some ⟨w4.heap.size, 0, none⟩) 1 1] 30) (.cells #[.int .i64 0, .int .u64 0, .int .u64 1, .int .u64 0, .int .u64 1, .int .i64 2, .int .i64 1, .int .i64 0, .int .u64 0, .int .u64 0, .int .u64 0, .int .u64 0] 38) (.cells #[.slice (some ⟨w4.heap.size + 1 + 1, 0, none⟩) 1 1] 30)
  have b6 : Below w4.heap.size w4 (((((w4.alloc (.cells #[.int .i64 0, .int .u64 0, .int .u64 1, .int .u64 0, .int .u64 1, .int .i64 3, .int .i64 1, .int .i64 0, .int .u64 0, .int .u64 0, .int .u64 0, .int .u64 0] 38)).alloc (.cells #[.slice (some ⟨w4.heap.size, 0, none⟩) 1 1] 30)).alloc (.cells #[.int .i64 0, .int .u64 0, .int .u64 1, .int .u64 0, .int .u64 1, .int .i64 2, .int .i64 1, .int .i64 0, .int .u64 0, .int .u64 0, .int .u64 0, .int .u64 0] 38)).alloc (.cells #[.slice (some ⟨w4.heap.size + 1 + 1, 0, none⟩) 1 1] 30)).alloc (.cells #[.slice (some ⟨w4.heap.size + 1, 0, none⟩) 1 1, .slice (some ⟨w4.heap.size + 1 + 1 + 1, 0, none⟩) 1 1] 22)) := b5.alloc (by simp; omega) _
  have X5 := HX4.out.on b6
  have hf := X5.free 4
  obtain ⟨d0, d1, d2, d3, d4⟩ := X5.five
  have hO : O3R w1.heap.size (((((w4.alloc (.cells #[.int .i64 0, .int .u64 0, .int .u64 1, .int .u64 0, .int .u64 1, .int .i64 3, .int .i64 1, .int .i64 0, .int .u64 0, .int .u64 0, .int .u64 0, .int .u64 0] 38)).alloc (.cells #[.slice (some ⟨w4.heap.size, 0, none⟩) 1 1] 30)).alloc (.cells #[.int .i64 0, .int .u64 0, .int .u64 1, .int .u64 0, .int .u64 1, .int .i64 2, .int .i64 1, .int .i64 0, .int .u64 0, .int .u64 0, .int .u64 0, .int .u64 0] 38)).alloc (.cells #[.slice (some ⟨w4.heap.size + 1 + 1, 0, none⟩) 1 1] 30)).alloc (.cells #[.slice (some ⟨w4.heap.size + 1, 0, none⟩) 1 1, .slice (some ⟨w4.heap.size + 1 + 1 + 1, 0, none⟩) 1 1] 22)) (.slice (some ⟨w4.heap.size + 1 + 1 + 1 + 1, 0, none⟩) 2 2) B9 := by
    have q1 : O1R w1.heap.size (w4.alloc (.cells #[.int .i64 0, .int .u64 0, .int .u64 1, .int .u64 0, .int .u64 1, .int .i64 3, .int .i64 1, .int .i64 0, .int .u64 0, .int .u64 0, .int .u64 0, .int .u64 0] 38)) (.slice (some ⟨w4.heap.size, 0, none⟩) 1 1) [R9a] := World.ownsRow_lit w4 #[.int .i64 0, .int .u64 0, .int .u64 1, .int .u64 0, .int .u64 1, .int .i64 3, .int .i64 1, .int .i64 0, .int .u64 0, .int .u64 0, .int .u64 0, .int .u64 0] 1 (by omega) (by decide) rfl
    have q2 := World.ownsRow_lit (base := w1.heap.size) (e := 30) (size := 1) (w4.alloc (.cells #[.int .i64 0, .int .u64 0, .int .u64 1, .int .u64 0, .int .u64 1, .int .i64 3, .int .i64 1, .int .i64 0, .int .u64 0, .int .u64 0, .int .u64 0, .int .u64 0] 38)) #[.slice (some ⟨w4.heap.size, 0, none⟩) 1 1] 1 (by simp; omega) (by decide) rfl
    have e1 : (w4.alloc (.cells #[.int .i64 0, .int .u64 0, .int .u64 1, .int .u64 0, .int .u64 1, .int .i64 3, .int .i64 1, .int .i64 0, .int .u64 0, .int .u64 0, .int .u64 0, .int .u64 0] 38)).heap.size = w4.heap.size + 1 := by simp
    rw [e1] at q2
    have q3 : O2R w1.heap.size ((w4.alloc (.cells #[.int .i64 0, .int .u64 0, .int .u64 1, .int .u64 0, .int .u64 1, .int .i64 3, .int .i64 1, .int .i64 0, .int .u64 0, .int .u64 0, .int .u64 0, .int .u64 0] 38)).alloc (.cells #[.slice (some ⟨w4.heap.size, 0, none⟩) 1 1] 30)) (.slice (some ⟨w4.heap.size + 1, 0, none⟩) 1 1) [[R9a]] := by
      refine ⟨[.slice (some ⟨w4.heap.size, 0, none⟩) 1 1], q2, fun i x hx => ?_⟩
      cases i with
      | zero => injection hx with hx; subst hx; exact ⟨_, rfl, O1R.on _ _ _ _ _ (below1 _ _) q1⟩
      | succ i => simp at hx
    have q4 := World.ownsRow_lit (base := w1.heap.size) (e := 38) (size := 12) ((w4.alloc (.cells #[.int .i64 0, .int .u64 0, .int .u64 1, .int .u64 0, .int .u64 1, .int .i64 3, .int .i64 1, .int .i64 0, .int .u64 0, .int .u64 0, .int .u64 0, .int .u64 0] 38)).alloc (.cells #[.slice (some ⟨w4.heap.size, 0, none⟩) 1 1] 30)) #[.int .i64 0, .int .u64 0, .int .u64 1, .int .u64 0, .int .u64 1, .int .i64 2, .int .i64 1, .int .i64 0, .int .u64 0, .int .u64 0, .int .u64 0, .int .u64 0] 1 (by simp; omega) (by decide) rfl
    have e2 : ((w4.alloc (.cells #[.int .i64 0, .int .u64 0, .int .u64 1, .int .u64 0, .int .u64 1, .int .i64 3, .int .i64 1, .int .i64 0, .int .u64 0, .int .u64 0, .int .u64 0, .int .u64 0] 38)).alloc (.cells #[.slice (some ⟨w4.heap.size, 0, none⟩) 1 1] 30)).heap.size = w4.heap.size + 1 + 1 := by simp
    rw [e2] at q4
    have q5 : O1R w1.heap.size (((w4.alloc (.cells #[.int .i64 0, .int .u64 0, .int .u64 1, .int .u64 0, .int .u64 1, .int .i64 3, .int .i64 1, .int .i64 0, .int .u64 0, .int .u64 0, .int .u64 0, .int .u64 0] 38)).alloc (.cells #[.slice (some ⟨w4.heap.size, 0, none⟩) 1 1] 30)).alloc (.cells #[.int .i64 0, .int .u64 0, .int .u64 1, .int .u64 0, .int .u64 1, .int .i64 2, .int .i64 1, .int .i64 0, .int .u64 0, .int .u64 0, .int .u64 0, .int .u64 0] 38)) (.slice (some ⟨w4.heap.size + 1 + 1, 0, none⟩) 1 1) [R9b] := q4
    have q6 := World.ownsRow_lit (base := w1.heap.size) (e := 30) (size := 1) (((w4.alloc (.cells #[.int .i64 0, .int .u64 0, .int .u64 1, .int .u64 0, .int .u64 1, .int .i64 3, .int .i64 1, .int .i64 0, .int .u64 0, .int .u64 0, .int .u64 0, .int .u64 0] 38)).alloc (.cells #[.slice (some ⟨w4.heap.size, 0, none⟩) 1 1] 30)).alloc (.cells #[.int .i64 0, .int .u64 0, .int .u64 1, .int .u64 0, .int .u64 1, .int .i64 2, .int .i64 1, .int .i64 0, .int .u64 0, .int .u64 0, .int .u64 0, .int .u64 0] 38)) #[.slice (some ⟨w4.heap.size + 1 + 1, 0, none⟩) 1 1] 1 (by simp; omega) (by decide) rfl
    have e3 : (((w4.alloc (.cells #[.int .i64 0, .int .u64 0, .int .u64 1, .int .u64 0, .int .u64 1, .int .i64 3, .int .i64 1, .int .i64 0, .int .u64 0, .int .u64 0, .int .u64 0, .int .u64 0] 38)).alloc (.cells #[.slice (some ⟨w4.heap.size, 0, none⟩) 1 1] 30)).alloc (.cells #[.int .i64 0, .int .u64 0, .int .u64 1, .int .u64 0, .int .u64 1, .int .i64 2, .int .i64 1, .int .i64 0, .int .u64 0, .int .u64 0, .int .u64 0, .int .u64 0] 38)).heap.size = w4.heap.size + 1 + 1 + 1 := by simp
    rw [e3] at q6
    have q7 : O2R w1.heap.size ((((w4.alloc (.cells #[.int .i64 0, .int .u64 0, .int .u64 1, .int .u64 0, .int .u64 1, .int .i64 3, .int .i64 1, .int .i64 0, .int .u64 0, .int .u64 0, .int .u64 0, .int .u64 0] 38)).alloc (.cells #[.slice (some ⟨w4.heap.size, 0, none⟩) 1 1] 30)).alloc (.cells #[.int .i64 0, .int .u64 0, .int .u64 1, .int .u64 0, .int .u64 1, .int .i64 2, .int .i64 1, .int .i64 0, .int .u64 0, .int .u64 0, .int .u64 0, .int .u64 0] 38)).alloc (.cells #[.slice (some ⟨w4.heap.size + 1 + 1, 0, none⟩) 1 1] 30)) (.slice (some ⟨w4.heap.size + 1 + 1 + 1, 0, none⟩) 1 1) [[R9b]] := by
      refine ⟨[.slice (some ⟨w4.heap.size + 1 + 1, 0, none⟩) 1 1], q6, fun i x hx => ?_⟩
      cases i with
      | zero => injection hx with hx; subst hx; exact ⟨_, rfl, O1R.on _ _ _ _ _ (below1 _ _) q5⟩
      | succ i => simp at hx
    have q8 := World.ownsRow_lit (base := w1.heap.size) (e := 22) (size := 1) ((((w4.alloc (.cells #[.int .i64 0, .int .u64 0, .int .u64 1, .int .u64 0, .int .u64 1, .int .i64 3, .int .i64 1, .int .i64 0, .int .u64 0, .int .u64 0, .int .u64 0, .int .u64 0] 38)).alloc (.cells #[.slice (some ⟨w4.heap.size, 0, none⟩) 1 1] 30)).alloc (.cells #[.int .i64 0, .int .u64 0, .int .u64 1, .int .u64 0, .int .u64 1, .int .i64 2, .int .i64 1, .int .i64 0, .int .u64 0, .int .u64 0, .int .u64 0, .int .u64 0] 38)).alloc (.cells #[.slice (some ⟨w4.heap.size + 1 + 1, 0, none⟩) 1 1] 30)) #[.slice (some ⟨w4.heap.size + 1, 0, none⟩) 1 1, .slice (some ⟨w4.heap.size + 1 + 1 + 1, 0, none⟩) 1 1] 2 (by simp; omega) (by decide) rfl
    have e4 : ((((w4.alloc (.cells #[.int .i64 0, .int .u64 0, .int .u64 1, .int .u64 0, .int .u64 1, .int .i64 3, .int .i64 1, .int .i64 0, .int .u64 0, .int .u64 0, .int .u64 0, .int .u64 0] 38)).alloc (.cells #[.slice (some ⟨w4.heap.size, 0, none⟩) 1 1] 30)).alloc (.cells #[.int .i64 0, .int .u64 0, .int .u64 1, .int .u64 0, .int .u64 1, .int .i64 2, .int .i64 1, .int .i64 0, .int .u64 0, .int .u64 0, .int .u64 0, .int .u64 0] 38)).alloc (.cells #[.slice (some ⟨w4.heap.size + 1 + 1, 0, none⟩) 1 1] 30)).heap.size = w4.heap.size + 1 + 1 + 1 + 1 := by simp
    rw [e4] at q8
    refine ⟨[.slice (some ⟨w4.heap.size + 1, 0, none⟩) 1 1, .slice (some ⟨w4.heap.size + 1 + 1 + 1, 0, none⟩) 1 1], q8, fun i x hx => ?_⟩
    match i with
    | 0 => injection hx with hx; subst hx; exact ⟨_, rfl, O2R.on _ _ _ _ _ (below3 _ _ _ _) q3⟩
    | 1 => injection hx with hx; subst hx; exact ⟨_, rfl, O2R.on _ _ _ _ _ (below1 _ _) q7⟩
    | i + 2 => simp [B9] at hx
  have c5 : Cfo w1.heap.size (((((w4.alloc (.cells #[.int .i64 0, .int .u64 0, .int .u64 1, .int .u64 0, .int .u64 1, .int .i64 3, .int .i64 1, .int .i64 0, .int .u64 0, .int .u64 0, .int .u64 0, .int .u64 0] 38)).alloc (.cells #[.slice (some ⟨w4.heap.size, 0, none⟩) 1 1] 30)).alloc (.cells #[.int .i64 0, .int .u64 0, .int .u64 1, .int .u64 0, .int .u64 1, .int .i64 2, .int .i64 1, .int .i64 0, .int .u64 0, .int .u64 0, .int .u64 0, .int .u64 0] 38)).alloc (.cells #[.slice (some ⟨w4.heap.size + 1 + 1, 0, none⟩) 1 1] 30)).alloc (.cells #[.slice (some ⟨w4.heap.size + 1, 0, none⟩) 1 1, .slice (some ⟨w4.heap.size + 1 + 1 + 1, 0, none⟩) 1 1] 22)) TV (.slice none 0 0) (.slice none 0 0) (.slice (some ⟨w4.heap.size + 1 + 1 + 1 + 1, 0, none⟩) 2 2) T9 [] [] B9 := ⟨O2P.on _ _ _ _ _ b6 C4.out.ports, World.ownsRow_nil _ _ _ _, World.ownsRow_nil _ _ _ _, hO⟩
  have C5 := Lib.hid (Cfo.box (i := 4) (u := .slice (some ⟨w4.heap.size + 1 + 1 + 1 + 1, 0, none⟩) 2 2) ⟨_, _, X5⟩ c5)
  have kX5 := X5.set 4 (.slice (some ⟨w4.heap.size + 1 + 1 + 1 + 1, 0, none⟩) 2 2)
  simp only [List.setIfInBounds_toArray, List.set_cons_succ, List.set_cons_zero] at kX5
  have HX5 := Lib.hid kX5
  have HB5 := Lib.hid ((HB4.out.trans (b6.mono HB4.out.size)).setCell (p := ⟨w1.heap.size, 4, none⟩) (show w.heap.size ≤ w1.heap.size by omega) (.slice (some ⟨w4.heap.size + 1 + 1 + 1 + 1, 0, none⟩) 2 2))
  have HR5 := Lib.hid ((HR4.out.on b6).far (p := ⟨w1.heap.size, 4, none⟩) (show w.heap.size ≠ w1.heap.size by omega) (.slice (some ⟨w4.heap.size + 1 + 1 + 1 + 1, 0, none⟩) 2 2))
  have n1 := on_some (below2 w4 (.cells #[.int .i64 0, .int .u64 0, .int .u64 1, .int .u64 0, .int .u64 1, .int .i64 3, .int .i64 1, .int .i64 0, .int .u64 0, .int .u64 0, .int .u64 0, .int .u64 0] 38) (.cells #[.slice (some ⟨w4.heap.size, 0, none⟩) 1 1] 30)) m0
  have n2 := on_some (below2 w4 (.cells #[.int .i64 0, .int .u64 0, .int .u64 1, .int .u64 0, .int .u64 1, .int .i64 3, .int .i64 1, .int .i64 0, .int .u64 0, .int .u64 0, .int .u64 0, .int .u64 0] 38) (.cells #[.slice (some ⟨w4.heap.size, 0, none⟩) 1 1] 30)) m1
  have n3 := on_some (below2 w4 (.cells #[.int .i64 0, .int .u64 0, .int .u64 1, .int .u64 0, .int .u64 1, .int .i64 3, .int .i64 1, .int .i64 0, .int .u64 0, .int .u64 0, .int .u64 0, .int .u64 0] 38) (.cells #[.slice (some ⟨w4.heap.size, 0, none⟩) 1 1] 30)) m2
  have n4 := on_some (below2 w4 (.cells #[.int .i64 0, .int .u64 0, .int .u64 1, .int .u64 0, .int .u64 1, .int .i64 3, .int .i64 1, .int .i64 0, .int .u64 0, .int .u64 0, .int .u64 0, .int .u64 0] 38) (.cells #[.slice (some ⟨w4.heap.size, 0, none⟩) 1 1] 30)) m3
  clear X5 hO c5 b5 b6 HX4 C4 HB4 HR4 kX5
  go_upto_region 5 with (fail)
  clear hf d0 d1 d2 d3 d4 m0 m1 m2 m3 n1 n2 n3 n4
  generalize (((((w4.alloc (.cells #[.int .i64 0, .int .u64 0, .int .u64 1, .int .u64 0, .int .u64 1, .int .i64 3, .int .i64 1, .int .i64 0, .int .u64 0, .int .u64 0, .int .u64 0, .int .u64 0] 38)).alloc (.cells #[.slice (some ⟨w4.heap.size, 0, none⟩) 1 1] 30)).alloc (.cells #[.int .i64 0, .int .u64 0, .int .u64 1, .int .u64 0, .int .u64 1, .int .i64 2, .int .i64 1, .int .i64 0, .int .u64 0, .int .u64 0, .int .u64 0, .int .u64 0] 38)).alloc (.cells #[.slice (some ⟨w4.heap.size + 1 + 1, 0, none⟩) 1 1] 30)).alloc (.cells #[.slice (some ⟨w4.heap.size + 1, 0, none⟩) 1 1, .slice (some ⟨w4.heap.size + 1 + 1 + 1, 0, none⟩) 1 1] 22)).setCell ⟨w1.heap.size, 4, none⟩ (.slice (some ⟨w4.heap.size + 1 + 1 + 1 + 1, 0, none⟩) 2 2) = w5 at C5 HX5 HB5 HR5 ⊢
  obtain ⟨BV, hBV⟩ : ∃ BV : Value, BV = .slice (some ⟨w4.heap.size + 1 + 1 + 1 + 1, 0, none⟩) 2 2 := ⟨_, rfl⟩
  rw [← hBV] at C5 HX5
  clear hBV
  obtain ⟨tA, tc, rfl, -⟩ := OwG.rd C5.out.ports
  obtain ⟨xA, xc, rfl, -⟩ := OwG.rd C5.out.tabs
  obtain ⟨d0, d1, d2, d3, d4⟩ := HX5.out.five
  have K5 := HR5.out.put5 (.slice tA T9.length tc) (.int .i64 1) (.slice none 0 0) (.slice none 0 0) (.slice xA B9.length xc)
  obtain ⟨q0, q1, q2, q3, q4⟩ := K5.five
  obtain ⟨z0, z1, z2, z3, z4⟩ := HR5.out.five
  have f0 := HR5.out.free 0
  have f1 := HR5.out.free 1
  have f2 := HR5.out.free 2
  have f3 := HR5.out.free 3
  have f4 := HR5.out.free 4
  have HCE := Lib.hid (Cfo.put5 hb1 C5.out (.slice tA T9.length tc) (.int .i64 1) (.slice none 0 0) (.slice none 0 0) (.slice xA B9.length xc))
  have HBE := Lib.hid (HB5.out.trans (below_put5 (w := w5) (B := w.heap.size) (g := w.heap.size) (Nat.le_refl _) (.slice tA T9.length tc) (.int .i64 1) (.slice none 0 0) (.slice none 0 0) (.slice xA B9.length xc)))
  clear K5 HR5 HX5 C5 HB5
  go_wp2
  exact bodyPost_ret (v := .agg #[.slice tA T9.length tc, .int .i64 1, .slice none 0 0, .slice none 0 0, .slice xA B9.length xc]) (by simp [results, Try.results21, go_sem, q0, q1, q2, q3, q4]) rfl ⟨_, _, rfl, Cfo.mono hsz1 HCE.out, HBE.out⟩
end Go.Proofs

namespace Go.Proofs
open Go.RowKit Go.Proofs.Hd Go.Lib
attribute [local go_sem high] run_eqSp1
theorem run9_a (tv pv wv bv : Value) (w : World) (B : Nat) (h : Cfo B w tv pv wv bv T9 [] [] B9) : Calls Try.prog 12 #[.agg #[tv, .int .i64 1, pv, wv, bv], .agg #[.int .i64 0, .int .i64 0], .agg #[.int .u64 0, .int .u64 1], .int .i64 0] w fun e w' => ∃ hA hc, e = .returned (.tuple #[.agg #[.int .i64 2, .int .i64 1, .int .i64 1, .slice hA 2 hc], .int .i64 0]) ∧ Hs w' hA hc [⟨0, 0, 0, 16777216#64, 1#64⟩, ⟨1, 0, 0, 16777216#64, 1#64⟩] ∧ Below w.heap.size w w' := by
  obtain ⟨K, hK⟩ : ∃ K : Nat, K = 10800 := ⟨_, rfl⟩
  have hc := run_c tv pv wv bv T9 1 [] [] B9 0 0 0 0#64 1#64 K w hK h.rd.1 h.rd.2.1 h.rd.2.2.1 h.rd.2.2.2 B9_len
  rw [C9] at hc
  have e0 : uv 0#64 = 0 := rfl
  have e1 : uv 1#64 = 1 := rfl
  rw [e0, e1] at hc
  refine hc.mono fun e w' hr => ?_
  obtain ⟨hr, hb⟩ := hr
  cases hr with
  | badz h _ => exact absurd rfl h
  | bad4 _ h _ => exact absurd ⟨by decide, by decide⟩ h
  | bad7 _ _ h _ => rw [T9_edge] at h; exact absurd h (by decide)
  | @ok n m i fin sw sp H hA hc _ hn hm hed hver ha hr he ho =>
    rw [T9_edge] at hed
    have en : n = 0 := by omega
    have em : m = 0 := by omega
    have ei : i = 0 := by omega
    subst en em ei
    obtain ⟨k, hk⟩ : ∃ k, K = k + 2 := ⟨K - 2, by omega⟩
    rw [(st9 1#64 (by decide)).1, (st9 1#64 (by decide)).2, hk, run9a] at hr
    injection hr with r1 r2 r3 r4
    subst r1 r2 r3 r4
    exact ⟨hA, hc, he, Hs.of_own ho, hb⟩
theorem run9_b (tv pv wv bv : Value) (w : World) (B : Nat) (h : Cfo B w tv pv wv bv T9 [] [] B9) : Calls Try.prog 12 #[.agg #[tv, .int .i64 1, pv, wv, bv], .agg #[.int .i64 0, .int .i64 0], .agg #[.int .u64 0, .int .u64 0], .int .i64 0] w fun e w' => ∃ hA hc, e = .returned (.tuple #[.agg #[.int .i64 3, .int .i64 0, .int .i64 0, .slice hA 1 hc], .int .i64 0]) ∧ Hs w' hA hc [⟨0, 0, -1, 16777216#64, 0#64⟩] ∧ Below w.heap.size w w' := by
  obtain ⟨K, hK⟩ : ∃ K : Nat, K = 10800 := ⟨_, rfl⟩
  have hc := run_c tv pv wv bv T9 1 [] [] B9 0 0 0 0#64 0#64 K w hK h.rd.1 h.rd.2.1 h.rd.2.2.1 h.rd.2.2.2 B9_len
  rw [C9] at hc
  have e0 : uv 0#64 = 0 := rfl
  have e1 : uv 1#64 = 1 := rfl
  rw [e0] at hc
  refine hc.mono fun e w' hr => ?_
  obtain ⟨hr, hb⟩ := hr
  cases hr with
  | badz h _ => exact absurd rfl h
  | bad4 _ h _ => exact absurd ⟨by decide, by decide⟩ h
  | bad7 _ _ h _ => rw [T9_edge] at h; exact absurd h (by decide)
  | @ok n m i fin sw sp H hA hc _ hn hm hed hver ha hr he ho =>
    rw [T9_edge] at hed
    have en : n = 0 := by omega
    have em : m = 0 := by omega
    have ei : i = 0 := by omega
    subst en em ei
    obtain ⟨k, hk⟩ : ∃ k, K = k + 1 := ⟨K - 1, by omega⟩
    rw [(st9 0#64 (by decide)).1, (st9 0#64 (by decide)).2, hk, run9b] at hr
    injection hr with r1 r2 r3 r4
    subst r1 r2 r3 r4
    exact ⟨hA, hc, he, Hs.of_own ho, hb⟩
theorem passed9 {A : Option Addr} {c : Nat} {w : World} (x : Bool) (n : Int) (h : Hs w A c [⟨0, 0, 0, 16777216#64, 1#64⟩, ⟨1, 0, 0, 16777216#64, 1#64⟩]) (hx : psd [⟨0, 0, 0, 16777216#64, 1#64⟩, ⟨1, 0, 0, 16777216#64, 1#64⟩] n = x) : Calls Try.prog 17 #[.agg #[.int .i64 2, .int .i64 1, .int .i64 1, .slice A 2 c], .int .i64 n] w fun e w' => e = .returned (.bool x) ∧ Below w.heap.size w w' := passed_c (H := [⟨0, 0, 0, 16777216#64, 1#64⟩, ⟨1, 0, 0, 16777216#64, 1#64⟩]) x 2 1 1 n (by decide) h hx
set_option maxRecDepth 100000 in
set_option maxHeartbeats 4000000 in
theorem awake9_c (w : World) : Calls Try.prog 10 #[] w fun e w' => e = .returned (.bool true) ∧ Below w.heap.size w w' := by
  go_enter Try.func10, Try.ntmps10
  go_wp2_with fail
  (with_reducible refine (ring_c _).mono ?_)
  rintro e w1 ⟨tv, bv, rfl, hcf, hb1⟩
  obtain ⟨tA, tc, rfl, -⟩ := OwG.rd hcf.ports
  obtain ⟨xA, xc, rfl, -⟩ := OwG.rd hcf.tabs
  have bx := below1 w1 (.cells #[.slice tA T9.length tc, .int .i64 1, .slice none 0 0, .slice none 0 0, .slice xA B9.length xc] 49)
  have X2 := Lib.hid (Blk.new w1 49 #[.slice tA T9.length tc, .int .i64 1, .slice none 0 0, .slice none 0 0, .slice xA B9.length xc])
  have HCF := Lib.hid (hcf.on bx)
  have HB2 := Lib.hid (hb1.trans (bx.mono hb1.size))
  clear hcf hb1 bx
  go_upto_region 2 with (fail)
  generalize w1.alloc (.cells #[.slice tA T9.length tc, .int .i64 1, .slice none 0 0, .slice none 0 0, .slice xA B9.length xc] 49) = w2 at X2 HCF HB2 ⊢
  obtain ⟨d0, d1, d2, d3, d4⟩ := X2.out.five
  go_wp2_with fail
  (with_reducible refine (run9_a _ _ _ _ _ _ HCF.out).mono ?_)
  rintro e w3 ⟨hA, hc, rfl, hH, hb⟩
  have by1 := below1 w3 (.cells #[.int .i64 2, .int .i64 1, .int .i64 1, .slice hA 2 hc] 54)
  have HW := Lib.hid (hb.trans (by1.mono hb.size))
  have Y4 := Lib.hid (Blk.new w3 54 #[.int .i64 2, .int .i64 1, .int .i64 1, .slice hA 2 hc])
  have HH4 := Lib.hid (hH.on by1)
  have X4 := Lib.hid (X2.out.on HW.out)
  have HCF4 := Lib.hid (HCF.out.on HW.out)
  have HB4 := Lib.hid (HB2.out.trans (HW.out.mono HB2.out.size))
  clear hb by1 hH d0 d1 d2 d3 d4 X2 HCF HB2 HW
  go_upto_region 3 with (fail)
  generalize hgen : w3.alloc (.cells #[.int .i64 2, .int .i64 1, .int .i64 1, .slice hA 2 hc] 54) = w4 at Y4 HH4 X4 HCF4 HB4 ⊢
  clear hgen
  generalize hgen : w3.heap.size = by3 at Y4 ⊢
  clear hgen
  obtain ⟨d0, d1, d2, d3, d4⟩ := X4.out.five
  go_wp2_with fail
  (with_reducible refine (run9_b _ _ _ _ _ _ HCF4.out).mono ?_)
  rintro e w5 ⟨gA, gc, rfl, hH, hb⟩
  have by1 := below1 w5 (.cells #[.int .i64 3, .int .i64 0, .int .i64 0, .slice gA 1 gc] 54)
  have hw := hb.trans (by1.mono hb.size)
  have Z6 := Lib.hid (Blk.new w5 54 #[.int .i64 3, .int .i64 0, .int .i64 0, .slice gA 1 gc])
  have Y6 := Lib.hid (Y4.out.on hw)
  have HH6 := Lib.hid (HH4.out.on hw)
  have HB6 := Lib.hid (HB4.out.trans (hw.mono HB4.out.size))
  clear hb by1 hH hw d0 d1 d2 d3 d4 X4 HCF4 HB4 HH4 Y4
  go_upto_region 4 with (fail)
  generalize hgen : w5.alloc (.cells #[.int .i64 3, .int .i64 0, .int .i64 0, .slice gA 1 gc] 54) = w6 at Z6 Y6 HH6 HB6 ⊢
  clear hgen
  generalize hgen : w5.heap.size = bz3 at Z6 ⊢
  clear hgen
  obtain ⟨y0, y1, y2, y3⟩ := quad Y6.out
  go_wp2_with fail
  (with_reducible refine (passed9 true 1 HH6.out (by decide)).mono ?_)
  rintro e w7 ⟨rfl, hb⟩
  have Z7 := Lib.hid (Z6.out.on hb)
  have Y7 := Lib.hid (Y6.out.on hb)
  have HH7 := Lib.hid (HH6.out.on hb)
  have HB7 := Lib.hid (HB6.out.trans (hb.mono HB6.out.size))
  clear hb y0 y1 y2 y3 Z6 Y6 HH6 HB6
  obtain ⟨y0, y1, y2, y3⟩ := quad Y7.out
  go_wp2_with fail
  (with_reducible refine (passed9 false 2 HH7.out (by decide)).mono ?_)
  rintro e w8 ⟨rfl, hb⟩
  obtain ⟨z0, z1, z2, z3⟩ := quad (Z7.out.on hb)
  have HBE := Lib.hid (HB7.out.trans (hb.mono HB7.out.size))
  clear hb y0 y1 y2 y3 Z7 Y7 HH7 HB7
  go_wp2
  go_ret
  exact ⟨rfl, HBE.out⟩
end Go.Proofs

namespace Go.Proofs.Hd
open Go.RowKit
/-- The error of Run. -/
def errT (T : List (List Pt)) (z a b ver : Int) : Int := if z ≠ 0 then z else if ¬ (0 ≤ ver ∧ ver ≤ 255) then 4 else if edgT T a b < 0 then 7 else 0
theorem errT_zero {T : List (List Pt)} {z a b ver : Int} (h : errT T z a b ver = 0) : z = 0 ∧ (0 ≤ ver ∧ ver ≤ 255) ∧ ¬ edgT T a b < 0 := by
  unfold errT at h
  by_cases h1 : z = 0
  · rw [if_neg (by simp [h1])] at h
    by_cases h2 : 0 ≤ ver ∧ ver ≤ 255
    · rw [if_neg (by simp [h2])] at h
      by_cases h3 : edgT T a b < 0
      · rw [if_pos h3] at h; cases h
      · exact ⟨h1, h2, h3⟩
    · rw [if_pos h2] at h; cases h
  · rw [if_pos h1] at h; exact absurd h h1
end Go.Proofs.Hd
namespace Go.Proofs
open Go.RowKit Go.Proofs.Hd Go.Lib
theorem run_no (tv pv wv bv : Value) (T : List (List Pt)) (ten : Int) (P : List (Int × Int)) (Q : List Wa) (BB : List (List (List Rl))) (a b ver : Int) (hh hl : BitVec 64) (w : World) {x : Int} (hx : errT T (cfgT T ten P Q BB) a b ver = x) (h0 : x ≠ 0) (hT : PsT w tv T) (hP : Pe w pv P) (hQ : Wy w wv Q) (hB : RuQ w bv BB) (hsz : ∀ X ∈ BB, ∀ R ∈ X, R.length ≤ 4611686018427387904) : Calls Try.prog 12 #[.agg #[tv, .int .i64 ten, pv, wv, bv], .agg #[.int .i64 a, .int .i64 b], .agg #[.int .u64 (uv hh), .int .u64 (uv hl)], .int .i64 ver] w fun e w' => e = .returned (.tuple #[.agg #[.int .i64 0, .int .i64 0, .int .i64 0, .slice none 0 0], .int .i64 x]) ∧ Below w.heap.size w w' := by
  obtain ⟨K, hK⟩ : ∃ K : Nat, K = 10800 := ⟨_, rfl⟩
  refine (run_c tv pv wv bv T ten P Q BB a b ver hh hl K w hK hT hP hQ hB hsz).mono fun e w' hr => ?_
  obtain ⟨hr, hb⟩ := hr
  unfold errT at hx
  cases hr with
  | badz h he => rw [if_pos h] at hx; subst hx; exact ⟨he, hb⟩
  | bad4 hz h he => rw [if_neg (by simp [hz]), if_pos h] at hx; subst hx; exact ⟨he, hb⟩
  | bad7 hz hv h he => rw [if_neg (by simp [hz]), if_neg (by simp [hv]), if_pos h] at hx; subst hx; exact ⟨he, hb⟩
  | @ok n m i fin sw sp H hA hc hz hn hm hed hver ha hr he ho =>
    rw [if_neg (by simp [hz]), if_neg (by simp only [Classical.not_not]; omega), if_neg (by omega)] at hx
    exact absurd hx.symm h0
theorem run_yes (tv pv wv bv : Value) (T : List (List Pt)) (ten : Int) (P : List (Int × Int)) (Q : List Wa) (BB : List (List (List Rl))) {i n m : Nat} (b : Int) (hh hl : BitVec 64) (w : World) {fin sw sp : Int} {L : List Hp} {K : Nat} (hK : K = 10800) (hz : cfgT T ten P Q BB = 0) (hm : m ≤ 255) (hed : edgT T i b = (n : Int)) (hr : runF fndI T BB K i 0 (num (sF hh hl n m) 64 64) (num (sF hh hl n m) 0 64) [] = ⟨fin, sw, sp, L⟩) (hT : PsT w tv T) (hP : Pe w pv P) (hQ : Wy w wv Q) (hB : RuQ w bv BB) (hsz : ∀ X ∈ BB, ∀ R ∈ X, R.length ≤ 4611686018427387904) : Calls Try.prog 12 #[.agg #[tv, .int .i64 ten, pv, wv, bv], .agg #[.int .i64 (i : Int), .int .i64 b], .agg #[.int .u64 (uv hh), .int .u64 (uv hl)], .int .i64 (m : Int)] w fun e w' => ∃ hA hc, e = .returned (.tuple #[.agg #[.int .i64 fin, .int .i64 sw, .int .i64 sp, .slice hA L.length hc], .int .i64 0]) ∧ Hs w' hA hc L ∧ Below w.heap.size w w' := by
  refine (run_c tv pv wv bv T ten P Q BB i b m hh hl K w hK hT hP hQ hB hsz).mono fun e w' hr2 => ?_
  obtain ⟨hr2, hb⟩ := hr2
  cases hr2 with
  | badz h he => exact absurd hz h
  | bad4 _ h he => exact absurd ⟨by omega, by omega⟩ h
  | bad7 _ hv h he => omega
  | @ok n' m' i' fin' sw' sp' H' hA hc _ hn' hm' hed' hver' ha' hr' he ho =>
    have en : n' = n := by omega
    have em : m' = m := by omega
    have ei : i' = i := by omega
    subst en em ei
    rw [hr] at hr'
    injection hr' with r1 r2 r3 r4
    subst r1 r2 r3 r4
    exact ⟨hA, hc, he, Hs.of_own ho, hb⟩
end Go.Proofs
