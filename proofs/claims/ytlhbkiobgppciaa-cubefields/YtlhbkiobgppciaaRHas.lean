/-
  Contract: Has of the reference of layer 2 tells whether a header is in the cube of a text. Conditions: the text is that of a sound cube.
-/
import Derived.Test.YtlhbkiobgppciaaRText
namespace Go.Proofs
open Go.RowKit Go.Proofs.Hd
attribute [local go_sem] uv_nonneg
theorem has_match (c : Cb) (h l : BitVec 64) (hs : c.snd = true) : c.has h l = true ↔ ∀ j, j < 128 → c.K j = true → hbit h l j = c.V j := by
  rw [Cb.has_iff]
  rw [Cb.snd_iff] at hs
  constructor
  · intro H j hj hk
    have := H j hj
    rw [hk, Bool.and_true] at this
    exact this
  · intro H j hj
    cases hk : c.K j with
    | true => rw [H j hj hk, Bool.and_true]
    | false =>
      cases hv : c.V j with
      | false => simp
      | true => rw [hs j hj hv] at hk; cases hk
/-- Sign k of a text. -/
theorem sign_x {c : Cb} {s : ByteArray} (hs : txt c = s) (k m : Nat) (hm : m + k = 127) (hk : k < s.size) (h : c.K m = false) : ((s[k]'hk).toNat : Int) = 120 := by
  subst hs; rw [txt_get, show 127 - k = m by omega]; unfold sgn; rw [h]; rfl
theorem sign_1 {c : Cb} {s : ByteArray} (hs : txt c = s) (k m : Nat) (hm : m + k = 127) (hk : k < s.size) (h : c.K m = true) (hv : c.V m = true) : ((s[k]'hk).toNat : Int) = 49 := by
  subst hs; rw [txt_get, show 127 - k = m by omega]; unfold sgn; rw [h, hv]; rfl
theorem sign_0 {c : Cb} {s : ByteArray} (hs : txt c = s) (k m : Nat) (hm : m + k = 127) (hk : k < s.size) (h : c.K m = true) (hv : c.V m = false) : ((s[k]'hk).toNat : Int) = 48 := by
  subst hs; rw [txt_get, show 127 - k = m by omega]; unfold sgn; rw [h, hv]; rfl
theorem has_fails {c : Cb} {h l : BitVec 64} {j : Nat} (hs : c.snd = true) (hj : j < 128) (hk : c.K j = true) (hne : ¬ hbit h l j = c.V j) : c.has h l = false := by
  cases e : c.has h l with
  | false => rfl
  | true => exact absurd ((has_match c h l hs).1 e j hj hk) hne
theorem step_ok {P : Nat → Prop} {k m : Nat} (hm : m + k = 127) (h : ∀ j, j < 128 → 128 ≤ j + k → P j) (hp : P m) : ∀ j, j < 128 → 128 ≤ j + (k + 1) → P j := fun j hj hk => by
  by_cases e : j = m
  · subst e; exact hp
  · exact h j hj (by omega)
theorem text_len {c : Cb} {s : ByteArray} (hs : txt c = s) : s.size = 128 := by subst hs; exact txt_size c

set_option maxRecDepth 100000 in
set_option maxHeartbeats 4000000 in
theorem rhas_s (s : ByteArray) (c : Cb) (hh hl : BitVec 64) (w : World) (hc : c.snd = true) (hs : txt c = s) :
    Calls Try.prog 14 #[.string s, .agg #[.int .u64 (uv hh), .int .u64 (uv hl)]] w fun e w' => e = .returned (.bool (c.has hh hl)) ∧ Below w.heap.size w w' := by
  have hz := zero25
  have l1 : s.size ≤ 128 := by rw [text_len hs]; omega
  have l2 : 128 ≤ s.size := by rw [text_len hs]; omega
  have HS := Lib.hid hs
  have HC := Lib.hid hc
  clear hs hc
  obtain ⟨x, hx⟩ : ∃ x, c.has hh hl = x := ⟨_, rfl⟩
  rw [hx]
  have HX := Lib.hid hx
  clear hx
  have b0 := below1 w (.cells #[.int .u64 (uv hh), .int .u64 (uv hl)] 24)
  go_enter Try.func14, Try.ntmps14
  go_wp2_with fail
  (with_reducible refine (bits_c _ _ _).mono ?_)
  rintro e w1 ⟨rfl, hb1⟩
  have B1 := b0.trans (hb1.mono b0.size)
  clear hb1 b0
  go_wp2_with (refine put_new rfl _ _ rfl (fun _ => false) (hbit hh hl) _ (by simp) rfl rfl ?_)
  go_loopg [6] 128 (fun g i wr => ∃ k : Nat, k ≤ 128 ∧ g = 128 - k ∧ i = .int .i64 k ∧ (∀ j, j < 128 → 128 ≤ j + k → c.K j = true → hbit hh hl j = c.V j) ∧ wr = w1.alloc (.cells (bl (hbit hh hl)).toArray 43))
  case atStart => exact ⟨0, by omega, rfl, rfl, fun j hj h => by omega, rfl⟩
  case round =>
    obtain ⟨k, hk, rfl, rfl, hok, rfl⟩ := hrel
    have HOK := Lib.hid hok
    clear hok
    by_cases hlt : k < 128
    · have hlt' : (k : Int) < 128 := by omega
      have hks : k < s.size := by omega
      have hks' : (k : Int) < (s.size : Int) := by omega
      obtain ⟨m, hm⟩ : ∃ m, m + k = 127 := ⟨127 - k, by omega⟩
      have hi : (127 : Int) - (k : Int) = (m : Int) := by omega
      have hm1 : m < 128 := by omega
      have hm2 : (m : Int) < 128 := by omega
      have hg := bl_get (hbit hh hl) m hm1
      have HM := Lib.hid hm
      clear hm
      cases hK : c.K m
      · have sg := sign_x HS.out k m HM.out hks hK
        have HK := Lib.hid hK
        clear hK hg
        go_wp2
        go_roundg (128 - (k + 1))
        case measure => omega
        case rel => exact ⟨k + 1, by omega, rfl, by go_num, step_ok HM.out HOK.out (fun h => by rw [HK.out] at h; cases h), rfl⟩
      · cases hV : c.V m <;> cases hB : hbit hh hl m
        · have sg := sign_0 HS.out k m HM.out hks hK hV
          rw [hB] at hg
          have HV := Lib.hid (hB.trans hV.symm)
          clear hK hV hB
          go_wp2
          go_roundg (128 - (k + 1))
          case measure => omega
          case rel => exact ⟨k + 1, by omega, rfl, by go_num, step_ok HM.out HOK.out (fun _ => HV.out), rfl⟩
        · have sg := sign_0 HS.out k m HM.out hks hK hV
          rw [hB] at hg
          have HF : c.has hh hl = false := has_fails HC.out hm1 hK (by rw [hB, hV]; simp)
          have e := HX.out
          rw [HF] at e
          subst e
          clear hK hV hB HF
          go_wp2
          go_ret
          exact ⟨rfl, B1.alloc B1.size _⟩
        · have sg := sign_1 HS.out k m HM.out hks hK hV
          rw [hB] at hg
          have HF : c.has hh hl = false := has_fails HC.out hm1 hK (by rw [hB, hV]; simp)
          have e := HX.out
          rw [HF] at e
          subst e
          clear hK hV hB HF
          go_wp2
          go_ret
          exact ⟨rfl, B1.alloc B1.size _⟩
        · have sg := sign_1 HS.out k m HM.out hks hK hV
          rw [hB] at hg
          have HV := Lib.hid (hB.trans hV.symm)
          clear hK hV hB
          go_wp2
          go_roundg (128 - (k + 1))
          case measure => omega
          case rel => exact ⟨k + 1, by omega, rfl, by go_num, step_ok HM.out HOK.out (fun _ => HV.out), rfl⟩
    · obtain rfl : k = 128 := by omega
      have HT : c.has hh hl = true := (has_match c hh hl HC.out).2 (fun j hj => HOK.out j hj (by omega))
      have e := HX.out
      rw [HT] at e
      subst e
      clear HT
      go_wp2
      go_ret
      exact ⟨rfl, B1.alloc B1.size _⟩
end Go.Proofs
