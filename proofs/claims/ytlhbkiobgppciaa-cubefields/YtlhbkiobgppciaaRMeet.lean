/-
  Contracts: Meet and Within of the reference of layer 2, on the texts of two sound cubes. Conditions: both texts are those of sound cubes.
-/
import Derived.Test.YtlhbkiobgppciaaRHas
import Derived.Test.YtlhbkiobgppciaaTxM
import Derived.Deep.QuietTactic
import Derived.BigQuiet
namespace Go.Proofs
open Go.RowKit Go.Proofs.Hd
attribute [local go_sem] uv_nonneg
theorem bel_drewN {B : Nat} {w w' : World} (n : Nat) (h : Below B w w') : Below B w (w'.drewN n) := ⟨h.os, h.tape, h.output, h.size, h.block⟩
theorem sgnat {c : Cb} {s : ByteArray} (hs : txt c = s) (k m : Nat) (hm : m + k = 127) (hk : k < s.size) : s[k]'hk = sgn c m := by
  subst hs; rw [txt_get, show 127 - k = m by omega]
theorem toBytes (u : World) (s : ByteArray) : (convert 9 58 (.string s)).run Try.prog u = .ok (.slice (some ⟨u.heap.size, 0, none⟩) s.size (grownCap u s.size 0 5))
      (u.drew.alloc (.cells (bytesRow s (grownCap u s.size 0 5)) 5 ((bytesRow s (grownCap u s.size 0 5)).size, (bytesRow s (grownCap u s.size 0 5)).size + 1))) :=
  run_bytes_of_string u 9 58 5 s Try.underlying9 Try.underlying58 Try.underlying5
theorem fromBytes (u : World) (c : Cb) (b n cap : Nat) (hn : n = 128) (h : ByRow u b (fun i => sgn c (127 - i))) : (convert 58 9 (.slice (some ⟨b, 0, none⟩) n cap)).run Try.prog u = .ok (.string (txt c)) u := by
  subst hn
  have k := run_convert_bytes_back (P := Try.prog) u 58 9 5 ⟨b, 0, none⟩ cap (txtL c) Try.underlying58 Try.underlying5 Try.underlying9 (fun j hj => by
    have ha : (⟨b, 0, none⟩ : Addr).add j = ⟨b, j, none⟩ := by unfold Addr.add; split <;> simp_all
    rw [ha, (h j (by rw [txtL_len] at hj; exact hj)).1, txtL_get])
  rw [txtL_len] at k
  exact k

set_option maxHeartbeats 4000000 in
theorem rwithin_s (s t : ByteArray) (a b : Cb) (w : World) (ha : a.snd = true) (hb : b.snd = true) (hs : txt a = s) (ht : txt b = t) :
    Calls Try.prog 19 #[.string s, .string t] w fun e w' => e = .returned (.bool (a.wit b)) ∧ Below w.heap.size w w' := by
  have l1 : s.size ≤ 128 := by rw [text_len hs]; omega
  have l2 : 128 ≤ s.size := by rw [text_len hs]; omega
  have l3 : t.size ≤ 128 := by rw [text_len ht]; omega
  have l4 : 128 ≤ t.size := by rw [text_len ht]; omega
  have HS := Lib.hid hs
  have HT := Lib.hid ht
  have HA := Lib.hid ha
  have HB := Lib.hid hb
  clear hs ht ha hb
  obtain ⟨x, hx⟩ : ∃ x, a.wit b = x := ⟨_, rfl⟩
  rw [hx]
  have HX := Lib.hid hx
  clear hx
  go_enter Try.func19, Try.ntmps19
  go_wp2_with fail
  go_loopg [5] 128 (fun g i wr => ∃ k : Nat, k ≤ 128 ∧ g = 128 - k ∧ i = .int .i64 k ∧ (∀ j, j < 128 → 128 ≤ j + k → b.K j = true → a.K j = true ∧ a.V j = b.V j) ∧ Below w.heap.size w wr)
  case atStart => exact ⟨0, by omega, rfl, rfl, fun j hj h => by omega, Below.refl _ _⟩
  case round =>
    obtain ⟨k, hk, rfl, rfl, hok, BW⟩ := hrel
    have HOK := Lib.hid hok
    clear hok
    by_cases hlt : k < 128
    · skip
      have hlt' : (k : Int) < 128 := by omega
      have hks : k < s.size := by omega
      have hks' : (k : Int) < (s.size : Int) := by omega
      have hkt : k < t.size := by omega
      have hkt' : (k : Int) < (t.size : Int) := by omega
      obtain ⟨m, hm⟩ : ∃ m, m + k = 127 := ⟨127 - k, by omega⟩
      have hm1 : m < 128 := by omega
      have HM := Lib.hid hm
      clear hm
      cases hKb : b.K m
      · have sgt := sign_x HT.out k m HM.out hkt hKb
        have HK := Lib.hid hKb
        clear hKb
        go_wp2
        go_quiet (fail)
        go_wp2
        go_roundg (128 - (k + 1))
        case measure => omega
        case rel => exact ⟨k + 1, by omega, rfl, by go_num, step_ok HM.out HOK.out (fun h => by rw [HK.out] at h; cases h), bel_drewN _ BW⟩
      · cases hVb : b.V m <;> cases hKa : a.K m <;> cases hVa : a.V m
        · have sgt := sign_0 HT.out k m HM.out hkt hKb hVb
          have sgs := sign_x HS.out k m HM.out hks hKa
          have e := HX.out
          rw [wit_fails HA.out HB.out hm1 hKb (fun h => by have h1 := h.1; rw [hKa] at h1; cases h1)] at e
          subst e
          clear hKb hVb hKa hVa
          go_wp2
          go_quiet (fail)
          go_wp2
          go_ret
          exact ⟨rfl, bel_drewN _ BW⟩
        · have sgt := sign_0 HT.out k m HM.out hkt hKb hVb
          have sgs := sign_x HS.out k m HM.out hks hKa
          have e := HX.out
          rw [wit_fails HA.out HB.out hm1 hKb (fun h => by have h1 := h.1; rw [hKa] at h1; cases h1)] at e
          subst e
          clear hKb hVb hKa hVa
          go_wp2
          go_quiet (fail)
          go_wp2
          go_ret
          exact ⟨rfl, bel_drewN _ BW⟩
        · have sgt := sign_0 HT.out k m HM.out hkt hKb hVb
          have sgs := sign_0 HS.out k m HM.out hks hKa hVa
          have HV := Lib.hid (And.intro hKa (hVa.trans hVb.symm))
          clear hKb hVb hKa hVa
          go_wp2
          go_quiet (fail)
          go_wp2
          go_roundg (128 - (k + 1))
          case measure => omega
          case rel => exact ⟨k + 1, by omega, rfl, by go_num, step_ok HM.out HOK.out (fun _ => HV.out), bel_drewN _ BW⟩
        · have sgt := sign_0 HT.out k m HM.out hkt hKb hVb
          have sgs := sign_1 HS.out k m HM.out hks hKa hVa
          have e := HX.out
          rw [wit_fails HA.out HB.out hm1 hKb (fun h => by have h1 := h.2; rw [hVa, hVb] at h1; cases h1)] at e
          subst e
          clear hKb hVb hKa hVa
          go_wp2
          go_quiet (fail)
          go_wp2
          go_ret
          exact ⟨rfl, bel_drewN _ BW⟩
        · have sgt := sign_1 HT.out k m HM.out hkt hKb hVb
          have sgs := sign_x HS.out k m HM.out hks hKa
          have e := HX.out
          rw [wit_fails HA.out HB.out hm1 hKb (fun h => by have h1 := h.1; rw [hKa] at h1; cases h1)] at e
          subst e
          clear hKb hVb hKa hVa
          go_wp2
          go_quiet (fail)
          go_wp2
          go_ret
          exact ⟨rfl, bel_drewN _ BW⟩
        · have sgt := sign_1 HT.out k m HM.out hkt hKb hVb
          have sgs := sign_x HS.out k m HM.out hks hKa
          have e := HX.out
          rw [wit_fails HA.out HB.out hm1 hKb (fun h => by have h1 := h.1; rw [hKa] at h1; cases h1)] at e
          subst e
          clear hKb hVb hKa hVa
          go_wp2
          go_quiet (fail)
          go_wp2
          go_ret
          exact ⟨rfl, bel_drewN _ BW⟩
        · have sgt := sign_1 HT.out k m HM.out hkt hKb hVb
          have sgs := sign_0 HS.out k m HM.out hks hKa hVa
          have e := HX.out
          rw [wit_fails HA.out HB.out hm1 hKb (fun h => by have h1 := h.2; rw [hVa, hVb] at h1; cases h1)] at e
          subst e
          clear hKb hVb hKa hVa
          go_wp2
          go_quiet (fail)
          go_wp2
          go_ret
          exact ⟨rfl, bel_drewN _ BW⟩
        · have sgt := sign_1 HT.out k m HM.out hkt hKb hVb
          have sgs := sign_1 HS.out k m HM.out hks hKa hVa
          have HV := Lib.hid (And.intro hKa (hVa.trans hVb.symm))
          clear hKb hVb hKa hVa
          go_wp2
          go_quiet (fail)
          go_wp2
          go_roundg (128 - (k + 1))
          case measure => omega
          case rel => exact ⟨k + 1, by omega, rfl, by go_num, step_ok HM.out HOK.out (fun _ => HV.out), bel_drewN _ BW⟩
    · obtain rfl : k = 128 := by omega
      have e := HX.out
      rw [(wit_match HA.out HB.out).2 (fun j hj => HOK.out j hj (by omega))] at e
      subst e
      go_wp2
      go_ret
      exact ⟨rfl, BW⟩

set_option maxHeartbeats 4000000 in
theorem rmeet_s (s t : ByteArray) (a b : Cb) (w : World) (ha : a.snd = true) (hb : b.snd = true) (hs : txt a = s) (ht : txt b = t) (x : Bool) (r : ByteArray) (hx : a.agr b = x) (HR : Hid (x = true → r = txt (a.join b))) (HN : Hid (x = false → r = ⟨#[]⟩)) :
    Calls Try.prog 18 #[.string s, .string t] w fun e w' => e = .returned (.tuple #[.string r, .bool x]) ∧ Below w.heap.size w w' := by
  have l1 : s.size ≤ 128 := by rw [text_len hs]; omega
  have l2 : 128 ≤ s.size := by rw [text_len hs]; omega
  have l3 : t.size ≤ 128 := by rw [text_len ht]; omega
  have l4 : 128 ≤ t.size := by rw [text_len ht]; omega
  have HS := Lib.hid hs
  have HT := Lib.hid ht
  have HA := Lib.hid ha
  have HB := Lib.hid hb
  have R0 := ByRow.start w s (grownCap w s.size 0 5) 5 (text_len hs) (mixT a b 0) (fun i h => by subst hs; rw [txt_get, mixT_zero])
  have HR0 := Lib.hid R0
  have hcv := toBytes w s
  clear hs ht ha hb R0
  have HX := Lib.hid hx
  clear hx
  go_enter Try.func18, Try.ntmps18
  go_wp2_with fail
  generalize grownCap w s.size 0 5 = cap at *
  clear hcv
  go_loopg [7] 128 (fun g i wr => ∃ k : Nat, k ≤ 128 ∧ g = 128 - k ∧ i = .int .i64 k ∧ (∀ j, j < 128 → 128 ≤ j + k → a.K j = true → b.K j = true → a.V j = b.V j) ∧ Below w.heap.size w wr ∧ ByRow wr w.heap.size (mixT a b k))
  case atStart => exact ⟨0, by omega, rfl, rfl, fun j hj h => by omega, ((Below.refl _ w).drew).alloc (Nat.le_refl _) _, HR0.out⟩
  case round =>
    clear HR0
    obtain ⟨k, hk, rfl, rfl, hok, BW, RW⟩ := hrel
    have HOK := Lib.hid hok
    clear hok
    by_cases hlt : k < 128
    · skip
      have hlt' : (k : Int) < 128 := by omega
      have hks : k < s.size := by omega
      have hks' : (k : Int) < (s.size : Int) := by omega
      have hkt : k < t.size := by omega
      have hkt' : (k : Int) < (t.size : Int) := by omega
      obtain ⟨m, hm⟩ : ∃ m, m + k = 127 := ⟨127 - k, by omega⟩
      have hm1 : m < 128 := by omega
      have HM := Lib.hid hm
      clear hm
      have f1 := (RW k hlt).1
      have f2 := (RW k hlt).2
      have J := Lib.hid (join_sign HA.out HB.out hm1)
      cases hKa : a.K m
      · have sgs := sign_x HS.out k m HM.out hks hKa
        have HSB := Lib.hid (sgnat HT.out k m HM.out hkt)
        have HKA := Lib.hid hKa
        clear hKa
        go_wp2
        go_roundg (128 - (k + 1))
        case measure => omega
        case rel => exact ⟨k + 1, by omega, rfl, by go_num, step_ok HM.out HOK.out (fun h => by rw [HKA.out] at h; cases h), BW.setCell (Nat.le_refl _) _, RW.set k hlt _ _ (by rw [mixT_at, show 127 - k = m by have := HM.out; omega, J.out.1 HKA.out, HSB.out]) (mixT_far a b k)⟩
      · cases hVa : a.V m <;> cases hKb : b.K m <;> cases hVb : b.V m
        · have sgs := sign_0 HS.out k m HM.out hks hKa hVa
          have sgt := sign_x HT.out k m HM.out hkt hKb
          have HOK2 := Lib.hid (step_ok (P := fun j => a.K j = true → b.K j = true → a.V j = b.V j) HM.out HOK.out (fun _ => fun h => by rw [hKb] at h; cases h))
          have HSM := Lib.hid (mixT_same a b k m HM.out (J.out.2 hKa (fun h => by rw [hKb] at h; cases h)))
          clear hKb hVb hKa hVa
          go_wp2
          go_quiet (fail)
          go_wp2
          go_roundg (128 - (k + 1))
          case measure => omega
          case rel => exact ⟨k + 1, by omega, rfl, by go_num, HOK2.out, bel_drewN _ BW, RW.congr HSM.out⟩
        · have sgs := sign_0 HS.out k m HM.out hks hKa hVa
          have sgt := sign_x HT.out k m HM.out hkt hKb
          have HOK2 := Lib.hid (step_ok (P := fun j => a.K j = true → b.K j = true → a.V j = b.V j) HM.out HOK.out (fun _ => fun h => by rw [hKb] at h; cases h))
          have HSM := Lib.hid (mixT_same a b k m HM.out (J.out.2 hKa (fun h => by rw [hKb] at h; cases h)))
          clear hKb hVb hKa hVa
          go_wp2
          go_quiet (fail)
          go_wp2
          go_roundg (128 - (k + 1))
          case measure => omega
          case rel => exact ⟨k + 1, by omega, rfl, by go_num, HOK2.out, bel_drewN _ BW, RW.congr HSM.out⟩
        · have sgs := sign_0 HS.out k m HM.out hks hKa hVa
          have sgt := sign_0 HT.out k m HM.out hkt hKb hVb
          have HOK2 := Lib.hid (step_ok (P := fun j => a.K j = true → b.K j = true → a.V j = b.V j) HM.out HOK.out (fun _ => fun _ => hVa.trans hVb.symm))
          have HSM := Lib.hid (mixT_same a b k m HM.out (J.out.2 hKa (fun _ => hVa.trans hVb.symm)))
          clear hKb hVb hKa hVa
          go_wp2
          go_quiet (fail)
          go_wp2
          go_roundg (128 - (k + 1))
          case measure => omega
          case rel => exact ⟨k + 1, by omega, rfl, by go_num, HOK2.out, bel_drewN _ BW, RW.congr HSM.out⟩
        · have sgs := sign_0 HS.out k m HM.out hks hKa hVa
          have sgt := sign_1 HT.out k m HM.out hkt hKb hVb
          have e := HX.out
          rw [agr_fails hm1 hKa hKb (fun h => by rw [hVa, hVb] at h; cases h)] at e
          subst e
          have er := HN.out rfl
          subst er
          clear HR HN hKb hVb hKa hVa
          go_wp2
          go_quiet (fail)
          go_wp2
          go_ret2
          exact ⟨rfl, bel_drewN _ BW⟩
        · have sgs := sign_1 HS.out k m HM.out hks hKa hVa
          have sgt := sign_x HT.out k m HM.out hkt hKb
          have HOK2 := Lib.hid (step_ok (P := fun j => a.K j = true → b.K j = true → a.V j = b.V j) HM.out HOK.out (fun _ => fun h => by rw [hKb] at h; cases h))
          have HSM := Lib.hid (mixT_same a b k m HM.out (J.out.2 hKa (fun h => by rw [hKb] at h; cases h)))
          clear hKb hVb hKa hVa
          go_wp2
          go_quiet (fail)
          go_wp2
          go_roundg (128 - (k + 1))
          case measure => omega
          case rel => exact ⟨k + 1, by omega, rfl, by go_num, HOK2.out, bel_drewN _ BW, RW.congr HSM.out⟩
        · have sgs := sign_1 HS.out k m HM.out hks hKa hVa
          have sgt := sign_x HT.out k m HM.out hkt hKb
          have HOK2 := Lib.hid (step_ok (P := fun j => a.K j = true → b.K j = true → a.V j = b.V j) HM.out HOK.out (fun _ => fun h => by rw [hKb] at h; cases h))
          have HSM := Lib.hid (mixT_same a b k m HM.out (J.out.2 hKa (fun h => by rw [hKb] at h; cases h)))
          clear hKb hVb hKa hVa
          go_wp2
          go_quiet (fail)
          go_wp2
          go_roundg (128 - (k + 1))
          case measure => omega
          case rel => exact ⟨k + 1, by omega, rfl, by go_num, HOK2.out, bel_drewN _ BW, RW.congr HSM.out⟩
        · have sgs := sign_1 HS.out k m HM.out hks hKa hVa
          have sgt := sign_0 HT.out k m HM.out hkt hKb hVb
          have e := HX.out
          rw [agr_fails hm1 hKa hKb (fun h => by rw [hVa, hVb] at h; cases h)] at e
          subst e
          have er := HN.out rfl
          subst er
          clear HR HN hKb hVb hKa hVa
          go_wp2
          go_quiet (fail)
          go_wp2
          go_ret2
          exact ⟨rfl, bel_drewN _ BW⟩
        · have sgs := sign_1 HS.out k m HM.out hks hKa hVa
          have sgt := sign_1 HT.out k m HM.out hkt hKb hVb
          have HOK2 := Lib.hid (step_ok (P := fun j => a.K j = true → b.K j = true → a.V j = b.V j) HM.out HOK.out (fun _ => fun _ => hVa.trans hVb.symm))
          have HSM := Lib.hid (mixT_same a b k m HM.out (J.out.2 hKa (fun _ => hVa.trans hVb.symm)))
          clear hKb hVb hKa hVa
          go_wp2
          go_quiet (fail)
          go_wp2
          go_roundg (128 - (k + 1))
          case measure => omega
          case rel => exact ⟨k + 1, by omega, rfl, by go_num, HOK2.out, bel_drewN _ BW, RW.congr HSM.out⟩
    · obtain rfl : k = 128 := by omega
      have e := HX.out
      rw [(Cb.agr_iff a b).2 (fun j hj => HOK.out j hj (by omega))] at e
      subst e
      have er := HR.out rfl
      have hcv := fromBytes wr (a.join b) w.heap.size s.size cap (by omega) (RW.congr (fun i hi => (mixT_all a b i hi).symm))
      rw [← er] at hcv
      clear er HR HN
      go_wp2
      go_ret2
      exact ⟨rfl, BW⟩
end Go.Proofs
