/-
  The contract of slices.symMergeCmpFunc: two sorted runs side by side become one, and equals keep their order. Conditions as the theorems list them.
  The contracts of slices.stableCmpFunc and slices.SortStableFunc: the row is sorted, and equals keep their order. Conditions as the theorems list them.
  The order by how many bits a cube cares for; cubes sorted stably, told by rows. Conditions as each theorem lists them.
-/
import Derived.Test.YtanliiopdhjhjaaJ10
import Derived.Deep.LoopGhost
import Derived.BigQuiet
import Derived.Shelf.Abstract
namespace Go.Proofs.Hd
open Go.Sort
variable {α : Type} [Inhabited α] {lt : α → α → Bool} {tg : α → Nat}
theorem sym_fin {a m b s e mid : Nat} {d d1 d2 d3 : Array α} (hS : SWO lt) (U : Runs lt tg a m b d) (h1 : a ≤ s) (h2 : s ≤ m) (h3 : m ≤ e) (h4 : e ≤ b) (hm : s + (e - m) = mid) (hb : b ≤ d.size) (hd : ∀ x, d1[x]! = rotF (fun x => d[x]!) s m e x) (P1 : PermIn a b d d1)
    (c1 : s < m → m < e → lt d[e - 1]! d[s]! = true) (c2 : a < s → e < b → lt d[e]! d[s - 1]! = false) (P2 : PermIn a mid d1 d2) (S2 : SortedIn (tlB lt tg) a mid d2) (P3 : PermIn mid b d2 d3) (S3 : SortedIn (tlB lt tg) mid b d3) :
    PermIn a b d d3 ∧ SortedIn (tlB lt tg) a b d3 := by
  obtain ⟨_, _, X⟩ := U.rot hS h1 h2 h3 h4 hd c1 c2
  rw [hm] at X
  obtain ⟨g1, g2⟩ := glue (by omega) (by omega) (by rw [P1.1]; exact hb) P2 P3 S2 S3 X
  exact ⟨permIn_trans _ _ _ _ _ P1 g2, g1⟩
theorem sym_l {a m b s e mid : Nat} {d d1 : Array α} (hS : SWO lt) (U : Runs lt tg a m b d) (h1 : a ≤ s) (h2 : s ≤ m) (h3 : m ≤ e) (h4 : e ≤ b) (hm : s + (e - m) = mid) (hd : ∀ x, d1[x]! = rotF (fun x => d[x]!) s m e x)
    (c1 : s < m → m < e → lt d[e - 1]! d[s]! = true) (c2 : a < s → e < b → lt d[e]! d[s - 1]! = false) : Runs lt tg a s mid d1 := by
  obtain ⟨r, _, _⟩ := U.rot hS h1 h2 h3 h4 hd c1 c2
  rw [hm] at r
  exact r
theorem sym_r {a m b s e mid : Nat} {d d1 d2 : Array α} (hS : SWO lt) (U : Runs lt tg a m b d) (h1 : a ≤ s) (h2 : s ≤ m) (h3 : m ≤ e) (h4 : e ≤ b) (hm : s + (e - m) = mid) (hd : ∀ x, d1[x]! = rotF (fun x => d[x]!) s m e x)
    (c1 : s < m → m < e → lt d[e - 1]! d[s]! = true) (c2 : a < s → e < b → lt d[e]! d[s - 1]! = false) (P2 : PermIn a mid d1 d2) : Runs lt tg mid e b d2 := by
  obtain ⟨_, r, _⟩ := U.rot hS h1 h2 h3 h4 hd c1 c2
  rw [hm] at r
  refine ⟨fun i j q1 q2 q3 => ?_, fun i j q1 q2 q3 => ?_, fun i j q1 q2 q3 q4 => ?_⟩ <;> rw [P2.2.1 i (.inr (by omega)), P2.2.1 j (.inr (by omega))]
  · exact r.l i j q1 q2 q3
  · exact r.r i j q1 q2 q3
  · exact r.t i j q1 q2 q3 q4
end Go.Proofs.Hd
namespace Go.Proofs
open Go.Shelf Go.RowKit Go.Lib Go.Sort Go.Proofs.Hd
variable {P : Program} {k : Nat} {α : Type} [Inhabited α]
set_option maxHeartbeats 16000000 in
set_option maxRecDepth 1000000 in
theorem sym_up (L : StL P k) (enc : α → List Value) (cf : α → α → Int) (tg : α → Nat) (g : Nat) (cb : Array Value) (blk off cap N a m b : Nat) (d0 d : Array α) (w0 w : World)
    (eg : ∀ args w, (callFunc g args).run P w = .ok (.enter g args) w) (hcmp : CmpLays P g cb enc k cf blk off N w0) (hS : SWO (ltOf cf)) (R : RowK enc k w0 blk off d0) (h0 : d0.size = N) (hN : d.size = N) (S : SWK enc k w0 blk off d w)
    (U : Runs (ltOf cf) tg a m b d) (hb : b ≤ N) (hsz : N < 1152921504606846976) (hn1 : a + 1 < m) (hn2 : m + 1 < b) (hmid : (a + b) / 2 < m)
    (IH : ∀ (x y z : Nat) (dk : Array α) (wr : World), z - x < b - a → dk.size = N → SWK enc k w0 blk off dk wr → Runs (ltOf cf) tg x y z dk → x < y → y < z → z ≤ N → Calls P 70 #[.slice (some ⟨blk, off, none⟩) N cap, .int .i64 x, .int .i64 y, .int .i64 z, .func (.func g) #[] cb] wr fun e w' =>
      e = .returned (.tuple #[]) ∧ ∃ d', SWK enc k w0 blk off d' w' ∧ PermIn x z dk d' ∧ SortedIn (tlB (ltOf cf) tg) x z d') :
    Calls P 70 #[.slice (some ⟨blk, off, none⟩) N cap, .int .i64 a, .int .i64 m, .int .i64 b, .func (.func g) #[] cb] w fun e w' =>
      e = .returned (.tuple #[]) ∧ ∃ d', SWK enc k w0 blk off d' w' ∧ PermIn a b d d' ∧ SortedIn (tlB (ltOf cf) tg) a b d' := by
  have mixed := L.mixed; have t0 := L.t0; have a0 := L.a0; have z0 := L.z0; have v0 := L.v0; have t3 := L.t3; have a3 := L.a3; have z3 := L.z3; have v3 := L.v3; have t4 := L.t4; have a4 := L.a4; have z4 := L.z4; have v4 := L.v4; have t22 := L.tS; have a22 := L.aS; have z22 := L.zS; have v22 := L.vS; have t25 := L.tC; have a25 := L.aC; have z25 := L.zC; have v25 := L.vC; have tU := L.tU; have aU := L.aU; have zU := L.zU; have vU := L.vU
  have aE := L.aE; have zE := L.zE
  have FG := L.fSym
  have HC : Aside _ := hcmp
  have CALL : Aside (∀ (x y z : Nat) (dk : Array α) (wr : World), z - x < b - a → dk.size = N → SWK enc k w0 blk off dk wr → Runs (ltOf cf) tg x y z dk → x < y → y < z → z ≤ N → Calls P 70 #[.slice (some ⟨blk, off, none⟩) N cap, .int .i64 x, .int .i64 y, .int .i64 z, .func (.func g) #[] cb] wr fun e w' =>
      e = .returned (.tuple #[]) ∧ ∃ d', SWK enc k w0 blk off d' w' ∧ PermIn x z dk d' ∧ SortedIn (tlB (ltOf cf) tg) x z d') := IH
  have ROT : Aside (∀ (wr : World) (x y z : Nat), SWK enc k w0 blk off d wr → x < y → y < z → z ≤ N → Calls P 80 #[.slice (some ⟨blk, off, none⟩) N cap, .int .i64 x, .int .i64 y, .int .i64 z, .func (.func g) #[] cb] wr fun e w' =>
      e = .returned (.tuple #[]) ∧ ∃ d', SWK enc k w0 blk off d' w' ∧ PermIn x z d d' ∧ ∀ u, d'[u]! = rotF (fun u => d[u]!) x y z u) :=
    fun wr x y z q2 q3 q4 q5 => rotate_c L enc g cb blk off cap N x y z d0 d w0 wr R h0 hN q2 q3 q4 q5 hsz
  have eS : ∀ args w, (callFunc 70 args).run P w = .ok (.enter 70 args) w := enters_of L.fSym (by kernel_rfl) rfl
  have eR : ∀ args w, (callFunc 80 args).run P w = .ok (.enter 80 args) w := enters_of L.fRot (by kernel_rfl) rfl
  have S0 : Aside (SWK enc k w0 blk off d w) := S
  obtain ⟨zz, hzz⟩ : ∃ z, z + a = m := ⟨m - a, by omega⟩
  have r1 : IntKind.i64.wrap ((m : Int) - (a : Int)) = (zz : Int) := by rw [IntKind.wrap_i64]; omega
  have r1' : (m : Int) - (a : Int) = (zz : Int) := by omega
  have r1b : ((zz : Int) == 1) = false := by rw [beq_eq_false_iff_ne]; omega
  obtain ⟨yy, hyy⟩ : ∃ z, z + m = b := ⟨b - m, by omega⟩
  have r2 : IntKind.i64.wrap ((b : Int) - (m : Int)) = (yy : Int) := by rw [IntKind.wrap_i64]; omega
  have r2' : (b : Int) - (m : Int) = (yy : Int) := by omega
  have r2b : ((yy : Int) == 1) = false := by rw [beq_eq_false_iff_ne]; omega
  obtain ⟨mid, hmd⟩ : ∃ z, z = (a + b) / 2 := ⟨_, rfl⟩
  have r3 : IntKind.i64.wrap ((a : Int) + (b : Int)) = (a : Int) + (b : Int) := by rw [IntKind.wrap_i64]; omega
  have r3' : ((a : Int) + (b : Int)) / 2 = (mid : Int) := by omega
  have hd1 : 2 * mid ≤ a + b := by omega
  have hd2 : a + b ≤ 2 * mid + 1 := by omega
  have hmm : mid < m := by omega
  clear hmd hmid
  obtain ⟨nn, hnn⟩ : ∃ z, z = mid + m := ⟨_, rfl⟩
  have r4 : IntKind.i64.wrap ((mid : Int) + (m : Int)) = (nn : Int) := by rw [IntKind.wrap_i64]; omega
  have r4' : (mid : Int) + (m : Int) = (nn : Int) := by omega
  obtain ⟨pp, hpp⟩ : ∃ z, z + 1 = nn := ⟨nn - 1, by omega⟩
  have r5 : IntKind.i64.wrap ((nn : Int) - 1) = (pp : Int) := by rw [IntKind.wrap_i64]; omega
  have r5' : (nn : Int) - 1 = (pp : Int) := by omega
  obtain ⟨lo, hlo⟩ : ∃ z, z + b = nn := ⟨nn - b, by omega⟩
  have r6 : IntKind.i64.wrap ((nn : Int) - (b : Int)) = (lo : Int) := by rw [IntKind.wrap_i64]; omega
  have r6' : (nn : Int) - (b : Int) = (lo : Int) := by omega
  have r7 : (mid : Int) < (m : Int) := by omega
  have HU : Hid (Runs (ltOf cf) tg a m b d) := U
  have HS : Hid (SWO (ltOf cf)) := hS
  clear S L hcmp U hS IH
  have HNN := Nat.le_of_eq hnn
  have HNN2 := Nat.le_of_eq hnn.symm
  clear hnn
  go_enter FG, Try.ntmps70
  go_wp2
  go_loopg [20, 21] (mid - lo) (fun kx si sj wr => ∃ (i j : Nat), si = .int .i64 i ∧ sj = .int .i64 j ∧ lo ≤ i ∧ i ≤ j ∧ j ≤ mid ∧ j - i ≤ kx ∧ Aside (SWK enc k w0 blk off d wr) ∧ Hid (lo < i → ltOf cf d[nn - i]! d[i - 1]! = false) ∧ Hid (j < mid → ltOf cf d[nn - 1 - j]! d[j]! = true))
  case atStart => exact ⟨lo, mid, by first | rfl | go_num, by first | rfl | go_num, Nat.le_refl _, by omega, Nat.le_refl _, Nat.le_refl _, S0, fun h => by omega, fun h => by omega⟩
  case round =>
    clear S0
    obtain ⟨i, j, rfl, rfl, hli, hij, hjh, hkx, S1, I1, J1⟩ := hrel
    by_cases hlt : i < j
    · have hltz : (i : Int) < (j : Int) := by omega
      obtain ⟨h, hh⟩ : ∃ h, h = (i + j) / 2 := ⟨_, rfl⟩
      have hz : ((i : Int) + (j : Int)) / 2 = (h : Int) := by omega
      have hi1 : i ≤ h := by omega
      have hj1 : h < j := by omega
      have rij : IntKind.i64.wrap ((i : Int) + (j : Int)) = (i : Int) + (j : Int) := by rw [IntKind.wrap_i64]; omega
      clear hh
      obtain ⟨q, hq⟩ : ∃ q, q + h = pp := ⟨pp - h, by omega⟩
      have rq : IntKind.i64.wrap ((pp : Int) - (h : Int)) = (q : Int) := by rw [IntKind.wrap_i64]; omega
      have rq' : (pp : Int) - (h : Int) = (q : Int) := by omega
      cases hL : ltOf cf d[q]! d[h]! with
      | true =>
        have ea8 : ((q : Int)).toNat = q := by omega
        have pa8 : (0 : Int) ≤ (q : Int) := by omega
        have ba8 : (q : Int) < (N : Int) := by omega
        have ra8 : IntKind.i64.wrap ((q : Int)) = (q : Int) := by rw [IntKind.wrap_i64]; omega
        have ec8 : ((h : Int)).toNat = h := by omega
        have pc8 : (0 : Int) ≤ (h : Int) := by omega
        have bc8 : (h : Int) < (N : Int) := by omega
        have rc8 : IntKind.i64.wrap ((h : Int)) = (h : Int) := by rw [IntKind.wrap_i64]; omega
        obtain ⟨x8, hx8⟩ : ∃ x, x = d[q]! := ⟨_, rfl⟩
        obtain ⟨y8, hy8⟩ : ∃ x, x = d[h]! := ⟨_, rfl⟩
        have l8a := S1.out.ld R (by omega) P (q) (by omega)
        have l8b := S1.out.ld R (by omega) P (h) (by omega)
        rw [← hx8] at l8a
        rw [← hy8] at l8b
        have hc8 := S1.out.cmp HC.out (by omega) x8 y8
        have hv8 : cf x8 y8 < 0 := by rw [hx8, hy8]; exact of_decide_eq_true hL
        have hd8 : decide (cf x8 y8 < 0) = true := decide_eq_true hv8
        clear hx8 hy8
        go_wp2_with fail
        go_quiet_grown (first | (go_at_fn g; refine Calls.grown_of (hc8 _ _)))
        have S2 : Aside (SWK enc k w0 blk off d (grow (wr.drewN nq) osq)) := S1.out.grown nq osq
        clear l8a l8b hc8 S1
        generalize grow (wr.drewN nq) osq = w2 at S2 ⊢
        clear nq osq
        go_wp2
        go_roundg (h - i)
        case measure => omega
        case rel => exact ⟨i, h, rfl, by first | rfl | go_num | (congr 1; omega), hli, hi1, by omega, Nat.le_refl _, S2, I1, fun _ => by rw [show nn - 1 - h = q by omega]; exact hL⟩
      | false =>
        have ea8 : ((q : Int)).toNat = q := by omega
        have pa8 : (0 : Int) ≤ (q : Int) := by omega
        have ba8 : (q : Int) < (N : Int) := by omega
        have ra8 : IntKind.i64.wrap ((q : Int)) = (q : Int) := by rw [IntKind.wrap_i64]; omega
        have ec8 : ((h : Int)).toNat = h := by omega
        have pc8 : (0 : Int) ≤ (h : Int) := by omega
        have bc8 : (h : Int) < (N : Int) := by omega
        have rc8 : IntKind.i64.wrap ((h : Int)) = (h : Int) := by rw [IntKind.wrap_i64]; omega
        obtain ⟨x8, hx8⟩ : ∃ x, x = d[q]! := ⟨_, rfl⟩
        obtain ⟨y8, hy8⟩ : ∃ x, x = d[h]! := ⟨_, rfl⟩
        have l8a := S1.out.ld R (by omega) P (q) (by omega)
        have l8b := S1.out.ld R (by omega) P (h) (by omega)
        rw [← hx8] at l8a
        rw [← hy8] at l8b
        have hc8 := S1.out.cmp HC.out (by omega) x8 y8
        have hv8 : ¬ cf x8 y8 < 0 := by rw [hx8, hy8]; exact of_decide_eq_false hL
        have hd8 : decide (cf x8 y8 < 0) = false := decide_eq_false hv8
        clear hx8 hy8
        go_wp2_with fail
        go_quiet_grown (first | (go_at_fn g; refine Calls.grown_of (hc8 _ _)))
        have S2 : Aside (SWK enc k w0 blk off d (grow (wr.drewN nq) osq)) := S1.out.grown nq osq
        clear l8a l8b hc8 S1
        generalize grow (wr.drewN nq) osq = w2 at S2 ⊢
        clear nq osq
        go_wp2
        go_roundg (j - (h + 1))
        case measure => omega
        case rel => exact ⟨h + 1, j, by first | rfl | go_num | (congr 1; omega), rfl, by omega, by omega, hjh, Nat.le_refl _, S2, fun _ => by rw [show nn - (h + 1) = q by omega]; exact hL, J1⟩
    · have hltz : ¬ (i : Int) < (j : Int) := by omega
      obtain rfl : i = j := by omega
      obtain ⟨e, he⟩ : ∃ e, e + i = nn := ⟨nn - i, by omega⟩
      have re : IntKind.i64.wrap ((nn : Int) - (i : Int)) = (e : Int) := by rw [IntKind.wrap_i64]; omega
      have re' : (nn : Int) - (i : Int) = (e : Int) := by omega
      have h1 : a ≤ i := by omega
      have h2 : i ≤ m := by omega
      have h3 : m ≤ e := by omega
      have h4 : e ≤ b := by omega
      have hm : i + (e - m) = mid := by omega
      have C1 : Hid (i < m → m < e → ltOf cf d[e - 1]! d[i]! = true) := fun q1 q2 => by rw [show e - 1 = nn - 1 - i by omega]; exact J1.out (by omega)
      have C2 : Hid (a < i → e < b → ltOf cf d[e]! d[i - 1]! = false) := fun q1 q2 => by rw [show e = nn - i by omega]; exact I1.out (by omega)
      clear I1 J1
      by_cases g1 : i < m
      · by_cases g2 : m < e
        · have z1 : (i : Int) < (m : Int) := by omega
          have z2 : (m : Int) < (e : Int) := by omega
          have z3 : (i : Int) < (mid : Int) := by omega
          have z4 : (mid : Int) < (e : Int) := by omega
          by_cases g3 : a < i
          · have z5 : (a : Int) < (i : Int) := by omega
            by_cases g4 : e < b
            · have z6 : (e : Int) < (b : Int) := by omega
              have hU := HU.out
              have hS := HS.out
              have hcon := ROT.out wr i m e S1.out (by omega) (by omega) (by omega)
              go_wp2_with fail
              refine hcon.mono ?_
              rintro ee w1 ⟨rfl, d1, SR, QR, NR⟩
              clear hcon
              have H1 : Hid (∀ x, d1[x]! = rotF (fun x => d[x]!) i m e x) := NR
              have K1 : Hid (PermIn a b d d1) := permIn_mono _ _ _ _ _ _ (by omega) (by omega) (by omega) QR
              have hz1 : d1.size = N := by rw [QR.1]; exact hN
              have T1 : Aside (SWK enc k w0 blk off d1 w1) := SR
              clear NR QR SR S1
              have UL := sym_l hS hU h1 h2 h3 h4 hm H1.out C1.out C2.out
              have hcon := CALL.out a i mid d1 w1 (by omega) hz1 T1.out UL (by omega) (by omega) (by omega)
              clear UL
              go_wp2_with fail
              refine hcon.mono ?_
              rintro ee w2 ⟨rfl, d2, SL, QL, NL⟩
              clear hcon
              have K2 : Hid (PermIn a mid d1 d2) := QL
              have Z2 : Hid (SortedIn (tlB (ltOf cf) tg) a mid d2) := NL
              have hz2 : d2.size = N := by rw [QL.1]; exact hz1
              have T2 : Aside (SWK enc k w0 blk off d2 w2) := SL
              clear NL QL SL T1
              have UR := sym_r hS hU h1 h2 h3 h4 hm H1.out C1.out C2.out K2.out
              have hcon := CALL.out mid e b d2 w2 (by omega) hz2 T2.out UR (by omega) (by omega) (by omega)
              clear UR
              go_wp2_with fail
              refine hcon.mono ?_
              rintro ee w3 ⟨rfl, d3, SQ, QQ, NQ⟩
              clear hcon
              have K3 : Hid (PermIn mid b d2 d3) := QQ
              have Z3 : Hid (SortedIn (tlB (ltOf cf) tg) mid b d3) := NQ
              have T3 : Aside (SWK enc k w0 blk off d3 w3) := SQ
              clear NQ QQ SQ T2
              go_wp2
              go_end0
              exact ⟨rfl, d3, T3.out, sym_fin hS hU h1 h2 h3 h4 hm (by omega) H1.out K1.out C1.out C2.out K2.out Z2.out K3.out Z3.out⟩
            · have z6 : ¬ (e : Int) < (b : Int) := by omega
              have hU := HU.out
              have hS := HS.out
              have hcon := ROT.out wr i m e S1.out (by omega) (by omega) (by omega)
              go_wp2_with fail
              refine hcon.mono ?_
              rintro ee w1 ⟨rfl, d1, SR, QR, NR⟩
              clear hcon
              have H1 : Hid (∀ x, d1[x]! = rotF (fun x => d[x]!) i m e x) := NR
              have K1 : Hid (PermIn a b d d1) := permIn_mono _ _ _ _ _ _ (by omega) (by omega) (by omega) QR
              have hz1 : d1.size = N := by rw [QR.1]; exact hN
              have T1 : Aside (SWK enc k w0 blk off d1 w1) := SR
              clear NR QR SR S1
              have UL := sym_l hS hU h1 h2 h3 h4 hm H1.out C1.out C2.out
              have hcon := CALL.out a i mid d1 w1 (by omega) hz1 T1.out UL (by omega) (by omega) (by omega)
              clear UL
              go_wp2_with fail
              refine hcon.mono ?_
              rintro ee w2 ⟨rfl, d2, SL, QL, NL⟩
              clear hcon
              have K2 : Hid (PermIn a mid d1 d2) := QL
              have Z2 : Hid (SortedIn (tlB (ltOf cf) tg) a mid d2) := NL
              have hz2 : d2.size = N := by rw [QL.1]; exact hz1
              have T2 : Aside (SWK enc k w0 blk off d2 w2) := SL
              clear NL QL SL T1
              have UR := sym_r hS hU h1 h2 h3 h4 hm H1.out C1.out C2.out K2.out
              have K3 : Hid (PermIn mid b d2 d2) := permIn_refl _ _ _
              have Z3 : Hid (SortedIn (tlB (ltOf cf) tg) mid b d2) := by have q : b = e := (by omega); rw [q]; exact UR.l
              clear UR
              go_wp2
              go_end0
              exact ⟨rfl, d2, T2.out, sym_fin hS hU h1 h2 h3 h4 hm (by omega) H1.out K1.out C1.out C2.out K2.out Z2.out K3.out Z3.out⟩
          · have z5 : ¬ (a : Int) < (i : Int) := by omega
            by_cases g4 : e < b
            · have z6 : (e : Int) < (b : Int) := by omega
              have hU := HU.out
              have hS := HS.out
              have hcon := ROT.out wr i m e S1.out (by omega) (by omega) (by omega)
              go_wp2_with fail
              refine hcon.mono ?_
              rintro ee w1 ⟨rfl, d1, SR, QR, NR⟩
              clear hcon
              have H1 : Hid (∀ x, d1[x]! = rotF (fun x => d[x]!) i m e x) := NR
              have K1 : Hid (PermIn a b d d1) := permIn_mono _ _ _ _ _ _ (by omega) (by omega) (by omega) QR
              have hz1 : d1.size = N := by rw [QR.1]; exact hN
              have T1 : Aside (SWK enc k w0 blk off d1 w1) := SR
              clear NR QR SR S1
              have UL := sym_l hS hU h1 h2 h3 h4 hm H1.out C1.out C2.out
              have K2 : Hid (PermIn a mid d1 d1) := permIn_refl _ _ _
              have Z2 : Hid (SortedIn (tlB (ltOf cf) tg) a mid d1) := by have q : i = a := (by omega); rw [← q]; exact UL.r
              have hz2 : d1.size = N := hz1
              clear UL
              have UR := sym_r hS hU h1 h2 h3 h4 hm H1.out C1.out C2.out K2.out
              have hcon := CALL.out mid e b d1 w1 (by omega) hz2 T1.out UR (by omega) (by omega) (by omega)
              clear UR
              go_wp2_with fail
              refine hcon.mono ?_
              rintro ee w3 ⟨rfl, d3, SQ, QQ, NQ⟩
              clear hcon
              have K3 : Hid (PermIn mid b d1 d3) := QQ
              have Z3 : Hid (SortedIn (tlB (ltOf cf) tg) mid b d3) := NQ
              have T3 : Aside (SWK enc k w0 blk off d3 w3) := SQ
              clear NQ QQ SQ T1
              go_wp2
              go_end0
              exact ⟨rfl, d3, T3.out, sym_fin hS hU h1 h2 h3 h4 hm (by omega) H1.out K1.out C1.out C2.out K2.out Z2.out K3.out Z3.out⟩
            · have z6 : ¬ (e : Int) < (b : Int) := by omega
              have hU := HU.out
              have hS := HS.out
              have hcon := ROT.out wr i m e S1.out (by omega) (by omega) (by omega)
              go_wp2_with fail
              refine hcon.mono ?_
              rintro ee w1 ⟨rfl, d1, SR, QR, NR⟩
              clear hcon
              have H1 : Hid (∀ x, d1[x]! = rotF (fun x => d[x]!) i m e x) := NR
              have K1 : Hid (PermIn a b d d1) := permIn_mono _ _ _ _ _ _ (by omega) (by omega) (by omega) QR
              have hz1 : d1.size = N := by rw [QR.1]; exact hN
              have T1 : Aside (SWK enc k w0 blk off d1 w1) := SR
              clear NR QR SR S1
              have UL := sym_l hS hU h1 h2 h3 h4 hm H1.out C1.out C2.out
              have K2 : Hid (PermIn a mid d1 d1) := permIn_refl _ _ _
              have Z2 : Hid (SortedIn (tlB (ltOf cf) tg) a mid d1) := by have q : i = a := (by omega); rw [← q]; exact UL.r
              have hz2 : d1.size = N := hz1
              clear UL
              have UR := sym_r hS hU h1 h2 h3 h4 hm H1.out C1.out C2.out K2.out
              have K3 : Hid (PermIn mid b d1 d1) := permIn_refl _ _ _
              have Z3 : Hid (SortedIn (tlB (ltOf cf) tg) mid b d1) := by have q : b = e := (by omega); rw [q]; exact UR.l
              clear UR
              go_wp2
              go_end0
              exact ⟨rfl, d1, T1.out, sym_fin hS hU h1 h2 h3 h4 hm (by omega) H1.out K1.out C1.out C2.out K2.out Z2.out K3.out Z3.out⟩
        · have z1 : (i : Int) < (m : Int) := by omega
          have z2 : ¬ (m : Int) < (e : Int) := by omega
          have z3 : ¬ (i : Int) < (mid : Int) := by omega
          have z4 : (mid : Int) < (e : Int) := by omega
          have z5 : (a : Int) < (i : Int) := by omega
          have z6 : (e : Int) < (b : Int) := by omega
          have hU := HU.out
          have hS := HS.out
          have H1 : Hid (∀ x, d[x]! = rotF (fun x => d[x]!) i m e x) := fun x => by rw [show e = m by omega]; exact (rot_none2 _ _ _ _).symm
          have K1 : Hid (PermIn a b d d) := permIn_refl _ _ _
          have hz1 : d.size = N := hN
          have UL := sym_l hS hU h1 h2 h3 h4 hm H1.out C1.out C2.out
          have K2 : Hid (PermIn a mid d d) := permIn_refl _ _ _
          have Z2 : Hid (SortedIn (tlB (ltOf cf) tg) a mid d) := by have q : mid = i := (by omega); rw [q]; exact UL.l
          have hz2 : d.size = N := hz1
          clear UL
          have UR := sym_r hS hU h1 h2 h3 h4 hm H1.out C1.out C2.out K2.out
          have hcon := CALL.out mid e b d wr (by omega) hz2 S1.out UR (by omega) (by omega) (by omega)
          clear UR
          go_wp2_with fail
          refine hcon.mono ?_
          rintro ee w3 ⟨rfl, d3, SQ, QQ, NQ⟩
          clear hcon
          have K3 : Hid (PermIn mid b d d3) := QQ
          have Z3 : Hid (SortedIn (tlB (ltOf cf) tg) mid b d3) := NQ
          have T3 : Aside (SWK enc k w0 blk off d3 w3) := SQ
          clear NQ QQ SQ S1
          go_wp2
          go_end0
          exact ⟨rfl, d3, T3.out, sym_fin hS hU h1 h2 h3 h4 hm (by omega) H1.out K1.out C1.out C2.out K2.out Z2.out K3.out Z3.out⟩
      · exfalso; omega
set_option maxHeartbeats 16000000 in
set_option maxRecDepth 1000000 in
theorem sym_dn (L : StL P k) (enc : α → List Value) (cf : α → α → Int) (tg : α → Nat) (g : Nat) (cb : Array Value) (blk off cap N a m b : Nat) (d0 d : Array α) (w0 w : World)
    (eg : ∀ args w, (callFunc g args).run P w = .ok (.enter g args) w) (hcmp : CmpLays P g cb enc k cf blk off N w0) (hS : SWO (ltOf cf)) (R : RowK enc k w0 blk off d0) (h0 : d0.size = N) (hN : d.size = N) (S : SWK enc k w0 blk off d w)
    (U : Runs (ltOf cf) tg a m b d) (hb : b ≤ N) (hsz : N < 1152921504606846976) (hn1 : a + 1 < m) (hn2 : m + 1 < b) (hmid : m ≤ (a + b) / 2)
    (IH : ∀ (x y z : Nat) (dk : Array α) (wr : World), z - x < b - a → dk.size = N → SWK enc k w0 blk off dk wr → Runs (ltOf cf) tg x y z dk → x < y → y < z → z ≤ N → Calls P 70 #[.slice (some ⟨blk, off, none⟩) N cap, .int .i64 x, .int .i64 y, .int .i64 z, .func (.func g) #[] cb] wr fun e w' =>
      e = .returned (.tuple #[]) ∧ ∃ d', SWK enc k w0 blk off d' w' ∧ PermIn x z dk d' ∧ SortedIn (tlB (ltOf cf) tg) x z d') :
    Calls P 70 #[.slice (some ⟨blk, off, none⟩) N cap, .int .i64 a, .int .i64 m, .int .i64 b, .func (.func g) #[] cb] w fun e w' =>
      e = .returned (.tuple #[]) ∧ ∃ d', SWK enc k w0 blk off d' w' ∧ PermIn a b d d' ∧ SortedIn (tlB (ltOf cf) tg) a b d' := by
  have mixed := L.mixed; have t0 := L.t0; have a0 := L.a0; have z0 := L.z0; have v0 := L.v0; have t3 := L.t3; have a3 := L.a3; have z3 := L.z3; have v3 := L.v3; have t4 := L.t4; have a4 := L.a4; have z4 := L.z4; have v4 := L.v4; have t22 := L.tS; have a22 := L.aS; have z22 := L.zS; have v22 := L.vS; have t25 := L.tC; have a25 := L.aC; have z25 := L.zC; have v25 := L.vC; have tU := L.tU; have aU := L.aU; have zU := L.zU; have vU := L.vU
  have aE := L.aE; have zE := L.zE
  have FG := L.fSym
  have HC : Aside _ := hcmp
  have CALL : Aside (∀ (x y z : Nat) (dk : Array α) (wr : World), z - x < b - a → dk.size = N → SWK enc k w0 blk off dk wr → Runs (ltOf cf) tg x y z dk → x < y → y < z → z ≤ N → Calls P 70 #[.slice (some ⟨blk, off, none⟩) N cap, .int .i64 x, .int .i64 y, .int .i64 z, .func (.func g) #[] cb] wr fun e w' =>
      e = .returned (.tuple #[]) ∧ ∃ d', SWK enc k w0 blk off d' w' ∧ PermIn x z dk d' ∧ SortedIn (tlB (ltOf cf) tg) x z d') := IH
  have ROT : Aside (∀ (wr : World) (x y z : Nat), SWK enc k w0 blk off d wr → x < y → y < z → z ≤ N → Calls P 80 #[.slice (some ⟨blk, off, none⟩) N cap, .int .i64 x, .int .i64 y, .int .i64 z, .func (.func g) #[] cb] wr fun e w' =>
      e = .returned (.tuple #[]) ∧ ∃ d', SWK enc k w0 blk off d' w' ∧ PermIn x z d d' ∧ ∀ u, d'[u]! = rotF (fun u => d[u]!) x y z u) :=
    fun wr x y z q2 q3 q4 q5 => rotate_c L enc g cb blk off cap N x y z d0 d w0 wr R h0 hN q2 q3 q4 q5 hsz
  have eS : ∀ args w, (callFunc 70 args).run P w = .ok (.enter 70 args) w := enters_of L.fSym (by kernel_rfl) rfl
  have eR : ∀ args w, (callFunc 80 args).run P w = .ok (.enter 80 args) w := enters_of L.fRot (by kernel_rfl) rfl
  have S0 : Aside (SWK enc k w0 blk off d w) := S
  obtain ⟨zz, hzz⟩ : ∃ z, z + a = m := ⟨m - a, by omega⟩
  have r1 : IntKind.i64.wrap ((m : Int) - (a : Int)) = (zz : Int) := by rw [IntKind.wrap_i64]; omega
  have r1' : (m : Int) - (a : Int) = (zz : Int) := by omega
  have r1b : ((zz : Int) == 1) = false := by rw [beq_eq_false_iff_ne]; omega
  obtain ⟨yy, hyy⟩ : ∃ z, z + m = b := ⟨b - m, by omega⟩
  have r2 : IntKind.i64.wrap ((b : Int) - (m : Int)) = (yy : Int) := by rw [IntKind.wrap_i64]; omega
  have r2' : (b : Int) - (m : Int) = (yy : Int) := by omega
  have r2b : ((yy : Int) == 1) = false := by rw [beq_eq_false_iff_ne]; omega
  obtain ⟨mid, hmd⟩ : ∃ z, z = (a + b) / 2 := ⟨_, rfl⟩
  have r3 : IntKind.i64.wrap ((a : Int) + (b : Int)) = (a : Int) + (b : Int) := by rw [IntKind.wrap_i64]; omega
  have r3' : ((a : Int) + (b : Int)) / 2 = (mid : Int) := by omega
  have hd1 : 2 * mid ≤ a + b := by omega
  have hd2 : a + b ≤ 2 * mid + 1 := by omega
  have hmm : m ≤ mid := by omega
  clear hmd hmid
  obtain ⟨nn, hnn⟩ : ∃ z, z = mid + m := ⟨_, rfl⟩
  have r4 : IntKind.i64.wrap ((mid : Int) + (m : Int)) = (nn : Int) := by rw [IntKind.wrap_i64]; omega
  have r4' : (mid : Int) + (m : Int) = (nn : Int) := by omega
  obtain ⟨pp, hpp⟩ : ∃ z, z + 1 = nn := ⟨nn - 1, by omega⟩
  have r5 : IntKind.i64.wrap ((nn : Int) - 1) = (pp : Int) := by rw [IntKind.wrap_i64]; omega
  have r5' : (nn : Int) - 1 = (pp : Int) := by omega
  have r7 : ¬ (mid : Int) < (m : Int) := by omega
  have HU : Hid (Runs (ltOf cf) tg a m b d) := U
  have HS : Hid (SWO (ltOf cf)) := hS
  clear S L hcmp U hS IH
  have HNN := Nat.le_of_eq hnn
  have HNN2 := Nat.le_of_eq hnn.symm
  clear hnn
  go_enter FG, Try.ntmps70
  go_wp2
  go_loopg [20, 21] (m - a) (fun kx si sj wr => ∃ (i j : Nat), si = .int .i64 i ∧ sj = .int .i64 j ∧ a ≤ i ∧ i ≤ j ∧ j ≤ m ∧ j - i ≤ kx ∧ Aside (SWK enc k w0 blk off d wr) ∧ Hid (a < i → ltOf cf d[nn - i]! d[i - 1]! = false) ∧ Hid (j < m → ltOf cf d[nn - 1 - j]! d[j]! = true))
  case atStart => exact ⟨a, m, by first | rfl | go_num, by first | rfl | go_num, Nat.le_refl _, by omega, Nat.le_refl _, Nat.le_refl _, S0, fun h => by omega, fun h => by omega⟩
  case round =>
    clear S0
    obtain ⟨i, j, rfl, rfl, hli, hij, hjh, hkx, S1, I1, J1⟩ := hrel
    by_cases hlt : i < j
    · have hltz : (i : Int) < (j : Int) := by omega
      obtain ⟨h, hh⟩ : ∃ h, h = (i + j) / 2 := ⟨_, rfl⟩
      have hz : ((i : Int) + (j : Int)) / 2 = (h : Int) := by omega
      have hi1 : i ≤ h := by omega
      have hj1 : h < j := by omega
      have rij : IntKind.i64.wrap ((i : Int) + (j : Int)) = (i : Int) + (j : Int) := by rw [IntKind.wrap_i64]; omega
      clear hh
      obtain ⟨q, hq⟩ : ∃ q, q + h = pp := ⟨pp - h, by omega⟩
      have rq : IntKind.i64.wrap ((pp : Int) - (h : Int)) = (q : Int) := by rw [IntKind.wrap_i64]; omega
      have rq' : (pp : Int) - (h : Int) = (q : Int) := by omega
      cases hL : ltOf cf d[q]! d[h]! with
      | true =>
        have ea8 : ((q : Int)).toNat = q := by omega
        have pa8 : (0 : Int) ≤ (q : Int) := by omega
        have ba8 : (q : Int) < (N : Int) := by omega
        have ra8 : IntKind.i64.wrap ((q : Int)) = (q : Int) := by rw [IntKind.wrap_i64]; omega
        have ec8 : ((h : Int)).toNat = h := by omega
        have pc8 : (0 : Int) ≤ (h : Int) := by omega
        have bc8 : (h : Int) < (N : Int) := by omega
        have rc8 : IntKind.i64.wrap ((h : Int)) = (h : Int) := by rw [IntKind.wrap_i64]; omega
        obtain ⟨x8, hx8⟩ : ∃ x, x = d[q]! := ⟨_, rfl⟩
        obtain ⟨y8, hy8⟩ : ∃ x, x = d[h]! := ⟨_, rfl⟩
        have l8a := S1.out.ld R (by omega) P (q) (by omega)
        have l8b := S1.out.ld R (by omega) P (h) (by omega)
        rw [← hx8] at l8a
        rw [← hy8] at l8b
        have hc8 := S1.out.cmp HC.out (by omega) x8 y8
        have hv8 : cf x8 y8 < 0 := by rw [hx8, hy8]; exact of_decide_eq_true hL
        have hd8 : decide (cf x8 y8 < 0) = true := decide_eq_true hv8
        clear hx8 hy8
        go_wp2_with fail
        go_quiet_grown (first | (go_at_fn g; refine Calls.grown_of (hc8 _ _)))
        have S2 : Aside (SWK enc k w0 blk off d (grow (wr.drewN nq) osq)) := S1.out.grown nq osq
        clear l8a l8b hc8 S1
        generalize grow (wr.drewN nq) osq = w2 at S2 ⊢
        clear nq osq
        go_wp2
        go_roundg (h - i)
        case measure => omega
        case rel => exact ⟨i, h, rfl, by first | rfl | go_num | (congr 1; omega), hli, hi1, by omega, Nat.le_refl _, S2, I1, fun _ => by rw [show nn - 1 - h = q by omega]; exact hL⟩
      | false =>
        have ea8 : ((q : Int)).toNat = q := by omega
        have pa8 : (0 : Int) ≤ (q : Int) := by omega
        have ba8 : (q : Int) < (N : Int) := by omega
        have ra8 : IntKind.i64.wrap ((q : Int)) = (q : Int) := by rw [IntKind.wrap_i64]; omega
        have ec8 : ((h : Int)).toNat = h := by omega
        have pc8 : (0 : Int) ≤ (h : Int) := by omega
        have bc8 : (h : Int) < (N : Int) := by omega
        have rc8 : IntKind.i64.wrap ((h : Int)) = (h : Int) := by rw [IntKind.wrap_i64]; omega
        obtain ⟨x8, hx8⟩ : ∃ x, x = d[q]! := ⟨_, rfl⟩
        obtain ⟨y8, hy8⟩ : ∃ x, x = d[h]! := ⟨_, rfl⟩
        have l8a := S1.out.ld R (by omega) P (q) (by omega)
        have l8b := S1.out.ld R (by omega) P (h) (by omega)
        rw [← hx8] at l8a
        rw [← hy8] at l8b
        have hc8 := S1.out.cmp HC.out (by omega) x8 y8
        have hv8 : ¬ cf x8 y8 < 0 := by rw [hx8, hy8]; exact of_decide_eq_false hL
        have hd8 : decide (cf x8 y8 < 0) = false := decide_eq_false hv8
        clear hx8 hy8
        go_wp2_with fail
        go_quiet_grown (first | (go_at_fn g; refine Calls.grown_of (hc8 _ _)))
        have S2 : Aside (SWK enc k w0 blk off d (grow (wr.drewN nq) osq)) := S1.out.grown nq osq
        clear l8a l8b hc8 S1
        generalize grow (wr.drewN nq) osq = w2 at S2 ⊢
        clear nq osq
        go_wp2
        go_roundg (j - (h + 1))
        case measure => omega
        case rel => exact ⟨h + 1, j, by first | rfl | go_num | (congr 1; omega), rfl, by omega, by omega, hjh, Nat.le_refl _, S2, fun _ => by rw [show nn - (h + 1) = q by omega]; exact hL, J1⟩
    · have hltz : ¬ (i : Int) < (j : Int) := by omega
      obtain rfl : i = j := by omega
      obtain ⟨e, he⟩ : ∃ e, e + i = nn := ⟨nn - i, by omega⟩
      have re : IntKind.i64.wrap ((nn : Int) - (i : Int)) = (e : Int) := by rw [IntKind.wrap_i64]; omega
      have re' : (nn : Int) - (i : Int) = (e : Int) := by omega
      have h1 : a ≤ i := by omega
      have h2 : i ≤ m := by omega
      have h3 : m ≤ e := by omega
      have h4 : e ≤ b := by omega
      have hm : i + (e - m) = mid := by omega
      have C1 : Hid (i < m → m < e → ltOf cf d[e - 1]! d[i]! = true) := fun q1 q2 => by rw [show e - 1 = nn - 1 - i by omega]; exact J1.out (by omega)
      have C2 : Hid (a < i → e < b → ltOf cf d[e]! d[i - 1]! = false) := fun q1 q2 => by rw [show e = nn - i by omega]; exact I1.out (by omega)
      clear I1 J1
      by_cases g1 : i < m
      · by_cases g2 : m < e
        · have z1 : (i : Int) < (m : Int) := by omega
          have z2 : (m : Int) < (e : Int) := by omega
          have z3 : (i : Int) < (mid : Int) := by omega
          have z4 : (mid : Int) < (e : Int) := by omega
          by_cases g3 : a < i
          · have z5 : (a : Int) < (i : Int) := by omega
            by_cases g4 : e < b
            · have z6 : (e : Int) < (b : Int) := by omega
              have hU := HU.out
              have hS := HS.out
              have hcon := ROT.out wr i m e S1.out (by omega) (by omega) (by omega)
              go_wp2_with fail
              refine hcon.mono ?_
              rintro ee w1 ⟨rfl, d1, SR, QR, NR⟩
              clear hcon
              have H1 : Hid (∀ x, d1[x]! = rotF (fun x => d[x]!) i m e x) := NR
              have K1 : Hid (PermIn a b d d1) := permIn_mono _ _ _ _ _ _ (by omega) (by omega) (by omega) QR
              have hz1 : d1.size = N := by rw [QR.1]; exact hN
              have T1 : Aside (SWK enc k w0 blk off d1 w1) := SR
              clear NR QR SR S1
              have UL := sym_l hS hU h1 h2 h3 h4 hm H1.out C1.out C2.out
              have hcon := CALL.out a i mid d1 w1 (by omega) hz1 T1.out UL (by omega) (by omega) (by omega)
              clear UL
              go_wp2_with fail
              refine hcon.mono ?_
              rintro ee w2 ⟨rfl, d2, SL, QL, NL⟩
              clear hcon
              have K2 : Hid (PermIn a mid d1 d2) := QL
              have Z2 : Hid (SortedIn (tlB (ltOf cf) tg) a mid d2) := NL
              have hz2 : d2.size = N := by rw [QL.1]; exact hz1
              have T2 : Aside (SWK enc k w0 blk off d2 w2) := SL
              clear NL QL SL T1
              have UR := sym_r hS hU h1 h2 h3 h4 hm H1.out C1.out C2.out K2.out
              have hcon := CALL.out mid e b d2 w2 (by omega) hz2 T2.out UR (by omega) (by omega) (by omega)
              clear UR
              go_wp2_with fail
              refine hcon.mono ?_
              rintro ee w3 ⟨rfl, d3, SQ, QQ, NQ⟩
              clear hcon
              have K3 : Hid (PermIn mid b d2 d3) := QQ
              have Z3 : Hid (SortedIn (tlB (ltOf cf) tg) mid b d3) := NQ
              have T3 : Aside (SWK enc k w0 blk off d3 w3) := SQ
              clear NQ QQ SQ T2
              go_wp2
              go_end0
              exact ⟨rfl, d3, T3.out, sym_fin hS hU h1 h2 h3 h4 hm (by omega) H1.out K1.out C1.out C2.out K2.out Z2.out K3.out Z3.out⟩
            · have z6 : ¬ (e : Int) < (b : Int) := by omega
              have hU := HU.out
              have hS := HS.out
              have hcon := ROT.out wr i m e S1.out (by omega) (by omega) (by omega)
              go_wp2_with fail
              refine hcon.mono ?_
              rintro ee w1 ⟨rfl, d1, SR, QR, NR⟩
              clear hcon
              have H1 : Hid (∀ x, d1[x]! = rotF (fun x => d[x]!) i m e x) := NR
              have K1 : Hid (PermIn a b d d1) := permIn_mono _ _ _ _ _ _ (by omega) (by omega) (by omega) QR
              have hz1 : d1.size = N := by rw [QR.1]; exact hN
              have T1 : Aside (SWK enc k w0 blk off d1 w1) := SR
              clear NR QR SR S1
              have UL := sym_l hS hU h1 h2 h3 h4 hm H1.out C1.out C2.out
              have hcon := CALL.out a i mid d1 w1 (by omega) hz1 T1.out UL (by omega) (by omega) (by omega)
              clear UL
              go_wp2_with fail
              refine hcon.mono ?_
              rintro ee w2 ⟨rfl, d2, SL, QL, NL⟩
              clear hcon
              have K2 : Hid (PermIn a mid d1 d2) := QL
              have Z2 : Hid (SortedIn (tlB (ltOf cf) tg) a mid d2) := NL
              have hz2 : d2.size = N := by rw [QL.1]; exact hz1
              have T2 : Aside (SWK enc k w0 blk off d2 w2) := SL
              clear NL QL SL T1
              have UR := sym_r hS hU h1 h2 h3 h4 hm H1.out C1.out C2.out K2.out
              have K3 : Hid (PermIn mid b d2 d2) := permIn_refl _ _ _
              have Z3 : Hid (SortedIn (tlB (ltOf cf) tg) mid b d2) := by have q : b = e := (by omega); rw [q]; exact UR.l
              clear UR
              go_wp2
              go_end0
              exact ⟨rfl, d2, T2.out, sym_fin hS hU h1 h2 h3 h4 hm (by omega) H1.out K1.out C1.out C2.out K2.out Z2.out K3.out Z3.out⟩
          · have z5 : ¬ (a : Int) < (i : Int) := by omega
            by_cases g4 : e < b
            · have z6 : (e : Int) < (b : Int) := by omega
              have hU := HU.out
              have hS := HS.out
              have hcon := ROT.out wr i m e S1.out (by omega) (by omega) (by omega)
              go_wp2_with fail
              refine hcon.mono ?_
              rintro ee w1 ⟨rfl, d1, SR, QR, NR⟩
              clear hcon
              have H1 : Hid (∀ x, d1[x]! = rotF (fun x => d[x]!) i m e x) := NR
              have K1 : Hid (PermIn a b d d1) := permIn_mono _ _ _ _ _ _ (by omega) (by omega) (by omega) QR
              have hz1 : d1.size = N := by rw [QR.1]; exact hN
              have T1 : Aside (SWK enc k w0 blk off d1 w1) := SR
              clear NR QR SR S1
              have UL := sym_l hS hU h1 h2 h3 h4 hm H1.out C1.out C2.out
              have K2 : Hid (PermIn a mid d1 d1) := permIn_refl _ _ _
              have Z2 : Hid (SortedIn (tlB (ltOf cf) tg) a mid d1) := by have q : i = a := (by omega); rw [← q]; exact UL.r
              have hz2 : d1.size = N := hz1
              clear UL
              have UR := sym_r hS hU h1 h2 h3 h4 hm H1.out C1.out C2.out K2.out
              have hcon := CALL.out mid e b d1 w1 (by omega) hz2 T1.out UR (by omega) (by omega) (by omega)
              clear UR
              go_wp2_with fail
              refine hcon.mono ?_
              rintro ee w3 ⟨rfl, d3, SQ, QQ, NQ⟩
              clear hcon
              have K3 : Hid (PermIn mid b d1 d3) := QQ
              have Z3 : Hid (SortedIn (tlB (ltOf cf) tg) mid b d3) := NQ
              have T3 : Aside (SWK enc k w0 blk off d3 w3) := SQ
              clear NQ QQ SQ T1
              go_wp2
              go_end0
              exact ⟨rfl, d3, T3.out, sym_fin hS hU h1 h2 h3 h4 hm (by omega) H1.out K1.out C1.out C2.out K2.out Z2.out K3.out Z3.out⟩
            · have z6 : ¬ (e : Int) < (b : Int) := by omega
              have hU := HU.out
              have hS := HS.out
              have hcon := ROT.out wr i m e S1.out (by omega) (by omega) (by omega)
              go_wp2_with fail
              refine hcon.mono ?_
              rintro ee w1 ⟨rfl, d1, SR, QR, NR⟩
              clear hcon
              have H1 : Hid (∀ x, d1[x]! = rotF (fun x => d[x]!) i m e x) := NR
              have K1 : Hid (PermIn a b d d1) := permIn_mono _ _ _ _ _ _ (by omega) (by omega) (by omega) QR
              have hz1 : d1.size = N := by rw [QR.1]; exact hN
              have T1 : Aside (SWK enc k w0 blk off d1 w1) := SR
              clear NR QR SR S1
              have UL := sym_l hS hU h1 h2 h3 h4 hm H1.out C1.out C2.out
              have K2 : Hid (PermIn a mid d1 d1) := permIn_refl _ _ _
              have Z2 : Hid (SortedIn (tlB (ltOf cf) tg) a mid d1) := by have q : i = a := (by omega); rw [← q]; exact UL.r
              have hz2 : d1.size = N := hz1
              clear UL
              have UR := sym_r hS hU h1 h2 h3 h4 hm H1.out C1.out C2.out K2.out
              have K3 : Hid (PermIn mid b d1 d1) := permIn_refl _ _ _
              have Z3 : Hid (SortedIn (tlB (ltOf cf) tg) mid b d1) := by have q : b = e := (by omega); rw [q]; exact UR.l
              clear UR
              go_wp2
              go_end0
              exact ⟨rfl, d1, T1.out, sym_fin hS hU h1 h2 h3 h4 hm (by omega) H1.out K1.out C1.out C2.out K2.out Z2.out K3.out Z3.out⟩
        · have z1 : (i : Int) < (m : Int) := by omega
          have z2 : ¬ (m : Int) < (e : Int) := by omega
          have z3 : ¬ (i : Int) < (mid : Int) := by omega
          have z4 : (mid : Int) < (e : Int) := by omega
          have z5 : (a : Int) < (i : Int) := by omega
          have z6 : (e : Int) < (b : Int) := by omega
          have hU := HU.out
          have hS := HS.out
          have H1 : Hid (∀ x, d[x]! = rotF (fun x => d[x]!) i m e x) := fun x => by rw [show e = m by omega]; exact (rot_none2 _ _ _ _).symm
          have K1 : Hid (PermIn a b d d) := permIn_refl _ _ _
          have hz1 : d.size = N := hN
          have UL := sym_l hS hU h1 h2 h3 h4 hm H1.out C1.out C2.out
          have K2 : Hid (PermIn a mid d d) := permIn_refl _ _ _
          have Z2 : Hid (SortedIn (tlB (ltOf cf) tg) a mid d) := by have q : mid = i := (by omega); rw [q]; exact UL.l
          have hz2 : d.size = N := hz1
          clear UL
          have UR := sym_r hS hU h1 h2 h3 h4 hm H1.out C1.out C2.out K2.out
          have hcon := CALL.out mid e b d wr (by omega) hz2 S1.out UR (by omega) (by omega) (by omega)
          clear UR
          go_wp2_with fail
          refine hcon.mono ?_
          rintro ee w3 ⟨rfl, d3, SQ, QQ, NQ⟩
          clear hcon
          have K3 : Hid (PermIn mid b d d3) := QQ
          have Z3 : Hid (SortedIn (tlB (ltOf cf) tg) mid b d3) := NQ
          have T3 : Aside (SWK enc k w0 blk off d3 w3) := SQ
          clear NQ QQ SQ S1
          go_wp2
          go_end0
          exact ⟨rfl, d3, T3.out, sym_fin hS hU h1 h2 h3 h4 hm (by omega) H1.out K1.out C1.out C2.out K2.out Z2.out K3.out Z3.out⟩
      · have z1 : ¬ (i : Int) < (m : Int) := by omega
        have z5 : (a : Int) < (i : Int) := by omega
        have z4 : ¬ (mid : Int) < (e : Int) := by omega
        by_cases g3 : i < mid
        · have z3 : (i : Int) < (mid : Int) := by omega
          have hU := HU.out
          have hS := HS.out
          have H1 : Hid (∀ x, d[x]! = rotF (fun x => d[x]!) i m e x) := fun x => by rw [show m = i by omega]; exact (rot_none1 _ _ _ _).symm
          have K1 : Hid (PermIn a b d d) := permIn_refl _ _ _
          have hz1 : d.size = N := hN
          have UL := sym_l hS hU h1 h2 h3 h4 hm H1.out C1.out C2.out
          have hcon := CALL.out a i mid d wr (by omega) hz1 S1.out UL (by omega) (by omega) (by omega)
          clear UL
          go_wp2_with fail
          refine hcon.mono ?_
          rintro ee w2 ⟨rfl, d2, SL, QL, NL⟩
          clear hcon
          have K2 : Hid (PermIn a mid d d2) := QL
          have Z2 : Hid (SortedIn (tlB (ltOf cf) tg) a mid d2) := NL
          have hz2 : d2.size = N := by rw [QL.1]; exact hz1
          have T2 : Aside (SWK enc k w0 blk off d2 w2) := SL
          clear NL QL SL S1
          have UR := sym_r hS hU h1 h2 h3 h4 hm H1.out C1.out C2.out K2.out
          have K3 : Hid (PermIn mid b d2 d2) := permIn_refl _ _ _
          have Z3 : Hid (SortedIn (tlB (ltOf cf) tg) mid b d2) := by have q : mid = e := (by omega); rw [q]; exact UR.r
          clear UR
          go_wp2
          go_end0
          exact ⟨rfl, d2, T2.out, sym_fin hS hU h1 h2 h3 h4 hm (by omega) H1.out K1.out C1.out C2.out K2.out Z2.out K3.out Z3.out⟩
        · have z3 : ¬ (i : Int) < (mid : Int) := by omega
          have hU := HU.out
          have hS := HS.out
          have H1 : Hid (∀ x, d[x]! = rotF (fun x => d[x]!) i m e x) := fun x => by rw [show m = i by omega]; exact (rot_none1 _ _ _ _).symm
          have K1 : Hid (PermIn a b d d) := permIn_refl _ _ _
          have hz1 : d.size = N := hN
          have UL := sym_l hS hU h1 h2 h3 h4 hm H1.out C1.out C2.out
          have K2 : Hid (PermIn a mid d d) := permIn_refl _ _ _
          have Z2 : Hid (SortedIn (tlB (ltOf cf) tg) a mid d) := by have q : mid = i := (by omega); rw [q]; exact UL.l
          have hz2 : d.size = N := hz1
          clear UL
          have UR := sym_r hS hU h1 h2 h3 h4 hm H1.out C1.out C2.out K2.out
          have K3 : Hid (PermIn mid b d d) := permIn_refl _ _ _
          have Z3 : Hid (SortedIn (tlB (ltOf cf) tg) mid b d) := by have q : mid = e := (by omega); rw [q]; exact UR.r
          clear UR
          go_wp2
          go_end0
          exact ⟨rfl, d, S1.out, sym_fin hS hU h1 h2 h3 h4 hm (by omega) H1.out K1.out C1.out C2.out K2.out Z2.out K3.out Z3.out⟩
/-- slices.symMergeCmpFunc: two sorted runs side by side become one. -/
theorem sym_c (L : StL P k) (enc : α → List Value) (cf : α → α → Int) (tg : α → Nat) (g : Nat) (cb : Array Value) (blk off cap N : Nat) (d0 : Array α) (w0 : World)
    (eg : ∀ args w, (callFunc g args).run P w = .ok (.enter g args) w) (hcmp : CmpLays P g cb enc k cf blk off N w0) (hS : SWO (ltOf cf)) (R : RowK enc k w0 blk off d0) (h0 : d0.size = N) (hsz : N < 1152921504606846976) :
    ∀ (n a m b : Nat) (d : Array α) (w : World), b - a ≤ n → d.size = N → SWK enc k w0 blk off d w → Runs (ltOf cf) tg a m b d → a < m → m < b → b ≤ N →
    Calls P 70 #[.slice (some ⟨blk, off, none⟩) N cap, .int .i64 a, .int .i64 m, .int .i64 b, .func (.func g) #[] cb] w fun e w' =>
      e = .returned (.tuple #[]) ∧ ∃ d', SWK enc k w0 blk off d' w' ∧ PermIn a b d d' ∧ SortedIn (tlB (ltOf cf) tg) a b d' := by
  intro n
  induction n with
  | zero => intro a m b d w hn _ _ _ h1 h2; omega
  | succ n ih =>
    intro a m b d w hn hN S U h1 h2 hb
    by_cases c1 : m = a + 1
    · exact sym_left L enc cf tg g cb blk off cap N a m b d0 d w0 w eg hcmp hS R h0 hN S U h1 h2 hb hsz c1
    · by_cases c2 : b = m + 1
      · exact sym_right L enc cf tg g cb blk off cap N a m b d0 d w0 w eg hcmp hS R h0 hN S U h2 hb hsz c2 (by omega)
      · by_cases c3 : (a + b) / 2 < m
        · exact sym_up L enc cf tg g cb blk off cap N a m b d0 d w0 w eg hcmp hS R h0 hN S U hb hsz (by omega) (by omega) c3 (fun x y z dk wr q1 q2 q3 q4 q5 q6 q7 => ih x y z dk wr (by omega) q2 q3 q4 q5 q6 q7)
        · exact sym_dn L enc cf tg g cb blk off cap N a m b d0 d w0 w eg hcmp hS R h0 hN S U hb hsz (by omega) (by omega) (by omega) (fun x y z dk wr q1 q2 q3 q4 q5 q6 q7 => ih x y z dk wr (by omega) q2 q3 q4 q5 q6 q7)
end Go.Proofs

namespace Go.Proofs.Hd
open Go.Sort
variable {α : Type} [Inhabited α] {lt : α → α → Bool} {tg : α → Nat}
theorem bl_ins {s a b N : Nat} {d : Array α} (hS : SWO lt) (h : Bl lt tg s 0 a d) (hs : s ∣ a) (hab : a < b) (hbs : b ≤ a + s) (hb : b ≤ N) (hN : d.size = N) (O : ∀ i, a ≤ i → i < N → tg d[i]! = i) :
    Bl lt tg s 0 b (insertionSort lt d a b) ∧ (∀ i, b ≤ i → i < N → tg (insertionSort lt d a b)[i]! = i) ∧ PermIn a b d (insertionSort lt d a b) := by
  obtain ⟨P, S⟩ := insertion_stable (tg := tg) hS d a b (by omega) (by omega) (fun i j q1 q2 q3 => by rw [O i q1 (by omega), O j (by omega) (by omega)]; exact q2)
  exact ⟨h.snoc hs hab hbs (by omega) P S (fun i q1 q2 => by rw [O i q1 (by omega)]; omega), fun i q1 q2 => by rw [P.2.1 i (.inr q1)]; exact O i (by omega) q2, P⟩
theorem bl_ins0 {s a N : Nat} {d : Array α} (hS : SWO lt) (h : Bl lt tg s 0 a d) (hs : s ∣ a) (hab : a ≤ N) (hbs : N ≤ a + s) (hN : d.size = N) (O : ∀ i, a ≤ i → i < N → tg d[i]! = i) :
    Bl lt tg s 0 N (insertionSort lt d a N) ∧ PermIn a N d (insertionSort lt d a N) := by
  rcases Nat.lt_or_ge a N with h1 | h1
  · obtain ⟨q1, _, q3⟩ := bl_ins hS h hs h1 hbs (Nat.le_refl _) hN O
    exact ⟨q1, q3⟩
  · obtain rfl : a = N := by omega
    obtain ⟨P, _⟩ := insertion_stable (tg := tg) hS d a a (Nat.le_refl _) (by omega) (fun i j q1 q2 q3 => by omega)
    have e : ∀ i, (insertionSort lt d a a)[i]! = d[i]! := fun i => P.2.1 i (by omega)
    refine ⟨fun c c1 c2 c3 => ?_, P⟩
    obtain ⟨q1, q2⟩ := h c c1 c2 c3
    exact ⟨fun i z1 z2 z3 => by rw [e]; exact q1 i z1 z2 z3, fun i j z1 z2 z3 => by rw [e, e]; exact q2 i j z1 z2 z3⟩
theorem dvd_two {s a b s2 : Nat} (h1 : s2 ≤ 2 * s) (h2 : 2 * s ≤ s2) (h : s2 ∣ a) (hb1 : b ≤ a + s2) (hb2 : a + s2 ≤ b) : s2 ∣ b ∧ s ∣ a := by
  obtain rfl : s2 = 2 * s := by omega
  obtain rfl : b = a + 2 * s := by omega
  exact ⟨(Nat.dvd_add_right h).2 (Nat.dvd_refl _), Nat.dvd_trans ⟨2, by omega⟩ h⟩
theorem perm0 {N a b : Nat} {d d1 d2 : Array α} (hN : d.size = N) (hb : b ≤ N) (P : PermIn 0 N d d1) (Q : PermIn a b d1 d2) : PermIn 0 N d d2 :=
  permIn_trans _ _ _ _ _ P (permIn_mono _ _ _ _ _ _ (Nat.zero_le _) hb (by rw [P.1]; omega) Q)
end Go.Proofs.Hd
namespace Go.Proofs
open Go.Shelf Go.RowKit Go.Lib Go.Sort Go.Proofs.Hd
variable {P : Program} {k : Nat} {α : Type} [Inhabited α]
theorem CmpLays.on {g : Nat} {cb : Array Value} {enc : α → List Value} {cf : α → α → Int} {blk off size : Nat} {w0 w : World} {d : Array α} (h : CmpLays P g cb enc k cf blk off size w0) (S : SWK enc k w0 blk off d w) (hblk : blk < w0.heap.size) (hs : d.size = size) : CmpLays P g cb enc k cf blk off size w := by
  intro m os dk hd x y
  obtain ⟨m', os', e⟩ := S.on hblk m dk os (by omega)
  rw [e]
  exact h m' os' dk hd x y
/-- slices.insertionSortCmpFunc, from a world of the sort's to a world of the sort's. -/
theorem ins_c (L : StL P k) (enc : α → List Value) (cf : α → α → Int) (hS : SWO (ltOf cf)) (g : Nat) (cb : Array Value) (blk off cap N a b : Nat) (d0 d : Array α) (w0 w : World)
    (eg : ∀ args w, (callFunc g args).run P w = .ok (.enter g args) w) (hcmp : CmpLays P g cb enc k cf blk off N w0) (R : RowK enc k w0 blk off d0) (h0 : d0.size = N) (hN : d.size = N) (S : SWK enc k w0 blk off d w) (hab : a ≤ b) (hb : b ≤ N) (hsz : N < 1152921504606846976) :
    Calls P 69 #[.slice (some ⟨blk, off, none⟩) N cap, .int .i64 a, .int .i64 b, .func (.func g) #[] cb] w fun e w' => e = .returned (.tuple #[]) ∧ SWK enc k w0 blk off (insertionSort (ltOf cf) d a b) w' := by
  have hH := S.holds R.hblk R.hH (by omega)
  have hcon := AnyQ.insertionSortCmpFunc L.ins k L.aE L.zE enc R.hk R.h1 cf g cb blk off cap a b d w eg (by rw [hN]; exact hcmp.on S R.hblk hN) hH (S.lt R.hblk) hab (by omega) (by omega)
  change Calls P 69 _ _ _ at hcon
  rw [hN] at hcon
  refine hcon.mono ?_
  rintro e w' ⟨rfl, n, os, rfl⟩
  exact ⟨rfl, S.on R.hblk n _ os (insertionSort_holds hS d a b hab (by omega)).1.1⟩
set_option maxHeartbeats 8000000 in
set_option maxRecDepth 1000000 in
theorem stable_c (L : StL P k) (enc : α → List Value) (cf : α → α → Int) (tg : α → Nat) (g : Nat) (cb : Array Value) (blk off cap N : Nat) (d : Array α) (w : World)
    (eg : ∀ args w, (callFunc g args).run P w = .ok (.enter g args) w) (hcmp : CmpLays P g cb enc k cf blk off N w) (hS : SWO (ltOf cf)) (R : RowK enc k w blk off d) (hN : d.size = N) (hsz : N < 1152921504606846976) (ht : ∀ i, i < N → tg d[i]! = i) :
    Calls P 51 #[.slice (some ⟨blk, off, none⟩) N cap, .int .i64 N, .func (.func g) #[] cb] w fun e w' =>
      e = .returned (.tuple #[]) ∧ ∃ d', SWK enc k w blk off d' w' ∧ PermIn 0 N d d' ∧ SortedIn (tlB (ltOf cf) tg) 0 N d' := by
  have mixed := L.mixed; have t0 := L.t0; have a0 := L.a0; have z0 := L.z0; have v0 := L.v0; have t3 := L.t3; have a3 := L.a3; have z3 := L.z3; have v3 := L.v3; have t4 := L.t4; have a4 := L.a4; have z4 := L.z4; have v4 := L.v4; have t22 := L.tS; have a22 := L.aS; have z22 := L.zS; have v22 := L.vS; have t25 := L.tC; have a25 := L.aC; have z25 := L.zC; have v25 := L.vC
  have FG := L.fStb
  have S0 : Aside (SWK enc k w blk off d w) := SWK.start R.hH
  have HS : Hid (SWO (ltOf cf)) := hS
  have INS : Aside (∀ (dk : Array α) (wr : World) (x y : Nat), dk.size = N → SWK enc k w blk off dk wr → x ≤ y → y ≤ N → Calls P 69 #[.slice (some ⟨blk, off, none⟩) N cap, .int .i64 x, .int .i64 y, .func (.func g) #[] cb] wr fun e w' => e = .returned (.tuple #[]) ∧ SWK enc k w blk off (insertionSort (ltOf cf) dk x y) w') :=
    fun dk wr x y q1 q2 q3 q4 => ins_c L enc cf hS g cb blk off cap N x y d dk w wr eg hcmp R hN q1 q2 q3 q4 hsz
  have SYM : Aside (∀ (x y z : Nat) (dk : Array α) (wr : World), dk.size = N → SWK enc k w blk off dk wr → Runs (ltOf cf) tg x y z dk → x < y → y < z → z ≤ N → Calls P 70 #[.slice (some ⟨blk, off, none⟩) N cap, .int .i64 x, .int .i64 y, .int .i64 z, .func (.func g) #[] cb] wr fun e w' =>
      e = .returned (.tuple #[]) ∧ ∃ d', SWK enc k w blk off d' w' ∧ PermIn x z dk d' ∧ SortedIn (tlB (ltOf cf) tg) x z d') :=
    fun x y z dk wr q1 q2 q3 q4 q5 q6 => sym_c L enc cf tg g cb blk off cap N d w eg hcmp hS R hN hsz (z - x) x y z dk wr (Nat.le_refl _) q1 q2 q3 q4 q5 q6
  have eS : ∀ args w, (callFunc 70 args).run P w = .ok (.enter 70 args) w := enters_of L.fSym (by kernel_rfl) rfl
  have eI : ∀ args w, (callFunc 69 args).run P w = .ok (.enter 69 args) w := by
    obtain ⟨nm, hnm, hf⟩ := L.ins.f20
    exact enters_of hf (by exact hnm) rfl
  have Q0 : Hid (PermIn 0 N d d) := permIn_refl _ _ _
  have B0 : Hid (Bl (ltOf cf) tg 20 0 0 d) := Bl.none _ _ _ _ _
  have O0 : Hid (∀ i, 0 ≤ i → i < N → tg d[i]! = i) := fun i _ h => ht i h
  have V0 : Hid (20 ∣ 0) := Nat.dvd_zero 20
  clear L hcmp hS ht
  go_enter FG, Try.ntmps51
  go_wp2
  go_loopg [7, 8] N (fun kx s7 s8 wr => ∃ (a b : Nat) (dk : Array α), s7 = .int .i64 a ∧ s8 = .int .i64 b ∧ b ≤ a + 20 ∧ a + 20 ≤ b ∧ a ≤ N ∧ N - a ≤ kx ∧ dk.size = N ∧ Aside (SWK enc k w blk off dk wr) ∧ Hid (PermIn 0 N d dk) ∧ Hid (Bl (ltOf cf) tg 20 0 a dk) ∧ Hid (∀ i, a ≤ i → i < N → tg dk[i]! = i) ∧ Hid (20 ∣ a))
  case atStart => exact ⟨0, 20, d, by first | rfl | go_num, by first | rfl | go_num, by omega, by omega, Nat.zero_le _, by omega, hN, S0, Q0, B0, O0, V0⟩
  case round =>
    clear S0 Q0 B0 O0 V0
    obtain ⟨a, b, dk, rfl, rfl, hb1, hb2, haN, hkx, hds, S1, Q1, B1, O1, V1⟩ := hrel
    by_cases hbN : b ≤ N
    · have hbz : (b : Int) ≤ (N : Int) := by omega
      have rb : IntKind.i64.wrap ((b : Int) + 20) = ((b + 20 : Nat) : Int) := by rw [IntKind.wrap_i64]; omega
      have hcon := INS.out dk wr a b hds S1.out (by omega) hbN
      go_wp2_with (go_at_call 69; refine hcon.mono ?_; rintro e w' ⟨rfl, S2⟩)
      obtain ⟨q1, q2, q3⟩ := bl_ins HS.out B1.out V1.out (by omega) hb1 hbN hds O1.out
      go_roundg (N - b)
      case measure => omega
      case rel =>
        refine ⟨b, b + 20, insertionSort (ltOf cf) dk a b, rfl, by first | rfl | go_num | (congr 1; omega), Nat.le_refl _, Nat.le_refl _, hbN, Nat.le_refl _, by rw [q3.1]; exact hds, S2, perm0 hN hbN Q1.out q3, q1, q2, (show 20 ∣ b from ?_)⟩
        rw [show b = a + 20 by omega]
        exact (Nat.dvd_add_right V1.out).2 (Nat.dvd_refl _)
    · have hbz : ¬ (b : Int) ≤ (N : Int) := by omega
      have hcon := INS.out dk wr a N hds S1.out haN (Nat.le_refl _)
      obtain ⟨q1, q3⟩ := bl_ins0 HS.out B1.out V1.out haN (by omega) hds O1.out
      have Q2 : Hid (PermIn 0 N d (insertionSort (ltOf cf) dk a N)) := perm0 hN (Nat.le_refl _) Q1.out q3
      have hz2 : (insertionSort (ltOf cf) dk a N).size = N := by rw [q3.1]; exact hds
      have B2 : Hid (Bl (ltOf cf) tg 20 0 N (insertionSort (ltOf cf) dk a N)) := q1
      clear q1 q3 Q1 B1 O1 V1 S1 hds
      generalize insertionSort (ltOf cf) dk a N = d1 at hcon Q2 B2 hz2
      go_wp2_with (go_at_call 69; refine hcon.mono ?_; rintro e w' ⟨rfl, S2⟩)
      have S3 : Aside (SWK enc k w blk off d1 w') := S2
      clear S2 hcon
      go_loopg [6, 7, 8, 9] N (fun kx s6 _ _ _ wr => ∃ (s : Nat) (dk : Array α), s6 = .int .i64 s ∧ 0 < s ∧ s ≤ 2 * N + 20 ∧ N - s ≤ kx ∧ dk.size = N ∧ Aside (SWK enc k w blk off dk wr) ∧ Hid (PermIn 0 N d dk) ∧ Hid (Bl (ltOf cf) tg s 0 N dk))
      case atStart => exact ⟨20, d1, by first | rfl | go_num, by omega, by omega, by omega, hz2, S3, Q2, B2⟩
      case round =>
        clear S3 Q2 B2 hz2
        obtain ⟨s, dj, rfl, hs0, hs1, hkx2, hdj, S4, Q4, B4⟩ := hrel
        by_cases hsN : s < N
        · have hsz1 : (s : Int) < (N : Int) := by omega
          obtain ⟨s2, h21, h22⟩ : ∃ s2, s2 ≤ 2 * s ∧ 2 * s ≤ s2 := ⟨2 * s, Nat.le_refl _, Nat.le_refl _⟩
          have r1 : IntKind.i64.wrap (2 * (s : Int)) = (s2 : Int) := by rw [IntKind.wrap_i64]; omega
          have r1' : 2 * (s : Int) = (s2 : Int) := by omega
          have r2 : IntKind.i64.wrap ((s : Int) * 2) = (s2 : Int) := by rw [IntKind.wrap_i64]; omega
          have r2' : (s : Int) * 2 = (s2 : Int) := by omega
          have T4 : Hid (Bl (ltOf cf) tg s2 0 0 dj) := Bl.none _ _ _ _ _
          have V4 : Hid (s2 ∣ 0) := Nat.dvd_zero _
          go_wp2
          go_loopg [7, 8] N (fun kx s7 s8 wr => ∃ (x y : Nat) (dk : Array α), s7 = .int .i64 x ∧ s8 = .int .i64 y ∧ y ≤ x + s2 ∧ x + s2 ≤ y ∧ x ≤ N ∧ N - x ≤ kx ∧ dk.size = N ∧ Aside (SWK enc k w blk off dk wr) ∧ Hid (PermIn 0 N d dk) ∧ Hid (Bl (ltOf cf) tg s2 0 x dk) ∧ Hid (Bl (ltOf cf) tg s x N dk) ∧ Hid (s2 ∣ x))
          case atStart => exact ⟨0, s2, dj, by first | rfl | go_num, by first | rfl | go_num, by omega, by omega, Nat.zero_le _, by omega, hdj, S4, Q4, T4, B4, V4⟩
          case round =>
            clear S4 Q4 B4 T4 V4 hdj
            obtain ⟨x, y, dk, rfl, rfl, hy1, hy2, hxN, hkx3, hdk, S5, Q5, T5, B5, V5⟩ := hrel
            obtain ⟨u, hu1, hu2⟩ : ∃ u, u ≤ x + s ∧ x + s ≤ u := ⟨x + s, Nat.le_refl _, Nat.le_refl _⟩
            have r3 : IntKind.i64.wrap ((x : Int) + (s : Int)) = (u : Int) := by rw [IntKind.wrap_i64]; omega
            have r3' : (x : Int) + (s : Int) = (u : Int) := by omega
            obtain ⟨v1, v2⟩ := dvd_two h21 h22 V5.out hy1 hy2
            have V6 := (show Hid _ from v1)
            have V7 := (show Hid _ from v2)
            clear v1 v2
            by_cases hyN : y ≤ N
            · have hyz : (y : Int) ≤ (N : Int) := by omega
              obtain ⟨y2, hy21, hy22⟩ : ∃ u, u ≤ y + s2 ∧ y + s2 ≤ u := ⟨y + s2, Nat.le_refl _, Nat.le_refl _⟩
              have r4 : IntKind.i64.wrap ((y : Int) + (s2 : Int)) = (y2 : Int) := by rw [IntKind.wrap_i64]; omega
              have r4' : (y : Int) + (s2 : Int) = (y2 : Int) := by omega
              obtain ⟨U, TT⟩ := B5.out.two V7.out (b := y) (by omega) (by omega) hyN
              rw [show x + s = u by omega] at U
              have hcon := SYM.out x u y dk wr hdk S5.out U (by omega) (by omega) hyN
              clear U
              go_wp2_with (go_at_call 70; refine hcon.mono ?_; rintro e w' ⟨rfl, d', S6, Q6, Z6⟩)
              go_roundg (N - y)
              case measure => omega
              case rel =>
                exact ⟨y, y2, d', rfl, by first | rfl | go_num | (congr 1; omega), hy21, hy22, hyN, Nat.le_refl _, by rw [Q6.1]; exact hdk, S6, perm0 hN hyN Q5.out Q6,
                  T5.out.snoc V5.out (by omega) hy1 (by omega) Q6 Z6 (fun i q1 q2 => by have := TT i q1 q2; omega), B5.out.rest (by omega) Q6, V6.out⟩
            · have hyz : ¬ (y : Int) ≤ (N : Int) := by omega
              by_cases huN : u < N
              · have huz : (u : Int) < (N : Int) := by omega
                obtain ⟨U, TT⟩ := B5.out.two V7.out (b := N) (by omega) (by omega) (Nat.le_refl _)
                rw [show x + s = u by omega] at U
                have hcon := SYM.out x u N dk wr hdk S5.out U (by omega) huN (Nat.le_refl _)
                clear U
                go_wp2_with (go_at_call 70; refine hcon.mono ?_; rintro e w' ⟨rfl, d', S6, Q6, Z6⟩)
                go_roundg (N - s2)
                case measure => omega
                case rel =>
                  exact ⟨s2, d', by first | rfl | go_num | (congr 1; omega), by omega, by omega, Nat.le_refl _, by rw [Q6.1]; exact hdk, S6, perm0 hN (Nat.le_refl _) Q5.out Q6,
                    T5.out.snoc V5.out (by omega) (by omega) (by omega) Q6 Z6 (fun i q1 q2 => by have := TT i q1 q2; omega)⟩
              · have huz : ¬ (u : Int) < (N : Int) := by omega
                have LAST : Hid (Bl (ltOf cf) tg s2 0 N dk) := by
                  rcases Nat.lt_or_ge x N with hx | hx
                  · obtain ⟨z1, z2⟩ := B5.out.last V7.out hx (by omega)
                    exact T5.out.snoc V5.out hx (by omega) (by omega) (permIn_refl _ _ _) z1 (fun i q1 q2 => by have := z2 i q1 q2; omega)
                  · rw [show N = x by omega]; exact T5
                go_wp2
                go_roundg (N - s2)
                case measure => omega
                case rel =>
                  exact ⟨s2, dk, by first | rfl | go_num | (congr 1; omega), by omega, by omega, Nat.le_refl _, hdk, S5, Q5, LAST⟩
        · have hsz1 : ¬ (s : Int) < (N : Int) := by omega
          go_wp2
          go_end0
          exact ⟨rfl, dj, S4.out, Q4.out, B4.out.all (by omega)⟩
set_option maxHeartbeats 4000000 in
/-- slices.SortStableFunc: the row is sorted, and equals keep their order. -/
theorem sortStable_c (L : StL P k) (enc : α → List Value) (cf : α → α → Int) (tg : α → Nat) (g : Nat) (cb : Array Value) (blk off cap N : Nat) (d : Array α) (w : World)
    (eg : ∀ args w, (callFunc g args).run P w = .ok (.enter g args) w) (hcmp : CmpLays P g cb enc k cf blk off N w) (hS : SWO (ltOf cf)) (R : RowK enc k w blk off d) (hN : d.size = N) (hsz : N < 1152921504606846976) (ht : ∀ i, i < N → tg d[i]! = i) :
    Calls P 30 #[.slice (some ⟨blk, off, none⟩) N cap, .func (.func g) #[] cb] w fun e w' =>
      e = .returned (.tuple #[]) ∧ ∃ d', SWK enc k w blk off d' w' ∧ PermIn 0 N d d' ∧ SortedIn (tlB (ltOf cf) tg) 0 N d' := by
  have mixed := L.mixed; have t0 := L.t0; have a0 := L.a0; have z0 := L.z0; have v0 := L.v0; have t3 := L.t3; have a3 := L.a3; have z3 := L.z3; have v3 := L.v3; have t22 := L.tS; have a22 := L.aS; have z22 := L.zS; have v22 := L.vS; have t25 := L.tC; have a25 := L.aC; have z25 := L.zC; have v25 := L.vC
  have FG := L.fTop
  have hcon := stable_c L enc cf tg g cb blk off cap N d w eg hcmp hS R hN hsz ht
  have eS : ∀ args w, (callFunc 51 args).run P w = .ok (.enter 51 args) w := enters_of L.fStb (by kernel_rfl) rfl
  have hl : (N : Int) ≤ 9223372036854775807 := by omega
  clear L hcmp hS ht
  go_enter FG, Try.ntmps30
  go_wp2_with (go_at_call 51; refine hcon.mono ?_; rintro e w' ⟨rfl, h⟩)
  go_end0
  exact ⟨rfl, h⟩
end Go.Proofs

namespace Go.Proofs.Hd
open Go.RowKit Go.Sort
def encU (p : Cb × Nat) : List Value := p.1.cells
def cfU (x y : Cb × Nat) : Int := icmp (keyC x.1 : Int) (keyC y.1 : Int)
theorem ltU (x y : Cb × Nat) : ltOf cfU x y = decide (keyC x.1 < keyC y.1) := by
  unfold ltOf cfU icmp
  by_cases h1 : keyC x.1 < keyC y.1
  · have h : (keyC x.1 : Int) < (keyC y.1 : Int) := by omega
    simp [h1, h]
  · have h : ¬ (keyC x.1 : Int) < (keyC y.1 : Int) := by omega
    rw [if_neg h]
    by_cases h2 : (keyC y.1 : Int) < (keyC x.1 : Int) <;> simp [h1, h2]
theorem swoU : SWO (ltOf cfU) where
  irrefl x := by rw [ltU]; simp
  trans x y z h1 h2 := by rw [ltU, decide_eq_true_eq] at *; omega
  ntrans x y z h1 h2 := by rw [ltU, decide_eq_false_iff_not] at *; omega
/-- The cubes of a list with their places. -/
def tagU (L : List Cb) : Array (Cb × Nat) := L.zipIdx.toArray
theorem tagU_size (L : List Cb) : (tagU L).size = L.length := by simp [tagU]
theorem tagU_get (L : List Cb) (i : Nat) (h : i < L.length) : (tagU L)[i]! = (L[i]!, i) := by
  rw [getElem!_pos (tagU L) i (by rw [tagU_size]; exact h), getElem!_pos L i h]
  simp [tagU]
theorem tagU_sorted {L : List Cb} {d : Array (Cb × Nat)} (P : PermIn 0 L.length (tagU L) d) (S : SortedIn (tlB (ltOf cfU) Prod.snd) 0 L.length d) : d.toList.map Prod.fst = toldL keyC 129 L := by
  have hz : d.size = L.length := by rw [P.1, tagU_size]
  have hp : d.toList.Perm L.zipIdx := by
    have h := P.2.2
    rw [show d.extract 0 L.length = d by rw [← hz]; simp, show (tagU L).extract 0 L.length = tagU L by rw [← tagU_size]; simp] at h
    exact h
  refine told_unique (fun x _ => keyC_lt x) hp ?_
  have hnd : (d.toList.map Prod.snd).Nodup := by
    refine ((hp.map Prod.snd).nodup_iff).2 ?_
    rw [show L.zipIdx.map Prod.snd = List.range L.length by simp [List.range_eq_range']]
    exact List.nodup_range
  rw [List.pairwise_iff_getElem]
  intro i j hi hj hij
  have hi' : i < d.size := by simpa using hi
  have hj' : j < d.size := by simpa using hj
  have hs := S i j (Nat.zero_le _) hij (by omega)
  rw [tlB_false, ltU, ltU, decide_eq_false_iff_not, decide_eq_true_eq, getElem!_pos d i hi', getElem!_pos d j hj'] at hs
  have hne : d[i].2 ≠ d[j].2 := by
    have := (List.pairwise_iff_getElem.1 hnd) i j (by simpa using hi) (by simpa using hj) hij
    simpa using this
  show keyC d.toList[i].1 < keyC d.toList[j].1 ∨ (keyC d.toList[i].1 = keyC d.toList[j].1 ∧ d.toList[i].2 < d.toList[j].2)
  rw [Array.getElem_toList, Array.getElem_toList]
  omega
theorem own_holdsU {w : World} {base : Nat} {t : TypeId} {L : List Cb} {g cap : Nat} (h : w.ownsRow base t 4 (.slice (some ⟨g, 0, none⟩) L.length cap) L.length (flat L)) : HoldsK encU 4 w g 0 (tagU L) := by
  intro j hj
  rw [size_flatK, tagU_size] at hj
  rw [get_flatK _ _ _ _ (by rw [tagU_size]; exact hj)]
  constructor
  · have hq : j / 4 < L.length := by omega
    have hd := Nat.div_add_mod j 4
    rw [tagU_get L _ hq, show 0 + j = j / 4 * 4 + j % 4 by omega]
    have := h.cellAt (j / 4 * 4 + j % 4) (by omega)
    have hg := flat_get L (j / 4) hq (j % 4) (Nat.mod_lt _ (by omega))
    rw [hg] at this
    refine this.trans ?_
    rw [getElem!_pos L _ hq]
    show (L[j / 4]).cells[j % 4]? = some ((L[j / 4]).cells[j % 4]!)
    rw [getElem!_pos _ (j % 4) (by show j % 4 < 4; exact Nat.mod_lt _ (by omega))]
    exact List.getElem?_eq_getElem _
  · exact h.frozenAt _
theorem sortWorldU_grown (w : World) (g off m : Nat) (dk : Array (Cb × Nat)) (os : Array Obj) : w.grownBy (sortWorldK encU 4 w g off m dk os) (some g) := by
  refine ⟨rfl, rfl, rfl, size_sortWorldK_c encU 4 w g off m dk os, fun k hk hne => ?_⟩
  unfold sortWorldK
  rw [heap_grow_old _ _ (by rw [size_putRowK]; exact hk)]
  unfold putRowK putRow mapBlock
  simp only [Array.getElem?_modify]
  rw [if_neg (fun e => hne (by rw [e]))]
  rfl
/-- Behind the sort: the row holds the cubes as told. -/
theorem sortedU_row {w w' : World} {g : Nat} {L : List Cb} {d : Array (Cb × Nat)} (hH : HoldsK encU 4 w g 0 (tagU L)) (hg : g < w.heap.size) (S : SWK encU 4 w g 0 d w') (P : PermIn 0 L.length (tagU L) d) (Z : SortedIn (tlB (ltOf cfU) Prod.snd) 0 L.length d) :
    w.grownBy w' (some g) ∧ ∀ k c, (toldL keyC 129 L)[k]? = some c → At4 w' g (0 + k * 4) c := by
  have hs := tagU_sorted P Z
  constructor
  · obtain ⟨n, os, rfl⟩ := S
    exact sortWorldU_grown w g 0 n d os
  · intro k r hk
    have H := S.holds hg hH P.1
    rw [← hs, List.getElem?_map] at hk
    obtain ⟨p, hp, rfl⟩ := Option.map_eq_some_iff.1 hk
    obtain ⟨hkd, e⟩ := List.getElem?_eq_some_iff.1 hp
    have hkd' : k < d.size := by simpa using hkd
    have e2 : d[k] = p := by simpa using e
    have cc : ∀ j, j < 4 → w'.cell? ⟨g, 0 + k * 4 + j, none⟩ = some (p.1.cells[j]!) := fun j hj => by
      have c := (HoldsK.cell H (i := k) (c := j) hkd' hj).1
      rw [c, getElem!_pos d k hkd', e2]
      rfl
    exact ⟨cc 0 (by decide), cc 1 (by decide), cc 2 (by decide), cc 3 (by decide)⟩
theorem toldL_len {α : Type} {key : α → Nat} {N : Nat} {l : List α} (hk : ∀ x, x ∈ l → key x < N) : (toldL key N l).length = l.length := by
  have h : ∀ (M : Nat) (l : List α), (toldL key M l).length = (l.filter fun x => decide (key x < M)).length := by
    intro M
    induction M with
    | zero => intro l; rw [List.filter_eq_nil_iff.2 (by simp)]; rfl
    | succ M ih =>
      intro l
      rw [toldL_snoc, List.length_append, ih]
      induction l with
      | nil => rfl
      | cons x l ihl =>
        simp only [List.filter_cons]
        by_cases h1 : key x < M
        · have h2 : ¬ key x = M := by omega
          have h3 : key x < M + 1 := by omega
          simp only [h1, h2, h3, decide_true, decide_false, if_true, List.length_cons] at ihl ⊢
          simp only [Bool.false_eq_true, if_false]
          omega
        · by_cases h2 : key x = M
          · have h3 : key x < M + 1 := by omega
            simp only [h2, decide_true, if_true, List.length_cons, Nat.lt_irrefl, decide_false, Bool.false_eq_true, if_false, Nat.lt_succ_self] at ihl ⊢
            omega
          · have h3 : ¬ key x < M + 1 := by omega
            simp only [h1, h2, h3, decide_false, Bool.false_eq_true, if_false] at ihl ⊢
            exact ihl
  rw [h, List.filter_eq_self.2 (fun x hx => decide_eq_true (hk x hx))]
end Go.Proofs.Hd
namespace Go.Proofs
open Go.RowKit Go.Proofs.Hd Go.Sort Go.Lib Go.Shelf
attribute [local go_sem] uv_nonneg
theorem ones_g (h l : BitVec 64) (w : World) : Calls Try.prog 53 #[.agg #[.int .u64 (uv h), .int .u64 (uv l)]] w fun e w' => e = .returned (.int .i64 ((ones h + ones l : Nat) : Int)) ∧ Grew w w' := by
  have h1 := ones_le h
  have h2 := ones_le l
  have e1 : ((ones h + ones l : Nat) : Int) = (ones h : Int) + (ones l : Int) := by omega
  rw [e1]
  have hw : IntKind.i64.wrap ((ones h : Int) + (ones l : Int)) = (ones h : Int) + (ones l : Int) := by rw [IntKind.wrap_i64]; omega
  go_enter Try.func53, Try.ntmps53
  go_wp2
  go_quiet ((go_at_call 72; exact Calls.quiet_of_same ((ones64_c _ _).mono fun e w' h => ⟨h.1, h.2.symm⟩)))
  go_wp2
  go_ret
  exact ⟨rfl, (Grew.alloc1 _ _).trans (Grew.drewN1 _ _)⟩
set_option maxRecDepth 100000 in
set_option maxHeartbeats 4000000 in
theorem care_g (a b : Cb) (r : Int) (w : World) (hr : icmp (keyC a : Int) (keyC b : Int) = r) : Calls Try.prog 31 #[.agg #[.int .u64 (uv a.vh), .int .u64 (uv a.vl), .int .u64 (uv a.ch), .int .u64 (uv a.cl)], .agg #[.int .u64 (uv b.vh), .int .u64 (uv b.vl), .int .u64 (uv b.ch), .int .u64 (uv b.cl)]] w fun e w' => e = .returned (.int .i64 r) ∧ Grew w w' := by
  have HR : Hid (icmp ((ones a.ch : Int) + (ones a.cl : Int)) ((ones b.ch : Int) + (ones b.cl : Int)) = r) := by
    have h := hr
    unfold keyC at h
    push_cast at h
    exact h
  have HG : Hid (Grew w ((w.alloc (.cells #[.int .u64 (uv a.vh), .int .u64 (uv a.vl), .int .u64 (uv a.ch), .int .u64 (uv a.cl)] 43)).alloc (.cells #[.int .u64 (uv b.vh), .int .u64 (uv b.vl), .int .u64 (uv b.ch), .int .u64 (uv b.cl)] 43))) := (Grew.alloc1 _ _).trans (Grew.alloc1 _ _)
  have k1 := (Blk.new w 43 #[.int .u64 (uv a.vh), .int .u64 (uv a.vl), .int .u64 (uv a.ch), .int .u64 (uv a.cl)]).on (below1 _ (.cells #[.int .u64 (uv b.vh), .int .u64 (uv b.vl), .int .u64 (uv b.ch), .int .u64 (uv b.cl)] 43))
  have k2 : Blk ((w.alloc (.cells #[.int .u64 (uv a.vh), .int .u64 (uv a.vl), .int .u64 (uv a.ch), .int .u64 (uv a.cl)] 43)).alloc (.cells #[.int .u64 (uv b.vh), .int .u64 (uv b.vl), .int .u64 (uv b.ch), .int .u64 (uv b.cl)] 43)) (w.heap.size + 1) 43 #[.int .u64 (uv b.vh), .int .u64 (uv b.vl), .int .u64 (uv b.ch), .int .u64 (uv b.cl)] := by
    have := Blk.new (w.alloc (.cells #[.int .u64 (uv a.vh), .int .u64 (uv a.vl), .int .u64 (uv a.ch), .int .u64 (uv a.cl)] 43)) 43 #[.int .u64 (uv b.vh), .int .u64 (uv b.vl), .int .u64 (uv b.ch), .int .u64 (uv b.cl)]
    simpa using this
  have HKP : Hid (∀ W, Grew ((w.alloc (.cells #[.int .u64 (uv a.vh), .int .u64 (uv a.vl), .int .u64 (uv a.ch), .int .u64 (uv a.cl)] 43)).alloc (.cells #[.int .u64 (uv b.vh), .int .u64 (uv b.vl), .int .u64 (uv b.ch), .int .u64 (uv b.cl)] 43)) W → (W.cell? ⟨w.heap.size, 2, none⟩ = some (.int .u64 (uv a.ch)) ∧ W.cell? ⟨w.heap.size, 3, none⟩ = some (.int .u64 (uv a.cl)) ∧ W.cell? ⟨w.heap.size + 1, 2, none⟩ = some (.int .u64 (uv b.ch)) ∧ W.cell? ⟨w.heap.size + 1, 3, none⟩ = some (.int .u64 (uv b.cl)))) := fun W hb => ⟨((k1.on hb.below).cell 2).trans rfl, ((k1.on hb.below).cell 3).trans rfl, ((k2.on hb.below).cell 2).trans rfl, ((k2.on hb.below).cell 3).trans rfl⟩
  clear k1 k2 hr
  go_enter Try.func31, Try.ntmps31
  go_upto_region 1 with (fail)
  generalize ((w.alloc (.cells #[.int .u64 (uv a.vh), .int .u64 (uv a.vl), .int .u64 (uv a.ch), .int .u64 (uv a.cl)] 43)).alloc (.cells #[.int .u64 (uv b.vh), .int .u64 (uv b.vl), .int .u64 (uv b.ch), .int .u64 (uv b.cl)] 43)) = w1 at HG HKP ⊢
  refine wp_region_held_drew (S := fun w' => w'.cell? ⟨w.heap.size, 2, none⟩ = some (.int .u64 (uv a.ch)) ∧ w'.cell? ⟨w.heap.size, 3, none⟩ = some (.int .u64 (uv a.cl)) ∧ w'.cell? ⟨w.heap.size + 1, 2, none⟩ = some (.int .u64 (uv b.ch)) ∧ w'.cell? ⟨w.heap.size + 1, 3, none⟩ = some (.int .u64 (uv b.cl))) (by kernel_rfl) (HKP.out _ (Grew.drew1 w1)) (fun hHeld => ?_)
  have hB : Grew w1 w1.drew := Grew.drew1 w1
  generalize w1.drew = u0 at hHeld hB ⊢
  refine wpAnyH_take (i := 0) (oi := ⟨some 5, _, _, _, _, _⟩) (v := ?vc0_1) rfl (by kernel_rfl) (by kernel_rfl) (by kernel_rfl) (fun _ _ _ h => h) (Or.inl ⟨by rfl, ?yc0_1⟩) hHeld ?rc0_1
  case yc0_1 => (intro w' hSw; (try dsimp only at hSw); go_simp; try (with_reducible rfl))
  simp only [Act.put, List.setIfInBounds_toArray, List.set_cons_zero, List.set_cons_succ]
  refine wpAnyH_take (i := 1) (oi := ⟨some 6, _, _, _, _, _⟩) (v := ?vc1_2) rfl (by kernel_rfl) (by kernel_rfl) (by kernel_rfl) (fun _ _ _ h => h) (Or.inl ⟨by rfl, ?yc1_2⟩) hHeld ?rc1_2
  case yc1_2 => (intro w' hSw; (try dsimp only at hSw); go_simp; try (with_reducible rfl))
  simp only [Act.put, List.setIfInBounds_toArray, List.set_cons_zero, List.set_cons_succ]
  refine wpAnyH_take (i := 3) (oi := ⟨some 8, _, _, _, _, _⟩) (v := ?vc3_3) rfl (by kernel_rfl) (by kernel_rfl) (by kernel_rfl) (fun _ _ _ h => h) (Or.inl ⟨by rfl, ?yc3_3⟩) hHeld ?rc3_3
  case yc3_3 => (intro w' hSw; (try dsimp only at hSw); go_simp; try (with_reducible rfl))
  simp only [Act.put, List.setIfInBounds_toArray, List.set_cons_zero, List.set_cons_succ]
  refine wpAnyH_take (i := 4) (oi := ⟨some 9, _, _, _, _, _⟩) (v := ?vc4_4) rfl (by kernel_rfl) (by kernel_rfl) (by kernel_rfl) (fun _ _ _ h => h) (Or.inl ⟨by rfl, ?yc4_4⟩) hHeld ?rc4_4
  case yc4_4 => (intro w' hSw; (try dsimp only at hSw); go_simp; try (with_reducible rfl))
  simp only [Act.put, List.setIfInBounds_toArray, List.set_cons_zero, List.set_cons_succ]
  refine wpAnyH_ready (rs := [2]) (by kernel_rfl) (by simp) ?_
  refine AllReadyH.cons (o := ⟨some 7, _, _, _, _, _⟩) rfl (fun K hK => ?_) AllReadyH.nil
  go_simp
  (with_reducible refine (ones_g a.ch a.cl _).mono ?_)
  rintro e u1 ⟨rfl, hb⟩
  (try dsimp only)
  have hB2 := hB.trans hb
  refine hK.out _ _ (HKP.out _ hB2) (fun hNext => ?_)
  clear hK K hHeld
  have hHeld := hNext
  clear hNext
  clear hB
  have hB := hB2
  clear hB2 hb
  try simp only [Act.put, List.setIfInBounds_toArray, List.set_cons_zero, List.set_cons_succ]
  refine wpAnyH_ready (rs := [5]) (by kernel_rfl) (by simp) ?_
  refine AllReadyH.cons (o := ⟨some 10, _, _, _, _, _⟩) rfl (fun K hK => ?_) AllReadyH.nil
  go_simp
  (with_reducible refine (ones_g b.ch b.cl _).mono ?_)
  rintro e u2 ⟨rfl, hb⟩
  (try dsimp only)
  have hB2 := hB.trans hb
  refine hK.out _ _ (HKP.out _ hB2) (fun hNext => ?_)
  clear hK K hHeld
  have hHeld := hNext
  clear hNext
  clear hB
  have hB := hB2
  clear hB2 hb
  try simp only [Act.put, List.setIfInBounds_toArray, List.set_cons_zero, List.set_cons_succ]
  refine wpAnyH_ready (rs := [6]) (by kernel_rfl) (by simp) ?_
  refine AllReadyH.cons (o := ⟨some 11, _, _, _, _, _⟩) rfl (fun K hK => ?_) AllReadyH.nil
  go_simp
  (with_reducible refine (cmpI_g _ _ r _ HR.out).mono ?_)
  rintro e u3 ⟨rfl, hb⟩
  (try dsimp only)
  have hB2 := hB.trans hb
  refine hK.out _ _ (HKP.out _ hB2) (fun hNext => ?_)
  clear hK K hHeld
  have hHeld := hNext
  clear hNext
  clear hB
  have hB := hB2
  clear hB2 hb
  try simp only [Act.put, List.setIfInBounds_toArray, List.set_cons_zero, List.set_cons_succ]
  refine wpAnyH_take (i := 7) (oi := ⟨some 4, _, _, _, _, _⟩) (v := ?vc7_5) rfl (by kernel_rfl) (by kernel_rfl) (by kernel_rfl) (fun _ _ _ h => h) (Or.inl ⟨by rfl, ?yc7_5⟩) hHeld ?rc7_5
  case yc7_5 => (intro w' hSw; (try dsimp only at hSw); go_simp; try (with_reducible rfl))
  simp only [Act.put, List.setIfInBounds_toArray, List.set_cons_zero, List.set_cons_succ]
  refine wpAnyH_done (by kernel_rfl) ?_ _
  have HB9 := Lib.hid (HG.out.trans hB)
  clear hHeld hB HKP
  go_wp2
  go_ret
  exact ⟨rfl, HB9.out⟩
theorem cmpLays_u (w : World) (g N : Nat) : CmpLays Try.prog 31 #[] encU 4 cfU g 0 N w := fun _ _ _ _ x y => care_g x.1 y.1 _ _ rfl
set_option maxRecDepth 100000 in
set_option maxHeartbeats 4000000 in
theorem csort_nil (cap : Nat) (g : FuncId) (w : World) : Calls Try.prog 30 #[.slice none 0 cap, .func (.func g) #[] #[]] w fun e w' => e = .returned (.tuple #[]) ∧ Below w.heap.size w w' := by
  have hi : Calls Try.prog 69 #[.slice none 0 cap, .int .i64 0, .int .i64 0, .func (.func g) #[] #[]] w fun e w' => e = .returned (.tuple #[]) ∧ w = w' := by
    go_enter Try.func69, Try.ntmps69
    go_wp2
    go_loopg [8, 9] 0 (fun _ s8 _ wr => s8 = .int .i64 1 ∧ wr = w)
    case atStart => exact ⟨by go_num, rfl⟩
    case round =>
      obtain ⟨rfl, rfl⟩ := hrel
      go_wp2
      go_end0
      exact ⟨rfl, rfl⟩
  have hs : Calls Try.prog 51 #[.slice none 0 cap, .int .i64 0, .func (.func g) #[] #[]] w fun e w' => e = .returned (.tuple #[]) ∧ w = w' := by
    go_enter Try.func51, Try.ntmps51
    go_wp2
    go_loopg [7, 8] 0 (fun _ s7 s8 wr => s7 = .int .i64 0 ∧ s8 = .int .i64 20 ∧ wr = w)
    case atStart => exact ⟨rfl, rfl, rfl⟩
    case round =>
      obtain ⟨rfl, rfl, rfl⟩ := hrel
      go_wp2_with (go_at_call 69; refine hi.mono ?_; rintro e w' ⟨rfl, rfl⟩)
      go_loopg [6, 7, 8, 9] 0 (fun _ s6 _ _ _ wv => s6 = .int .i64 20 ∧ wv = wr)
      case atStart => exact ⟨rfl, rfl⟩
      case round =>
        obtain ⟨rfl, rfl⟩ := hrel
        go_wp2
        go_end0
        exact ⟨rfl, rfl⟩
  go_enter Try.func30, Try.ntmps30
  go_wp2_with (go_at_call 51; refine hs.mono ?_; rintro e w' ⟨rfl, rfl⟩)
  go_end0
  exact ⟨rfl, Below.refl _ _⟩
/-- The cubes of a row are put in order by how many bits they care for, of as many in their order. -/
theorem csort_c (base : Nat) (v : Value) (L : List Cb) (w : World) (hl : L.length ≤ 1099511627776) (ho : w.ownsRow base 43 4 v L.length (flat L)) :
    Calls Try.prog 30 #[v, .func (.func 31) #[] #[]] w fun e w' => e = .returned (.tuple #[]) ∧ Ch (fun k => v.ownBlock = some k) w w' ∧ Pl w' v (toldL keyC 129 L) := by
  have hlen := toldL_len (key := keyC) (N := 129) (l := L) (fun x _ => keyC_lt x)
  rcases ho.2 with ⟨rfl, hn⟩ | ⟨g, cap, cur, rfl, _⟩
  · have hL : L = [] := List.length_eq_zero_iff.1 hn
    subst hL
    refine (csort_nil 0 _ w).mono ?_
    rintro e w' ⟨rfl, hb⟩
    exact ⟨rfl, Ch.of_below hb, .inl ⟨by simp [toldL], none, 0, rfl⟩⟩
  · have hg := (ho.lt g rfl).2
    have hH := own_holdsU ho
    refine (sortStable_c Try.stL encU cfU Prod.snd 31 #[] g 0 cap L.length (tagU L) w (enters_of Try.func31 (by kernel_rfl) rfl) (cmpLays_u w g L.length) swoU ⟨fun _ => rfl, fun x v hv => ?_, hH, hg⟩ (tagU_size L) (by omega) (fun i hi => by rw [tagU_get L i hi])).mono ?_
    · unfold encU Cb.cells at hv
      simp only [List.mem_cons, List.not_mem_nil, or_false] at hv
      rcases hv with rfl | rfl | rfl | rfl <;> rfl
    · rintro e w' ⟨rfl, d, S1, P1, Z1⟩
      obtain ⟨G1, C1⟩ := sortedU_row hH hg S1 P1 Z1
      refine ⟨rfl, ⟨G1.os, G1.tape, G1.output, G1.size, fun k hk hn => G1.block k hk (fun e => hn e.symm)⟩, .inr ⟨g, 0, cap, by rw [hlen], by rw [hlen]; unfold maxLen; omega, Nat.lt_of_lt_of_le hg G1.size, C1⟩⟩
end Go.Proofs
