/-
  The contract of slices.symMergeCmpFunc: two sorted runs side by side become one, and equals keep their order. Conditions as the theorems list them.
  The contracts of slices.stableCmpFunc and slices.SortStableFunc: the row is sorted, and equals keep their order. Conditions as the theorems list them.
  Lists of rules: the order of priorities that keeps equals as they stand; rules in memory as rows of twelve cells. Conditions as each theorem lists them.
  Contracts of package cube: Meet, Within, Before, After: what they return, and that they change nothing that was there. Conditions as each theorem lists them.
  Contracts of package cube: Within: what they return, and that they change nothing that was there. Conditions as each theorem lists them.
  Contracts of cube's Meet, Within, Before and After for all inputs, each in one sentence. No conditions.
  Plain mathematics: the cubes of a difference: each lies within the first cube, and each header of the first cube is in just one of them or in the intersection. No conditions.
  Ports in memory; contracts of package rule: isPort, leadsWell, Sound. No conditions.
-/
import Derived.Test.YtkbeppknmdejnaaJ2
import Derived.Laws.OwnMore
import Derived.Deep.RegionWith
namespace Go.Proofs.Hd
open Go.Sort
variable {α : Type} [Inhabited α] {lt : α → α → Bool} {tg : α → Nat}
theorem sym_fin {a m b s e mid : Nat} {d d1 d2 d3 : Array α} (hS : SWO lt) (U : Runs lt tg a m b d) (h1 : a ≤ s) (h2 : s ≤ m) (h3 : m ≤ e) (h4 : e ≤ b) (hm : s + (e - m) = mid) (hb : b ≤ d.size) (hd : ∀ x, d1[x]! = rotF (fun x => d[x]!) s m e x) (P1 : PermIn a b d d1)
    (c1 : s < m → m < e → lt d[e - 1]! d[s]! = true) (c2 : a < s → e < b → lt d[e]! d[s - 1]! = false) (P2 : PermIn a mid d1 d2) (S2 : SortedIn (tlB lt tg) a mid d2) (P3 : PermIn mid b d2 d3) (S3 : SortedIn (tlB lt tg) mid b d3) :
    PermIn a b d d3 ∧ SortedIn (tlB lt tg) a b d3 := by
  obtain ⟨_, _, X⟩ := U.rot hS h1 h2 h3 h4 hd c1 c2
  rw [hm] at X
  obtain ⟨g1, g2⟩ := glue (by omega) (by omega) (by rw [P1.1]; exact hb) P2 P3 S2 S3 X
  exact ⟨permIn_trans _ _ _ _ _ P1 g2, g1⟩
theorem sym_l {a m b s e mid : Nat} {d d1 : Array α} (hS : SWO lt) (U : Runs lt tg a m b d) (h1 : a ≤ s) (h2 : s ≤ m) (h3 : m ≤ e) (h4 : e ≤ b) (hm : s + (e - m) = mid) (hd : ∀ x, d1[x]! = rotF (fun x => d[x]!) s m e x)
    (c1 : s < m → m < e → lt d[e - 1]! d[s]! = true) (c2 : a < s → e < b → lt d[e]! d[s - 1]! = false) : Runs lt tg a s mid d1 := by
  obtain ⟨r, _, _⟩ := U.rot hS h1 h2 h3 h4 hd c1 c2
  rw [hm] at r
  exact r
theorem sym_r {a m b s e mid : Nat} {d d1 d2 : Array α} (hS : SWO lt) (U : Runs lt tg a m b d) (h1 : a ≤ s) (h2 : s ≤ m) (h3 : m ≤ e) (h4 : e ≤ b) (hm : s + (e - m) = mid) (hd : ∀ x, d1[x]! = rotF (fun x => d[x]!) s m e x)
    (c1 : s < m → m < e → lt d[e - 1]! d[s]! = true) (c2 : a < s → e < b → lt d[e]! d[s - 1]! = false) (P2 : PermIn a mid d1 d2) : Runs lt tg mid e b d2 := by
  obtain ⟨_, r, _⟩ := U.rot hS h1 h2 h3 h4 hd c1 c2
  rw [hm] at r
  refine ⟨fun i j q1 q2 q3 => ?_, fun i j q1 q2 q3 => ?_, fun i j q1 q2 q3 q4 => ?_⟩ <;> rw [P2.2.1 i (.inr (by omega)), P2.2.1 j (.inr (by omega))]
  · exact r.l i j q1 q2 q3
  · exact r.r i j q1 q2 q3
  · exact r.t i j q1 q2 q3 q4
end Go.Proofs.Hd
namespace Go.Proofs
open Go.Shelf Go.RowKit Go.Lib Go.Sort Go.Proofs.Hd
variable {P : Program} {k : Nat} {α : Type} [Inhabited α]
set_option maxHeartbeats 16000000 in
set_option maxRecDepth 1000000 in
theorem sym_up (L : StL P k) (enc : α → List Value) (cf : α → α → Int) (tg : α → Nat) (g : Nat) (cb : Array Value) (blk off cap N a m b : Nat) (d0 d : Array α) (w0 w : World)
    (eg : ∀ args w, (callFunc g args).run P w = .ok (.enter g args) w) (hcmp : CmpLays P g cb enc k cf blk off N w0) (hS : SWO (ltOf cf)) (R : RowK enc k w0 blk off d0) (h0 : d0.size = N) (hN : d.size = N) (S : SWK enc k w0 blk off d w)
    (U : Runs (ltOf cf) tg a m b d) (hb : b ≤ N) (hsz : N < 1152921504606846976) (hn1 : a + 1 < m) (hn2 : m + 1 < b) (hmid : (a + b) / 2 < m)
    (IH : ∀ (x y z : Nat) (dk : Array α) (wr : World), z - x < b - a → dk.size = N → SWK enc k w0 blk off dk wr → Runs (ltOf cf) tg x y z dk → x < y → y < z → z ≤ N → Calls P 34 #[.slice (some ⟨blk, off, none⟩) N cap, .int .i64 x, .int .i64 y, .int .i64 z, .func (.func g) #[] cb] wr fun e w' =>
      e = .returned (.tuple #[]) ∧ ∃ d', SWK enc k w0 blk off d' w' ∧ PermIn x z dk d' ∧ SortedIn (tlB (ltOf cf) tg) x z d') :
    Calls P 34 #[.slice (some ⟨blk, off, none⟩) N cap, .int .i64 a, .int .i64 m, .int .i64 b, .func (.func g) #[] cb] w fun e w' =>
      e = .returned (.tuple #[]) ∧ ∃ d', SWK enc k w0 blk off d' w' ∧ PermIn a b d d' ∧ SortedIn (tlB (ltOf cf) tg) a b d' := by
  have mixed := L.mixed; have t0 := L.t0; have a0 := L.a0; have z0 := L.z0; have v0 := L.v0; have t3 := L.t3; have a3 := L.a3; have z3 := L.z3; have v3 := L.v3; have t4 := L.t4; have a4 := L.a4; have z4 := L.z4; have v4 := L.v4; have t22 := L.tS; have a22 := L.aS; have z22 := L.zS; have v22 := L.vS; have t25 := L.tC; have a25 := L.aC; have z25 := L.zC; have v25 := L.vC; have tU := L.tU; have aU := L.aU; have zU := L.zU; have vU := L.vU
  have aE := L.aE; have zE := L.zE
  have FG := L.fSym
  have HC : Aside _ := hcmp
  have CALL : Aside (∀ (x y z : Nat) (dk : Array α) (wr : World), z - x < b - a → dk.size = N → SWK enc k w0 blk off dk wr → Runs (ltOf cf) tg x y z dk → x < y → y < z → z ≤ N → Calls P 34 #[.slice (some ⟨blk, off, none⟩) N cap, .int .i64 x, .int .i64 y, .int .i64 z, .func (.func g) #[] cb] wr fun e w' =>
      e = .returned (.tuple #[]) ∧ ∃ d', SWK enc k w0 blk off d' w' ∧ PermIn x z dk d' ∧ SortedIn (tlB (ltOf cf) tg) x z d') := IH
  have ROT : Aside (∀ (wr : World) (x y z : Nat), SWK enc k w0 blk off d wr → x < y → y < z → z ≤ N → Calls P 38 #[.slice (some ⟨blk, off, none⟩) N cap, .int .i64 x, .int .i64 y, .int .i64 z, .func (.func g) #[] cb] wr fun e w' =>
      e = .returned (.tuple #[]) ∧ ∃ d', SWK enc k w0 blk off d' w' ∧ PermIn x z d d' ∧ ∀ u, d'[u]! = rotF (fun u => d[u]!) x y z u) :=
    fun wr x y z q2 q3 q4 q5 => rotate_c L enc g cb blk off cap N x y z d0 d w0 wr R h0 hN q2 q3 q4 q5 hsz
  have eS : ∀ args w, (callFunc 34 args).run P w = .ok (.enter 34 args) w := enters_of L.fSym (by kernel_rfl) rfl
  have eR : ∀ args w, (callFunc 38 args).run P w = .ok (.enter 38 args) w := enters_of L.fRot (by kernel_rfl) rfl
  have S0 : Aside (SWK enc k w0 blk off d w) := S
  obtain ⟨zz, hzz⟩ : ∃ z, z + a = m := ⟨m - a, by omega⟩
  have r1 : IntKind.i64.wrap ((m : Int) - (a : Int)) = (zz : Int) := by rw [IntKind.wrap_i64]; omega
  have r1' : (m : Int) - (a : Int) = (zz : Int) := by omega
  have r1b : ((zz : Int) == 1) = false := by rw [beq_eq_false_iff_ne]; omega
  obtain ⟨yy, hyy⟩ : ∃ z, z + m = b := ⟨b - m, by omega⟩
  have r2 : IntKind.i64.wrap ((b : Int) - (m : Int)) = (yy : Int) := by rw [IntKind.wrap_i64]; omega
  have r2' : (b : Int) - (m : Int) = (yy : Int) := by omega
  have r2b : ((yy : Int) == 1) = false := by rw [beq_eq_false_iff_ne]; omega
  obtain ⟨mid, hmd⟩ : ∃ z, z = (a + b) / 2 := ⟨_, rfl⟩
  have r3 : IntKind.i64.wrap ((a : Int) + (b : Int)) = (a : Int) + (b : Int) := by rw [IntKind.wrap_i64]; omega
  have r3' : ((a : Int) + (b : Int)) / 2 = (mid : Int) := by omega
  have hd1 : 2 * mid ≤ a + b := by omega
  have hd2 : a + b ≤ 2 * mid + 1 := by omega
  have hmm : mid < m := by omega
  clear hmd hmid
  obtain ⟨nn, hnn⟩ : ∃ z, z = mid + m := ⟨_, rfl⟩
  have r4 : IntKind.i64.wrap ((mid : Int) + (m : Int)) = (nn : Int) := by rw [IntKind.wrap_i64]; omega
  have r4' : (mid : Int) + (m : Int) = (nn : Int) := by omega
  obtain ⟨pp, hpp⟩ : ∃ z, z + 1 = nn := ⟨nn - 1, by omega⟩
  have r5 : IntKind.i64.wrap ((nn : Int) - 1) = (pp : Int) := by rw [IntKind.wrap_i64]; omega
  have r5' : (nn : Int) - 1 = (pp : Int) := by omega
  obtain ⟨lo, hlo⟩ : ∃ z, z + b = nn := ⟨nn - b, by omega⟩
  have r6 : IntKind.i64.wrap ((nn : Int) - (b : Int)) = (lo : Int) := by rw [IntKind.wrap_i64]; omega
  have r6' : (nn : Int) - (b : Int) = (lo : Int) := by omega
  have r7 : (mid : Int) < (m : Int) := by omega
  have HU : Hid (Runs (ltOf cf) tg a m b d) := U
  have HS : Hid (SWO (ltOf cf)) := hS
  clear S L hcmp U hS IH
  have HNN := Nat.le_of_eq hnn
  have HNN2 := Nat.le_of_eq hnn.symm
  clear hnn
  go_enter FG, Try.ntmps34
  go_wp2
  go_loopg [20, 21] (mid - lo) (fun kx si sj wr => ∃ (i j : Nat), si = .int .i64 i ∧ sj = .int .i64 j ∧ lo ≤ i ∧ i ≤ j ∧ j ≤ mid ∧ j - i ≤ kx ∧ Aside (SWK enc k w0 blk off d wr) ∧ Hid (lo < i → ltOf cf d[nn - i]! d[i - 1]! = false) ∧ Hid (j < mid → ltOf cf d[nn - 1 - j]! d[j]! = true))
  case atStart => exact ⟨lo, mid, by first | rfl | go_num, by first | rfl | go_num, Nat.le_refl _, by omega, Nat.le_refl _, Nat.le_refl _, S0, fun h => by omega, fun h => by omega⟩
  case round =>
    clear S0
    obtain ⟨i, j, rfl, rfl, hli, hij, hjh, hkx, S1, I1, J1⟩ := hrel
    by_cases hlt : i < j
    · have hltz : (i : Int) < (j : Int) := by omega
      obtain ⟨h, hh⟩ : ∃ h, h = (i + j) / 2 := ⟨_, rfl⟩
      have hz : ((i : Int) + (j : Int)) / 2 = (h : Int) := by omega
      have hi1 : i ≤ h := by omega
      have hj1 : h < j := by omega
      have rij : IntKind.i64.wrap ((i : Int) + (j : Int)) = (i : Int) + (j : Int) := by rw [IntKind.wrap_i64]; omega
      clear hh
      obtain ⟨q, hq⟩ : ∃ q, q + h = pp := ⟨pp - h, by omega⟩
      have rq : IntKind.i64.wrap ((pp : Int) - (h : Int)) = (q : Int) := by rw [IntKind.wrap_i64]; omega
      have rq' : (pp : Int) - (h : Int) = (q : Int) := by omega
      cases hL : ltOf cf d[q]! d[h]! with
      | true =>
        have ea8 : ((q : Int)).toNat = q := by omega
        have pa8 : (0 : Int) ≤ (q : Int) := by omega
        have ba8 : (q : Int) < (N : Int) := by omega
        have ra8 : IntKind.i64.wrap ((q : Int)) = (q : Int) := by rw [IntKind.wrap_i64]; omega
        have ec8 : ((h : Int)).toNat = h := by omega
        have pc8 : (0 : Int) ≤ (h : Int) := by omega
        have bc8 : (h : Int) < (N : Int) := by omega
        have rc8 : IntKind.i64.wrap ((h : Int)) = (h : Int) := by rw [IntKind.wrap_i64]; omega
        obtain ⟨x8, hx8⟩ : ∃ x, x = d[q]! := ⟨_, rfl⟩
        obtain ⟨y8, hy8⟩ : ∃ x, x = d[h]! := ⟨_, rfl⟩
        have l8a := S1.out.ld R (by omega) P (q) (by omega)
        have l8b := S1.out.ld R (by omega) P (h) (by omega)
        rw [← hx8] at l8a
        rw [← hy8] at l8b
        have hc8 := S1.out.cmp HC.out (by omega) x8 y8
        have hv8 : cf x8 y8 < 0 := by rw [hx8, hy8]; exact of_decide_eq_true hL
        have hd8 : decide (cf x8 y8 < 0) = true := decide_eq_true hv8
        clear hx8 hy8
        go_wp2_with fail
        go_quiet_grown (first | (go_at_fn g; refine Calls.grown_of (hc8 _ _)))
        have S2 : Aside (SWK enc k w0 blk off d (grow (wr.drewN nq) osq)) := S1.out.grown nq osq
        clear l8a l8b hc8 S1
        generalize grow (wr.drewN nq) osq = w2 at S2 ⊢
        clear nq osq
        go_wp2
        go_roundg (h - i)
        case measure => omega
        case rel => exact ⟨i, h, rfl, by first | rfl | go_num | (congr 1; omega), hli, hi1, by omega, Nat.le_refl _, S2, I1, fun _ => by rw [show nn - 1 - h = q by omega]; exact hL⟩
      | false =>
        have ea8 : ((q : Int)).toNat = q := by omega
        have pa8 : (0 : Int) ≤ (q : Int) := by omega
        have ba8 : (q : Int) < (N : Int) := by omega
        have ra8 : IntKind.i64.wrap ((q : Int)) = (q : Int) := by rw [IntKind.wrap_i64]; omega
        have ec8 : ((h : Int)).toNat = h := by omega
        have pc8 : (0 : Int) ≤ (h : Int) := by omega
        have bc8 : (h : Int) < (N : Int) := by omega
        have rc8 : IntKind.i64.wrap ((h : Int)) = (h : Int) := by rw [IntKind.wrap_i64]; omega
        obtain ⟨x8, hx8⟩ : ∃ x, x = d[q]! := ⟨_, rfl⟩
        obtain ⟨y8, hy8⟩ : ∃ x, x = d[h]! := ⟨_, rfl⟩
        have l8a := S1.out.ld R (by omega) P (q) (by omega)
        have l8b := S1.out.ld R (by omega) P (h) (by omega)
        rw [← hx8] at l8a
        rw [← hy8] at l8b
        have hc8 := S1.out.cmp HC.out (by omega) x8 y8
        have hv8 : ¬ cf x8 y8 < 0 := by rw [hx8, hy8]; exact of_decide_eq_false hL
        have hd8 : decide (cf x8 y8 < 0) = false := decide_eq_false hv8
        clear hx8 hy8
        go_wp2_with fail
        go_quiet_grown (first | (go_at_fn g; refine Calls.grown_of (hc8 _ _)))
        have S2 : Aside (SWK enc k w0 blk off d (grow (wr.drewN nq) osq)) := S1.out.grown nq osq
        clear l8a l8b hc8 S1
        generalize grow (wr.drewN nq) osq = w2 at S2 ⊢
        clear nq osq
        go_wp2
        go_roundg (j - (h + 1))
        case measure => omega
        case rel => exact ⟨h + 1, j, by first | rfl | go_num | (congr 1; omega), rfl, by omega, by omega, hjh, Nat.le_refl _, S2, fun _ => by rw [show nn - (h + 1) = q by omega]; exact hL, J1⟩
    · have hltz : ¬ (i : Int) < (j : Int) := by omega
      obtain rfl : i = j := by omega
      obtain ⟨e, he⟩ : ∃ e, e + i = nn := ⟨nn - i, by omega⟩
      have re : IntKind.i64.wrap ((nn : Int) - (i : Int)) = (e : Int) := by rw [IntKind.wrap_i64]; omega
      have re' : (nn : Int) - (i : Int) = (e : Int) := by omega
      have h1 : a ≤ i := by omega
      have h2 : i ≤ m := by omega
      have h3 : m ≤ e := by omega
      have h4 : e ≤ b := by omega
      have hm : i + (e - m) = mid := by omega
      have C1 : Hid (i < m → m < e → ltOf cf d[e - 1]! d[i]! = true) := fun q1 q2 => by rw [show e - 1 = nn - 1 - i by omega]; exact J1.out (by omega)
      have C2 : Hid (a < i → e < b → ltOf cf d[e]! d[i - 1]! = false) := fun q1 q2 => by rw [show e = nn - i by omega]; exact I1.out (by omega)
      clear I1 J1
      by_cases g1 : i < m
      · by_cases g2 : m < e
        · have z1 : (i : Int) < (m : Int) := by omega
          have z2 : (m : Int) < (e : Int) := by omega
          have z3 : (i : Int) < (mid : Int) := by omega
          have z4 : (mid : Int) < (e : Int) := by omega
          by_cases g3 : a < i
          · have z5 : (a : Int) < (i : Int) := by omega
            by_cases g4 : e < b
            · have z6 : (e : Int) < (b : Int) := by omega
              have hU := HU.out
              have hS := HS.out
              have hcon := ROT.out wr i m e S1.out (by omega) (by omega) (by omega)
              go_wp2_with fail
              refine hcon.mono ?_
              rintro ee w1 ⟨rfl, d1, SR, QR, NR⟩
              clear hcon
              have H1 : Hid (∀ x, d1[x]! = rotF (fun x => d[x]!) i m e x) := NR
              have K1 : Hid (PermIn a b d d1) := permIn_mono _ _ _ _ _ _ (by omega) (by omega) (by omega) QR
              have hz1 : d1.size = N := by rw [QR.1]; exact hN
              have T1 : Aside (SWK enc k w0 blk off d1 w1) := SR
              clear NR QR SR S1
              have UL := sym_l hS hU h1 h2 h3 h4 hm H1.out C1.out C2.out
              have hcon := CALL.out a i mid d1 w1 (by omega) hz1 T1.out UL (by omega) (by omega) (by omega)
              clear UL
              go_wp2_with fail
              refine hcon.mono ?_
              rintro ee w2 ⟨rfl, d2, SL, QL, NL⟩
              clear hcon
              have K2 : Hid (PermIn a mid d1 d2) := QL
              have Z2 : Hid (SortedIn (tlB (ltOf cf) tg) a mid d2) := NL
              have hz2 : d2.size = N := by rw [QL.1]; exact hz1
              have T2 : Aside (SWK enc k w0 blk off d2 w2) := SL
              clear NL QL SL T1
              have UR := sym_r hS hU h1 h2 h3 h4 hm H1.out C1.out C2.out K2.out
              have hcon := CALL.out mid e b d2 w2 (by omega) hz2 T2.out UR (by omega) (by omega) (by omega)
              clear UR
              go_wp2_with fail
              refine hcon.mono ?_
              rintro ee w3 ⟨rfl, d3, SQ, QQ, NQ⟩
              clear hcon
              have K3 : Hid (PermIn mid b d2 d3) := QQ
              have Z3 : Hid (SortedIn (tlB (ltOf cf) tg) mid b d3) := NQ
              have T3 : Aside (SWK enc k w0 blk off d3 w3) := SQ
              clear NQ QQ SQ T2
              go_wp2
              go_end0
              exact ⟨rfl, d3, T3.out, sym_fin hS hU h1 h2 h3 h4 hm (by omega) H1.out K1.out C1.out C2.out K2.out Z2.out K3.out Z3.out⟩
            · have z6 : ¬ (e : Int) < (b : Int) := by omega
              have hU := HU.out
              have hS := HS.out
              have hcon := ROT.out wr i m e S1.out (by omega) (by omega) (by omega)
              go_wp2_with fail
              refine hcon.mono ?_
              rintro ee w1 ⟨rfl, d1, SR, QR, NR⟩
              clear hcon
              have H1 : Hid (∀ x, d1[x]! = rotF (fun x => d[x]!) i m e x) := NR
              have K1 : Hid (PermIn a b d d1) := permIn_mono _ _ _ _ _ _ (by omega) (by omega) (by omega) QR
              have hz1 : d1.size = N := by rw [QR.1]; exact hN
              have T1 : Aside (SWK enc k w0 blk off d1 w1) := SR
              clear NR QR SR S1
              have UL := sym_l hS hU h1 h2 h3 h4 hm H1.out C1.out C2.out
              have hcon := CALL.out a i mid d1 w1 (by omega) hz1 T1.out UL (by omega) (by omega) (by omega)
              clear UL
              go_wp2_with fail
              refine hcon.mono ?_
              rintro ee w2 ⟨rfl, d2, SL, QL, NL⟩
              clear hcon
              have K2 : Hid (PermIn a mid d1 d2) := QL
              have Z2 : Hid (SortedIn (tlB (ltOf cf) tg) a mid d2) := NL
              have hz2 : d2.size = N := by rw [QL.1]; exact hz1
              have T2 : Aside (SWK enc k w0 blk off d2 w2) := SL
              clear NL QL SL T1
              have UR := sym_r hS hU h1 h2 h3 h4 hm H1.out C1.out C2.out K2.out
              have K3 : Hid (PermIn mid b d2 d2) := permIn_refl _ _ _
              have Z3 : Hid (SortedIn (tlB (ltOf cf) tg) mid b d2) := by have q : b = e := (by omega); rw [q]; exact UR.l
              clear UR
              go_wp2
              go_end0
              exact ⟨rfl, d2, T2.out, sym_fin hS hU h1 h2 h3 h4 hm (by omega) H1.out K1.out C1.out C2.out K2.out Z2.out K3.out Z3.out⟩
          · have z5 : ¬ (a : Int) < (i : Int) := by omega
            by_cases g4 : e < b
            · have z6 : (e : Int) < (b : Int) := by omega
              have hU := HU.out
              have hS := HS.out
              have hcon := ROT.out wr i m e S1.out (by omega) (by omega) (by omega)
              go_wp2_with fail
              refine hcon.mono ?_
              rintro ee w1 ⟨rfl, d1, SR, QR, NR⟩
              clear hcon
              have H1 : Hid (∀ x, d1[x]! = rotF (fun x => d[x]!) i m e x) := NR
              have K1 : Hid (PermIn a b d d1) := permIn_mono _ _ _ _ _ _ (by omega) (by omega) (by omega) QR
              have hz1 : d1.size = N := by rw [QR.1]; exact hN
              have T1 : Aside (SWK enc k w0 blk off d1 w1) := SR
              clear NR QR SR S1
              have UL := sym_l hS hU h1 h2 h3 h4 hm H1.out C1.out C2.out
              have K2 : Hid (PermIn a mid d1 d1) := permIn_refl _ _ _
              have Z2 : Hid (SortedIn (tlB (ltOf cf) tg) a mid d1) := by have q : i = a := (by omega); rw [← q]; exact UL.r
              have hz2 : d1.size = N := hz1
              clear UL
              have UR := sym_r hS hU h1 h2 h3 h4 hm H1.out C1.out C2.out K2.out
              have hcon := CALL.out mid e b d1 w1 (by omega) hz2 T1.out UR (by omega) (by omega) (by omega)
              clear UR
              go_wp2_with fail
              refine hcon.mono ?_
              rintro ee w3 ⟨rfl, d3, SQ, QQ, NQ⟩
              clear hcon
              have K3 : Hid (PermIn mid b d1 d3) := QQ
              have Z3 : Hid (SortedIn (tlB (ltOf cf) tg) mid b d3) := NQ
              have T3 : Aside (SWK enc k w0 blk off d3 w3) := SQ
              clear NQ QQ SQ T1
              go_wp2
              go_end0
              exact ⟨rfl, d3, T3.out, sym_fin hS hU h1 h2 h3 h4 hm (by omega) H1.out K1.out C1.out C2.out K2.out Z2.out K3.out Z3.out⟩
            · have z6 : ¬ (e : Int) < (b : Int) := by omega
              have hU := HU.out
              have hS := HS.out
              have hcon := ROT.out wr i m e S1.out (by omega) (by omega) (by omega)
              go_wp2_with fail
              refine hcon.mono ?_
              rintro ee w1 ⟨rfl, d1, SR, QR, NR⟩
              clear hcon
              have H1 : Hid (∀ x, d1[x]! = rotF (fun x => d[x]!) i m e x) := NR
              have K1 : Hid (PermIn a b d d1) := permIn_mono _ _ _ _ _ _ (by omega) (by omega) (by omega) QR
              have hz1 : d1.size = N := by rw [QR.1]; exact hN
              have T1 : Aside (SWK enc k w0 blk off d1 w1) := SR
              clear NR QR SR S1
              have UL := sym_l hS hU h1 h2 h3 h4 hm H1.out C1.out C2.out
              have K2 : Hid (PermIn a mid d1 d1) := permIn_refl _ _ _
              have Z2 : Hid (SortedIn (tlB (ltOf cf) tg) a mid d1) := by have q : i = a := (by omega); rw [← q]; exact UL.r
              have hz2 : d1.size = N := hz1
              clear UL
              have UR := sym_r hS hU h1 h2 h3 h4 hm H1.out C1.out C2.out K2.out
              have K3 : Hid (PermIn mid b d1 d1) := permIn_refl _ _ _
              have Z3 : Hid (SortedIn (tlB (ltOf cf) tg) mid b d1) := by have q : b = e := (by omega); rw [q]; exact UR.l
              clear UR
              go_wp2
              go_end0
              exact ⟨rfl, d1, T1.out, sym_fin hS hU h1 h2 h3 h4 hm (by omega) H1.out K1.out C1.out C2.out K2.out Z2.out K3.out Z3.out⟩
        · have z1 : (i : Int) < (m : Int) := by omega
          have z2 : ¬ (m : Int) < (e : Int) := by omega
          have z3 : ¬ (i : Int) < (mid : Int) := by omega
          have z4 : (mid : Int) < (e : Int) := by omega
          have z5 : (a : Int) < (i : Int) := by omega
          have z6 : (e : Int) < (b : Int) := by omega
          have hU := HU.out
          have hS := HS.out
          have H1 : Hid (∀ x, d[x]! = rotF (fun x => d[x]!) i m e x) := fun x => by rw [show e = m by omega]; exact (rot_none2 _ _ _ _).symm
          have K1 : Hid (PermIn a b d d) := permIn_refl _ _ _
          have hz1 : d.size = N := hN
          have UL := sym_l hS hU h1 h2 h3 h4 hm H1.out C1.out C2.out
          have K2 : Hid (PermIn a mid d d) := permIn_refl _ _ _
          have Z2 : Hid (SortedIn (tlB (ltOf cf) tg) a mid d) := by have q : mid = i := (by omega); rw [q]; exact UL.l
          have hz2 : d.size = N := hz1
          clear UL
          have UR := sym_r hS hU h1 h2 h3 h4 hm H1.out C1.out C2.out K2.out
          have hcon := CALL.out mid e b d wr (by omega) hz2 S1.out UR (by omega) (by omega) (by omega)
          clear UR
          go_wp2_with fail
          refine hcon.mono ?_
          rintro ee w3 ⟨rfl, d3, SQ, QQ, NQ⟩
          clear hcon
          have K3 : Hid (PermIn mid b d d3) := QQ
          have Z3 : Hid (SortedIn (tlB (ltOf cf) tg) mid b d3) := NQ
          have T3 : Aside (SWK enc k w0 blk off d3 w3) := SQ
          clear NQ QQ SQ S1
          go_wp2
          go_end0
          exact ⟨rfl, d3, T3.out, sym_fin hS hU h1 h2 h3 h4 hm (by omega) H1.out K1.out C1.out C2.out K2.out Z2.out K3.out Z3.out⟩
      · exfalso; omega
set_option maxHeartbeats 16000000 in
set_option maxRecDepth 1000000 in
theorem sym_dn (L : StL P k) (enc : α → List Value) (cf : α → α → Int) (tg : α → Nat) (g : Nat) (cb : Array Value) (blk off cap N a m b : Nat) (d0 d : Array α) (w0 w : World)
    (eg : ∀ args w, (callFunc g args).run P w = .ok (.enter g args) w) (hcmp : CmpLays P g cb enc k cf blk off N w0) (hS : SWO (ltOf cf)) (R : RowK enc k w0 blk off d0) (h0 : d0.size = N) (hN : d.size = N) (S : SWK enc k w0 blk off d w)
    (U : Runs (ltOf cf) tg a m b d) (hb : b ≤ N) (hsz : N < 1152921504606846976) (hn1 : a + 1 < m) (hn2 : m + 1 < b) (hmid : m ≤ (a + b) / 2)
    (IH : ∀ (x y z : Nat) (dk : Array α) (wr : World), z - x < b - a → dk.size = N → SWK enc k w0 blk off dk wr → Runs (ltOf cf) tg x y z dk → x < y → y < z → z ≤ N → Calls P 34 #[.slice (some ⟨blk, off, none⟩) N cap, .int .i64 x, .int .i64 y, .int .i64 z, .func (.func g) #[] cb] wr fun e w' =>
      e = .returned (.tuple #[]) ∧ ∃ d', SWK enc k w0 blk off d' w' ∧ PermIn x z dk d' ∧ SortedIn (tlB (ltOf cf) tg) x z d') :
    Calls P 34 #[.slice (some ⟨blk, off, none⟩) N cap, .int .i64 a, .int .i64 m, .int .i64 b, .func (.func g) #[] cb] w fun e w' =>
      e = .returned (.tuple #[]) ∧ ∃ d', SWK enc k w0 blk off d' w' ∧ PermIn a b d d' ∧ SortedIn (tlB (ltOf cf) tg) a b d' := by
  have mixed := L.mixed; have t0 := L.t0; have a0 := L.a0; have z0 := L.z0; have v0 := L.v0; have t3 := L.t3; have a3 := L.a3; have z3 := L.z3; have v3 := L.v3; have t4 := L.t4; have a4 := L.a4; have z4 := L.z4; have v4 := L.v4; have t22 := L.tS; have a22 := L.aS; have z22 := L.zS; have v22 := L.vS; have t25 := L.tC; have a25 := L.aC; have z25 := L.zC; have v25 := L.vC; have tU := L.tU; have aU := L.aU; have zU := L.zU; have vU := L.vU
  have aE := L.aE; have zE := L.zE
  have FG := L.fSym
  have HC : Aside _ := hcmp
  have CALL : Aside (∀ (x y z : Nat) (dk : Array α) (wr : World), z - x < b - a → dk.size = N → SWK enc k w0 blk off dk wr → Runs (ltOf cf) tg x y z dk → x < y → y < z → z ≤ N → Calls P 34 #[.slice (some ⟨blk, off, none⟩) N cap, .int .i64 x, .int .i64 y, .int .i64 z, .func (.func g) #[] cb] wr fun e w' =>
      e = .returned (.tuple #[]) ∧ ∃ d', SWK enc k w0 blk off d' w' ∧ PermIn x z dk d' ∧ SortedIn (tlB (ltOf cf) tg) x z d') := IH
  have ROT : Aside (∀ (wr : World) (x y z : Nat), SWK enc k w0 blk off d wr → x < y → y < z → z ≤ N → Calls P 38 #[.slice (some ⟨blk, off, none⟩) N cap, .int .i64 x, .int .i64 y, .int .i64 z, .func (.func g) #[] cb] wr fun e w' =>
      e = .returned (.tuple #[]) ∧ ∃ d', SWK enc k w0 blk off d' w' ∧ PermIn x z d d' ∧ ∀ u, d'[u]! = rotF (fun u => d[u]!) x y z u) :=
    fun wr x y z q2 q3 q4 q5 => rotate_c L enc g cb blk off cap N x y z d0 d w0 wr R h0 hN q2 q3 q4 q5 hsz
  have eS : ∀ args w, (callFunc 34 args).run P w = .ok (.enter 34 args) w := enters_of L.fSym (by kernel_rfl) rfl
  have eR : ∀ args w, (callFunc 38 args).run P w = .ok (.enter 38 args) w := enters_of L.fRot (by kernel_rfl) rfl
  have S0 : Aside (SWK enc k w0 blk off d w) := S
  obtain ⟨zz, hzz⟩ : ∃ z, z + a = m := ⟨m - a, by omega⟩
  have r1 : IntKind.i64.wrap ((m : Int) - (a : Int)) = (zz : Int) := by rw [IntKind.wrap_i64]; omega
  have r1' : (m : Int) - (a : Int) = (zz : Int) := by omega
  have r1b : ((zz : Int) == 1) = false := by rw [beq_eq_false_iff_ne]; omega
  obtain ⟨yy, hyy⟩ : ∃ z, z + m = b := ⟨b - m, by omega⟩
  have r2 : IntKind.i64.wrap ((b : Int) - (m : Int)) = (yy : Int) := by rw [IntKind.wrap_i64]; omega
  have r2' : (b : Int) - (m : Int) = (yy : Int) := by omega
  have r2b : ((yy : Int) == 1) = false := by rw [beq_eq_false_iff_ne]; omega
  obtain ⟨mid, hmd⟩ : ∃ z, z = (a + b) / 2 := ⟨_, rfl⟩
  have r3 : IntKind.i64.wrap ((a : Int) + (b : Int)) = (a : Int) + (b : Int) := by rw [IntKind.wrap_i64]; omega
  have r3' : ((a : Int) + (b : Int)) / 2 = (mid : Int) := by omega
  have hd1 : 2 * mid ≤ a + b := by omega
  have hd2 : a + b ≤ 2 * mid + 1 := by omega
  have hmm : m ≤ mid := by omega
  clear hmd hmid
  obtain ⟨nn, hnn⟩ : ∃ z, z = mid + m := ⟨_, rfl⟩
  have r4 : IntKind.i64.wrap ((mid : Int) + (m : Int)) = (nn : Int) := by rw [IntKind.wrap_i64]; omega
  have r4' : (mid : Int) + (m : Int) = (nn : Int) := by omega
  obtain ⟨pp, hpp⟩ : ∃ z, z + 1 = nn := ⟨nn - 1, by omega⟩
  have r5 : IntKind.i64.wrap ((nn : Int) - 1) = (pp : Int) := by rw [IntKind.wrap_i64]; omega
  have r5' : (nn : Int) - 1 = (pp : Int) := by omega
  have r7 : ¬ (mid : Int) < (m : Int) := by omega
  have HU : Hid (Runs (ltOf cf) tg a m b d) := U
  have HS : Hid (SWO (ltOf cf)) := hS
  clear S L hcmp U hS IH
  have HNN := Nat.le_of_eq hnn
  have HNN2 := Nat.le_of_eq hnn.symm
  clear hnn
  go_enter FG, Try.ntmps34
  go_wp2
  go_loopg [20, 21] (m - a) (fun kx si sj wr => ∃ (i j : Nat), si = .int .i64 i ∧ sj = .int .i64 j ∧ a ≤ i ∧ i ≤ j ∧ j ≤ m ∧ j - i ≤ kx ∧ Aside (SWK enc k w0 blk off d wr) ∧ Hid (a < i → ltOf cf d[nn - i]! d[i - 1]! = false) ∧ Hid (j < m → ltOf cf d[nn - 1 - j]! d[j]! = true))
  case atStart => exact ⟨a, m, by first | rfl | go_num, by first | rfl | go_num, Nat.le_refl _, by omega, Nat.le_refl _, Nat.le_refl _, S0, fun h => by omega, fun h => by omega⟩
  case round =>
    clear S0
    obtain ⟨i, j, rfl, rfl, hli, hij, hjh, hkx, S1, I1, J1⟩ := hrel
    by_cases hlt : i < j
    · have hltz : (i : Int) < (j : Int) := by omega
      obtain ⟨h, hh⟩ : ∃ h, h = (i + j) / 2 := ⟨_, rfl⟩
      have hz : ((i : Int) + (j : Int)) / 2 = (h : Int) := by omega
      have hi1 : i ≤ h := by omega
      have hj1 : h < j := by omega
      have rij : IntKind.i64.wrap ((i : Int) + (j : Int)) = (i : Int) + (j : Int) := by rw [IntKind.wrap_i64]; omega
      clear hh
      obtain ⟨q, hq⟩ : ∃ q, q + h = pp := ⟨pp - h, by omega⟩
      have rq : IntKind.i64.wrap ((pp : Int) - (h : Int)) = (q : Int) := by rw [IntKind.wrap_i64]; omega
      have rq' : (pp : Int) - (h : Int) = (q : Int) := by omega
      cases hL : ltOf cf d[q]! d[h]! with
      | true =>
        have ea8 : ((q : Int)).toNat = q := by omega
        have pa8 : (0 : Int) ≤ (q : Int) := by omega
        have ba8 : (q : Int) < (N : Int) := by omega
        have ra8 : IntKind.i64.wrap ((q : Int)) = (q : Int) := by rw [IntKind.wrap_i64]; omega
        have ec8 : ((h : Int)).toNat = h := by omega
        have pc8 : (0 : Int) ≤ (h : Int) := by omega
        have bc8 : (h : Int) < (N : Int) := by omega
        have rc8 : IntKind.i64.wrap ((h : Int)) = (h : Int) := by rw [IntKind.wrap_i64]; omega
        obtain ⟨x8, hx8⟩ : ∃ x, x = d[q]! := ⟨_, rfl⟩
        obtain ⟨y8, hy8⟩ : ∃ x, x = d[h]! := ⟨_, rfl⟩
        have l8a := S1.out.ld R (by omega) P (q) (by omega)
        have l8b := S1.out.ld R (by omega) P (h) (by omega)
        rw [← hx8] at l8a
        rw [← hy8] at l8b
        have hc8 := S1.out.cmp HC.out (by omega) x8 y8
        have hv8 : cf x8 y8 < 0 := by rw [hx8, hy8]; exact of_decide_eq_true hL
        have hd8 : decide (cf x8 y8 < 0) = true := decide_eq_true hv8
        clear hx8 hy8
        go_wp2_with fail
        go_quiet_grown (first | (go_at_fn g; refine Calls.grown_of (hc8 _ _)))
        have S2 : Aside (SWK enc k w0 blk off d (grow (wr.drewN nq) osq)) := S1.out.grown nq osq
        clear l8a l8b hc8 S1
        generalize grow (wr.drewN nq) osq = w2 at S2 ⊢
        clear nq osq
        go_wp2
        go_roundg (h - i)
        case measure => omega
        case rel => exact ⟨i, h, rfl, by first | rfl | go_num | (congr 1; omega), hli, hi1, by omega, Nat.le_refl _, S2, I1, fun _ => by rw [show nn - 1 - h = q by omega]; exact hL⟩
      | false =>
        have ea8 : ((q : Int)).toNat = q := by omega
        have pa8 : (0 : Int) ≤ (q : Int) := by omega
        have ba8 : (q : Int) < (N : Int) := by omega
        have ra8 : IntKind.i64.wrap ((q : Int)) = (q : Int) := by rw [IntKind.wrap_i64]; omega
        have ec8 : ((h : Int)).toNat = h := by omega
        have pc8 : (0 : Int) ≤ (h : Int) := by omega
        have bc8 : (h : Int) < (N : Int) := by omega
        have rc8 : IntKind.i64.wrap ((h : Int)) = (h : Int) := by rw [IntKind.wrap_i64]; omega
        obtain ⟨x8, hx8⟩ : ∃ x, x = d[q]! := ⟨_, rfl⟩
        obtain ⟨y8, hy8⟩ : ∃ x, x = d[h]! := ⟨_, rfl⟩
        have l8a := S1.out.ld R (by omega) P (q) (by omega)
        have l8b := S1.out.ld R (by omega) P (h) (by omega)
        rw [← hx8] at l8a
        rw [← hy8] at l8b
        have hc8 := S1.out.cmp HC.out (by omega) x8 y8
        have hv8 : ¬ cf x8 y8 < 0 := by rw [hx8, hy8]; exact of_decide_eq_false hL
        have hd8 : decide (cf x8 y8 < 0) = false := decide_eq_false hv8
        clear hx8 hy8
        go_wp2_with fail
        go_quiet_grown (first | (go_at_fn g; refine Calls.grown_of (hc8 _ _)))
        have S2 : Aside (SWK enc k w0 blk off d (grow (wr.drewN nq) osq)) := S1.out.grown nq osq
        clear l8a l8b hc8 S1
        generalize grow (wr.drewN nq) osq = w2 at S2 ⊢
        clear nq osq
        go_wp2
        go_roundg (j - (h + 1))
        case measure => omega
        case rel => exact ⟨h + 1, j, by first | rfl | go_num | (congr 1; omega), rfl, by omega, by omega, hjh, Nat.le_refl _, S2, fun _ => by rw [show nn - (h + 1) = q by omega]; exact hL, J1⟩
    · have hltz : ¬ (i : Int) < (j : Int) := by omega
      obtain rfl : i = j := by omega
      obtain ⟨e, he⟩ : ∃ e, e + i = nn := ⟨nn - i, by omega⟩
      have re : IntKind.i64.wrap ((nn : Int) - (i : Int)) = (e : Int) := by rw [IntKind.wrap_i64]; omega
      have re' : (nn : Int) - (i : Int) = (e : Int) := by omega
      have h1 : a ≤ i := by omega
      have h2 : i ≤ m := by omega
      have h3 : m ≤ e := by omega
      have h4 : e ≤ b := by omega
      have hm : i + (e - m) = mid := by omega
      have C1 : Hid (i < m → m < e → ltOf cf d[e - 1]! d[i]! = true) := fun q1 q2 => by rw [show e - 1 = nn - 1 - i by omega]; exact J1.out (by omega)
      have C2 : Hid (a < i → e < b → ltOf cf d[e]! d[i - 1]! = false) := fun q1 q2 => by rw [show e = nn - i by omega]; exact I1.out (by omega)
      clear I1 J1
      by_cases g1 : i < m
      · by_cases g2 : m < e
        · have z1 : (i : Int) < (m : Int) := by omega
          have z2 : (m : Int) < (e : Int) := by omega
          have z3 : (i : Int) < (mid : Int) := by omega
          have z4 : (mid : Int) < (e : Int) := by omega
          by_cases g3 : a < i
          · have z5 : (a : Int) < (i : Int) := by omega
            by_cases g4 : e < b
            · have z6 : (e : Int) < (b : Int) := by omega
              have hU := HU.out
              have hS := HS.out
              have hcon := ROT.out wr i m e S1.out (by omega) (by omega) (by omega)
              go_wp2_with fail
              refine hcon.mono ?_
              rintro ee w1 ⟨rfl, d1, SR, QR, NR⟩
              clear hcon
              have H1 : Hid (∀ x, d1[x]! = rotF (fun x => d[x]!) i m e x) := NR
              have K1 : Hid (PermIn a b d d1) := permIn_mono _ _ _ _ _ _ (by omega) (by omega) (by omega) QR
              have hz1 : d1.size = N := by rw [QR.1]; exact hN
              have T1 : Aside (SWK enc k w0 blk off d1 w1) := SR
              clear NR QR SR S1
              have UL := sym_l hS hU h1 h2 h3 h4 hm H1.out C1.out C2.out
              have hcon := CALL.out a i mid d1 w1 (by omega) hz1 T1.out UL (by omega) (by omega) (by omega)
              clear UL
              go_wp2_with fail
              refine hcon.mono ?_
              rintro ee w2 ⟨rfl, d2, SL, QL, NL⟩
              clear hcon
              have K2 : Hid (PermIn a mid d1 d2) := QL
              have Z2 : Hid (SortedIn (tlB (ltOf cf) tg) a mid d2) := NL
              have hz2 : d2.size = N := by rw [QL.1]; exact hz1
              have T2 : Aside (SWK enc k w0 blk off d2 w2) := SL
              clear NL QL SL T1
              have UR := sym_r hS hU h1 h2 h3 h4 hm H1.out C1.out C2.out K2.out
              have hcon := CALL.out mid e b d2 w2 (by omega) hz2 T2.out UR (by omega) (by omega) (by omega)
              clear UR
              go_wp2_with fail
              refine hcon.mono ?_
              rintro ee w3 ⟨rfl, d3, SQ, QQ, NQ⟩
              clear hcon
              have K3 : Hid (PermIn mid b d2 d3) := QQ
              have Z3 : Hid (SortedIn (tlB (ltOf cf) tg) mid b d3) := NQ
              have T3 : Aside (SWK enc k w0 blk off d3 w3) := SQ
              clear NQ QQ SQ T2
              go_wp2
              go_end0
              exact ⟨rfl, d3, T3.out, sym_fin hS hU h1 h2 h3 h4 hm (by omega) H1.out K1.out C1.out C2.out K2.out Z2.out K3.out Z3.out⟩
            · have z6 : ¬ (e : Int) < (b : Int) := by omega
              have hU := HU.out
              have hS := HS.out
              have hcon := ROT.out wr i m e S1.out (by omega) (by omega) (by omega)
              go_wp2_with fail
              refine hcon.mono ?_
              rintro ee w1 ⟨rfl, d1, SR, QR, NR⟩
              clear hcon
              have H1 : Hid (∀ x, d1[x]! = rotF (fun x => d[x]!) i m e x) := NR
              have K1 : Hid (PermIn a b d d1) := permIn_mono _ _ _ _ _ _ (by omega) (by omega) (by omega) QR
              have hz1 : d1.size = N := by rw [QR.1]; exact hN
              have T1 : Aside (SWK enc k w0 blk off d1 w1) := SR
              clear NR QR SR S1
              have UL := sym_l hS hU h1 h2 h3 h4 hm H1.out C1.out C2.out
              have hcon := CALL.out a i mid d1 w1 (by omega) hz1 T1.out UL (by omega) (by omega) (by omega)
              clear UL
              go_wp2_with fail
              refine hcon.mono ?_
              rintro ee w2 ⟨rfl, d2, SL, QL, NL⟩
              clear hcon
              have K2 : Hid (PermIn a mid d1 d2) := QL
              have Z2 : Hid (SortedIn (tlB (ltOf cf) tg) a mid d2) := NL
              have hz2 : d2.size = N := by rw [QL.1]; exact hz1
              have T2 : Aside (SWK enc k w0 blk off d2 w2) := SL
              clear NL QL SL T1
              have UR := sym_r hS hU h1 h2 h3 h4 hm H1.out C1.out C2.out K2.out
              have K3 : Hid (PermIn mid b d2 d2) := permIn_refl _ _ _
              have Z3 : Hid (SortedIn (tlB (ltOf cf) tg) mid b d2) := by have q : b = e := (by omega); rw [q]; exact UR.l
              clear UR
              go_wp2
              go_end0
              exact ⟨rfl, d2, T2.out, sym_fin hS hU h1 h2 h3 h4 hm (by omega) H1.out K1.out C1.out C2.out K2.out Z2.out K3.out Z3.out⟩
          · have z5 : ¬ (a : Int) < (i : Int) := by omega
            by_cases g4 : e < b
            · have z6 : (e : Int) < (b : Int) := by omega
              have hU := HU.out
              have hS := HS.out
              have hcon := ROT.out wr i m e S1.out (by omega) (by omega) (by omega)
              go_wp2_with fail
              refine hcon.mono ?_
              rintro ee w1 ⟨rfl, d1, SR, QR, NR⟩
              clear hcon
              have H1 : Hid (∀ x, d1[x]! = rotF (fun x => d[x]!) i m e x) := NR
              have K1 : Hid (PermIn a b d d1) := permIn_mono _ _ _ _ _ _ (by omega) (by omega) (by omega) QR
              have hz1 : d1.size = N := by rw [QR.1]; exact hN
              have T1 : Aside (SWK enc k w0 blk off d1 w1) := SR
              clear NR QR SR S1
              have UL := sym_l hS hU h1 h2 h3 h4 hm H1.out C1.out C2.out
              have K2 : Hid (PermIn a mid d1 d1) := permIn_refl _ _ _
              have Z2 : Hid (SortedIn (tlB (ltOf cf) tg) a mid d1) := by have q : i = a := (by omega); rw [← q]; exact UL.r
              have hz2 : d1.size = N := hz1
              clear UL
              have UR := sym_r hS hU h1 h2 h3 h4 hm H1.out C1.out C2.out K2.out
              have hcon := CALL.out mid e b d1 w1 (by omega) hz2 T1.out UR (by omega) (by omega) (by omega)
              clear UR
              go_wp2_with fail
              refine hcon.mono ?_
              rintro ee w3 ⟨rfl, d3, SQ, QQ, NQ⟩
              clear hcon
              have K3 : Hid (PermIn mid b d1 d3) := QQ
              have Z3 : Hid (SortedIn (tlB (ltOf cf) tg) mid b d3) := NQ
              have T3 : Aside (SWK enc k w0 blk off d3 w3) := SQ
              clear NQ QQ SQ T1
              go_wp2
              go_end0
              exact ⟨rfl, d3, T3.out, sym_fin hS hU h1 h2 h3 h4 hm (by omega) H1.out K1.out C1.out C2.out K2.out Z2.out K3.out Z3.out⟩
            · have z6 : ¬ (e : Int) < (b : Int) := by omega
              have hU := HU.out
              have hS := HS.out
              have hcon := ROT.out wr i m e S1.out (by omega) (by omega) (by omega)
              go_wp2_with fail
              refine hcon.mono ?_
              rintro ee w1 ⟨rfl, d1, SR, QR, NR⟩
              clear hcon
              have H1 : Hid (∀ x, d1[x]! = rotF (fun x => d[x]!) i m e x) := NR
              have K1 : Hid (PermIn a b d d1) := permIn_mono _ _ _ _ _ _ (by omega) (by omega) (by omega) QR
              have hz1 : d1.size = N := by rw [QR.1]; exact hN
              have T1 : Aside (SWK enc k w0 blk off d1 w1) := SR
              clear NR QR SR S1
              have UL := sym_l hS hU h1 h2 h3 h4 hm H1.out C1.out C2.out
              have K2 : Hid (PermIn a mid d1 d1) := permIn_refl _ _ _
              have Z2 : Hid (SortedIn (tlB (ltOf cf) tg) a mid d1) := by have q : i = a := (by omega); rw [← q]; exact UL.r
              have hz2 : d1.size = N := hz1
              clear UL
              have UR := sym_r hS hU h1 h2 h3 h4 hm H1.out C1.out C2.out K2.out
              have K3 : Hid (PermIn mid b d1 d1) := permIn_refl _ _ _
              have Z3 : Hid (SortedIn (tlB (ltOf cf) tg) mid b d1) := by have q : b = e := (by omega); rw [q]; exact UR.l
              clear UR
              go_wp2
              go_end0
              exact ⟨rfl, d1, T1.out, sym_fin hS hU h1 h2 h3 h4 hm (by omega) H1.out K1.out C1.out C2.out K2.out Z2.out K3.out Z3.out⟩
        · have z1 : (i : Int) < (m : Int) := by omega
          have z2 : ¬ (m : Int) < (e : Int) := by omega
          have z3 : ¬ (i : Int) < (mid : Int) := by omega
          have z4 : (mid : Int) < (e : Int) := by omega
          have z5 : (a : Int) < (i : Int) := by omega
          have z6 : (e : Int) < (b : Int) := by omega
          have hU := HU.out
          have hS := HS.out
          have H1 : Hid (∀ x, d[x]! = rotF (fun x => d[x]!) i m e x) := fun x => by rw [show e = m by omega]; exact (rot_none2 _ _ _ _).symm
          have K1 : Hid (PermIn a b d d) := permIn_refl _ _ _
          have hz1 : d.size = N := hN
          have UL := sym_l hS hU h1 h2 h3 h4 hm H1.out C1.out C2.out
          have K2 : Hid (PermIn a mid d d) := permIn_refl _ _ _
          have Z2 : Hid (SortedIn (tlB (ltOf cf) tg) a mid d) := by have q : mid = i := (by omega); rw [q]; exact UL.l
          have hz2 : d.size = N := hz1
          clear UL
          have UR := sym_r hS hU h1 h2 h3 h4 hm H1.out C1.out C2.out K2.out
          have hcon := CALL.out mid e b d wr (by omega) hz2 S1.out UR (by omega) (by omega) (by omega)
          clear UR
          go_wp2_with fail
          refine hcon.mono ?_
          rintro ee w3 ⟨rfl, d3, SQ, QQ, NQ⟩
          clear hcon
          have K3 : Hid (PermIn mid b d d3) := QQ
          have Z3 : Hid (SortedIn (tlB (ltOf cf) tg) mid b d3) := NQ
          have T3 : Aside (SWK enc k w0 blk off d3 w3) := SQ
          clear NQ QQ SQ S1
          go_wp2
          go_end0
          exact ⟨rfl, d3, T3.out, sym_fin hS hU h1 h2 h3 h4 hm (by omega) H1.out K1.out C1.out C2.out K2.out Z2.out K3.out Z3.out⟩
      · have z1 : ¬ (i : Int) < (m : Int) := by omega
        have z5 : (a : Int) < (i : Int) := by omega
        have z4 : ¬ (mid : Int) < (e : Int) := by omega
        by_cases g3 : i < mid
        · have z3 : (i : Int) < (mid : Int) := by omega
          have hU := HU.out
          have hS := HS.out
          have H1 : Hid (∀ x, d[x]! = rotF (fun x => d[x]!) i m e x) := fun x => by rw [show m = i by omega]; exact (rot_none1 _ _ _ _).symm
          have K1 : Hid (PermIn a b d d) := permIn_refl _ _ _
          have hz1 : d.size = N := hN
          have UL := sym_l hS hU h1 h2 h3 h4 hm H1.out C1.out C2.out
          have hcon := CALL.out a i mid d wr (by omega) hz1 S1.out UL (by omega) (by omega) (by omega)
          clear UL
          go_wp2_with fail
          refine hcon.mono ?_
          rintro ee w2 ⟨rfl, d2, SL, QL, NL⟩
          clear hcon
          have K2 : Hid (PermIn a mid d d2) := QL
          have Z2 : Hid (SortedIn (tlB (ltOf cf) tg) a mid d2) := NL
          have hz2 : d2.size = N := by rw [QL.1]; exact hz1
          have T2 : Aside (SWK enc k w0 blk off d2 w2) := SL
          clear NL QL SL S1
          have UR := sym_r hS hU h1 h2 h3 h4 hm H1.out C1.out C2.out K2.out
          have K3 : Hid (PermIn mid b d2 d2) := permIn_refl _ _ _
          have Z3 : Hid (SortedIn (tlB (ltOf cf) tg) mid b d2) := by have q : mid = e := (by omega); rw [q]; exact UR.r
          clear UR
          go_wp2
          go_end0
          exact ⟨rfl, d2, T2.out, sym_fin hS hU h1 h2 h3 h4 hm (by omega) H1.out K1.out C1.out C2.out K2.out Z2.out K3.out Z3.out⟩
        · have z3 : ¬ (i : Int) < (mid : Int) := by omega
          have hU := HU.out
          have hS := HS.out
          have H1 : Hid (∀ x, d[x]! = rotF (fun x => d[x]!) i m e x) := fun x => by rw [show m = i by omega]; exact (rot_none1 _ _ _ _).symm
          have K1 : Hid (PermIn a b d d) := permIn_refl _ _ _
          have hz1 : d.size = N := hN
          have UL := sym_l hS hU h1 h2 h3 h4 hm H1.out C1.out C2.out
          have K2 : Hid (PermIn a mid d d) := permIn_refl _ _ _
          have Z2 : Hid (SortedIn (tlB (ltOf cf) tg) a mid d) := by have q : mid = i := (by omega); rw [q]; exact UL.l
          have hz2 : d.size = N := hz1
          clear UL
          have UR := sym_r hS hU h1 h2 h3 h4 hm H1.out C1.out C2.out K2.out
          have K3 : Hid (PermIn mid b d d) := permIn_refl _ _ _
          have Z3 : Hid (SortedIn (tlB (ltOf cf) tg) mid b d) := by have q : mid = e := (by omega); rw [q]; exact UR.r
          clear UR
          go_wp2
          go_end0
          exact ⟨rfl, d, S1.out, sym_fin hS hU h1 h2 h3 h4 hm (by omega) H1.out K1.out C1.out C2.out K2.out Z2.out K3.out Z3.out⟩
/-- slices.symMergeCmpFunc: two sorted runs side by side become one. -/
theorem sym_c (L : StL P k) (enc : α → List Value) (cf : α → α → Int) (tg : α → Nat) (g : Nat) (cb : Array Value) (blk off cap N : Nat) (d0 : Array α) (w0 : World)
    (eg : ∀ args w, (callFunc g args).run P w = .ok (.enter g args) w) (hcmp : CmpLays P g cb enc k cf blk off N w0) (hS : SWO (ltOf cf)) (R : RowK enc k w0 blk off d0) (h0 : d0.size = N) (hsz : N < 1152921504606846976) :
    ∀ (n a m b : Nat) (d : Array α) (w : World), b - a ≤ n → d.size = N → SWK enc k w0 blk off d w → Runs (ltOf cf) tg a m b d → a < m → m < b → b ≤ N →
    Calls P 34 #[.slice (some ⟨blk, off, none⟩) N cap, .int .i64 a, .int .i64 m, .int .i64 b, .func (.func g) #[] cb] w fun e w' =>
      e = .returned (.tuple #[]) ∧ ∃ d', SWK enc k w0 blk off d' w' ∧ PermIn a b d d' ∧ SortedIn (tlB (ltOf cf) tg) a b d' := by
  intro n
  induction n with
  | zero => intro a m b d w hn _ _ _ h1 h2; omega
  | succ n ih =>
    intro a m b d w hn hN S U h1 h2 hb
    by_cases c1 : m = a + 1
    · exact sym_left L enc cf tg g cb blk off cap N a m b d0 d w0 w eg hcmp hS R h0 hN S U h1 h2 hb hsz c1
    · by_cases c2 : b = m + 1
      · exact sym_right L enc cf tg g cb blk off cap N a m b d0 d w0 w eg hcmp hS R h0 hN S U h2 hb hsz c2 (by omega)
      · by_cases c3 : (a + b) / 2 < m
        · exact sym_up L enc cf tg g cb blk off cap N a m b d0 d w0 w eg hcmp hS R h0 hN S U hb hsz (by omega) (by omega) c3 (fun x y z dk wr q1 q2 q3 q4 q5 q6 q7 => ih x y z dk wr (by omega) q2 q3 q4 q5 q6 q7)
        · exact sym_dn L enc cf tg g cb blk off cap N a m b d0 d w0 w eg hcmp hS R h0 hN S U hb hsz (by omega) (by omega) (by omega) (fun x y z dk wr q1 q2 q3 q4 q5 q6 q7 => ih x y z dk wr (by omega) q2 q3 q4 q5 q6 q7)
end Go.Proofs

namespace Go.Proofs.Hd
open Go.Sort
variable {α : Type} [Inhabited α] {lt : α → α → Bool} {tg : α → Nat}
theorem bl_ins {s a b N : Nat} {d : Array α} (hS : SWO lt) (h : Bl lt tg s 0 a d) (hs : s ∣ a) (hab : a < b) (hbs : b ≤ a + s) (hb : b ≤ N) (hN : d.size = N) (O : ∀ i, a ≤ i → i < N → tg d[i]! = i) :
    Bl lt tg s 0 b (insertionSort lt d a b) ∧ (∀ i, b ≤ i → i < N → tg (insertionSort lt d a b)[i]! = i) ∧ PermIn a b d (insertionSort lt d a b) := by
  obtain ⟨P, S⟩ := insertion_stable (tg := tg) hS d a b (by omega) (by omega) (fun i j q1 q2 q3 => by rw [O i q1 (by omega), O j (by omega) (by omega)]; exact q2)
  exact ⟨h.snoc hs hab hbs (by omega) P S (fun i q1 q2 => by rw [O i q1 (by omega)]; omega), fun i q1 q2 => by rw [P.2.1 i (.inr q1)]; exact O i (by omega) q2, P⟩
theorem bl_ins0 {s a N : Nat} {d : Array α} (hS : SWO lt) (h : Bl lt tg s 0 a d) (hs : s ∣ a) (hab : a ≤ N) (hbs : N ≤ a + s) (hN : d.size = N) (O : ∀ i, a ≤ i → i < N → tg d[i]! = i) :
    Bl lt tg s 0 N (insertionSort lt d a N) ∧ PermIn a N d (insertionSort lt d a N) := by
  rcases Nat.lt_or_ge a N with h1 | h1
  · obtain ⟨q1, _, q3⟩ := bl_ins hS h hs h1 hbs (Nat.le_refl _) hN O
    exact ⟨q1, q3⟩
  · obtain rfl : a = N := by omega
    obtain ⟨P, _⟩ := insertion_stable (tg := tg) hS d a a (Nat.le_refl _) (by omega) (fun i j q1 q2 q3 => by omega)
    have e : ∀ i, (insertionSort lt d a a)[i]! = d[i]! := fun i => P.2.1 i (by omega)
    refine ⟨fun c c1 c2 c3 => ?_, P⟩
    obtain ⟨q1, q2⟩ := h c c1 c2 c3
    exact ⟨fun i z1 z2 z3 => by rw [e]; exact q1 i z1 z2 z3, fun i j z1 z2 z3 => by rw [e, e]; exact q2 i j z1 z2 z3⟩
theorem dvd_two {s a b s2 : Nat} (h1 : s2 ≤ 2 * s) (h2 : 2 * s ≤ s2) (h : s2 ∣ a) (hb1 : b ≤ a + s2) (hb2 : a + s2 ≤ b) : s2 ∣ b ∧ s ∣ a := by
  obtain rfl : s2 = 2 * s := by omega
  obtain rfl : b = a + 2 * s := by omega
  exact ⟨(Nat.dvd_add_right h).2 (Nat.dvd_refl _), Nat.dvd_trans ⟨2, by omega⟩ h⟩
theorem perm0 {N a b : Nat} {d d1 d2 : Array α} (hN : d.size = N) (hb : b ≤ N) (P : PermIn 0 N d d1) (Q : PermIn a b d1 d2) : PermIn 0 N d d2 :=
  permIn_trans _ _ _ _ _ P (permIn_mono _ _ _ _ _ _ (Nat.zero_le _) hb (by rw [P.1]; omega) Q)
end Go.Proofs.Hd
namespace Go.Proofs
open Go.Shelf Go.RowKit Go.Lib Go.Sort Go.Proofs.Hd
variable {P : Program} {k : Nat} {α : Type} [Inhabited α]
theorem CmpLays.on {g : Nat} {cb : Array Value} {enc : α → List Value} {cf : α → α → Int} {blk off size : Nat} {w0 w : World} {d : Array α} (h : CmpLays P g cb enc k cf blk off size w0) (S : SWK enc k w0 blk off d w) (hblk : blk < w0.heap.size) (hs : d.size = size) : CmpLays P g cb enc k cf blk off size w := by
  intro m os dk hd x y
  obtain ⟨m', os', e⟩ := S.on hblk m dk os (by omega)
  rw [e]
  exact h m' os' dk hd x y
/-- slices.insertionSortCmpFunc, from a world of the sort's to a world of the sort's. -/
theorem ins_c (L : StL P k) (enc : α → List Value) (cf : α → α → Int) (hS : SWO (ltOf cf)) (g : Nat) (cb : Array Value) (blk off cap N a b : Nat) (d0 d : Array α) (w0 w : World)
    (eg : ∀ args w, (callFunc g args).run P w = .ok (.enter g args) w) (hcmp : CmpLays P g cb enc k cf blk off N w0) (R : RowK enc k w0 blk off d0) (h0 : d0.size = N) (hN : d.size = N) (S : SWK enc k w0 blk off d w) (hab : a ≤ b) (hb : b ≤ N) (hsz : N < 1152921504606846976) :
    Calls P 33 #[.slice (some ⟨blk, off, none⟩) N cap, .int .i64 a, .int .i64 b, .func (.func g) #[] cb] w fun e w' => e = .returned (.tuple #[]) ∧ SWK enc k w0 blk off (insertionSort (ltOf cf) d a b) w' := by
  have hH := S.holds R.hblk R.hH (by omega)
  have hcon := AnyQ.insertionSortCmpFunc L.ins k L.aE L.zE enc R.hk R.h1 cf g cb blk off cap a b d w eg (by rw [hN]; exact hcmp.on S R.hblk hN) hH (S.lt R.hblk) hab (by omega) (by omega)
  change Calls P 33 _ _ _ at hcon
  rw [hN] at hcon
  refine hcon.mono ?_
  rintro e w' ⟨rfl, n, os, rfl⟩
  exact ⟨rfl, S.on R.hblk n _ os (insertionSort_holds hS d a b hab (by omega)).1.1⟩
set_option maxHeartbeats 8000000 in
set_option maxRecDepth 1000000 in
theorem stable_c (L : StL P k) (enc : α → List Value) (cf : α → α → Int) (tg : α → Nat) (g : Nat) (cb : Array Value) (blk off cap N : Nat) (d : Array α) (w : World)
    (eg : ∀ args w, (callFunc g args).run P w = .ok (.enter g args) w) (hcmp : CmpLays P g cb enc k cf blk off N w) (hS : SWO (ltOf cf)) (R : RowK enc k w blk off d) (hN : d.size = N) (hsz : N < 1152921504606846976) (ht : ∀ i, i < N → tg d[i]! = i) :
    Calls P 27 #[.slice (some ⟨blk, off, none⟩) N cap, .int .i64 N, .func (.func g) #[] cb] w fun e w' =>
      e = .returned (.tuple #[]) ∧ ∃ d', SWK enc k w blk off d' w' ∧ PermIn 0 N d d' ∧ SortedIn (tlB (ltOf cf) tg) 0 N d' := by
  have mixed := L.mixed; have t0 := L.t0; have a0 := L.a0; have z0 := L.z0; have v0 := L.v0; have t3 := L.t3; have a3 := L.a3; have z3 := L.z3; have v3 := L.v3; have t4 := L.t4; have a4 := L.a4; have z4 := L.z4; have v4 := L.v4; have t22 := L.tS; have a22 := L.aS; have z22 := L.zS; have v22 := L.vS; have t25 := L.tC; have a25 := L.aC; have z25 := L.zC; have v25 := L.vC
  have FG := L.fStb
  have S0 : Aside (SWK enc k w blk off d w) := SWK.start R.hH
  have HS : Hid (SWO (ltOf cf)) := hS
  have INS : Aside (∀ (dk : Array α) (wr : World) (x y : Nat), dk.size = N → SWK enc k w blk off dk wr → x ≤ y → y ≤ N → Calls P 33 #[.slice (some ⟨blk, off, none⟩) N cap, .int .i64 x, .int .i64 y, .func (.func g) #[] cb] wr fun e w' => e = .returned (.tuple #[]) ∧ SWK enc k w blk off (insertionSort (ltOf cf) dk x y) w') :=
    fun dk wr x y q1 q2 q3 q4 => ins_c L enc cf hS g cb blk off cap N x y d dk w wr eg hcmp R hN q1 q2 q3 q4 hsz
  have SYM : Aside (∀ (x y z : Nat) (dk : Array α) (wr : World), dk.size = N → SWK enc k w blk off dk wr → Runs (ltOf cf) tg x y z dk → x < y → y < z → z ≤ N → Calls P 34 #[.slice (some ⟨blk, off, none⟩) N cap, .int .i64 x, .int .i64 y, .int .i64 z, .func (.func g) #[] cb] wr fun e w' =>
      e = .returned (.tuple #[]) ∧ ∃ d', SWK enc k w blk off d' w' ∧ PermIn x z dk d' ∧ SortedIn (tlB (ltOf cf) tg) x z d') :=
    fun x y z dk wr q1 q2 q3 q4 q5 q6 => sym_c L enc cf tg g cb blk off cap N d w eg hcmp hS R hN hsz (z - x) x y z dk wr (Nat.le_refl _) q1 q2 q3 q4 q5 q6
  have eS : ∀ args w, (callFunc 34 args).run P w = .ok (.enter 34 args) w := enters_of L.fSym (by kernel_rfl) rfl
  have eI : ∀ args w, (callFunc 33 args).run P w = .ok (.enter 33 args) w := by
    obtain ⟨nm, hnm, hf⟩ := L.ins.f20
    exact enters_of hf (by exact hnm) rfl
  have Q0 : Hid (PermIn 0 N d d) := permIn_refl _ _ _
  have B0 : Hid (Bl (ltOf cf) tg 20 0 0 d) := Bl.none _ _ _ _ _
  have O0 : Hid (∀ i, 0 ≤ i → i < N → tg d[i]! = i) := fun i _ h => ht i h
  have V0 : Hid (20 ∣ 0) := Nat.dvd_zero 20
  clear L hcmp hS ht
  go_enter FG, Try.ntmps27
  go_wp2
  go_loopg [7, 8] N (fun kx s7 s8 wr => ∃ (a b : Nat) (dk : Array α), s7 = .int .i64 a ∧ s8 = .int .i64 b ∧ b ≤ a + 20 ∧ a + 20 ≤ b ∧ a ≤ N ∧ N - a ≤ kx ∧ dk.size = N ∧ Aside (SWK enc k w blk off dk wr) ∧ Hid (PermIn 0 N d dk) ∧ Hid (Bl (ltOf cf) tg 20 0 a dk) ∧ Hid (∀ i, a ≤ i → i < N → tg dk[i]! = i) ∧ Hid (20 ∣ a))
  case atStart => exact ⟨0, 20, d, by first | rfl | go_num, by first | rfl | go_num, by omega, by omega, Nat.zero_le _, by omega, hN, S0, Q0, B0, O0, V0⟩
  case round =>
    clear S0 Q0 B0 O0 V0
    obtain ⟨a, b, dk, rfl, rfl, hb1, hb2, haN, hkx, hds, S1, Q1, B1, O1, V1⟩ := hrel
    by_cases hbN : b ≤ N
    · have hbz : (b : Int) ≤ (N : Int) := by omega
      have rb : IntKind.i64.wrap ((b : Int) + 20) = ((b + 20 : Nat) : Int) := by rw [IntKind.wrap_i64]; omega
      have hcon := INS.out dk wr a b hds S1.out (by omega) hbN
      go_wp2_with (go_at_call 33; refine hcon.mono ?_; rintro e w' ⟨rfl, S2⟩)
      obtain ⟨q1, q2, q3⟩ := bl_ins HS.out B1.out V1.out (by omega) hb1 hbN hds O1.out
      go_roundg (N - b)
      case measure => omega
      case rel =>
        refine ⟨b, b + 20, insertionSort (ltOf cf) dk a b, rfl, by first | rfl | go_num | (congr 1; omega), Nat.le_refl _, Nat.le_refl _, hbN, Nat.le_refl _, by rw [q3.1]; exact hds, S2, perm0 hN hbN Q1.out q3, q1, q2, (show 20 ∣ b from ?_)⟩
        rw [show b = a + 20 by omega]
        exact (Nat.dvd_add_right V1.out).2 (Nat.dvd_refl _)
    · have hbz : ¬ (b : Int) ≤ (N : Int) := by omega
      have hcon := INS.out dk wr a N hds S1.out haN (Nat.le_refl _)
      obtain ⟨q1, q3⟩ := bl_ins0 HS.out B1.out V1.out haN (by omega) hds O1.out
      have Q2 : Hid (PermIn 0 N d (insertionSort (ltOf cf) dk a N)) := perm0 hN (Nat.le_refl _) Q1.out q3
      have hz2 : (insertionSort (ltOf cf) dk a N).size = N := by rw [q3.1]; exact hds
      have B2 : Hid (Bl (ltOf cf) tg 20 0 N (insertionSort (ltOf cf) dk a N)) := q1
      clear q1 q3 Q1 B1 O1 V1 S1 hds
      generalize insertionSort (ltOf cf) dk a N = d1 at hcon Q2 B2 hz2
      go_wp2_with (go_at_call 33; refine hcon.mono ?_; rintro e w' ⟨rfl, S2⟩)
      have S3 : Aside (SWK enc k w blk off d1 w') := S2
      clear S2 hcon
      go_loopg [6, 7, 8, 9] N (fun kx s6 _ _ _ wr => ∃ (s : Nat) (dk : Array α), s6 = .int .i64 s ∧ 0 < s ∧ s ≤ 2 * N + 20 ∧ N - s ≤ kx ∧ dk.size = N ∧ Aside (SWK enc k w blk off dk wr) ∧ Hid (PermIn 0 N d dk) ∧ Hid (Bl (ltOf cf) tg s 0 N dk))
      case atStart => exact ⟨20, d1, by first | rfl | go_num, by omega, by omega, by omega, hz2, S3, Q2, B2⟩
      case round =>
        clear S3 Q2 B2 hz2
        obtain ⟨s, dj, rfl, hs0, hs1, hkx2, hdj, S4, Q4, B4⟩ := hrel
        by_cases hsN : s < N
        · have hsz1 : (s : Int) < (N : Int) := by omega
          obtain ⟨s2, h21, h22⟩ : ∃ s2, s2 ≤ 2 * s ∧ 2 * s ≤ s2 := ⟨2 * s, Nat.le_refl _, Nat.le_refl _⟩
          have r1 : IntKind.i64.wrap (2 * (s : Int)) = (s2 : Int) := by rw [IntKind.wrap_i64]; omega
          have r1' : 2 * (s : Int) = (s2 : Int) := by omega
          have r2 : IntKind.i64.wrap ((s : Int) * 2) = (s2 : Int) := by rw [IntKind.wrap_i64]; omega
          have r2' : (s : Int) * 2 = (s2 : Int) := by omega
          have T4 : Hid (Bl (ltOf cf) tg s2 0 0 dj) := Bl.none _ _ _ _ _
          have V4 : Hid (s2 ∣ 0) := Nat.dvd_zero _
          go_wp2
          go_loopg [7, 8] N (fun kx s7 s8 wr => ∃ (x y : Nat) (dk : Array α), s7 = .int .i64 x ∧ s8 = .int .i64 y ∧ y ≤ x + s2 ∧ x + s2 ≤ y ∧ x ≤ N ∧ N - x ≤ kx ∧ dk.size = N ∧ Aside (SWK enc k w blk off dk wr) ∧ Hid (PermIn 0 N d dk) ∧ Hid (Bl (ltOf cf) tg s2 0 x dk) ∧ Hid (Bl (ltOf cf) tg s x N dk) ∧ Hid (s2 ∣ x))
          case atStart => exact ⟨0, s2, dj, by first | rfl | go_num, by first | rfl | go_num, by omega, by omega, Nat.zero_le _, by omega, hdj, S4, Q4, T4, B4, V4⟩
          case round =>
            clear S4 Q4 B4 T4 V4 hdj
            obtain ⟨x, y, dk, rfl, rfl, hy1, hy2, hxN, hkx3, hdk, S5, Q5, T5, B5, V5⟩ := hrel
            obtain ⟨u, hu1, hu2⟩ : ∃ u, u ≤ x + s ∧ x + s ≤ u := ⟨x + s, Nat.le_refl _, Nat.le_refl _⟩
            have r3 : IntKind.i64.wrap ((x : Int) + (s : Int)) = (u : Int) := by rw [IntKind.wrap_i64]; omega
            have r3' : (x : Int) + (s : Int) = (u : Int) := by omega
            obtain ⟨v1, v2⟩ := dvd_two h21 h22 V5.out hy1 hy2
            have V6 := (show Hid _ from v1)
            have V7 := (show Hid _ from v2)
            clear v1 v2
            by_cases hyN : y ≤ N
            · have hyz : (y : Int) ≤ (N : Int) := by omega
              obtain ⟨y2, hy21, hy22⟩ : ∃ u, u ≤ y + s2 ∧ y + s2 ≤ u := ⟨y + s2, Nat.le_refl _, Nat.le_refl _⟩
              have r4 : IntKind.i64.wrap ((y : Int) + (s2 : Int)) = (y2 : Int) := by rw [IntKind.wrap_i64]; omega
              have r4' : (y : Int) + (s2 : Int) = (y2 : Int) := by omega
              obtain ⟨U, TT⟩ := B5.out.two V7.out (b := y) (by omega) (by omega) hyN
              rw [show x + s = u by omega] at U
              have hcon := SYM.out x u y dk wr hdk S5.out U (by omega) (by omega) hyN
              clear U
              go_wp2_with (go_at_call 34; refine hcon.mono ?_; rintro e w' ⟨rfl, d', S6, Q6, Z6⟩)
              go_roundg (N - y)
              case measure => omega
              case rel =>
                exact ⟨y, y2, d', rfl, by first | rfl | go_num | (congr 1; omega), hy21, hy22, hyN, Nat.le_refl _, by rw [Q6.1]; exact hdk, S6, perm0 hN hyN Q5.out Q6,
                  T5.out.snoc V5.out (by omega) hy1 (by omega) Q6 Z6 (fun i q1 q2 => by have := TT i q1 q2; omega), B5.out.rest (by omega) Q6, V6.out⟩
            · have hyz : ¬ (y : Int) ≤ (N : Int) := by omega
              by_cases huN : u < N
              · have huz : (u : Int) < (N : Int) := by omega
                obtain ⟨U, TT⟩ := B5.out.two V7.out (b := N) (by omega) (by omega) (Nat.le_refl _)
                rw [show x + s = u by omega] at U
                have hcon := SYM.out x u N dk wr hdk S5.out U (by omega) huN (Nat.le_refl _)
                clear U
                go_wp2_with (go_at_call 34; refine hcon.mono ?_; rintro e w' ⟨rfl, d', S6, Q6, Z6⟩)
                go_roundg (N - s2)
                case measure => omega
                case rel =>
                  exact ⟨s2, d', by first | rfl | go_num | (congr 1; omega), by omega, by omega, Nat.le_refl _, by rw [Q6.1]; exact hdk, S6, perm0 hN (Nat.le_refl _) Q5.out Q6,
                    T5.out.snoc V5.out (by omega) (by omega) (by omega) Q6 Z6 (fun i q1 q2 => by have := TT i q1 q2; omega)⟩
              · have huz : ¬ (u : Int) < (N : Int) := by omega
                have LAST : Hid (Bl (ltOf cf) tg s2 0 N dk) := by
                  rcases Nat.lt_or_ge x N with hx | hx
                  · obtain ⟨z1, z2⟩ := B5.out.last V7.out hx (by omega)
                    exact T5.out.snoc V5.out hx (by omega) (by omega) (permIn_refl _ _ _) z1 (fun i q1 q2 => by have := z2 i q1 q2; omega)
                  · rw [show N = x by omega]; exact T5
                go_wp2
                go_roundg (N - s2)
                case measure => omega
                case rel =>
                  exact ⟨s2, dk, by first | rfl | go_num | (congr 1; omega), by omega, by omega, Nat.le_refl _, hdk, S5, Q5, LAST⟩
        · have hsz1 : ¬ (s : Int) < (N : Int) := by omega
          go_wp2
          go_end0
          exact ⟨rfl, dj, S4.out, Q4.out, B4.out.all (by omega)⟩
set_option maxHeartbeats 4000000 in
/-- slices.SortStableFunc: the row is sorted, and equals keep their order. -/
theorem sortStable_c (L : StL P k) (enc : α → List Value) (cf : α → α → Int) (tg : α → Nat) (g : Nat) (cb : Array Value) (blk off cap N : Nat) (d : Array α) (w : World)
    (eg : ∀ args w, (callFunc g args).run P w = .ok (.enter g args) w) (hcmp : CmpLays P g cb enc k cf blk off N w) (hS : SWO (ltOf cf)) (R : RowK enc k w blk off d) (hN : d.size = N) (hsz : N < 1152921504606846976) (ht : ∀ i, i < N → tg d[i]! = i) :
    Calls P 20 #[.slice (some ⟨blk, off, none⟩) N cap, .func (.func g) #[] cb] w fun e w' =>
      e = .returned (.tuple #[]) ∧ ∃ d', SWK enc k w blk off d' w' ∧ PermIn 0 N d d' ∧ SortedIn (tlB (ltOf cf) tg) 0 N d' := by
  have mixed := L.mixed; have t0 := L.t0; have a0 := L.a0; have z0 := L.z0; have v0 := L.v0; have t3 := L.t3; have a3 := L.a3; have z3 := L.z3; have v3 := L.v3; have t22 := L.tS; have a22 := L.aS; have z22 := L.zS; have v22 := L.vS; have t25 := L.tC; have a25 := L.aC; have z25 := L.zC; have v25 := L.vC
  have FG := L.fTop
  have hcon := stable_c L enc cf tg g cb blk off cap N d w eg hcmp hS R hN hsz ht
  have eS : ∀ args w, (callFunc 27 args).run P w = .ok (.enter 27 args) w := enters_of L.fStb (by kernel_rfl) rfl
  have hl : (N : Int) ≤ 9223372036854775807 := by omega
  clear L hcmp hS ht
  go_enter FG, Try.ntmps20
  go_wp2_with (go_at_call 27; refine hcon.mono ?_; rintro e w' ⟨rfl, h⟩)
  go_end0
  exact ⟨rfl, h⟩
end Go.Proofs

namespace Go.Proofs.Hd
open Go.RowKit Go.Sort
/-- Number i stands ahead of number j, or is it. -/
def leI (L : List Rl) (i j : Nat) : Bool := decide (L[j]!.pri < L[i]!.pri ∨ (L[i]!.pri = L[j]!.pri ∧ i ≤ j))
theorem leI_trans (L : List Rl) (a b c : Nat) (h1 : leI L a b = true) (h2 : leI L b c = true) : leI L a c = true := by
  unfold leI at *
  rw [decide_eq_true_eq] at *
  omega
theorem leI_total (L : List Rl) (a b : Nat) : (leI L a b || leI L b a) = true := by
  unfold leI
  rw [Bool.or_eq_true, decide_eq_true_eq, decide_eq_true_eq]
  omega
theorem leI_anti (L : List Rl) (a b : Nat) (h1 : leI L a b = true) (h2 : leI L b a = true) : a = b := by
  unfold leI at *
  rw [decide_eq_true_eq] at *
  omega
/-- The places of rules as they are looked at. -/
def ordI (L : List Rl) : List Nat := (List.range L.length).mergeSort (leI L)
theorem ordI_perm (L : List Rl) : (ordI L).Perm (List.range L.length) := List.mergeSort_perm _ _
theorem ordI_sorted (L : List Rl) : (ordI L).Pairwise (fun a b => leI L a b = true) := List.pairwise_mergeSort (leI_trans L) (leI_total L) _
theorem ordI_unique {L : List Rl} {ks : List Nat} (hp : ks.Perm (List.range L.length)) (hs : ks.Pairwise (fun a b => leI L a b = true)) : ks = ordI L :=
  List.Perm.eq_of_pairwise (le := fun a b => leI L a b = true) (fun a b _ _ h1 h2 => leI_anti L a b h1 h2) hs (ordI_sorted L) (hp.trans (ordI_perm L).symm)
theorem ordI_len (L : List Rl) : (ordI L).length = L.length := by rw [(ordI_perm L).length_eq, List.length_range]
theorem ordI_lt {L : List Rl} {k : Nat} (h : k ∈ ordI L) : k < L.length := by simpa using (ordI_perm L).mem_iff.1 h
/-- Rules as they are looked at. -/
def srt (L : List Rl) : List Rl := (ordI L).map fun k => L[k]!
theorem srt_len (L : List Rl) : (srt L).length = L.length := by unfold srt; rw [List.length_map, ordI_len]
theorem range_map (L : List Rl) : (List.range L.length).map (fun k => L[k]!) = L := by
  apply List.ext_getElem (by simp)
  intro i h1 h2
  simp [h2]
theorem srt_perm (L : List Rl) : (srt L).Perm L := by
  have h := (ordI_perm L).map (fun k => L[k]!)
  rw [range_map] at h
  exact h
theorem srt_at {L : List Rl} {i k : Nat} (h : (ordI L)[i]? = some k) : (srt L)[i]? = some L[k]! := by unfold srt; rw [List.getElem?_map, h]; rfl
theorem srt_dec (L : List Rl) : (srt L).Pairwise (fun a b => b.pri ≤ a.pri) := by
  unfold srt
  rw [List.pairwise_map]
  refine (ordI_sorted L).imp ?_
  intro a b h
  unfold leI at h
  rw [decide_eq_true_eq] at h
  omega
/-- What is in order stays as it is. -/
theorem srt_of_dec {L : List Rl} (h : L.Pairwise (fun a b => b.pri ≤ a.pri)) : srt L = L := by
  have e : List.range L.length = ordI L := by
    refine ordI_unique (List.Perm.refl _) ?_
    rw [List.pairwise_iff_getElem] at h ⊢
    intro i j hi hj hij
    simp only [List.length_range] at hi hj
    have := h i j hi hj hij
    simp only [List.getElem_range]
    unfold leI
    rw [decide_eq_true_eq, getElem!_pos L i hi, getElem!_pos L j hj]
    omega
  unfold srt
  rw [← e, range_map]
theorem srt_twice (L : List Rl) : srt (srt L) = srt L := srt_of_dec (srt_dec L)

/-! ### with places as tags -/
def encT (p : Rl × Nat) : List Value := p.1.cs
def cfT (x y : Rl × Nat) : Int := icmp y.1.pri x.1.pri
theorem ltT (x y : Rl × Nat) : ltOf cfT x y = decide (y.1.pri < x.1.pri) := by
  unfold ltOf cfT icmp
  by_cases h1 : y.1.pri < x.1.pri
  · simp [h1]
  · by_cases h2 : x.1.pri < y.1.pri <;> simp [h1, h2]
theorem swoT : SWO (ltOf cfT) where
  irrefl x := by rw [ltT]; simp
  trans x y z h1 h2 := by rw [ltT, decide_eq_true_eq] at *; omega
  ntrans x y z h1 h2 := by rw [ltT, decide_eq_false_iff_not] at *; omega
/-- The rules of a list with their places. -/
def tagged (L : List Rl) : Array (Rl × Nat) := L.zipIdx.toArray
theorem tagged_size (L : List Rl) : (tagged L).size = L.length := by simp [tagged]
theorem tagged_get (L : List Rl) (i : Nat) (h : i < L.length) : (tagged L)[i]! = (L[i]!, i) := by
  rw [getElem!_pos (tagged L) i (by rw [tagged_size]; exact h), getElem!_pos L i h]
  simp [tagged]
theorem tagged_sorted {L : List Rl} {d : Array (Rl × Nat)} (P : PermIn 0 L.length (tagged L) d) (S : SortedIn (tlB (ltOf cfT) Prod.snd) 0 L.length d) : d.toList.map Prod.fst = srt L := by
  have hz : d.size = L.length := by rw [P.1, tagged_size]
  have hp : d.toList.Perm (tagged L).toList := by
    have h := P.2.2
    rwa [show d.extract 0 L.length = d by rw [← hz]; simp, show (tagged L).extract 0 L.length = tagged L by rw [← tagged_size]; simp] at h
  have hk : d.toList.map Prod.snd = ordI L := by
    refine ordI_unique ?_ ?_
    · refine (hp.map Prod.snd).trans ?_
      rw [show (tagged L).toList.map Prod.snd = List.range L.length by simp [tagged, List.range_eq_range']]
    · rw [List.pairwise_map, List.pairwise_iff_getElem]
      intro i j hi hj hij
      have hi' : i < d.size := by simpa using hi
      have hj' : j < d.size := by simpa using hj
      have hs := S i j (Nat.zero_le _) hij (by omega)
      have M := permIn_all (tagged L) d 0 L.length (fun x => x.2 < L.length ∧ x.1 = L[x.2]!) (by rw [tagged_size]; exact Nat.le_refl _) P (fun q _ hq => by rw [tagged_get L q hq]; exact ⟨hq, rfl⟩)
      have mi := M i (Nat.zero_le _) (by omega)
      have mj := M j (Nat.zero_le _) (by omega)
      rw [tlB_false, ltT, ltT, decide_eq_false_iff_not, decide_eq_true_eq, mi.2, mj.2] at hs
      rw [getElem!_pos d i hi', getElem!_pos d j hj'] at hs
      simp only [Array.getElem_toList]
      unfold leI
      rw [decide_eq_true_eq]
      omega
  unfold srt
  rw [← hk, List.map_map]
  apply List.ext_getElem (by simp)
  intro i h1 h2
  have hi : i < d.size := by simpa using h1
  have M := permIn_all (tagged L) d 0 L.length (fun x => x.1 = L[x.2]!) (by rw [tagged_size]; exact Nat.le_refl _) P (fun q _ hq => by rw [tagged_get L q hq]) i (Nat.zero_le _) (by omega)
  rw [getElem!_pos d i hi] at M
  simpa using M

/-! ### memory -/
/-- The cells of rules, one behind the other. -/
def flatR (L : List Rl) : List Value := L.flatMap Rl.cs
theorem flatR_len (L : List Rl) : (flatR L).length = L.length * 12 := by
  unfold flatR
  induction L with
  | nil => rfl
  | cons r L ih => rw [List.flatMap_cons, List.length_append, ih, Rl.cs_len, List.length_cons]; omega
theorem flatR_snoc (L : List Rl) (r : Rl) : flatR (L ++ [r]) = flatR L ++ r.cs := by simp [flatR]
theorem flatR_get {L : List Rl} {i j : Nat} {r : Rl} (h : L[i]? = some r) (hj : j < 12) : (flatR L)[i * 12 + j]? = r.cs[j]? := by
  unfold flatR
  induction L generalizing i with
  | nil => simp at h
  | cons c L ih =>
    rw [List.flatMap_cons]
    cases i with
    | zero =>
      simp only [List.getElem?_cons_zero, Option.some.injEq] at h
      subst h
      rw [List.getElem?_append_left (by rw [Rl.cs_len]; omega)]
      simp
    | succ i =>
      rw [List.getElem?_cons_succ] at h
      rw [List.getElem?_append_right (by rw [Rl.cs_len]; omega), Rl.cs_len]
      rw [show (i + 1) * 12 + j - 12 = i * 12 + j by omega]
      exact ih h
/-- The twelve cells of a rule lie in block b from place o on. -/
def AtR (w : World) (b o : Nat) (r : Rl) : Prop := ∀ (j : Nat) (v : Value), r.cs[j]? = some v → w.cell? ⟨b, o + j, none⟩ = some v
theorem AtR.on {w w' : World} {b o : Nat} {r : Rl} (h : AtR w b o r) (hb : Below w.heap.size w w') : AtR w' b o r := fun j v hv => on_some hb (h j v hv)
theorem AtR.out {w : World} {b o : Nat} {r : Rl} (h : AtR w b o r) : w.cell? ⟨b, o, none⟩ = some (.int .i64 r.pri) ∧ w.cell? ⟨b, o + 1, none⟩ = some (.int .u64 (uv r.m.vh)) ∧ w.cell? ⟨b, o + 2, none⟩ = some (.int .u64 (uv r.m.vl)) ∧ w.cell? ⟨b, o + 3, none⟩ = some (.int .u64 (uv r.m.ch)) ∧ w.cell? ⟨b, o + 4, none⟩ = some (.int .u64 (uv r.m.cl)) ∧
    w.cell? ⟨b, o + 5, none⟩ = some (.int .i64 r.kind) ∧ w.cell? ⟨b, o + 6, none⟩ = some (.int .i64 r.port) ∧ w.cell? ⟨b, o + 7, none⟩ = some (.int .i64 r.tab) ∧ w.cell? ⟨b, o + 8, none⟩ = some (.int .u64 (uv r.s.vh)) ∧ w.cell? ⟨b, o + 9, none⟩ = some (.int .u64 (uv r.s.vl)) ∧ w.cell? ⟨b, o + 10, none⟩ = some (.int .u64 (uv r.s.ch)) ∧ w.cell? ⟨b, o + 11, none⟩ = some (.int .u64 (uv r.s.cl)) :=
  ⟨h 0 _ rfl, h 1 _ rfl, h 2 _ rfl, h 3 _ rfl, h 4 _ rfl, h 5 _ rfl, h 6 _ rfl, h 7 _ rfl, h 8 _ rfl, h 9 _ rfl, h 10 _ rfl, h 11 _ rfl⟩
/-- v is a slice that reads as the rules L. -/
def Ru (w : World) (v : Value) (L : List Rl) : Prop := (L = [] ∧ ∃ A cap, v = .slice A 0 cap) ∨ ∃ b off cap, v = .slice (some ⟨b, off, none⟩) L.length cap ∧ b < w.heap.size ∧ ∀ k r, L[k]? = some r → AtR w b (off + k * 12) r
theorem Ru.on {w w' : World} {v : Value} {L : List Rl} (h : Ru w v L) (hb : Below w.heap.size w w') : Ru w' v L := by
  rcases h with h | ⟨b, off, cap, e, hs, h⟩
  · exact .inl h
  · exact .inr ⟨b, off, cap, e, Nat.lt_of_lt_of_le hs hb.size, fun k c hk => (h k c hk).on hb⟩
theorem Ru.form {w : World} {v : Value} {L : List Rl} (h : Ru w v L) : ∃ A cap, v = .slice A L.length cap ∧ (L ≠ [] → ∃ b off, A = some ⟨b, off, none⟩ ∧ b < w.heap.size ∧ ∀ k r, L[k]? = some r → AtR w b (off + k * 12) r) := by
  rcases h with ⟨rfl, A, cap, rfl⟩ | ⟨b, off, cap, rfl, hb, h⟩
  · exact ⟨A, cap, rfl, fun h => absurd rfl h⟩
  · exact ⟨_, cap, rfl, fun _ => ⟨b, off, rfl, hb, h⟩⟩
theorem own_Ru {w : World} {base : Nat} {t : TypeId} {v : Value} {L : List Rl} (h : w.ownsRow base t 12 v L.length (flatR L)) : Ru w v L := by
  rcases h.2 with ⟨rfl, hn⟩ | ⟨g, cap, cur, rfl, hb, hg, _⟩
  · exact .inl ⟨List.eq_nil_of_length_eq_zero hn, _, _, rfl⟩
  · refine .inr ⟨g, 0, cap, rfl, (Array.getElem?_eq_some_iff.1 hg).1, fun k r hk j v hv => ?_⟩
    have hkl : k < L.length := (List.getElem?_eq_some_iff.1 hk).1
    have hj : j < 12 := by have := (List.getElem?_eq_some_iff.1 hv).1; rwa [Rl.cs_len] at this
    rw [show 0 + k * 12 + j = k * 12 + j by omega, h.cellAt (k * 12 + j) (by omega), flatR_get hk hj, hv]
theorem own_holds {w : World} {base : Nat} {t : TypeId} {L : List Rl} {g cap : Nat} (h : w.ownsRow base t 12 (.slice (some ⟨g, 0, none⟩) L.length cap) L.length (flatR L)) : HoldsK encT 12 w g 0 (tagged L) := by
  intro j hj
  rw [size_flatK, tagged_size] at hj
  rw [get_flatK _ _ _ _ (by rw [tagged_size]; exact hj)]
  constructor
  · have hq : j / 12 < L.length := by omega
    have hd := Nat.div_add_mod j 12
    rw [tagged_get L _ hq, show 0 + j = j / 12 * 12 + j % 12 by omega]
    have := h.cellAt (j / 12 * 12 + j % 12) (by omega)
    have hg := flatR_get (i := j / 12) (j := j % 12) (r := L[j / 12]!) (by rw [getElem!_pos L _ hq]; exact List.getElem?_eq_getElem hq) (Nat.mod_lt _ (by omega))
    rw [hg] at this
    refine this.trans ?_
    show L[j / 12]!.cs[j % 12]? = some (L[j / 12]!.cs[j % 12]!)
    rw [getElem!_pos _ (j % 12) (by rw [Rl.cs_len]; exact Nat.mod_lt _ (by omega))]
    exact List.getElem?_eq_getElem _
  · exact h.frozenAt _
end Go.Proofs.Hd

namespace Go.Proofs
open Go.RowKit Go.Proofs.Hd
attribute [local go_sem] uv_and uv_or uv_xor uv_andNot uv_shr uv_shl uv_add uv_sub uv_nonneg
attribute [local go_sem high] run_eq2 run_eq4
end Go.Proofs

namespace Go.Proofs
open Go.RowKit Go.Proofs.Hd
attribute [local go_sem] uv_and uv_or uv_xor uv_andNot uv_shr uv_shl uv_add uv_sub uv_nonneg
attribute [local go_sem high] run_eq2 run_eq4

theorem sound_is (b : Bool) (avh avl ach acl : BitVec 64) (w : World) (h : sndB avh avl ach acl = b) : Calls Try.prog 17 #[.agg #[.int .u64 (uv avh), .int .u64 (uv avl), .int .u64 (uv ach), .int .u64 (uv acl)]] w fun e w' => e = .returned (.bool b) ∧ Below w.heap.size w w' := by
  subst h; exact sound_c _ _ _ _ _

end Go.Proofs

namespace Go.Proofs
open Go.RowKit Go.Proofs.Hd
def sel (c : Bool) (x : BitVec 64) : BitVec 64 := if c = true then x else 0#64
theorem sel_t (x : BitVec 64) : sel true x = x := rfl
theorem sel_f (x : BitVec 64) : uv (sel false x) = 0 := rfl
/-- Is the intersection not empty? -/
def metB (avh avl ach acl bvh bvl bch bcl : BitVec 64) : Bool := sndB avh avl ach acl && (sndB bvh bvl bch bcl && agrB avh avl ach acl bvh bvl bch bcl)
/-- Does the first care for all bits that the second cares for? -/
def inB (ach acl bch bcl : BitVec 64) : Bool := (ach &&& bch == bch) && (acl &&& bcl == bcl)
def witB (avh avl ach acl bvh bvl bch bcl : BitVec 64) : Bool := sndB avh avl ach acl && (sndB bvh bvl bch bcl && (inB ach acl bch bcl && agrB avh avl ach acl bvh bvl bch bcl))
def befB (avh avl ach acl bvh bvl bch bcl : BitVec 64) : Bool := sndB avh avl ach acl && agrB avh avl ach acl bvh bvl bch bcl
theorem in_eq (ach acl bch bcl : BitVec 64) : eq2 (uv (ach &&& bch)) (uv (acl &&& bcl)) (uv bch) (uv bcl) = inB ach acl bch bcl := eq2_uv _ _ _ _

theorem pair_bits (a b c d : BitVec 64) : ((a == c) && (b == d)) = true ↔ ∀ j, j < 128 → hbit a b j = hbit c d j := by
  simp only [Bool.and_eq_true, beq_iff_eq]
  constructor
  · rintro ⟨rfl, rfl⟩ j _; rfl
  · exact fun h => head_ext h
theorem snd_bits (avh avl ach acl : BitVec 64) : sndB avh avl ach acl = true ↔ ∀ j, j < 128 → hbit avh avl j = true → hbit ach acl j = true := by
  unfold sndB
  rw [pair_bits]
  constructor
  · intro h j hj hv; have := h j hj; rw [hbit_and, hv] at this; simpa using this
  · intro h j hj; rw [hbit_and]; cases hv : hbit avh avl j with
    | false => rfl
    | true => rw [h j hj hv]; rfl
theorem has_bits (avh avl ach acl hh hl : BitVec 64) : hasB avh avl ach acl hh hl = true ↔ ∀ j, j < 128 → (hbit hh hl j && hbit ach acl j) = hbit avh avl j := by
  unfold hasB
  rw [pair_bits]
  exact ⟨fun h j hj => by rw [← hbit_and]; exact h j hj, fun h j hj => by rw [hbit_and]; exact h j hj⟩
theorem agr_bits (avh avl ach acl bvh bvl bch bcl : BitVec 64) : agrB avh avl ach acl bvh bvl bch bcl = true ↔ ∀ j, j < 128 → hbit ach acl j = true → hbit bch bcl j = true → hbit avh avl j = hbit bvh bvl j := by
  unfold agrB
  rw [pair_bits]
  constructor
  · intro h j hj h1 h2; have := h j hj; simp only [hbit_and, h1, h2, Bool.and_true] at this; exact this
  · intro h j hj; simp only [hbit_and]
    cases h1 : hbit ach acl j <;> cases h2 : hbit bch bcl j <;> simp
    exact h j hj h1 h2
theorem in_bits (ach acl bch bcl : BitVec 64) : inB ach acl bch bcl = true ↔ ∀ j, j < 128 → hbit bch bcl j = true → hbit ach acl j = true := by
  unfold inB
  rw [pair_bits]
  constructor
  · intro h j hj h1; have := h j hj; rw [hbit_and, h1] at this; simpa using this
  · intro h j hj; rw [hbit_and]; cases h1 : hbit bch bcl j with
    | false => simp
    | true => rw [h j hj h1]; rfl
theorem agr_comm (avh avl ach acl bvh bvl bch bcl : BitVec 64) : agrB bvh bvl bch bcl avh avl ach acl = agrB avh avl ach acl bvh bvl bch bcl := by
  rw [Bool.eq_iff_iff, agr_bits, agr_bits]
  exact ⟨fun h j hj h1 h2 => (h j hj h2 h1).symm, fun h j hj h1 h2 => (h j hj h2 h1).symm⟩
theorem met_comm (avh avl ach acl bvh bvl bch bcl : BitVec 64) : metB bvh bvl bch bcl avh avl ach acl = metB avh avl ach acl bvh bvl bch bcl := by
  unfold metB; rw [agr_comm]; cases sndB avh avl ach acl <;> cases sndB bvh bvl bch bcl <;> simp
attribute [irreducible] sel metB witB befB inB
end Go.Proofs

namespace Go.Proofs.Hd
open Go.RowKit
def Cb.V (c : Cb) (j : Nat) : Bool := hbit c.vh c.vl j
def Cb.K (c : Cb) (j : Nat) : Bool := hbit c.ch c.cl j
def Cb.snd (c : Cb) : Bool := sndB c.vh c.vl c.ch c.cl
def Cb.has (c : Cb) (h l : BitVec 64) : Bool := hasB c.vh c.vl c.ch c.cl h l
def Cb.agr (a b : Cb) : Bool := agrB a.vh a.vl a.ch a.cl b.vh b.vl b.ch b.cl
def Cb.wit (a b : Cb) : Bool := witB a.vh a.vl a.ch a.cl b.vh b.vl b.ch b.cl
theorem Cb.snd_iff (c : Cb) : c.snd = true ↔ ∀ j, j < 128 → c.V j = true → c.K j = true := snd_bits _ _ _ _
theorem Cb.has_iff (c : Cb) (h l : BitVec 64) : c.has h l = true ↔ ∀ j, j < 128 → (hbit h l j && c.K j) = c.V j := has_bits _ _ _ _ _ _
theorem Cb.agr_iff (a b : Cb) : a.agr b = true ↔ ∀ j, j < 128 → a.K j = true → b.K j = true → a.V j = b.V j := agr_bits _ _ _ _ _ _ _ _
theorem wit_and' (avh avl ach acl bvh bvl bch bcl : BitVec 64) : witB avh avl ach acl bvh bvl bch bcl = true ↔ sndB avh avl ach acl = true ∧ sndB bvh bvl bch bcl = true ∧ inB ach acl bch bcl = true ∧ agrB avh avl ach acl bvh bvl bch bcl = true := by
  rw [show witB avh avl ach acl bvh bvl bch bcl = (sndB avh avl ach acl && (sndB bvh bvl bch bcl && (inB ach acl bch bcl && agrB avh avl ach acl bvh bvl bch bcl))) by unfold witB; rfl]
  simp only [Bool.and_eq_true]
theorem Cb.wit_iff (a b : Cb) : a.wit b = true ↔ a.snd = true ∧ b.snd = true ∧ (∀ j, j < 128 → b.K j = true → a.K j = true) ∧ (∀ j, j < 128 → a.K j = true → b.K j = true → a.V j = b.V j) := by
  unfold Cb.wit
  rw [wit_and', in_bits, agr_bits]
  exact Iff.rfl
theorem wOther_V (a b : Cb) (k j : Nat) (hk : k < 128) (hj : j < 128) : (wOther a b k).V j = (a.V j || ((b.V j && decide (j = k)) ^^ decide (j = k))) := by
  unfold Cb.V wOther; simp only [hbit_or, hbit_xor, hbit_and, hbit_one k j hk hj]
theorem wOther_K (a b : Cb) (k j : Nat) (hk : k < 128) (hj : j < 128) : (wOther a b k).K j = (a.K j || decide (j = k)) := by
  unfold Cb.K wOther; simp only [hbit_or, hbit_one k j hk hj]
theorem wSame_V (a b : Cb) (k j : Nat) (hk : k < 128) (hj : j < 128) : (wSame a b k).V j = (a.V j || (b.V j && decide (j = k))) := by
  unfold Cb.V wSame; simp only [hbit_or, hbit_and, hbit_one k j hk hj]
theorem wSame_K (a b : Cb) (k j : Nat) (hk : k < 128) (hj : j < 128) : (wSame a b k).K j = (a.K j || decide (j = k)) := by
  unfold Cb.K wSame; simp only [hbit_or, hbit_one k j hk hj]
theorem wSame_snd {a b : Cb} {k : Nat} (hk : k < 128) (ha : a.snd = true) : (wSame a b k).snd = true := by
  rw [Cb.snd_iff] at *
  intro j hj h
  rw [wSame_V _ _ _ _ hk hj] at h
  rw [wSame_K _ _ _ _ hk hj]
  have := ha j hj
  cases x1 : a.V j <;> cases x2 : a.K j <;> by_cases x3 : j = k <;> simp_all
theorem wOther_snd {a b : Cb} {k : Nat} (hk : k < 128) (ha : a.snd = true) : (wOther a b k).snd = true := by
  rw [Cb.snd_iff] at *
  intro j hj h
  rw [wOther_V _ _ _ _ hk hj] at h
  rw [wOther_K _ _ _ _ hk hj]
  have := ha j hj
  cases x1 : a.V j <;> cases x2 : a.K j <;> by_cases x3 : j = k <;> simp_all
theorem open_V {a : Cb} {k : Nat} (hk : k < 128) (ha : a.snd = true) (hn : a.K k = false) : a.V k = false := by
  rw [Cb.snd_iff] at ha
  cases h : a.V k with
  | false => rfl
  | true => rw [ha k hk h] at hn; cases hn
theorem wSame_has {a b : Cb} {k : Nat} (h l : BitVec 64) (hk : k < 128) (ha : a.snd = true) (hn : a.K k = false) :
    (wSame a b k).has h l = (a.has h l && (hbit h l k == b.V k)) := by
  have hv := open_V hk ha hn
  rw [Bool.eq_iff_iff, Bool.and_eq_true, Cb.has_iff, Cb.has_iff, beq_iff_eq]
  constructor
  · intro H
    refine ⟨fun j hj => ?_, ?_⟩
    · have := H j hj
      rw [wSame_V _ _ _ _ hk hj, wSame_K _ _ _ _ hk hj] at this
      by_cases e : j = k
      · subst e; rw [hv, hn]; simp
      · simpa [e] using this
    · have := H k hk
      rw [wSame_V _ _ _ _ hk hk, wSame_K _ _ _ _ hk hk, hv, hn] at this
      simpa using this
  · rintro ⟨H, e⟩ j hj
    rw [wSame_V _ _ _ _ hk hj, wSame_K _ _ _ _ hk hj]
    by_cases c : j = k
    · subst c; rw [hv, hn, e]; simp
    · have := H j hj; simpa [c] using this
theorem wOther_has {a b : Cb} {k : Nat} (h l : BitVec 64) (hk : k < 128) (ha : a.snd = true) (hn : a.K k = false) :
    (wOther a b k).has h l = (a.has h l && !(hbit h l k == b.V k)) := by
  have hv := open_V hk ha hn
  rw [Bool.eq_iff_iff, Bool.and_eq_true, Cb.has_iff, Cb.has_iff]
  constructor
  · intro H
    refine ⟨fun j hj => ?_, ?_⟩
    · have := H j hj
      rw [wOther_V _ _ _ _ hk hj, wOther_K _ _ _ _ hk hj] at this
      by_cases e : j = k
      · subst e; rw [hv, hn]; simp
      · simpa [e] using this
    · have := H k hk
      rw [wOther_V _ _ _ _ hk hk, wOther_K _ _ _ _ hk hk, hv, hn] at this
      cases x : hbit h l k <;> cases y : b.V k <;> simp_all
  · rintro ⟨H, e⟩ j hj
    rw [wOther_V _ _ _ _ hk hj, wOther_K _ _ _ _ hk hj]
    by_cases c : j = k
    · subst c; rw [hv, hn]; cases x : hbit h l j <;> cases y : b.V j <;> simp_all
    · have := H j hj; simpa [c] using this
/-- Numbers below 128, each once, for which a does not care. -/
def Free (a : Cb) : List Nat → Prop
  | [] => True
  | k :: ks => k < 128 ∧ a.K k = false ∧ k ∉ ks ∧ Free a ks
theorem Free.same {a b : Cb} {k : Nat} {ks : List Nat} (hk : k < 128) (h : Free a ks) (hn : k ∉ ks) : Free (wSame a b k) ks := by
  induction ks with
  | nil => trivial
  | cons m ks ih =>
    obtain ⟨h1, h2, h3, h4⟩ := h
    have e : m ≠ k := fun e => hn (by simp [e])
    exact ⟨h1, by rw [wSame_K _ _ _ _ hk h1, h2]; simp [e], h3, ih h4 (fun h => hn (by simp [h]))⟩
theorem bitsDown_mem {f : Nat → Bool} {n k : Nat} : k ∈ bitsDown f n ↔ k < n ∧ f k = true := by
  induction n with
  | zero => simp [bitsDown]
  | succ n ih =>
    rw [bitsDown]
    by_cases c : f n = true
    · rw [if_pos c, List.mem_cons, ih]
      constructor
      · rintro (rfl | ⟨h1, h2⟩)
        · exact ⟨by omega, c⟩
        · exact ⟨by omega, h2⟩
      · rintro ⟨h1, h2⟩
        by_cases e : k = n
        · exact .inl e
        · exact .inr ⟨by omega, h2⟩
    · rw [if_neg c, ih]
      constructor
      · rintro ⟨h1, h2⟩; exact ⟨by omega, h2⟩
      · rintro ⟨h1, h2⟩
        have e : k ≠ n := fun e => c (by rw [← e]; exact h2)
        exact ⟨by omega, h2⟩
theorem free_down (a : Cb) (f : Nat → Bool) (n : Nat) (hn : n ≤ 128) (hf : ∀ j, j < n → f j = true → a.K j = false) : Free a (bitsDown f n) := by
  induction n with
  | zero => trivial
  | succ n ih =>
    rw [bitsDown]
    by_cases c : f n = true
    · rw [if_pos c]
      exact ⟨by omega, hf n (by omega) c, fun h => by have := (bitsDown_mem.1 h).1; omega, ih (by omega) (fun j hj => hf j (by omega))⟩
    · rw [if_neg c]; exact ih (by omega) (fun j hj => hf j (by omega))
theorem open_iff (a b : Cb) (k : Nat) : k ∈ openBits a b ↔ k < 128 ∧ b.K k = true ∧ a.K k = false := by
  unfold openBits
  rw [bitsDown_mem]
  constructor
  · rintro ⟨h1, h2⟩
    rw [hbit_andNot _ _ _ _ _ h1] at h2
    refine ⟨h1, ?_⟩
    unfold Cb.K
    cases x : hbit b.ch b.cl k <;> cases y : hbit a.ch a.cl k <;> simp_all
  · rintro ⟨h1, h2, h3⟩
    refine ⟨h1, ?_⟩
    rw [hbit_andNot _ _ _ _ _ h1]
    unfold Cb.K at h2 h3
    rw [h2, h3]; rfl
theorem open_free (a b : Cb) : Free a (openBits a b) := by
  unfold openBits
  refine free_down a _ 128 (Nat.le_refl _) fun j hj h => ?_
  exact ((open_iff a b j).1 (bitsDown_mem.2 ⟨hj, h⟩)).2.2
def cntC (h l : BitVec 64) (L : List Cb) : Nat := (L.filter (fun c => c.has h l)).length
theorem cntC_nil (h l : BitVec 64) : cntC h l [] = 0 := rfl
theorem cntC_cons (h l : BitVec 64) (c : Cb) (L : List Cb) : cntC h l (c :: L) = (c.has h l).toNat + cntC h l L := by
  unfold cntC
  rw [List.filter_cons]
  cases x : c.has h l <;> simp [Nat.add_comm]
theorem cntC_snoc (h l : BitVec 64) (c : Cb) (L : List Cb) : cntC h l (L ++ [c]) = cntC h l L + (c.has h l).toNat := by
  unfold cntC
  rw [List.filter_append]
  cases x : c.has h l <;> simp [x]
theorem lessP_count (h l : BitVec 64) (b : Cb) (ks : List Nat) (a : Cb) (ha : a.snd = true) (hf : Free a ks) :
    cntC h l (lessP b a ks) + (a.has h l && ks.all (fun k => hbit h l k == b.V k)).toNat = (a.has h l).toNat := by
  induction ks generalizing a with
  | nil => simp [lessP, cntC_nil]
  | cons k ks ih =>
    obtain ⟨h1, h2, h3, h4⟩ := hf
    rw [lessP, cntC_cons, wOther_has h l h1 ha h2]
    have := ih (wSame a b k) (wSame_snd h1 ha) (h4.same h1 h3)
    rw [wSame_has h l h1 ha h2] at this
    rw [List.all_cons]
    cases x : a.has h l <;> cases y : (hbit h l k == b.V k) <;> simp_all
theorem wit_trans {a b c : Cb} (h1 : a.wit b = true) (h2 : b.wit c = true) : a.wit c = true := by
  rw [Cb.wit_iff] at *
  obtain ⟨p1, p2, p3, p4⟩ := h1
  obtain ⟨q1, q2, q3, q4⟩ := h2
  exact ⟨p1, q2, fun j hj h => p3 j hj (q3 j hj h), fun j hj x y => (p4 j hj x (q3 j hj y)).trans (q4 j hj (q3 j hj y) y)⟩
theorem wSame_wit {a b : Cb} {k : Nat} (hk : k < 128) (ha : a.snd = true) (hn : a.K k = false) : (wSame a b k).wit a = true := by
  rw [Cb.wit_iff]
  refine ⟨wSame_snd hk ha, ha, fun j hj h => by rw [wSame_K _ _ _ _ hk hj, h]; rfl, fun j hj _ h => ?_⟩
  have e : j ≠ k := fun e => by rw [e, hn] at h; cases h
  rw [wSame_V _ _ _ _ hk hj]; simp [e]
theorem wOther_wit {a b : Cb} {k : Nat} (hk : k < 128) (ha : a.snd = true) (hn : a.K k = false) : (wOther a b k).wit a = true := by
  rw [Cb.wit_iff]
  refine ⟨wOther_snd hk ha, ha, fun j hj h => by rw [wOther_K _ _ _ _ hk hj, h]; rfl, fun j hj _ h => ?_⟩
  have e : j ≠ k := fun e => by rw [e, hn] at h; cases h
  rw [wOther_V _ _ _ _ hk hj]; simp [e]
theorem wit_self {a : Cb} (ha : a.snd = true) : a.wit a = true := by
  rw [Cb.wit_iff]; exact ⟨ha, ha, fun _ _ h => h, fun _ _ _ _ => rfl⟩
theorem lessP_wit (b : Cb) (ks : List Nat) (a : Cb) (ha : a.snd = true) (hf : Free a ks) : ∀ c ∈ lessP b a ks, c.wit a = true := by
  induction ks generalizing a with
  | nil => intro c hc; cases hc
  | cons k ks ih =>
    obtain ⟨h1, h2, h3, h4⟩ := hf
    intro c hc
    rw [lessP, List.mem_cons] at hc
    rcases hc with rfl | hc
    · exact wOther_wit h1 ha h2
    · exact wit_trans (ih _ (wSame_snd h1 ha) (h4.same h1 h3) c hc) (wSame_wit h1 ha h2)
/-- The difference of two sound cubes. -/
def lessC (a b : Cb) : List Cb := if a.agr b = true then lessP b a (openBits a b) else [a]
theorem lessC_wit {a b : Cb} (ha : a.snd = true) : ∀ c ∈ lessC a b, c.wit a = true := by
  unfold lessC
  by_cases h : a.agr b = true
  · rw [if_pos h]; exact lessP_wit b _ a ha (open_free a b)
  · rw [if_neg h]; intro c hc; rw [List.mem_singleton] at hc; subst hc; exact wit_self ha
theorem lessC_len {a b : Cb} (ha : a.snd = true) (hb : b.snd = true) : (lessC a b).length = 0 ↔ a.wit b = true := by
  unfold lessC
  rw [Cb.wit_iff]
  by_cases h : a.agr b = true
  · rw [if_pos h, lessP_len, List.length_eq_zero_iff]
    constructor
    · intro e
      refine ⟨ha, hb, fun j hj hk => ?_, (Cb.agr_iff a b).1 h⟩
      cases x : a.K j with
      | true => rfl
      | false => have := (open_iff a b j).2 ⟨hj, hk, x⟩; rw [e] at this; cases this
    · rintro ⟨_, _, h3, _⟩
      cases e : openBits a b with
      | nil => rfl
      | cons k ks =>
        obtain ⟨h1, h2, h4⟩ := (open_iff a b k).1 (by rw [e]; simp)
        rw [h3 k h1 h2] at h4; cases h4
  · rw [if_neg h]
    constructor
    · intro e; simp at e
    · rintro ⟨_, _, _, h4⟩; exact absurd ((Cb.agr_iff a b).2 h4) h
theorem lessC_le (a b : Cb) : (lessC a b).length ≤ 128 := by
  unfold lessC
  by_cases h : a.agr b = true
  · rw [if_pos h, lessP_len]; exact bitsDown_len _ 128
  · rw [if_neg h]; simp
def Cb.met (a b : Cb) : Bool := metB a.vh a.vl a.ch a.cl b.vh b.vl b.ch b.cl
theorem met_eq (a b : Cb) (ha : a.snd = true) (hb : b.snd = true) : a.met b = a.agr b := by
  unfold Cb.met metB
  show (a.snd && (b.snd && a.agr b)) = _
  rw [ha, hb]; rfl
def Cb.join (a b : Cb) : Cb := ⟨a.vh ||| b.vh, a.vl ||| b.vl, a.ch ||| b.ch, a.cl ||| b.cl⟩
theorem join_has {a b : Cb} (h l : BitVec 64) (ha : a.snd = true) (hb : b.snd = true) (hg : a.agr b = true) :
    (a.join b).has h l = (a.has h l && (openBits a b).all (fun k => hbit h l k == b.V k)) := by
  rw [Cb.agr_iff] at hg
  rw [Cb.snd_iff] at ha hb
  rw [Bool.eq_iff_iff, Bool.and_eq_true, List.all_eq_true, Cb.has_iff, Cb.has_iff]
  have jv : ∀ j, (a.join b).V j = (a.V j || b.V j) := fun j => by unfold Cb.V Cb.join; rw [hbit_or]
  have jk : ∀ j, (a.join b).K j = (a.K j || b.K j) := fun j => by unfold Cb.K Cb.join; rw [hbit_or]
  constructor
  · intro H
    refine ⟨fun j hj => ?_, fun k hk => ?_⟩
    · have h1 := H j hj
      rw [jv, jk] at h1
      have h2 := hg j hj
      have h3 := ha j hj
      have h4 := hb j hj
      revert h1 h2 h3 h4
      generalize a.K j = k1
      generalize b.K j = k2
      generalize a.V j = v1
      generalize b.V j = v2
      generalize hbit h l j = t
      cases k1 <;> cases k2 <;> cases v1 <;> cases v2 <;> cases t <;> simp
    · obtain ⟨k1, k2, k3⟩ := (open_iff a b k).1 hk
      have h1 := H k k1
      rw [jv, jk, k2, k3] at h1
      have h3 := ha k k1
      rw [k3] at h3
      cases x3 : a.V k <;> simp_all
  · rintro ⟨H, G⟩ j hj
    rw [jv, jk]
    have h1 := H j hj
    have h2 := hg j hj
    have h3 := ha j hj
    have h4 := hb j hj
    by_cases hk : j ∈ openBits a b
    · have g := G j hk
      obtain ⟨k1, k2, k3⟩ := (open_iff a b j).1 hk
      cases x3 : a.V j <;> cases x4 : b.V j <;> cases x5 : hbit h l j <;> simp_all
    · have nk : ¬ (b.K j = true ∧ a.K j = false) := fun e => hk ((open_iff a b j).2 ⟨hj, e⟩)
      revert h1 h2 h3 h4 nk
      generalize a.K j = k1
      generalize b.K j = k2
      generalize a.V j = v1
      generalize b.V j = v2
      generalize hbit h l j = t
      cases k1 <;> cases k2 <;> cases v1 <;> cases v2 <;> cases t <;> simp
theorem parts_count {a b : Cb} (h l : BitVec 64) (ha : a.snd = true) (hb : b.snd = true) :
    (a.met b && (a.join b).has h l).toNat + cntC h l (lessC a b) = (a.has h l).toNat := by
  rw [met_eq a b ha hb]
  unfold lessC
  by_cases hg : a.agr b = true
  · rw [if_pos hg, hg, Bool.true_and, join_has h l ha hb hg, Nat.add_comm]
    exact lessP_count h l b _ a ha (open_free a b)
  · rw [if_neg hg, show a.agr b = false by simpa using hg, cntC_cons, cntC_nil]; simp
end Go.Proofs.Hd

namespace Go.Proofs.Hd
open Go.RowKit
/-- v is a slice of ports whose kinds are K. -/
def Po (w : World) (v : Value) (K : List Int) : Prop := (K = [] ∧ ∃ A cap, v = .slice A 0 cap) ∨ ∃ b off cap, v = .slice (some ⟨b, off, none⟩) K.length cap ∧ K.length ≤ maxLen ∧ b < w.heap.size ∧ ∀ (k : Nat) (x : Int), K[k]? = some x → w.cell? ⟨b, off + k * 5, none⟩ = some (.int .i64 x)
theorem Po.on {w w' : World} {v : Value} {K : List Int} (h : Po w v K) (hb : Below w.heap.size w w') : Po w' v K := by
  rcases h with h | ⟨b, off, cap, e, hl, hs, h⟩
  · exact .inl h
  · exact .inr ⟨b, off, cap, e, hl, Nat.lt_of_lt_of_le hs hb.size, fun k c hk => on_some hb (h k c hk)⟩
/-- Is n the number of a port of a kind? -/
def isP (K : List Int) (n kind : Int) : Bool := decide (0 ≤ n) && (K[n.toNat]? == some kind)
theorem isP_neg {K : List Int} {n : Int} (h : ¬ 0 ≤ n) (kind : Int) : isP K n kind = false := by simp [isP, h]
theorem isP_far {K : List Int} {n : Int} (h : ¬ n < (K.length : Int)) (kind : Int) : isP K n kind = false := by
  unfold isP
  by_cases h0 : 0 ≤ n
  · rw [List.getElem?_eq_none (by omega)]; simp
  · simp [h0]
theorem isP_at {K : List Int} {k : Nat} {x : Int} (h : K[k]? = some x) (kind : Int) : isP K (k : Int) kind = (x == kind) := by
  unfold isP
  rw [Int.toNat_natCast, h]
  simp
/-- May a rule of a table send headers where it does? -/
def leads (kind port tab table : Int) (K : List Int) : Bool :=
  if kind = 1 then decide (port = 0) && decide (tab = 0) else if kind = 2 then isP K port 1 && decide (tab = 0) else if kind = 3 then isP K port 2 && decide (tab = 0) else if kind = 4 then decide (table < tab) && decide (tab < 3) && decide (port = 0) else false
/-- Is a rule sound at a table of a switch with ports of these kinds? -/
def sndR (r : Rl) (table : Int) (K : List Int) : Bool := decide (0 ≤ r.pri) && decide (r.pri ≤ 1048576) && r.m.snd && r.s.snd && leads r.kind r.port r.tab table K
end Go.Proofs.Hd
namespace Go.Proofs
open Go.RowKit Go.Proofs.Hd Go.Sort
attribute [local go_sem] uv_nonneg
set_option maxRecDepth 100000 in
theorem isPort_c (x : Bool) (v : Value) (K : List Int) (n kind : Int) (w : World) (hx : isP K n kind = x) (hv : Po w v K) : Calls Try.prog 26 #[v, .int .i64 n, .int .i64 kind] w fun e w' => e = .returned (.bool x) ∧ Below w.heap.size w w' := by
  obtain ⟨A, cap, hA⟩ : ∃ A cap, v = .slice A K.length cap := by
    rcases hv with ⟨rfl, A, cap, rfl⟩ | ⟨b, off, cap, rfl, _⟩ <;> exact ⟨_, _, rfl⟩
  by_cases h0 : 0 ≤ n
  · by_cases h1 : n < (K.length : Int)
    · obtain ⟨k, rfl⟩ : ∃ k : Nat, n = (k : Int) := ⟨n.toNat, by omega⟩
      have hk : k < K.length := by omega
      obtain ⟨y, hy⟩ : ∃ y, K[k]? = some y := ⟨_, List.getElem?_eq_getElem hk⟩
      rcases hv with ⟨rfl, _⟩ | ⟨b, off, cap, rfl, hl, hb, hc⟩
      · simp at hk
      have c := hc k y hy
      rw [isP_at hy] at hx
      have hl2 : (K.length : Int) ≤ 9223372036854775807 := by unfold maxLen at hl; omega
      clear hc hy hA
      go_enter Try.func26, Try.ntmps26
      go_wp2
      go_ret
      exact ⟨by subst hx; rfl, Below.refl _ _⟩
    · rw [isP_far h1] at hx
      subst hx hA
      clear hv
      go_enter Try.func26, Try.ntmps26
      go_wp2
      go_ret
      exact ⟨rfl, Below.refl _ _⟩
  · rw [isP_neg h0] at hx
    subst hx hA
    clear hv
    go_enter Try.func26, Try.ntmps26
    go_wp2
    go_ret
    exact ⟨rfl, Below.refl _ _⟩
set_option maxRecDepth 100000 in
set_option maxHeartbeats 4000000 in
theorem leads_c (x : Bool) (r : Rl) (table : Int) (v : Value) (K : List Int) (w : World) (hx : leads r.kind r.port r.tab table K = x) (hv : Po w v K) : Calls Try.prog 18 #[.agg #[.int .i64 r.pri, .int .u64 (uv r.m.vh), .int .u64 (uv r.m.vl), .int .u64 (uv r.m.ch), .int .u64 (uv r.m.cl), .int .i64 r.kind, .int .i64 r.port, .int .i64 r.tab, .int .u64 (uv r.s.vh), .int .u64 (uv r.s.vl), .int .u64 (uv r.s.ch), .int .u64 (uv r.s.cl)], .int .i64 table, v] w fun e w' => e = .returned (.bool x) ∧ Below w.heap.size w w' := by
  obtain ⟨pri, m, kind, port, tab, s⟩ := r
  dsimp only at hx ⊢
  have B0 := below1 w (.cells #[.int .i64 pri, .int .u64 (uv m.vh), .int .u64 (uv m.vl), .int .u64 (uv m.ch), .int .u64 (uv m.cl), .int .i64 kind, .int .i64 port, .int .i64 tab, .int .u64 (uv s.vh), .int .u64 (uv s.vl), .int .u64 (uv s.ch), .int .u64 (uv s.cl)] 47)
  unfold leads at hx
  by_cases k1 : kind = 1
  · subst k1
    rw [if_pos rfl] at hx
    by_cases hp : port = 0
    · subst hp
      by_cases ht : tab = 0
      · subst ht
        subst hx
        go_enter Try.func18, Try.ntmps18
        go_wp2
        go_ret
        exact ⟨by simp, B0⟩
      · simp [ht] at hx
        subst hx
        go_enter Try.func18, Try.ntmps18
        go_wp2
        go_ret
        exact ⟨by simp [ht], B0⟩
    · simp [hp] at hx
      subst hx
      go_enter Try.func18, Try.ntmps18
      go_wp2
      go_ret
      exact ⟨by simp, B0⟩
  rw [if_neg k1] at hx
  by_cases k2 : kind = 2
  · subst k2
    rw [if_pos rfl] at hx
    cases hp : isP K port 1 with
    | true =>
      rw [hp] at hx
      go_enter Try.func18, Try.ntmps18
      go_wp2_with fail
      refine (isPort_c true v K port 1 _ hp (hv.on B0)).mono ?_
      rintro e w1 ⟨rfl, hb⟩
      have c7 : w1.cell? ⟨w.heap.size, 7, none⟩ = some (.int .i64 tab) := on_some hb (by go_simp)
      have B := B0.trans (hb.mono B0.size)
      clear B0 hb hv
      by_cases ht : tab = 0
      · subst ht; subst hx
        go_wp2
        go_ret
        exact ⟨by simp, B⟩
      · simp [ht] at hx; subst hx
        go_wp2
        go_ret
        exact ⟨by simp [ht], B⟩
    | false =>
      rw [hp] at hx
      simp at hx
      subst hx
      go_enter Try.func18, Try.ntmps18
      go_wp2_with fail
      refine (isPort_c false v K port 1 _ hp (hv.on B0)).mono ?_
      rintro e w1 ⟨rfl, hb⟩
      have B := B0.trans (hb.mono B0.size)
      clear B0 hb hv
      go_wp2
      go_ret
      exact ⟨by simp, B⟩
  rw [if_neg k2] at hx
  by_cases k3 : kind = 3
  · subst k3
    rw [if_pos rfl] at hx
    cases hp : isP K port 2 with
    | true =>
      rw [hp] at hx
      go_enter Try.func18, Try.ntmps18
      go_wp2_with fail
      refine (isPort_c true v K port 2 _ hp (hv.on B0)).mono ?_
      rintro e w1 ⟨rfl, hb⟩
      have c7 : w1.cell? ⟨w.heap.size, 7, none⟩ = some (.int .i64 tab) := on_some hb (by go_simp)
      have B := B0.trans (hb.mono B0.size)
      clear B0 hb hv
      by_cases ht : tab = 0
      · subst ht; subst hx
        go_wp2
        go_ret
        exact ⟨by simp, B⟩
      · simp [ht] at hx; subst hx
        go_wp2
        go_ret
        exact ⟨by simp [ht], B⟩
    | false =>
      rw [hp] at hx
      simp at hx
      subst hx
      go_enter Try.func18, Try.ntmps18
      go_wp2_with fail
      refine (isPort_c false v K port 2 _ hp (hv.on B0)).mono ?_
      rintro e w1 ⟨rfl, hb⟩
      have B := B0.trans (hb.mono B0.size)
      clear B0 hb hv
      go_wp2
      go_ret
      exact ⟨by simp, B⟩
  rw [if_neg k3] at hx
  by_cases k4 : kind = 4
  · subst k4
    rw [if_pos rfl] at hx
    by_cases h1 : table < tab
    · by_cases h2 : tab < 3
      · by_cases h3 : port = 0
        · subst h3
          simp [h1, h2] at hx
          subst hx
          go_enter Try.func18, Try.ntmps18
          go_wp2
          go_ret
          exact ⟨by simp, B0⟩
        · simp [h3] at hx
          subst hx
          go_enter Try.func18, Try.ntmps18
          go_wp2
          go_ret
          exact ⟨by simp [h3], B0⟩
      · simp [h2] at hx
        subst hx
        go_enter Try.func18, Try.ntmps18
        go_wp2
        go_ret
        exact ⟨by simp, B0⟩
    · simp [h1] at hx
      subst hx
      go_enter Try.func18, Try.ntmps18
      go_wp2
      go_ret
      exact ⟨by simp, B0⟩
  rw [if_neg k4] at hx
  subst hx
  go_enter Try.func18, Try.ntmps18
  go_wp2
  go_ret
  exact ⟨by simp, B0⟩
end Go.Proofs
