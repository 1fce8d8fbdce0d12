/-
  customhouselaw04.PackWrites returns true for every input, and each argument reads behind the call as before. No conditions.
  The walk of customhouselaw04.PackWrites: it returns true. Conditions as each theorem lists them.
-/
import Derived.Test.YtpalcmbofleabaaJ3
import Derived.Deep.DeepCutAuto
import Derived.LaidEqlPtr
import Derived.Test.YtpalcmbofleabaaRows
import Derived.Below
namespace Go.Proofs.Hd
open Go.RowKit
theorem Wst.blk {w w' : World} {base p g : Nat} {o o' : Option Nat} {B : List UInt8} {t : TypeId} {cs : Array Value} (h : Wst w w' p o o') (k : Wrt w base p o B) (b : Blk w g t cs) (h1 : t ≠ 53) (h2 : 5 ≠ t) : Blk w' g t cs := by
  obtain ⟨v, hb, rfl, hown⟩ := k
  refine h.1.blk b ?_
  rintro (c | c)
  · exact b.ne hb h1 c
  · exact own_apart hown b h2 c.symm
theorem Blk.fourF {w : World} {g : Nat} {t : TypeId} {x : Fdt} (h : Blk w g t #[.int .i64 x.a, .int .i64 x.n, .int .u64 (uv x.u), .string x.s]) : w.cell? ⟨g, 0, none⟩ = some (.int .i64 x.a) ∧ w.cell? ⟨g, 1, none⟩ = some (.int .i64 x.n) ∧ w.cell? ⟨g, 2, none⟩ = some (.int .u64 (uv x.u)) ∧ w.cell? ⟨g, 3, none⟩ = some (.string x.s) := ⟨h.cell 0, h.cell 1, h.cell 2, h.cell 3⟩
end Go.Proofs.Hd
namespace Go.Proofs
open Go.RowKit Go.Proofs.Hd Go.Lib
attribute [local go_sem] uv_nonneg
theorem infoWr : (Try.prog.info? 53).map (fun i => (i.zero, i.size, i.bytes)) = some (some (.agg #[.slice none 0 0]), 1, 24) := by kernel_rfl
theorem same_wr (w : World) (a : Addr) : (binOp .eql 23 (.pointer (some a)) (.pointer (some a))).run Try.prog w = .ok (.bool true) w := by
  obtain ⟨i, hi, -, -, -⟩ := info_parts infoWr
  exact run_eql_ptr_same w a Try.underlying23 hi
set_option maxHeartbeats 4000000 in
set_option maxRecDepth 100000 in
theorem pwrites_s (A : Option Addr) (cap : Nat) (F : List Fdt) (w : World) (hc : F.length ≤ 100) (hF : Fl w A F) : Calls Try.prog 3 #[.slice A F.length cap] w fun e w' => e = .returned (.bool true) ∧ Below w.heap.size w w' := by
  have HF := Lib.hid hF.2
  have hml : (F.length : Int) ≤ 9223372036854775807 := by have := hF.1; unfold maxLen at this; omega
  clear hF
  go_enter Try.func3, Try.ntmps3
  go_wp2_with fail
  refine (new_c w w.heap.size).mono ?_
  rintro e w1 ⟨rfl, K1, B1⟩
  have HK1 := Lib.hid K1
  have HB1 := Lib.hid B1
  clear K1 B1
  go_wp2
  go_loopg [4, 5, 6, 7] F.length (fun gg s4 s5 _ _ wr => ∃ (i : Nat) (sB : ByteArray), i ≤ F.length ∧ F.length - i ≤ gg ∧ s5 = .int .i64 i ∧ s4 = .string sB ∧ Hid (str (encK (F.take i)) = sB) ∧ Hid (Below w.heap.size w wr) ∧ Hid (∃ oo, Wrt wr w.heap.size w.heap.size oo (encK (F.take i))))
  case atStart => exact ⟨0, _, Nat.zero_le _, by omega, rfl, rfl, rfl, HB1.out, _, HK1.out⟩
  case round =>
    clear HK1 HB1
    obtain ⟨i, sB, hi, hg, rfl, rfl, HS, HW, HK⟩ := hrel
    by_cases hlt : i < F.length
    · have hltz : (i : Int) < (F.length : Int) := by omega
      have hl100 : (i : Int) < 100 := by omega
      obtain ⟨x, hx⟩ : ∃ x, F[i]? = some x := ⟨_, List.getElem?_eq_getElem (by omega)⟩
      obtain ⟨-, b, off, rfl, hAt⟩ := HF.out i x hx
      have hAt2 := AtF.on hAt HW.out
      obtain ⟨c0, c1, c2, c3⟩ := hAt2
      have HT := Lib.hid (take_nextF hx)
      have HLn : Hid ((encK (F.take i)).length ≤ 1677722000) := by
        have h1 := encK_len (F.take i)
        have h2 : (F.take i).length ≤ i := by simp; omega
        have h3 : (F.take i).length * 16777220 ≤ 100 * 16777220 := Nat.mul_le_mul (by omega) (Nat.le_refl _)
        show _ ≤ _
        omega
      have hlen8 : (encK (F.take i)).length + 8 ≤ 140737488355328 := by have := HLn.out; omega
      have hlenT : (encK (F.take i)).length + 16777228 ≤ 140737488355328 := by have := HLn.out; omega
      have b1 := below1 wr (.cells #[.int .i64 x.a, .int .i64 x.n, .int .u64 (uv x.u), .string x.s] 27)
      have X : Blk (wr.alloc (.cells #[.int .i64 x.a, .int .i64 x.n, .int .u64 (uv x.u), .string x.s] 27)) wr.heap.size 27 #[.int .i64 x.a, .int .i64 x.n, .int .u64 (uv x.u), .string x.s] := Blk.new wr _ _
      have HW2 := Lib.hid (HW.out.trans (b1.mono HW.out.size))
      obtain ⟨oo, K0⟩ := HK.out
      have K := K0.on b1
      clear hAt hx HK K0 b1 HW
      go_upto_region 8 with (fail)
      generalize (wr.alloc (.cells #[.int .i64 x.a, .int .i64 x.n, .int .u64 (uv x.u), .string x.s] 27)) = w2 at X HW2 K ⊢
      clear c0 c1 c2 c3
      obtain ⟨d0, d1, d2, d3⟩ := X.fourF
      by_cases ha : x.a = 0
      · have HN : Hid (encK (F.take (i + 1)) = encK (F.take i) ++ bigB (BitVec.ofInt 64 x.n) 8) := by show _ = _; rw [HT.out, encK_snoc]; unfold encK1; rw [if_pos ha]
        obtain ⟨q, HQ⟩ : ∃ q, Hid (str (bigB (BitVec.ofInt 64 x.n) 8) = q) := ⟨_, rfl⟩
        have HS2 : Hid (str (encK (F.take (i + 1))) = sB ++ q) := by show _ = _; rw [HN.out, ← str_app, HS.out, HQ.out]
        have hlim : ¬ 9223372036854775807 < sB.size + q.size := by
          rw [← HQ.out, ← HS.out, str_size, str_size]
          have := HLn.out
          rw [bigB_len]; omega
        have hcon := wnum_c w2 w.heap.size _ _ _ x.n HW2.out.size hlen8 K
        rw [← HN.out] at hcon
        have hcon2 := fun W => big8_c (BitVec.ofInt 64 x.n) W
        rw [HQ.out, ← wrapU_ofInt] at hcon2
        have HC2 := Lib.hid hcon2
        have hsame := same_wr
        clear hcon2 HS HLn hlen8 hlenT HN
        go_wp2_with fail
        (with_reducible refine hcon.mono ?_)
        rintro e w5 ⟨rfl, o5, K5, S5⟩
        have X5 := S5.blk K X (by decide) (by decide)
        have B5 := HW2.out.trans (S5.below K (Nat.le_refl _) (Nat.le_refl _))
        obtain ⟨e0, e1, e2, e3⟩ := X5.fourF
        have HK5 := Lib.hid K5
        have HB5 := Lib.hid B5
        clear hcon K X S5 X5 K5 B5 HW2 d0 d1 d2 d3
        go_wp2_with fail
        (with_reducible refine (HC2.out _).mono ?_)
        rintro e w6 ⟨rfl, b6⟩
        have HB6 := Lib.hid (HB5.out.trans (b6.mono HB5.out.size))
        have HK6 := Lib.hid (HK5.out.on b6)
        clear HC2 HK5 HB5 b6 e0 e1 e2 e3
        go_wp2
        go_roundg (F.length - (i + 1))
        case measure => omega
        case rel => exact ⟨i + 1, sB ++ q, by omega, by omega, by go_num, rfl, HS2.out, HB6.out, _, HK6.out⟩
      · have ha0 := ha
        clear ha
        by_cases ha : x.a = 1
        · have HN : Hid (encK (F.take (i + 1)) = encK (F.take i) ++ bigB x.u 8) := by show _ = _; rw [HT.out, encK_snoc]; unfold encK1; rw [if_neg (by omega), if_pos ha]
          obtain ⟨q, HQ⟩ : ∃ q, Hid (str (bigB x.u 8) = q) := ⟨_, rfl⟩
          have HS2 : Hid (str (encK (F.take (i + 1))) = sB ++ q) := by show _ = _; rw [HN.out, ← str_app, HS.out, HQ.out]
          have hlim : ¬ 9223372036854775807 < sB.size + q.size := by
            rw [← HQ.out, ← HS.out, str_size, str_size]
            have := HLn.out
            rw [bigB_len]; omega
          have hcon := wide_c w2 w.heap.size _ _ _ x.u HW2.out.size hlen8 K
          rw [← HN.out] at hcon
          have hcon2 := fun W => big8_c x.u W
          rw [HQ.out] at hcon2
          have HC2 := Lib.hid hcon2
          have hsame := same_wr
          clear hcon2 HS HLn hlen8 hlenT HN
          go_wp2_with fail
          (with_reducible refine hcon.mono ?_)
          rintro e w5 ⟨rfl, o5, K5, S5⟩
          have X5 := S5.blk K X (by decide) (by decide)
          have B5 := HW2.out.trans (S5.below K (Nat.le_refl _) (Nat.le_refl _))
          obtain ⟨e0, e1, e2, e3⟩ := X5.fourF
          have HK5 := Lib.hid K5
          have HB5 := Lib.hid B5
          clear hcon K X S5 X5 K5 B5 HW2 d0 d1 d2 d3
          go_wp2_with fail
          (with_reducible refine (HC2.out _).mono ?_)
          rintro e w6 ⟨rfl, b6⟩
          have HB6 := Lib.hid (HB5.out.trans (b6.mono HB5.out.size))
          have HK6 := Lib.hid (HK5.out.on b6)
          clear HC2 HK5 HB5 b6 e0 e1 e2 e3
          go_wp2
          go_roundg (F.length - (i + 1))
          case measure => omega
          case rel => exact ⟨i + 1, sB ++ q, by omega, by omega, by go_num, rfl, HS2.out, HB6.out, _, HK6.out⟩
        · have ha1 := ha
          clear ha
          by_cases ha : x.a = 2
          · have HN : Hid (encK (F.take (i + 1)) = encK (F.take i) ++ txF (cutT (sl x.s))) := by show _ = _; rw [HT.out, encK_snoc]; unfold encK1; rw [if_neg (by omega), if_neg (by omega), if_pos ha]
            obtain ⟨q, HQ⟩ : ∃ q, Hid (str (txF (cutT (sl x.s))) = q) := ⟨_, rfl⟩
            have HS2 : Hid (str (encK (F.take (i + 1))) = sB ++ q) := by show _ = _; rw [HN.out, ← str_app, HS.out, HQ.out]
            have hlim : ¬ 9223372036854775807 < sB.size + q.size := by
              rw [← HQ.out, ← HS.out, str_size, str_size]
              have := HLn.out
              rw [txF_len]; have := cutT_len (sl x.s); omega
            have hcon := text_c w2 w.heap.size _ _ _ x.s HW2.out.size hlenT K
            rw [← HN.out] at hcon
            have hcon2 := fun W => reftext_c x.s W
            rw [HQ.out] at hcon2
            have HC2 := Lib.hid hcon2
            have hsame := same_wr
            clear hcon2 HS HLn hlen8 hlenT HN
            go_wp2_with fail
            (with_reducible refine hcon.mono ?_)
            rintro e w5 ⟨rfl, o5, K5, S5⟩
            have X5 := S5.blk K X (by decide) (by decide)
            have B5 := HW2.out.trans (S5.below K (Nat.le_refl _) (Nat.le_refl _))
            obtain ⟨e0, e1, e2, e3⟩ := X5.fourF
            have HK5 := Lib.hid K5
            have HB5 := Lib.hid B5
            clear hcon K X S5 X5 K5 B5 HW2 d0 d1 d2 d3
            go_wp2_with fail
            (with_reducible refine (HC2.out _).mono ?_)
            rintro e w6 ⟨rfl, b6⟩
            have HB6 := Lib.hid (HB5.out.trans (b6.mono HB5.out.size))
            have HK6 := Lib.hid (HK5.out.on b6)
            clear HC2 HK5 HB5 b6 e0 e1 e2 e3
            go_wp2
            go_roundg (F.length - (i + 1))
            case measure => omega
            case rel => exact ⟨i + 1, sB ++ q, by omega, by omega, by go_num, rfl, HS2.out, HB6.out, _, HK6.out⟩
          · have ha2 := ha
            clear ha
            have HN : Hid (encK (F.take (i + 1)) = encK (F.take i)) := by show _ = _; rw [HT.out, encK_snoc]; unfold encK1; rw [if_neg ha0, if_neg ha1, if_neg ha2, List.append_nil]
            have q0 : (x.a == 0) = false := by simpa using ha0
            have q1 : (x.a == 1) = false := by simpa using ha1
            have q2 : (x.a == 2) = false := by simpa using ha2
            have HKK := Lib.hid K
            clear K ha0 ha1 ha2 X
            go_wp2
            go_roundg (F.length - (i + 1))
            case measure => omega
            case rel => exact ⟨i + 1, sB, by omega, by omega, by go_num, rfl, by rw [HN.out]; exact HS.out, HW2.out, _, by rw [HN.out]; exact HKK.out⟩
    · obtain rfl : i = F.length := by omega
      have hltz : ¬ (F.length : Int) < (F.length : Int) := by omega
      have hln : (encK (F.take F.length)).length + 8 ≤ 140737488355328 := by
        have h1 := encK_len (F.take F.length)
        have h2 : (F.take F.length).length ≤ 100 := by simp; omega
        have h3 : (F.take F.length).length * 16777220 ≤ 100 * 16777220 := Nat.mul_le_mul h2 (Nat.le_refl _)
        omega
      obtain ⟨oo, K0'⟩ := HK.out
      have K0 : Wrt wr.drew w.heap.size w.heap.size oo (encK (F.take F.length)) := K0'
      obtain ⟨C, HC⟩ : ∃ C, Hid (seal8 (encK (F.take F.length)) = C) := ⟨_, rfl⟩
      obtain ⟨r, HR⟩ : ∃ r, Hid (str C = r) := ⟨_, rfl⟩
      have hby := fun W (k : Wrt W w.heap.size w.heap.size oo (encK (F.take F.length))) => bytes_c W w.heap.size _ _ _ hln k
      rw [HC.out] at hby
      have HBY := Lib.hid hby
      have hse := fun W => sealed_c (encK (F.take F.length)) sB HS.out (by unfold maxLen; omega) W
      rw [HC.out, HR.out] at hse
      have HSE := Lib.hid hse
      have hwn := fun W => wide_nil W 1#64
      rw [show uv 1#64 = 1 from rfl] at hwn
      have HWN := Lib.hid hwn
      have hcv : ∀ (W : World) (v : Value), Rd W v C → (convert 34 9 v).run Try.prog W = .ok (.string r) W := fun W v h => by
        rw [← HR.out]; exact run_text (P := Try.prog) W Try.underlying34 Try.underlying5 Try.underlying9 h
      clear HK K0' hby hse hwn hln
      go_upto_region 21 with (fail)
      refine wp_region_held_drew (S := fun w' => Below w.heap.size w w') (by kernel_rfl) (HW.out.drew) (fun hHeld => ?_)
      refine wpAnyH_ready (rs := [0]) (by kernel_rfl) (by simp) ?_
      refine AllReadyH.cons (o := ⟨some 68, _, _, _, _, _⟩) rfl (fun K hK => ?_) AllReadyH.nil
      go_simp
      (with_reducible refine (awake4_c _).mono ?_)
      rintro e w5 ⟨rfl, b5⟩
      have K5 := K0.on b5
      (try dsimp only)
      refine hK.out _ _ (hHeld.trans (b5.mono hHeld.size)) (fun hNext => ?_)
      clear hK K hHeld
      have hHeld := hNext
      clear hNext
      try simp only [Act.put, List.setIfInBounds_toArray, List.set_cons_zero, List.set_cons_succ]
      refine wpAnyH_take (i := 1) (oi := ⟨some 69, _, _, _, _, _⟩) (v := ?vz1) rfl (by kernel_rfl) (by kernel_rfl) (by kernel_rfl) (fun _ _ _ h => h) (Or.inl ⟨by rfl, ?yz1⟩) hHeld ?rz1
      case yz1 => (intro w' hSw; (try dsimp only at hSw); go_simp; try (with_reducible rfl))
      simp only [Act.put, List.setIfInBounds_toArray, List.set_cons_zero, List.set_cons_succ]
      refine wpAnyH_take (i := 2) (oi := ⟨some 70, _, _, _, _, _⟩) (v := ?vz2) rfl (by kernel_rfl) (by kernel_rfl) (by kernel_rfl) (fun _ _ _ h => h) (Or.inl ⟨by rfl, ?yz2⟩) hHeld ?rz2
      case yz2 => (intro w' hSw; (try dsimp only at hSw); go_simp; try (with_reducible rfl))
      simp only [Act.put, List.setIfInBounds_toArray, List.set_cons_zero, List.set_cons_succ]
      refine wpAnyH_take (i := 5) (oi := ⟨some 73, _, _, _, _, _⟩) (v := ?vz5) rfl (by kernel_rfl) (by kernel_rfl) (by kernel_rfl) (fun _ _ _ h => h) (Or.inl ⟨by rfl, ?yz5⟩) hHeld ?rz5
      case yz5 => (intro w' hSw; (try dsimp only at hSw); go_simp; try (with_reducible rfl))
      simp only [Act.put, List.setIfInBounds_toArray, List.set_cons_zero, List.set_cons_succ]
      refine wpAnyH_ready (rs := [3]) (by kernel_rfl) (by simp) ?_
      refine AllReadyH.cons (o := ⟨some 71, _, _, _, _, _⟩) rfl (fun K hK => ?_) AllReadyH.nil
      go_simp
      (with_reducible refine (HBY.out _ K5).mono ?_)
      rintro e w6 ⟨v6, rfl, O6, b6⟩
      have R6 := Rd.of_own O6
      clear O6
      (try dsimp only)
      refine hK.out _ _ (hHeld.trans (b6.mono hHeld.size)) (fun hNext => ?_)
      clear hK K hHeld
      have hHeld := hNext
      clear hNext
      refine wpAnyH_more (S' := fun w' => Below w.heap.size w w' ∧ Rd w' v6 C) (fun _ h => h.1) _ _ _ _ ?_
      replace hHeld := And.intro hHeld R6
      try simp only [Act.put, List.setIfInBounds_toArray, List.set_cons_zero, List.set_cons_succ]
      refine wpAnyH_take (i := 4) (oi := ⟨some 72, _, _, _, _, _⟩) (v := ?vz4) rfl (by kernel_rfl) (by kernel_rfl) (by kernel_rfl) (fun _ _ _ h => h) (Or.inl ⟨by rfl, ?yz4⟩) hHeld ?rz4
      case yz4 => (intro w' hSw; (try dsimp only at hSw); go_simp; try (with_reducible rfl))
      simp only [Act.put, List.setIfInBounds_toArray, List.set_cons_zero, List.set_cons_succ]
      refine wpAnyH_ready (rs := [6]) (by kernel_rfl) (by simp) ?_
      refine AllReadyH.cons (o := ⟨some 74, _, _, _, _, _⟩) rfl (fun K hK => ?_) AllReadyH.nil
      go_simp
      (with_reducible refine (HSE.out _).mono ?_)
      rintro e w7 ⟨rfl, b7⟩
      (try dsimp only)
      refine hK.out _ _ (⟨hHeld.1.trans (b7.mono hHeld.1.size), hHeld.2.on b7⟩) (fun hNext => ?_)
      clear hK K hHeld
      have hHeld := hNext
      clear hNext
      try simp only [Act.put, List.setIfInBounds_toArray, List.set_cons_zero, List.set_cons_succ]
      refine wpAnyH_take (i := 7) (oi := ⟨some 75, _, _, _, _, _⟩) (v := ?vz7) rfl (by kernel_rfl) (by kernel_rfl) (by kernel_rfl) (fun _ _ _ h => h) (Or.inl ⟨by rfl, ?yz7⟩) hHeld ?rz7
      case yz7 => (intro w' hSw; (try dsimp only at hSw); go_simp; try (with_reducible rfl))
      simp only [Act.put, List.setIfInBounds_toArray, List.set_cons_zero, List.set_cons_succ]
      refine wpAnyH_take (i := 8) (oi := ⟨some 76, _, _, _, _, _⟩) (v := ?vz8) rfl (by kernel_rfl) (by kernel_rfl) (by kernel_rfl) (fun _ _ _ h => h) (Or.inl ⟨by rfl, ?yz8⟩) hHeld ?rz8
      case yz8 => (intro w' hSw; (try dsimp only at hSw); go_simp; try (with_reducible rfl))
      simp only [Act.put, List.setIfInBounds_toArray, List.set_cons_zero, List.set_cons_succ]
      refine wpAnyH_take (i := 9) (oi := ⟨some 77, _, _, _, _, _⟩) (v := ?vz9) rfl (by kernel_rfl) (by kernel_rfl) (by kernel_rfl) (fun _ _ _ h => h) (Or.inl ⟨by rfl, ?yz9⟩) hHeld ?rz9
      case yz9 => (intro w' hSw; (try dsimp only at hSw); go_simp; try (with_reducible rfl))
      simp only [Act.put, List.setIfInBounds_toArray, List.set_cons_zero, List.set_cons_succ]
      refine wpAnyH_take (i := 10) (oi := ⟨some 78, _, _, _, _, _⟩) (v := ?vz10) rfl (by kernel_rfl) (by kernel_rfl) (by kernel_rfl) (fun _ _ _ h => h) (Or.inl ⟨by rfl, ?yz10⟩) hHeld ?rz10
      case yz10 => (intro w' hSw; (try dsimp only at hSw); go_simp; try (with_reducible rfl))
      simp only [Act.put, List.setIfInBounds_toArray, List.set_cons_zero, List.set_cons_succ]
      refine wpAnyH_ready (rs := [11]) (by kernel_rfl) (by simp) ?_
      refine AllReadyH.cons (o := ⟨some 79, _, _, _, _, _⟩) rfl (fun K hK => ?_) AllReadyH.nil
      go_simp
      (with_reducible refine (wnum_nil _ _).mono ?_)
      rintro e w8 ⟨rfl, rfl⟩
      (try dsimp only)
      refine hK.out _ _ (hHeld) (fun hNext => ?_)
      clear hK K hHeld
      have hHeld := hNext
      clear hNext
      try simp only [Act.put, List.setIfInBounds_toArray, List.set_cons_zero, List.set_cons_succ]
      refine wpAnyH_take (i := 12) (oi := ⟨some 80, _, _, _, _, _⟩) (v := ?vz12) rfl (by kernel_rfl) (by kernel_rfl) (by kernel_rfl) (fun _ _ _ h => h) (Or.inl ⟨by rfl, ?yz12⟩) hHeld ?rz12
      case yz12 => (intro w' hSw; (try dsimp only at hSw); go_simp; try (with_reducible rfl))
      simp only [Act.put, List.setIfInBounds_toArray, List.set_cons_zero, List.set_cons_succ]
      refine wpAnyH_take (i := 13) (oi := ⟨some 81, _, _, _, _, _⟩) (v := ?vz13) rfl (by kernel_rfl) (by kernel_rfl) (by kernel_rfl) (fun _ _ _ h => h) (Or.inl ⟨by rfl, ?yz13⟩) hHeld ?rz13
      case yz13 => (intro w' hSw; (try dsimp only at hSw); go_simp; try (with_reducible rfl))
      simp only [Act.put, List.setIfInBounds_toArray, List.set_cons_zero, List.set_cons_succ]
      refine wpAnyH_take (i := 14) (oi := ⟨some 82, _, _, _, _, _⟩) (v := ?vz14) rfl (by kernel_rfl) (by kernel_rfl) (by kernel_rfl) (fun _ _ _ h => h) (Or.inl ⟨by rfl, ?yz14⟩) hHeld ?rz14
      case yz14 => (intro w' hSw; (try dsimp only at hSw); go_simp; try (with_reducible rfl))
      simp only [Act.put, List.setIfInBounds_toArray, List.set_cons_zero, List.set_cons_succ]
      refine wpAnyH_take (i := 15) (oi := ⟨some 83, _, _, _, _, _⟩) (v := ?vz15) rfl (by kernel_rfl) (by kernel_rfl) (by kernel_rfl) (fun _ _ _ h => h) (Or.inl ⟨by rfl, ?yz15⟩) hHeld ?rz15
      case yz15 => (intro w' hSw; (try dsimp only at hSw); go_simp; try (with_reducible rfl))
      simp only [Act.put, List.setIfInBounds_toArray, List.set_cons_zero, List.set_cons_succ]
      refine wpAnyH_ready (rs := [16]) (by kernel_rfl) (by simp) ?_
      refine AllReadyH.cons (o := ⟨some 84, _, _, _, _, _⟩) rfl (fun K hK => ?_) AllReadyH.nil
      go_simp
      (with_reducible refine (HWN.out _).mono ?_)
      rintro e w9 ⟨rfl, rfl⟩
      (try dsimp only)
      refine hK.out _ _ (hHeld) (fun hNext => ?_)
      clear hK K hHeld
      have hHeld := hNext
      clear hNext
      try simp only [Act.put, List.setIfInBounds_toArray, List.set_cons_zero, List.set_cons_succ]
      refine wpAnyH_take (i := 17) (oi := ⟨some 85, _, _, _, _, _⟩) (v := ?vz17) rfl (by kernel_rfl) (by kernel_rfl) (by kernel_rfl) (fun _ _ _ h => h) (Or.inl ⟨by rfl, ?yz17⟩) hHeld ?rz17
      case yz17 => (intro w' hSw; (try dsimp only at hSw); go_simp; try (with_reducible rfl))
      simp only [Act.put, List.setIfInBounds_toArray, List.set_cons_zero, List.set_cons_succ]
      refine wpAnyH_take (i := 18) (oi := ⟨some 86, _, _, _, _, _⟩) (v := ?vz18) rfl (by kernel_rfl) (by kernel_rfl) (by kernel_rfl) (fun _ _ _ h => h) (Or.inl ⟨by rfl, ?yz18⟩) hHeld ?rz18
      case yz18 => (intro w' hSw; (try dsimp only at hSw); go_simp; try (with_reducible rfl))
      simp only [Act.put, List.setIfInBounds_toArray, List.set_cons_zero, List.set_cons_succ]
      refine wpAnyH_take (i := 19) (oi := ⟨some 87, _, _, _, _, _⟩) (v := ?vz19) rfl (by kernel_rfl) (by kernel_rfl) (by kernel_rfl) (fun _ _ _ h => h) (Or.inl ⟨by rfl, ?yz19⟩) hHeld ?rz19
      case yz19 => (intro w' hSw; (try dsimp only at hSw); go_simp; try (with_reducible rfl))
      simp only [Act.put, List.setIfInBounds_toArray, List.set_cons_zero, List.set_cons_succ]
      refine wpAnyH_take (i := 20) (oi := ⟨some 88, _, _, _, _, _⟩) (v := ?vz20) rfl (by kernel_rfl) (by kernel_rfl) (by kernel_rfl) (fun _ _ _ h => h) (Or.inl ⟨by rfl, ?yz20⟩) hHeld ?rz20
      case yz20 => (intro w' hSw; (try dsimp only at hSw); go_simp; try (with_reducible rfl))
      simp only [Act.put, List.setIfInBounds_toArray, List.set_cons_zero, List.set_cons_succ]
      refine wpAnyH_ready (rs := [21]) (by kernel_rfl) (by simp) ?_
      refine AllReadyH.cons (o := ⟨some 89, _, _, _, _, _⟩) rfl (fun K hK => ?_) AllReadyH.nil
      go_simp
      (with_reducible refine (text_nil _).mono ?_)
      rintro e w10 ⟨rfl, rfl⟩
      (try dsimp only)
      refine hK.out _ _ (hHeld) (fun hNext => ?_)
      clear hK K hHeld
      have hHeld := hNext
      clear hNext
      try simp only [Act.put, List.setIfInBounds_toArray, List.set_cons_zero, List.set_cons_succ]
      refine wpAnyH_take (i := 22) (oi := ⟨some 90, _, _, _, _, _⟩) (v := ?vz22) rfl (by kernel_rfl) (by kernel_rfl) (by kernel_rfl) (fun _ _ _ h => h) (Or.inl ⟨by rfl, ?yz22⟩) hHeld ?rz22
      case yz22 => (intro w' hSw; (try dsimp only at hSw); go_simp; try (with_reducible rfl))
      simp only [Act.put, List.setIfInBounds_toArray, List.set_cons_zero, List.set_cons_succ]
      refine wpAnyH_take (i := 23) (oi := ⟨some 91, _, _, _, _, _⟩) (v := ?vz23) rfl (by kernel_rfl) (by kernel_rfl) (by kernel_rfl) (fun _ _ _ h => h) (Or.inl ⟨by rfl, ?yz23⟩) hHeld ?rz23
      case yz23 => (intro w' hSw; (try dsimp only at hSw); go_simp; try (with_reducible rfl))
      simp only [Act.put, List.setIfInBounds_toArray, List.set_cons_zero, List.set_cons_succ]
      refine wpAnyH_take (i := 24) (oi := ⟨some 92, _, _, _, _, _⟩) (v := ?vz24) rfl (by kernel_rfl) (by kernel_rfl) (by kernel_rfl) (fun _ _ _ h => h) (Or.inl ⟨by rfl, ?yz24⟩) hHeld ?rz24
      case yz24 => (intro w' hSw; (try dsimp only at hSw); go_simp; try (with_reducible rfl))
      simp only [Act.put, List.setIfInBounds_toArray, List.set_cons_zero, List.set_cons_succ]
      refine wpAnyH_take (i := 25) (oi := ⟨some 93, _, _, _, _, _⟩) (v := ?vz25) rfl (by kernel_rfl) (by kernel_rfl) (by kernel_rfl) (fun _ _ _ h => h) (Or.inl ⟨by rfl, ?yz25⟩) hHeld ?rz25
      case yz25 => (intro w' hSw; (try dsimp only at hSw); go_simp; try (with_reducible rfl))
      simp only [Act.put, List.setIfInBounds_toArray, List.set_cons_zero, List.set_cons_succ]
      refine wpAnyH_ready (rs := [26]) (by kernel_rfl) (by simp) ?_
      refine AllReadyH.cons (o := ⟨some 94, _, _, _, _, _⟩) rfl (fun K hK => ?_) AllReadyH.nil
      go_simp
      (with_reducible refine (bytes_nil _).mono ?_)
      rintro e w11 ⟨rfl, rfl⟩
      (try dsimp only)
      refine hK.out _ _ (hHeld) (fun hNext => ?_)
      clear hK K hHeld
      have hHeld := hNext
      clear hNext
      try simp only [Act.put, List.setIfInBounds_toArray, List.set_cons_zero, List.set_cons_succ]
      refine wpAnyH_take (i := 27) (oi := ⟨some 95, _, _, _, _, _⟩) (v := ?vz27) rfl (by kernel_rfl) (by kernel_rfl) (by kernel_rfl) (fun _ _ _ h => h) (Or.inl ⟨by rfl, ?yz27⟩) hHeld ?rz27
      case yz27 => (intro w' hSw; (try dsimp only at hSw); go_simp; try (with_reducible rfl))
      simp only [Act.put, List.setIfInBounds_toArray, List.set_cons_zero, List.set_cons_succ]
      refine wpAnyH_take (i := 28) (oi := ⟨some 96, _, _, _, _, _⟩) (v := ?vz28) rfl (by kernel_rfl) (by kernel_rfl) (by kernel_rfl) (fun _ _ _ h => h) (Or.inl ⟨by rfl, ?yz28⟩) hHeld ?rz28
      case yz28 => (intro w' hSw; (try dsimp only at hSw); go_simp; try (with_reducible rfl))
      simp only [Act.put, List.setIfInBounds_toArray, List.set_cons_zero, List.set_cons_succ]
      refine wpAnyH_take (i := 29) (oi := ⟨some 97, _, _, _, _, _⟩) (v := ?vz29) rfl (by kernel_rfl) (by kernel_rfl) (by kernel_rfl) (fun _ _ _ h => h) (Or.inl ⟨by rfl, ?yz29⟩) hHeld ?rz29
      case yz29 => (intro w' hSw; (try dsimp only at hSw); go_simp; try (with_reducible rfl))
      simp only [Act.put, List.setIfInBounds_toArray, List.set_cons_zero, List.set_cons_succ]
      refine wpAnyH_take (i := 30) (oi := ⟨some 2, _, _, _, _, _⟩) (v := ?vz30) rfl (by kernel_rfl) (by kernel_rfl) (by kernel_rfl) (fun _ _ _ h => h) (Or.inl ⟨by rfl, ?yz30⟩) hHeld ?rz30
      case yz30 => (intro w' hSw; (try dsimp only at hSw); go_simp; try (with_reducible rfl))
      simp only [Act.put, List.setIfInBounds_toArray, List.set_cons_zero, List.set_cons_succ]
      refine wpAnyH_done (by kernel_rfl) ?_ _
      have hL := hHeld.1
      clear hHeld hcv HWN HSE HBY
      go_wp2
      go_ret
      exact ⟨rfl, hL⟩
set_option maxHeartbeats 4000000 in
set_option maxRecDepth 100000 in
theorem pwrites_l (A : Option Addr) (cap : Nat) (F : List Fdt) (w : World) (hc : 100 < F.length) (hF : Fl w A F) : Calls Try.prog 3 #[.slice A F.length cap] w fun e w' => e = .returned (.bool true) ∧ Below w.heap.size w w' := by
  have HF := Lib.hid hF.2
  have hml : (F.length : Int) ≤ 9223372036854775807 := by have := hF.1; unfold maxLen at this; omega
  clear hF
  go_enter Try.func3, Try.ntmps3
  go_wp2_with fail
  refine (new_c w w.heap.size).mono ?_
  rintro e w1 ⟨rfl, K1, B1⟩
  have HK1 := Lib.hid K1
  have HB1 := Lib.hid B1
  clear K1 B1
  go_wp2
  go_loopg [4, 5, 6, 7] 100 (fun gg s4 s5 _ _ wr => ∃ (i : Nat) (sB : ByteArray), i ≤ 100 ∧ 100 - i ≤ gg ∧ s5 = .int .i64 i ∧ s4 = .string sB ∧ Hid (str (encK (F.take i)) = sB) ∧ Hid (Below w.heap.size w wr) ∧ Hid (∃ oo, Wrt wr w.heap.size w.heap.size oo (encK (F.take i))))
  case atStart => exact ⟨0, _, Nat.zero_le _, by omega, rfl, rfl, rfl, HB1.out, _, HK1.out⟩
  case round =>
    clear HK1 HB1
    obtain ⟨i, sB, hi, hg, rfl, rfl, HS, HW, HK⟩ := hrel
    by_cases hlt : i < 100
    · have hltz : (i : Int) < (F.length : Int) := by omega
      have hl100 : (i : Int) < 100 := by omega
      obtain ⟨x, hx⟩ : ∃ x, F[i]? = some x := ⟨_, List.getElem?_eq_getElem (by omega)⟩
      obtain ⟨-, b, off, rfl, hAt⟩ := HF.out i x hx
      have hAt2 := AtF.on hAt HW.out
      obtain ⟨c0, c1, c2, c3⟩ := hAt2
      have HT := Lib.hid (take_nextF hx)
      have HLn : Hid ((encK (F.take i)).length ≤ 1677722000) := by
        have h1 := encK_len (F.take i)
        have h2 : (F.take i).length ≤ i := by simp; omega
        have h3 : (F.take i).length * 16777220 ≤ 100 * 16777220 := Nat.mul_le_mul (by omega) (Nat.le_refl _)
        show _ ≤ _
        omega
      have hlen8 : (encK (F.take i)).length + 8 ≤ 140737488355328 := by have := HLn.out; omega
      have hlenT : (encK (F.take i)).length + 16777228 ≤ 140737488355328 := by have := HLn.out; omega
      have b1 := below1 wr (.cells #[.int .i64 x.a, .int .i64 x.n, .int .u64 (uv x.u), .string x.s] 27)
      have X : Blk (wr.alloc (.cells #[.int .i64 x.a, .int .i64 x.n, .int .u64 (uv x.u), .string x.s] 27)) wr.heap.size 27 #[.int .i64 x.a, .int .i64 x.n, .int .u64 (uv x.u), .string x.s] := Blk.new wr _ _
      have HW2 := Lib.hid (HW.out.trans (b1.mono HW.out.size))
      obtain ⟨oo, K0⟩ := HK.out
      have K := K0.on b1
      clear hAt hx HK K0 b1 HW
      go_upto_region 8 with (fail)
      generalize (wr.alloc (.cells #[.int .i64 x.a, .int .i64 x.n, .int .u64 (uv x.u), .string x.s] 27)) = w2 at X HW2 K ⊢
      clear c0 c1 c2 c3
      obtain ⟨d0, d1, d2, d3⟩ := X.fourF
      by_cases ha : x.a = 0
      · have HN : Hid (encK (F.take (i + 1)) = encK (F.take i) ++ bigB (BitVec.ofInt 64 x.n) 8) := by show _ = _; rw [HT.out, encK_snoc]; unfold encK1; rw [if_pos ha]
        obtain ⟨q, HQ⟩ : ∃ q, Hid (str (bigB (BitVec.ofInt 64 x.n) 8) = q) := ⟨_, rfl⟩
        have HS2 : Hid (str (encK (F.take (i + 1))) = sB ++ q) := by show _ = _; rw [HN.out, ← str_app, HS.out, HQ.out]
        have hlim : ¬ 9223372036854775807 < sB.size + q.size := by
          rw [← HQ.out, ← HS.out, str_size, str_size]
          have := HLn.out
          rw [bigB_len]; omega
        have hcon := wnum_c w2 w.heap.size _ _ _ x.n HW2.out.size hlen8 K
        rw [← HN.out] at hcon
        have hcon2 := fun W => big8_c (BitVec.ofInt 64 x.n) W
        rw [HQ.out, ← wrapU_ofInt] at hcon2
        have HC2 := Lib.hid hcon2
        have hsame := same_wr
        clear hcon2 HS HLn hlen8 hlenT HN
        go_wp2_with fail
        (with_reducible refine hcon.mono ?_)
        rintro e w5 ⟨rfl, o5, K5, S5⟩
        have X5 := S5.blk K X (by decide) (by decide)
        have B5 := HW2.out.trans (S5.below K (Nat.le_refl _) (Nat.le_refl _))
        obtain ⟨e0, e1, e2, e3⟩ := X5.fourF
        have HK5 := Lib.hid K5
        have HB5 := Lib.hid B5
        clear hcon K X S5 X5 K5 B5 HW2 d0 d1 d2 d3
        go_wp2_with fail
        (with_reducible refine (HC2.out _).mono ?_)
        rintro e w6 ⟨rfl, b6⟩
        have HB6 := Lib.hid (HB5.out.trans (b6.mono HB5.out.size))
        have HK6 := Lib.hid (HK5.out.on b6)
        clear HC2 HK5 HB5 b6 e0 e1 e2 e3
        go_wp2
        go_roundg (100 - (i + 1))
        case measure => omega
        case rel => exact ⟨i + 1, sB ++ q, by omega, by omega, by go_num, rfl, HS2.out, HB6.out, _, HK6.out⟩
      · have ha0 := ha
        clear ha
        by_cases ha : x.a = 1
        · have HN : Hid (encK (F.take (i + 1)) = encK (F.take i) ++ bigB x.u 8) := by show _ = _; rw [HT.out, encK_snoc]; unfold encK1; rw [if_neg (by omega), if_pos ha]
          obtain ⟨q, HQ⟩ : ∃ q, Hid (str (bigB x.u 8) = q) := ⟨_, rfl⟩
          have HS2 : Hid (str (encK (F.take (i + 1))) = sB ++ q) := by show _ = _; rw [HN.out, ← str_app, HS.out, HQ.out]
          have hlim : ¬ 9223372036854775807 < sB.size + q.size := by
            rw [← HQ.out, ← HS.out, str_size, str_size]
            have := HLn.out
            rw [bigB_len]; omega
          have hcon := wide_c w2 w.heap.size _ _ _ x.u HW2.out.size hlen8 K
          rw [← HN.out] at hcon
          have hcon2 := fun W => big8_c x.u W
          rw [HQ.out] at hcon2
          have HC2 := Lib.hid hcon2
          have hsame := same_wr
          clear hcon2 HS HLn hlen8 hlenT HN
          go_wp2_with fail
          (with_reducible refine hcon.mono ?_)
          rintro e w5 ⟨rfl, o5, K5, S5⟩
          have X5 := S5.blk K X (by decide) (by decide)
          have B5 := HW2.out.trans (S5.below K (Nat.le_refl _) (Nat.le_refl _))
          obtain ⟨e0, e1, e2, e3⟩ := X5.fourF
          have HK5 := Lib.hid K5
          have HB5 := Lib.hid B5
          clear hcon K X S5 X5 K5 B5 HW2 d0 d1 d2 d3
          go_wp2_with fail
          (with_reducible refine (HC2.out _).mono ?_)
          rintro e w6 ⟨rfl, b6⟩
          have HB6 := Lib.hid (HB5.out.trans (b6.mono HB5.out.size))
          have HK6 := Lib.hid (HK5.out.on b6)
          clear HC2 HK5 HB5 b6 e0 e1 e2 e3
          go_wp2
          go_roundg (100 - (i + 1))
          case measure => omega
          case rel => exact ⟨i + 1, sB ++ q, by omega, by omega, by go_num, rfl, HS2.out, HB6.out, _, HK6.out⟩
        · have ha1 := ha
          clear ha
          by_cases ha : x.a = 2
          · have HN : Hid (encK (F.take (i + 1)) = encK (F.take i) ++ txF (cutT (sl x.s))) := by show _ = _; rw [HT.out, encK_snoc]; unfold encK1; rw [if_neg (by omega), if_neg (by omega), if_pos ha]
            obtain ⟨q, HQ⟩ : ∃ q, Hid (str (txF (cutT (sl x.s))) = q) := ⟨_, rfl⟩
            have HS2 : Hid (str (encK (F.take (i + 1))) = sB ++ q) := by show _ = _; rw [HN.out, ← str_app, HS.out, HQ.out]
            have hlim : ¬ 9223372036854775807 < sB.size + q.size := by
              rw [← HQ.out, ← HS.out, str_size, str_size]
              have := HLn.out
              rw [txF_len]; have := cutT_len (sl x.s); omega
            have hcon := text_c w2 w.heap.size _ _ _ x.s HW2.out.size hlenT K
            rw [← HN.out] at hcon
            have hcon2 := fun W => reftext_c x.s W
            rw [HQ.out] at hcon2
            have HC2 := Lib.hid hcon2
            have hsame := same_wr
            clear hcon2 HS HLn hlen8 hlenT HN
            go_wp2_with fail
            (with_reducible refine hcon.mono ?_)
            rintro e w5 ⟨rfl, o5, K5, S5⟩
            have X5 := S5.blk K X (by decide) (by decide)
            have B5 := HW2.out.trans (S5.below K (Nat.le_refl _) (Nat.le_refl _))
            obtain ⟨e0, e1, e2, e3⟩ := X5.fourF
            have HK5 := Lib.hid K5
            have HB5 := Lib.hid B5
            clear hcon K X S5 X5 K5 B5 HW2 d0 d1 d2 d3
            go_wp2_with fail
            (with_reducible refine (HC2.out _).mono ?_)
            rintro e w6 ⟨rfl, b6⟩
            have HB6 := Lib.hid (HB5.out.trans (b6.mono HB5.out.size))
            have HK6 := Lib.hid (HK5.out.on b6)
            clear HC2 HK5 HB5 b6 e0 e1 e2 e3
            go_wp2
            go_roundg (100 - (i + 1))
            case measure => omega
            case rel => exact ⟨i + 1, sB ++ q, by omega, by omega, by go_num, rfl, HS2.out, HB6.out, _, HK6.out⟩
          · have ha2 := ha
            clear ha
            have HN : Hid (encK (F.take (i + 1)) = encK (F.take i)) := by show _ = _; rw [HT.out, encK_snoc]; unfold encK1; rw [if_neg ha0, if_neg ha1, if_neg ha2, List.append_nil]
            have q0 : (x.a == 0) = false := by simpa using ha0
            have q1 : (x.a == 1) = false := by simpa using ha1
            have q2 : (x.a == 2) = false := by simpa using ha2
            have HKK := Lib.hid K
            clear K ha0 ha1 ha2 X
            go_wp2
            go_roundg (100 - (i + 1))
            case measure => omega
            case rel => exact ⟨i + 1, sB, by omega, by omega, by go_num, rfl, by rw [HN.out]; exact HS.out, HW2.out, _, by rw [HN.out]; exact HKK.out⟩
    · obtain rfl : i = 100 := by omega
      have hltz : (100 : Int) < (F.length : Int) := by omega
      have hl100 : ¬ (100 : Int) < 100 := by omega
      have hln : (encK (F.take 100)).length + 8 ≤ 140737488355328 := by
        have h1 := encK_len (F.take 100)
        have h2 : (F.take 100).length ≤ 100 := by simp; omega
        have h3 : (F.take 100).length * 16777220 ≤ 100 * 16777220 := Nat.mul_le_mul h2 (Nat.le_refl _)
        omega
      obtain ⟨oo, K0'⟩ := HK.out
      have K0 : Wrt wr.drew w.heap.size w.heap.size oo (encK (F.take 100)) := K0'
      obtain ⟨C, HC⟩ : ∃ C, Hid (seal8 (encK (F.take 100)) = C) := ⟨_, rfl⟩
      obtain ⟨r, HR⟩ : ∃ r, Hid (str C = r) := ⟨_, rfl⟩
      have hby := fun W (k : Wrt W w.heap.size w.heap.size oo (encK (F.take 100))) => bytes_c W w.heap.size _ _ _ hln k
      rw [HC.out] at hby
      have HBY := Lib.hid hby
      have hse := fun W => sealed_c (encK (F.take 100)) sB HS.out (by unfold maxLen; omega) W
      rw [HC.out, HR.out] at hse
      have HSE := Lib.hid hse
      have hwn := fun W => wide_nil W 1#64
      rw [show uv 1#64 = 1 from rfl] at hwn
      have HWN := Lib.hid hwn
      have hcv : ∀ (W : World) (v : Value), Rd W v C → (convert 34 9 v).run Try.prog W = .ok (.string r) W := fun W v h => by
        rw [← HR.out]; exact run_text (P := Try.prog) W Try.underlying34 Try.underlying5 Try.underlying9 h
      clear HK K0' hby hse hwn hln
      go_upto_region 21 with (fail)
      refine wp_region_held_drew (S := fun w' => Below w.heap.size w w') (by kernel_rfl) (HW.out.drew) (fun hHeld => ?_)
      refine wpAnyH_ready (rs := [0]) (by kernel_rfl) (by simp) ?_
      refine AllReadyH.cons (o := ⟨some 68, _, _, _, _, _⟩) rfl (fun K hK => ?_) AllReadyH.nil
      go_simp
      (with_reducible refine (awake4_c _).mono ?_)
      rintro e w5 ⟨rfl, b5⟩
      have K5 := K0.on b5
      (try dsimp only)
      refine hK.out _ _ (hHeld.trans (b5.mono hHeld.size)) (fun hNext => ?_)
      clear hK K hHeld
      have hHeld := hNext
      clear hNext
      try simp only [Act.put, List.setIfInBounds_toArray, List.set_cons_zero, List.set_cons_succ]
      refine wpAnyH_take (i := 1) (oi := ⟨some 69, _, _, _, _, _⟩) (v := ?vz1) rfl (by kernel_rfl) (by kernel_rfl) (by kernel_rfl) (fun _ _ _ h => h) (Or.inl ⟨by rfl, ?yz1⟩) hHeld ?rz1
      case yz1 => (intro w' hSw; (try dsimp only at hSw); go_simp; try (with_reducible rfl))
      simp only [Act.put, List.setIfInBounds_toArray, List.set_cons_zero, List.set_cons_succ]
      refine wpAnyH_take (i := 2) (oi := ⟨some 70, _, _, _, _, _⟩) (v := ?vz2) rfl (by kernel_rfl) (by kernel_rfl) (by kernel_rfl) (fun _ _ _ h => h) (Or.inl ⟨by rfl, ?yz2⟩) hHeld ?rz2
      case yz2 => (intro w' hSw; (try dsimp only at hSw); go_simp; try (with_reducible rfl))
      simp only [Act.put, List.setIfInBounds_toArray, List.set_cons_zero, List.set_cons_succ]
      refine wpAnyH_take (i := 5) (oi := ⟨some 73, _, _, _, _, _⟩) (v := ?vz5) rfl (by kernel_rfl) (by kernel_rfl) (by kernel_rfl) (fun _ _ _ h => h) (Or.inl ⟨by rfl, ?yz5⟩) hHeld ?rz5
      case yz5 => (intro w' hSw; (try dsimp only at hSw); go_simp; try (with_reducible rfl))
      simp only [Act.put, List.setIfInBounds_toArray, List.set_cons_zero, List.set_cons_succ]
      refine wpAnyH_ready (rs := [3]) (by kernel_rfl) (by simp) ?_
      refine AllReadyH.cons (o := ⟨some 71, _, _, _, _, _⟩) rfl (fun K hK => ?_) AllReadyH.nil
      go_simp
      (with_reducible refine (HBY.out _ K5).mono ?_)
      rintro e w6 ⟨v6, rfl, O6, b6⟩
      have R6 := Rd.of_own O6
      clear O6
      (try dsimp only)
      refine hK.out _ _ (hHeld.trans (b6.mono hHeld.size)) (fun hNext => ?_)
      clear hK K hHeld
      have hHeld := hNext
      clear hNext
      refine wpAnyH_more (S' := fun w' => Below w.heap.size w w' ∧ Rd w' v6 C) (fun _ h => h.1) _ _ _ _ ?_
      replace hHeld := And.intro hHeld R6
      try simp only [Act.put, List.setIfInBounds_toArray, List.set_cons_zero, List.set_cons_succ]
      refine wpAnyH_take (i := 4) (oi := ⟨some 72, _, _, _, _, _⟩) (v := ?vz4) rfl (by kernel_rfl) (by kernel_rfl) (by kernel_rfl) (fun _ _ _ h => h) (Or.inl ⟨by rfl, ?yz4⟩) hHeld ?rz4
      case yz4 => (intro w' hSw; (try dsimp only at hSw); go_simp; try (with_reducible rfl))
      simp only [Act.put, List.setIfInBounds_toArray, List.set_cons_zero, List.set_cons_succ]
      refine wpAnyH_ready (rs := [6]) (by kernel_rfl) (by simp) ?_
      refine AllReadyH.cons (o := ⟨some 74, _, _, _, _, _⟩) rfl (fun K hK => ?_) AllReadyH.nil
      go_simp
      (with_reducible refine (HSE.out _).mono ?_)
      rintro e w7 ⟨rfl, b7⟩
      (try dsimp only)
      refine hK.out _ _ (⟨hHeld.1.trans (b7.mono hHeld.1.size), hHeld.2.on b7⟩) (fun hNext => ?_)
      clear hK K hHeld
      have hHeld := hNext
      clear hNext
      try simp only [Act.put, List.setIfInBounds_toArray, List.set_cons_zero, List.set_cons_succ]
      refine wpAnyH_take (i := 7) (oi := ⟨some 75, _, _, _, _, _⟩) (v := ?vz7) rfl (by kernel_rfl) (by kernel_rfl) (by kernel_rfl) (fun _ _ _ h => h) (Or.inl ⟨by rfl, ?yz7⟩) hHeld ?rz7
      case yz7 => (intro w' hSw; (try dsimp only at hSw); go_simp; try (with_reducible rfl))
      simp only [Act.put, List.setIfInBounds_toArray, List.set_cons_zero, List.set_cons_succ]
      refine wpAnyH_take (i := 8) (oi := ⟨some 76, _, _, _, _, _⟩) (v := ?vz8) rfl (by kernel_rfl) (by kernel_rfl) (by kernel_rfl) (fun _ _ _ h => h) (Or.inl ⟨by rfl, ?yz8⟩) hHeld ?rz8
      case yz8 => (intro w' hSw; (try dsimp only at hSw); go_simp; try (with_reducible rfl))
      simp only [Act.put, List.setIfInBounds_toArray, List.set_cons_zero, List.set_cons_succ]
      refine wpAnyH_take (i := 9) (oi := ⟨some 77, _, _, _, _, _⟩) (v := ?vz9) rfl (by kernel_rfl) (by kernel_rfl) (by kernel_rfl) (fun _ _ _ h => h) (Or.inl ⟨by rfl, ?yz9⟩) hHeld ?rz9
      case yz9 => (intro w' hSw; (try dsimp only at hSw); go_simp; try (with_reducible rfl))
      simp only [Act.put, List.setIfInBounds_toArray, List.set_cons_zero, List.set_cons_succ]
      refine wpAnyH_take (i := 10) (oi := ⟨some 78, _, _, _, _, _⟩) (v := ?vz10) rfl (by kernel_rfl) (by kernel_rfl) (by kernel_rfl) (fun _ _ _ h => h) (Or.inl ⟨by rfl, ?yz10⟩) hHeld ?rz10
      case yz10 => (intro w' hSw; (try dsimp only at hSw); go_simp; try (with_reducible rfl))
      simp only [Act.put, List.setIfInBounds_toArray, List.set_cons_zero, List.set_cons_succ]
      refine wpAnyH_ready (rs := [11]) (by kernel_rfl) (by simp) ?_
      refine AllReadyH.cons (o := ⟨some 79, _, _, _, _, _⟩) rfl (fun K hK => ?_) AllReadyH.nil
      go_simp
      (with_reducible refine (wnum_nil _ _).mono ?_)
      rintro e w8 ⟨rfl, rfl⟩
      (try dsimp only)
      refine hK.out _ _ (hHeld) (fun hNext => ?_)
      clear hK K hHeld
      have hHeld := hNext
      clear hNext
      try simp only [Act.put, List.setIfInBounds_toArray, List.set_cons_zero, List.set_cons_succ]
      refine wpAnyH_take (i := 12) (oi := ⟨some 80, _, _, _, _, _⟩) (v := ?vz12) rfl (by kernel_rfl) (by kernel_rfl) (by kernel_rfl) (fun _ _ _ h => h) (Or.inl ⟨by rfl, ?yz12⟩) hHeld ?rz12
      case yz12 => (intro w' hSw; (try dsimp only at hSw); go_simp; try (with_reducible rfl))
      simp only [Act.put, List.setIfInBounds_toArray, List.set_cons_zero, List.set_cons_succ]
      refine wpAnyH_take (i := 13) (oi := ⟨some 81, _, _, _, _, _⟩) (v := ?vz13) rfl (by kernel_rfl) (by kernel_rfl) (by kernel_rfl) (fun _ _ _ h => h) (Or.inl ⟨by rfl, ?yz13⟩) hHeld ?rz13
      case yz13 => (intro w' hSw; (try dsimp only at hSw); go_simp; try (with_reducible rfl))
      simp only [Act.put, List.setIfInBounds_toArray, List.set_cons_zero, List.set_cons_succ]
      refine wpAnyH_take (i := 14) (oi := ⟨some 82, _, _, _, _, _⟩) (v := ?vz14) rfl (by kernel_rfl) (by kernel_rfl) (by kernel_rfl) (fun _ _ _ h => h) (Or.inl ⟨by rfl, ?yz14⟩) hHeld ?rz14
      case yz14 => (intro w' hSw; (try dsimp only at hSw); go_simp; try (with_reducible rfl))
      simp only [Act.put, List.setIfInBounds_toArray, List.set_cons_zero, List.set_cons_succ]
      refine wpAnyH_take (i := 15) (oi := ⟨some 83, _, _, _, _, _⟩) (v := ?vz15) rfl (by kernel_rfl) (by kernel_rfl) (by kernel_rfl) (fun _ _ _ h => h) (Or.inl ⟨by rfl, ?yz15⟩) hHeld ?rz15
      case yz15 => (intro w' hSw; (try dsimp only at hSw); go_simp; try (with_reducible rfl))
      simp only [Act.put, List.setIfInBounds_toArray, List.set_cons_zero, List.set_cons_succ]
      refine wpAnyH_ready (rs := [16]) (by kernel_rfl) (by simp) ?_
      refine AllReadyH.cons (o := ⟨some 84, _, _, _, _, _⟩) rfl (fun K hK => ?_) AllReadyH.nil
      go_simp
      (with_reducible refine (HWN.out _).mono ?_)
      rintro e w9 ⟨rfl, rfl⟩
      (try dsimp only)
      refine hK.out _ _ (hHeld) (fun hNext => ?_)
      clear hK K hHeld
      have hHeld := hNext
      clear hNext
      try simp only [Act.put, List.setIfInBounds_toArray, List.set_cons_zero, List.set_cons_succ]
      refine wpAnyH_take (i := 17) (oi := ⟨some 85, _, _, _, _, _⟩) (v := ?vz17) rfl (by kernel_rfl) (by kernel_rfl) (by kernel_rfl) (fun _ _ _ h => h) (Or.inl ⟨by rfl, ?yz17⟩) hHeld ?rz17
      case yz17 => (intro w' hSw; (try dsimp only at hSw); go_simp; try (with_reducible rfl))
      simp only [Act.put, List.setIfInBounds_toArray, List.set_cons_zero, List.set_cons_succ]
      refine wpAnyH_take (i := 18) (oi := ⟨some 86, _, _, _, _, _⟩) (v := ?vz18) rfl (by kernel_rfl) (by kernel_rfl) (by kernel_rfl) (fun _ _ _ h => h) (Or.inl ⟨by rfl, ?yz18⟩) hHeld ?rz18
      case yz18 => (intro w' hSw; (try dsimp only at hSw); go_simp; try (with_reducible rfl))
      simp only [Act.put, List.setIfInBounds_toArray, List.set_cons_zero, List.set_cons_succ]
      refine wpAnyH_take (i := 19) (oi := ⟨some 87, _, _, _, _, _⟩) (v := ?vz19) rfl (by kernel_rfl) (by kernel_rfl) (by kernel_rfl) (fun _ _ _ h => h) (Or.inl ⟨by rfl, ?yz19⟩) hHeld ?rz19
      case yz19 => (intro w' hSw; (try dsimp only at hSw); go_simp; try (with_reducible rfl))
      simp only [Act.put, List.setIfInBounds_toArray, List.set_cons_zero, List.set_cons_succ]
      refine wpAnyH_take (i := 20) (oi := ⟨some 88, _, _, _, _, _⟩) (v := ?vz20) rfl (by kernel_rfl) (by kernel_rfl) (by kernel_rfl) (fun _ _ _ h => h) (Or.inl ⟨by rfl, ?yz20⟩) hHeld ?rz20
      case yz20 => (intro w' hSw; (try dsimp only at hSw); go_simp; try (with_reducible rfl))
      simp only [Act.put, List.setIfInBounds_toArray, List.set_cons_zero, List.set_cons_succ]
      refine wpAnyH_ready (rs := [21]) (by kernel_rfl) (by simp) ?_
      refine AllReadyH.cons (o := ⟨some 89, _, _, _, _, _⟩) rfl (fun K hK => ?_) AllReadyH.nil
      go_simp
      (with_reducible refine (text_nil _).mono ?_)
      rintro e w10 ⟨rfl, rfl⟩
      (try dsimp only)
      refine hK.out _ _ (hHeld) (fun hNext => ?_)
      clear hK K hHeld
      have hHeld := hNext
      clear hNext
      try simp only [Act.put, List.setIfInBounds_toArray, List.set_cons_zero, List.set_cons_succ]
      refine wpAnyH_take (i := 22) (oi := ⟨some 90, _, _, _, _, _⟩) (v := ?vz22) rfl (by kernel_rfl) (by kernel_rfl) (by kernel_rfl) (fun _ _ _ h => h) (Or.inl ⟨by rfl, ?yz22⟩) hHeld ?rz22
      case yz22 => (intro w' hSw; (try dsimp only at hSw); go_simp; try (with_reducible rfl))
      simp only [Act.put, List.setIfInBounds_toArray, List.set_cons_zero, List.set_cons_succ]
      refine wpAnyH_take (i := 23) (oi := ⟨some 91, _, _, _, _, _⟩) (v := ?vz23) rfl (by kernel_rfl) (by kernel_rfl) (by kernel_rfl) (fun _ _ _ h => h) (Or.inl ⟨by rfl, ?yz23⟩) hHeld ?rz23
      case yz23 => (intro w' hSw; (try dsimp only at hSw); go_simp; try (with_reducible rfl))
      simp only [Act.put, List.setIfInBounds_toArray, List.set_cons_zero, List.set_cons_succ]
      refine wpAnyH_take (i := 24) (oi := ⟨some 92, _, _, _, _, _⟩) (v := ?vz24) rfl (by kernel_rfl) (by kernel_rfl) (by kernel_rfl) (fun _ _ _ h => h) (Or.inl ⟨by rfl, ?yz24⟩) hHeld ?rz24
      case yz24 => (intro w' hSw; (try dsimp only at hSw); go_simp; try (with_reducible rfl))
      simp only [Act.put, List.setIfInBounds_toArray, List.set_cons_zero, List.set_cons_succ]
      refine wpAnyH_take (i := 25) (oi := ⟨some 93, _, _, _, _, _⟩) (v := ?vz25) rfl (by kernel_rfl) (by kernel_rfl) (by kernel_rfl) (fun _ _ _ h => h) (Or.inl ⟨by rfl, ?yz25⟩) hHeld ?rz25
      case yz25 => (intro w' hSw; (try dsimp only at hSw); go_simp; try (with_reducible rfl))
      simp only [Act.put, List.setIfInBounds_toArray, List.set_cons_zero, List.set_cons_succ]
      refine wpAnyH_ready (rs := [26]) (by kernel_rfl) (by simp) ?_
      refine AllReadyH.cons (o := ⟨some 94, _, _, _, _, _⟩) rfl (fun K hK => ?_) AllReadyH.nil
      go_simp
      (with_reducible refine (bytes_nil _).mono ?_)
      rintro e w11 ⟨rfl, rfl⟩
      (try dsimp only)
      refine hK.out _ _ (hHeld) (fun hNext => ?_)
      clear hK K hHeld
      have hHeld := hNext
      clear hNext
      try simp only [Act.put, List.setIfInBounds_toArray, List.set_cons_zero, List.set_cons_succ]
      refine wpAnyH_take (i := 27) (oi := ⟨some 95, _, _, _, _, _⟩) (v := ?vz27) rfl (by kernel_rfl) (by kernel_rfl) (by kernel_rfl) (fun _ _ _ h => h) (Or.inl ⟨by rfl, ?yz27⟩) hHeld ?rz27
      case yz27 => (intro w' hSw; (try dsimp only at hSw); go_simp; try (with_reducible rfl))
      simp only [Act.put, List.setIfInBounds_toArray, List.set_cons_zero, List.set_cons_succ]
      refine wpAnyH_take (i := 28) (oi := ⟨some 96, _, _, _, _, _⟩) (v := ?vz28) rfl (by kernel_rfl) (by kernel_rfl) (by kernel_rfl) (fun _ _ _ h => h) (Or.inl ⟨by rfl, ?yz28⟩) hHeld ?rz28
      case yz28 => (intro w' hSw; (try dsimp only at hSw); go_simp; try (with_reducible rfl))
      simp only [Act.put, List.setIfInBounds_toArray, List.set_cons_zero, List.set_cons_succ]
      refine wpAnyH_take (i := 29) (oi := ⟨some 97, _, _, _, _, _⟩) (v := ?vz29) rfl (by kernel_rfl) (by kernel_rfl) (by kernel_rfl) (fun _ _ _ h => h) (Or.inl ⟨by rfl, ?yz29⟩) hHeld ?rz29
      case yz29 => (intro w' hSw; (try dsimp only at hSw); go_simp; try (with_reducible rfl))
      simp only [Act.put, List.setIfInBounds_toArray, List.set_cons_zero, List.set_cons_succ]
      refine wpAnyH_take (i := 30) (oi := ⟨some 2, _, _, _, _, _⟩) (v := ?vz30) rfl (by kernel_rfl) (by kernel_rfl) (by kernel_rfl) (fun _ _ _ h => h) (Or.inl ⟨by rfl, ?yz30⟩) hHeld ?rz30
      case yz30 => (intro w' hSw; (try dsimp only at hSw); go_simp; try (with_reducible rfl))
      simp only [Act.put, List.setIfInBounds_toArray, List.set_cons_zero, List.set_cons_succ]
      refine wpAnyH_done (by kernel_rfl) ?_ _
      have hL := hHeld.1
      clear hHeld hcv HWN HSE HBY
      go_wp2
      go_ret
      exact ⟨rfl, hL⟩
theorem pwrites_c (A : Option Addr) (cap : Nat) (F : List Fdt) (w : World) (hF : Fl w A F) : Calls Try.prog 3 #[.slice A F.length cap] w fun e w' => e = .returned (.bool true) ∧ Below w.heap.size w w' := by
  by_cases h : F.length ≤ 100
  · exact pwrites_s A cap F w h hF
  · exact pwrites_l A cap F w (by omega) hF
end Go.Proofs

namespace Go.Proofs.Ytpalcmbofleabaa
open Go.ChangeShapes Go.WideShapes Go.ChangeAt Go.RowKit Go.Joins Go.Proofs.Hd

theorem laidOut_pwrites : laidOutB Try.prog = true := by kernel_rfl
set_option maxRecDepth 100000 in
theorem pwrites_lifted (os : Os) (started : os.Started) (H : Type) (enc : TypeId × Value → H) :
    ReturnsInHanded {} Try.checked os 3 .any (Rows.packWritesSpec.pre6 enc Try.prog Try.f3 Rows.packWritesRow.domain false) (Rows.packWritesSpec.post enc Try.prog Try.f3 false true false false) := by
  refine returnsInHanded_of_change (C := Try.checked) own started (by kernel_rfl) Try.func3
    (ChangeSpec.witness6 (enc := enc) (C := Try.checked) false ⟨#[], #[.slice none 0 0], []⟩ 8 (by kernel_rfl) (by kernel_rfl) (by kernel_rfl) (by kernel_rfl)) ?_
  intro W base args ds gs before hval0 hW hcnd _
  have hval : ∀ (j : Nat) t v, Try.f3.params[j]? = some t → args[j]? = some v → Value.okWide Try.prog W .any base t v := hval0
  have hW' := hW
  obtain ⟨p, q, hA0, hV, rfl, hfz, hnd⟩ := hW
  have hA : DataW.TrodAll enc Try.prog W 0 (fun _ => true) true Try.f3.params.toList args.toList ds p := hA0
  rw [Try.params3] at hA hval
  obtain ⟨v0, vs0, d0, ds0, p0, q0, hargs, rfl, rfl, h0, r0⟩ := trodAll_cons hA
  obtain ⟨rfl, rfl, rfl⟩ := trodAll_nil r0
  obtain rfl : args = #[v0] := by cases args; simp_all
  obtain ⟨rfl, rfl⟩ := trodVars_none hV
  have k0 := h0
  have lt0 : ∀ x ∈ p0, x.block < W.heap.size := by obtain ⟨m, hm⟩ := k0; exact DataW.trod_lt m _ _ _ hm
  obtain ⟨aA, ac, aF, rfl, pa⟩ := open_fields (hval 0 22 v0 rfl rfl) h0
  clear hA0 hval0
  refine (pwrites_c aA ac aF W pa).mono fun e W' ⟨he, hg⟩ => ?_
  subst he
  exact ⟨_, rfl, _, _, _, [], _, [], hW', trodAll_mk1 (shut_bool Try.underlying4 _), (trodAll_cons_mk (Below.trod laidOut_pwrites (by kernel_rfl) (of_decide_eq_true (by kernel_rfl)) k0 hg lt0) trodAll_mk0), rfl, hg.frame _, (fun h => by cases h)⟩

theorem pwrites_holds : Rows.PackWritesSaid :=
  OpenClaim.holds_of_wide 3 Try.f3 rfl rfl rfl rfl rfl rfl rfl ⟨rfl, rfl, rfl, rfl, rfl⟩ rfl rfl rfl rfl rfl (by kernel_rfl) Try.func3 (by kernel_rfl)
    (of_decide_eq_true (by kernel_rfl)) (by unfold Func.isWrapper; first | (rw [if_pos (by decide +kernel)]; kernel_rfl) | (rw [if_neg (by decide +kernel)]; exact ⟨rfl, rfl⟩))
    (fun os started H enc _ => pwrites_lifted os started H enc)
#print axioms pwrites_holds
end Go.Proofs.Ytpalcmbofleabaa
