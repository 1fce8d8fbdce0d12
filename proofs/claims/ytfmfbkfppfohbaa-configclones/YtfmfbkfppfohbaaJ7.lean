/-
  Contract of the reference's port of layer 7. Conditions as the theorem lists them.
  Contract of the reference's port of layer 7. Conditions as the theorem lists them.
  Contract of the reference's port of layer 7. Conditions as the theorem lists them.
  Contracts of the reference's port and Sound of layer 7. Conditions as each theorem lists them.
  Configurations in memory; contract of the reference's Sound of layer 8. Conditions as the theorem lists them.
  Contracts of package config: within; copied, at the types of a configuration: a list of the call's own memory with the same cells. Conditions as each theorem lists them.
-/
import Derived.Test.YtfmfbkfppfohbaaJ6
import Derived.Lib.SliceRun
import Derived.Laws.MakeOwn
namespace Go.Proofs
open Go.RowKit Go.Proofs.Hd Go.Lib
set_option maxRecDepth 100000 in
set_option maxHeartbeats 1000000 in
theorem rp0a {tn pr sp co : Int} (tv : Value) (T : List (List Pt)) (n i : Nat) (L : List Pt) (w : World) (hT : PsT w tv T) (hL : T[n]? = some L) (hp : L[i]? = some (⟨0, tn, pr, sp, co⟩ : Pt)) (h : ¬ tn = 0) : Calls Try.prog 55 #[.agg #[tv], .int .i64 n, .int .i64 i] w fun e w' => e = .returned (.bool false) ∧ Below w.heap.size w w' := by
  obtain ⟨A, cap, rfl, htm, hA⟩ := hT
  have hnT := (List.getElem?_eq_some_iff.1 hL).1
  have hiL := (List.getElem?_eq_some_iff.1 hp).1
  obtain ⟨b, o, rfl, hb, hc⟩ := hA (by rintro rfl; simp at hL)
  obtain ⟨s, hs, hP⟩ := hc n L hL
  obtain ⟨A2, cap2, rfl, hLm, hP2⟩ := hP
  obtain ⟨b2, o2, rfl, hb2, hc2⟩ := hP2 (by rintro rfl; simp at hp)
  have hpc := hc2 i _ hp
  have hnz : (n : Int) < (T.length : Int) := by omega
  have hiz : (i : Int) < (L.length : Int) := by omega
  have B0 : Below w.heap.size w (w.alloc (.cells #[.slice (some ⟨b, o, none⟩) T.length cap] 24)) := below1 w _
  have B1 : Below w.heap.size w ((w.alloc (.cells #[.slice (some ⟨b, o, none⟩) T.length cap] 24)).alloc (.cells #[.int .i64 0, .int .i64 tn, .int .i64 pr, .int .i64 sp, .int .i64 co] 65)) := below2 w _ _
  have cs := on_some B0 hs
  obtain ⟨c0, c1, c2, c3, c4⟩ := hpc.on B0
  have N0 : Blk ((w.alloc (.cells #[.slice (some ⟨b, o, none⟩) T.length cap] 24)).alloc (.cells #[.int .i64 0, .int .i64 tn, .int .i64 pr, .int .i64 sp, .int .i64 co] 65)) w.heap.size 24 #[.slice (some ⟨b, o, none⟩) T.length cap] := (Blk.new w _ _).on (below1 _ _)
  have N1 : Blk ((w.alloc (.cells #[.slice (some ⟨b, o, none⟩) T.length cap] 24)).alloc (.cells #[.int .i64 0, .int .i64 tn, .int .i64 pr, .int .i64 sp, .int .i64 co] 65)) (w.heap.size + 1) 65 #[.int .i64 0, .int .i64 tn, .int .i64 pr, .int .i64 sp, .int .i64 co] := Blk.new2 w _ _ _
  have t0 := N0.one
  obtain ⟨p0, p1, p2, p3, p4⟩ := N1.five
  clear hA hs hpc hP2 hc2 hp hL N0 N1 hc
  go_enter Try.func55, Try.ntmps55
  go_wp2
  go_ret
  exact ⟨rfl, B1⟩
set_option maxRecDepth 100000 in
set_option maxHeartbeats 1000000 in
theorem rp0b {pr sp co : Int} (tv : Value) (T : List (List Pt)) (n i : Nat) (L : List Pt) (w : World) (hT : PsT w tv T) (hL : T[n]? = some L) (hp : L[i]? = some (⟨0, 0, pr, sp, co⟩ : Pt)) (h : ¬ pr = 0) : Calls Try.prog 55 #[.agg #[tv], .int .i64 n, .int .i64 i] w fun e w' => e = .returned (.bool false) ∧ Below w.heap.size w w' := by
  obtain ⟨A, cap, rfl, htm, hA⟩ := hT
  have hnT := (List.getElem?_eq_some_iff.1 hL).1
  have hiL := (List.getElem?_eq_some_iff.1 hp).1
  obtain ⟨b, o, rfl, hb, hc⟩ := hA (by rintro rfl; simp at hL)
  obtain ⟨s, hs, hP⟩ := hc n L hL
  obtain ⟨A2, cap2, rfl, hLm, hP2⟩ := hP
  obtain ⟨b2, o2, rfl, hb2, hc2⟩ := hP2 (by rintro rfl; simp at hp)
  have hpc := hc2 i _ hp
  have hnz : (n : Int) < (T.length : Int) := by omega
  have hiz : (i : Int) < (L.length : Int) := by omega
  have B0 : Below w.heap.size w (w.alloc (.cells #[.slice (some ⟨b, o, none⟩) T.length cap] 24)) := below1 w _
  have B1 : Below w.heap.size w ((w.alloc (.cells #[.slice (some ⟨b, o, none⟩) T.length cap] 24)).alloc (.cells #[.int .i64 0, .int .i64 0, .int .i64 pr, .int .i64 sp, .int .i64 co] 65)) := below2 w _ _
  have cs := on_some B0 hs
  obtain ⟨c0, c1, c2, c3, c4⟩ := hpc.on B0
  have N0 : Blk ((w.alloc (.cells #[.slice (some ⟨b, o, none⟩) T.length cap] 24)).alloc (.cells #[.int .i64 0, .int .i64 0, .int .i64 pr, .int .i64 sp, .int .i64 co] 65)) w.heap.size 24 #[.slice (some ⟨b, o, none⟩) T.length cap] := (Blk.new w _ _).on (below1 _ _)
  have N1 : Blk ((w.alloc (.cells #[.slice (some ⟨b, o, none⟩) T.length cap] 24)).alloc (.cells #[.int .i64 0, .int .i64 0, .int .i64 pr, .int .i64 sp, .int .i64 co] 65)) (w.heap.size + 1) 65 #[.int .i64 0, .int .i64 0, .int .i64 pr, .int .i64 sp, .int .i64 co] := Blk.new2 w _ _ _
  have t0 := N0.one
  obtain ⟨p0, p1, p2, p3, p4⟩ := N1.five
  clear hA hs hpc hP2 hc2 hp hL N0 N1 hc
  go_enter Try.func55, Try.ntmps55
  go_wp2
  go_ret
  exact ⟨rfl, B1⟩
set_option maxRecDepth 100000 in
set_option maxHeartbeats 1000000 in
theorem rp0c {sp co : Int} (tv : Value) (T : List (List Pt)) (n i : Nat) (L : List Pt) (w : World) (hT : PsT w tv T) (hL : T[n]? = some L) (hp : L[i]? = some (⟨0, 0, 0, sp, co⟩ : Pt)) (h : ¬ sp = 0) : Calls Try.prog 55 #[.agg #[tv], .int .i64 n, .int .i64 i] w fun e w' => e = .returned (.bool false) ∧ Below w.heap.size w w' := by
  obtain ⟨A, cap, rfl, htm, hA⟩ := hT
  have hnT := (List.getElem?_eq_some_iff.1 hL).1
  have hiL := (List.getElem?_eq_some_iff.1 hp).1
  obtain ⟨b, o, rfl, hb, hc⟩ := hA (by rintro rfl; simp at hL)
  obtain ⟨s, hs, hP⟩ := hc n L hL
  obtain ⟨A2, cap2, rfl, hLm, hP2⟩ := hP
  obtain ⟨b2, o2, rfl, hb2, hc2⟩ := hP2 (by rintro rfl; simp at hp)
  have hpc := hc2 i _ hp
  have hnz : (n : Int) < (T.length : Int) := by omega
  have hiz : (i : Int) < (L.length : Int) := by omega
  have B0 : Below w.heap.size w (w.alloc (.cells #[.slice (some ⟨b, o, none⟩) T.length cap] 24)) := below1 w _
  have B1 : Below w.heap.size w ((w.alloc (.cells #[.slice (some ⟨b, o, none⟩) T.length cap] 24)).alloc (.cells #[.int .i64 0, .int .i64 0, .int .i64 0, .int .i64 sp, .int .i64 co] 65)) := below2 w _ _
  have cs := on_some B0 hs
  obtain ⟨c0, c1, c2, c3, c4⟩ := hpc.on B0
  have N0 : Blk ((w.alloc (.cells #[.slice (some ⟨b, o, none⟩) T.length cap] 24)).alloc (.cells #[.int .i64 0, .int .i64 0, .int .i64 0, .int .i64 sp, .int .i64 co] 65)) w.heap.size 24 #[.slice (some ⟨b, o, none⟩) T.length cap] := (Blk.new w _ _).on (below1 _ _)
  have N1 : Blk ((w.alloc (.cells #[.slice (some ⟨b, o, none⟩) T.length cap] 24)).alloc (.cells #[.int .i64 0, .int .i64 0, .int .i64 0, .int .i64 sp, .int .i64 co] 65)) (w.heap.size + 1) 65 #[.int .i64 0, .int .i64 0, .int .i64 0, .int .i64 sp, .int .i64 co] := Blk.new2 w _ _ _
  have t0 := N0.one
  obtain ⟨p0, p1, p2, p3, p4⟩ := N1.five
  clear hA hs hpc hP2 hc2 hp hL N0 N1 hc
  go_enter Try.func55, Try.ntmps55
  go_wp2
  go_ret
  exact ⟨rfl, B1⟩
set_option maxRecDepth 100000 in
set_option maxHeartbeats 1000000 in
theorem rp0d {co : Int} (tv : Value) (T : List (List Pt)) (n i : Nat) (L : List Pt) (w : World) (hT : PsT w tv T) (hL : T[n]? = some L) (hp : L[i]? = some (⟨0, 0, 0, 0, co⟩ : Pt)) (h : ¬ co = 0) : Calls Try.prog 55 #[.agg #[tv], .int .i64 n, .int .i64 i] w fun e w' => e = .returned (.bool false) ∧ Below w.heap.size w w' := by
  obtain ⟨A, cap, rfl, htm, hA⟩ := hT
  have hnT := (List.getElem?_eq_some_iff.1 hL).1
  have hiL := (List.getElem?_eq_some_iff.1 hp).1
  obtain ⟨b, o, rfl, hb, hc⟩ := hA (by rintro rfl; simp at hL)
  obtain ⟨s, hs, hP⟩ := hc n L hL
  obtain ⟨A2, cap2, rfl, hLm, hP2⟩ := hP
  obtain ⟨b2, o2, rfl, hb2, hc2⟩ := hP2 (by rintro rfl; simp at hp)
  have hpc := hc2 i _ hp
  have hnz : (n : Int) < (T.length : Int) := by omega
  have hiz : (i : Int) < (L.length : Int) := by omega
  have B0 : Below w.heap.size w (w.alloc (.cells #[.slice (some ⟨b, o, none⟩) T.length cap] 24)) := below1 w _
  have B1 : Below w.heap.size w ((w.alloc (.cells #[.slice (some ⟨b, o, none⟩) T.length cap] 24)).alloc (.cells #[.int .i64 0, .int .i64 0, .int .i64 0, .int .i64 0, .int .i64 co] 65)) := below2 w _ _
  have cs := on_some B0 hs
  obtain ⟨c0, c1, c2, c3, c4⟩ := hpc.on B0
  have N0 : Blk ((w.alloc (.cells #[.slice (some ⟨b, o, none⟩) T.length cap] 24)).alloc (.cells #[.int .i64 0, .int .i64 0, .int .i64 0, .int .i64 0, .int .i64 co] 65)) w.heap.size 24 #[.slice (some ⟨b, o, none⟩) T.length cap] := (Blk.new w _ _).on (below1 _ _)
  have N1 : Blk ((w.alloc (.cells #[.slice (some ⟨b, o, none⟩) T.length cap] 24)).alloc (.cells #[.int .i64 0, .int .i64 0, .int .i64 0, .int .i64 0, .int .i64 co] 65)) (w.heap.size + 1) 65 #[.int .i64 0, .int .i64 0, .int .i64 0, .int .i64 0, .int .i64 co] := Blk.new2 w _ _ _
  have t0 := N0.one
  obtain ⟨p0, p1, p2, p3, p4⟩ := N1.five
  have e3 : (co == 0) = false := beq_false_of_ne h
  clear hA hs hpc hP2 hc2 hp hL N0 N1 hc
  go_enter Try.func55, Try.ntmps55
  go_wp2
  go_ret
  exact ⟨rfl, B1⟩
set_option maxRecDepth 100000 in
set_option maxHeartbeats 1000000 in
theorem rp0e (tv : Value) (T : List (List Pt)) (n i : Nat) (L : List Pt) (w : World) (hT : PsT w tv T) (hL : T[n]? = some L) (hp : L[i]? = some (⟨0, 0, 0, 0, 0⟩ : Pt))  : Calls Try.prog 55 #[.agg #[tv], .int .i64 n, .int .i64 i] w fun e w' => e = .returned (.bool true) ∧ Below w.heap.size w w' := by
  obtain ⟨A, cap, rfl, htm, hA⟩ := hT
  have hnT := (List.getElem?_eq_some_iff.1 hL).1
  have hiL := (List.getElem?_eq_some_iff.1 hp).1
  obtain ⟨b, o, rfl, hb, hc⟩ := hA (by rintro rfl; simp at hL)
  obtain ⟨s, hs, hP⟩ := hc n L hL
  obtain ⟨A2, cap2, rfl, hLm, hP2⟩ := hP
  obtain ⟨b2, o2, rfl, hb2, hc2⟩ := hP2 (by rintro rfl; simp at hp)
  have hpc := hc2 i _ hp
  have hnz : (n : Int) < (T.length : Int) := by omega
  have hiz : (i : Int) < (L.length : Int) := by omega
  have B0 : Below w.heap.size w (w.alloc (.cells #[.slice (some ⟨b, o, none⟩) T.length cap] 24)) := below1 w _
  have B1 : Below w.heap.size w ((w.alloc (.cells #[.slice (some ⟨b, o, none⟩) T.length cap] 24)).alloc (.cells #[.int .i64 0, .int .i64 0, .int .i64 0, .int .i64 0, .int .i64 0] 65)) := below2 w _ _
  have cs := on_some B0 hs
  obtain ⟨c0, c1, c2, c3, c4⟩ := hpc.on B0
  have N0 : Blk ((w.alloc (.cells #[.slice (some ⟨b, o, none⟩) T.length cap] 24)).alloc (.cells #[.int .i64 0, .int .i64 0, .int .i64 0, .int .i64 0, .int .i64 0] 65)) w.heap.size 24 #[.slice (some ⟨b, o, none⟩) T.length cap] := (Blk.new w _ _).on (below1 _ _)
  have N1 : Blk ((w.alloc (.cells #[.slice (some ⟨b, o, none⟩) T.length cap] 24)).alloc (.cells #[.int .i64 0, .int .i64 0, .int .i64 0, .int .i64 0, .int .i64 0] 65)) (w.heap.size + 1) 65 #[.int .i64 0, .int .i64 0, .int .i64 0, .int .i64 0, .int .i64 0] := Blk.new2 w _ _ _
  have t0 := N0.one
  obtain ⟨p0, p1, p2, p3, p4⟩ := N1.five
  clear hA hs hpc hP2 hc2 hp hL N0 N1 hc
  go_enter Try.func55, Try.ntmps55
  go_wp2
  go_ret
  exact ⟨rfl, B1⟩
set_option maxRecDepth 100000 in
set_option maxHeartbeats 1000000 in
theorem rp1a {tn pr sp co : Int} (tv : Value) (T : List (List Pt)) (n i : Nat) (L : List Pt) (w : World) (hT : PsT w tv T) (hL : T[n]? = some L) (hp : L[i]? = some (⟨1, tn, pr, sp, co⟩ : Pt)) (h : ¬ 0 ≤ tn) : Calls Try.prog 55 #[.agg #[tv], .int .i64 n, .int .i64 i] w fun e w' => e = .returned (.bool false) ∧ Below w.heap.size w w' := by
  obtain ⟨A, cap, rfl, htm, hA⟩ := hT
  have hnT := (List.getElem?_eq_some_iff.1 hL).1
  have hiL := (List.getElem?_eq_some_iff.1 hp).1
  obtain ⟨b, o, rfl, hb, hc⟩ := hA (by rintro rfl; simp at hL)
  obtain ⟨s, hs, hP⟩ := hc n L hL
  obtain ⟨A2, cap2, rfl, hLm, hP2⟩ := hP
  obtain ⟨b2, o2, rfl, hb2, hc2⟩ := hP2 (by rintro rfl; simp at hp)
  have hpc := hc2 i _ hp
  have hnz : (n : Int) < (T.length : Int) := by omega
  have hiz : (i : Int) < (L.length : Int) := by omega
  have B0 : Below w.heap.size w (w.alloc (.cells #[.slice (some ⟨b, o, none⟩) T.length cap] 24)) := below1 w _
  have B1 : Below w.heap.size w ((w.alloc (.cells #[.slice (some ⟨b, o, none⟩) T.length cap] 24)).alloc (.cells #[.int .i64 1, .int .i64 tn, .int .i64 pr, .int .i64 sp, .int .i64 co] 65)) := below2 w _ _
  have cs := on_some B0 hs
  obtain ⟨c0, c1, c2, c3, c4⟩ := hpc.on B0
  have N0 : Blk ((w.alloc (.cells #[.slice (some ⟨b, o, none⟩) T.length cap] 24)).alloc (.cells #[.int .i64 1, .int .i64 tn, .int .i64 pr, .int .i64 sp, .int .i64 co] 65)) w.heap.size 24 #[.slice (some ⟨b, o, none⟩) T.length cap] := (Blk.new w _ _).on (below1 _ _)
  have N1 : Blk ((w.alloc (.cells #[.slice (some ⟨b, o, none⟩) T.length cap] 24)).alloc (.cells #[.int .i64 1, .int .i64 tn, .int .i64 pr, .int .i64 sp, .int .i64 co] 65)) (w.heap.size + 1) 65 #[.int .i64 1, .int .i64 tn, .int .i64 pr, .int .i64 sp, .int .i64 co] := Blk.new2 w _ _ _
  have t0 := N0.one
  obtain ⟨p0, p1, p2, p3, p4⟩ := N1.five
  clear hA hs hpc hP2 hc2 hp hL N0 N1 hc
  go_enter Try.func55, Try.ntmps55
  go_wp2
  go_ret
  exact ⟨rfl, B1⟩
set_option maxRecDepth 100000 in
set_option maxHeartbeats 1000000 in
theorem rp1b {tn pr sp co : Int} (tv : Value) (T : List (List Pt)) (n i : Nat) (L : List Pt) (w : World) (hT : PsT w tv T) (hL : T[n]? = some L) (hp : L[i]? = some (⟨1, tn, pr, sp, co⟩ : Pt)) (h0 : 0 ≤ tn) (h : ¬ tn ≤ 3) : Calls Try.prog 55 #[.agg #[tv], .int .i64 n, .int .i64 i] w fun e w' => e = .returned (.bool false) ∧ Below w.heap.size w w' := by
  obtain ⟨A, cap, rfl, htm, hA⟩ := hT
  have hnT := (List.getElem?_eq_some_iff.1 hL).1
  have hiL := (List.getElem?_eq_some_iff.1 hp).1
  obtain ⟨b, o, rfl, hb, hc⟩ := hA (by rintro rfl; simp at hL)
  obtain ⟨s, hs, hP⟩ := hc n L hL
  obtain ⟨A2, cap2, rfl, hLm, hP2⟩ := hP
  obtain ⟨b2, o2, rfl, hb2, hc2⟩ := hP2 (by rintro rfl; simp at hp)
  have hpc := hc2 i _ hp
  have hnz : (n : Int) < (T.length : Int) := by omega
  have hiz : (i : Int) < (L.length : Int) := by omega
  have B0 : Below w.heap.size w (w.alloc (.cells #[.slice (some ⟨b, o, none⟩) T.length cap] 24)) := below1 w _
  have B1 : Below w.heap.size w ((w.alloc (.cells #[.slice (some ⟨b, o, none⟩) T.length cap] 24)).alloc (.cells #[.int .i64 1, .int .i64 tn, .int .i64 pr, .int .i64 sp, .int .i64 co] 65)) := below2 w _ _
  have cs := on_some B0 hs
  obtain ⟨c0, c1, c2, c3, c4⟩ := hpc.on B0
  have N0 : Blk ((w.alloc (.cells #[.slice (some ⟨b, o, none⟩) T.length cap] 24)).alloc (.cells #[.int .i64 1, .int .i64 tn, .int .i64 pr, .int .i64 sp, .int .i64 co] 65)) w.heap.size 24 #[.slice (some ⟨b, o, none⟩) T.length cap] := (Blk.new w _ _).on (below1 _ _)
  have N1 : Blk ((w.alloc (.cells #[.slice (some ⟨b, o, none⟩) T.length cap] 24)).alloc (.cells #[.int .i64 1, .int .i64 tn, .int .i64 pr, .int .i64 sp, .int .i64 co] 65)) (w.heap.size + 1) 65 #[.int .i64 1, .int .i64 tn, .int .i64 pr, .int .i64 sp, .int .i64 co] := Blk.new2 w _ _ _
  have t0 := N0.one
  obtain ⟨p0, p1, p2, p3, p4⟩ := N1.five
  clear hA hs hpc hP2 hc2 hp hL N0 N1 hc
  go_enter Try.func55, Try.ntmps55
  go_wp2
  go_ret
  exact ⟨rfl, B1⟩
set_option maxRecDepth 100000 in
set_option maxHeartbeats 1000000 in
theorem rp1c {tn pr sp co : Int} (tv : Value) (T : List (List Pt)) (n i : Nat) (L : List Pt) (w : World) (hT : PsT w tv T) (hL : T[n]? = some L) (hp : L[i]? = some (⟨1, tn, pr, sp, co⟩ : Pt)) (h0 : 0 ≤ tn) (h1 : tn ≤ 3) (h : ¬ pr = 0) : Calls Try.prog 55 #[.agg #[tv], .int .i64 n, .int .i64 i] w fun e w' => e = .returned (.bool false) ∧ Below w.heap.size w w' := by
  obtain ⟨A, cap, rfl, htm, hA⟩ := hT
  have hnT := (List.getElem?_eq_some_iff.1 hL).1
  have hiL := (List.getElem?_eq_some_iff.1 hp).1
  obtain ⟨b, o, rfl, hb, hc⟩ := hA (by rintro rfl; simp at hL)
  obtain ⟨s, hs, hP⟩ := hc n L hL
  obtain ⟨A2, cap2, rfl, hLm, hP2⟩ := hP
  obtain ⟨b2, o2, rfl, hb2, hc2⟩ := hP2 (by rintro rfl; simp at hp)
  have hpc := hc2 i _ hp
  have hnz : (n : Int) < (T.length : Int) := by omega
  have hiz : (i : Int) < (L.length : Int) := by omega
  have B0 : Below w.heap.size w (w.alloc (.cells #[.slice (some ⟨b, o, none⟩) T.length cap] 24)) := below1 w _
  have B1 : Below w.heap.size w ((w.alloc (.cells #[.slice (some ⟨b, o, none⟩) T.length cap] 24)).alloc (.cells #[.int .i64 1, .int .i64 tn, .int .i64 pr, .int .i64 sp, .int .i64 co] 65)) := below2 w _ _
  have cs := on_some B0 hs
  obtain ⟨c0, c1, c2, c3, c4⟩ := hpc.on B0
  have N0 : Blk ((w.alloc (.cells #[.slice (some ⟨b, o, none⟩) T.length cap] 24)).alloc (.cells #[.int .i64 1, .int .i64 tn, .int .i64 pr, .int .i64 sp, .int .i64 co] 65)) w.heap.size 24 #[.slice (some ⟨b, o, none⟩) T.length cap] := (Blk.new w _ _).on (below1 _ _)
  have N1 : Blk ((w.alloc (.cells #[.slice (some ⟨b, o, none⟩) T.length cap] 24)).alloc (.cells #[.int .i64 1, .int .i64 tn, .int .i64 pr, .int .i64 sp, .int .i64 co] 65)) (w.heap.size + 1) 65 #[.int .i64 1, .int .i64 tn, .int .i64 pr, .int .i64 sp, .int .i64 co] := Blk.new2 w _ _ _
  have t0 := N0.one
  obtain ⟨p0, p1, p2, p3, p4⟩ := N1.five
  clear hA hs hpc hP2 hc2 hp hL N0 N1 hc
  go_enter Try.func55, Try.ntmps55
  go_wp2
  go_ret
  exact ⟨rfl, B1⟩
set_option maxRecDepth 100000 in
set_option maxHeartbeats 1000000 in
theorem rp1d {tn sp co : Int} (tv : Value) (T : List (List Pt)) (n i : Nat) (L : List Pt) (w : World) (hT : PsT w tv T) (hL : T[n]? = some L) (hp : L[i]? = some (⟨1, tn, 0, sp, co⟩ : Pt)) (h0 : 0 ≤ tn) (h1 : tn ≤ 3) (h : ¬ sp = 0) : Calls Try.prog 55 #[.agg #[tv], .int .i64 n, .int .i64 i] w fun e w' => e = .returned (.bool false) ∧ Below w.heap.size w w' := by
  obtain ⟨A, cap, rfl, htm, hA⟩ := hT
  have hnT := (List.getElem?_eq_some_iff.1 hL).1
  have hiL := (List.getElem?_eq_some_iff.1 hp).1
  obtain ⟨b, o, rfl, hb, hc⟩ := hA (by rintro rfl; simp at hL)
  obtain ⟨s, hs, hP⟩ := hc n L hL
  obtain ⟨A2, cap2, rfl, hLm, hP2⟩ := hP
  obtain ⟨b2, o2, rfl, hb2, hc2⟩ := hP2 (by rintro rfl; simp at hp)
  have hpc := hc2 i _ hp
  have hnz : (n : Int) < (T.length : Int) := by omega
  have hiz : (i : Int) < (L.length : Int) := by omega
  have B0 : Below w.heap.size w (w.alloc (.cells #[.slice (some ⟨b, o, none⟩) T.length cap] 24)) := below1 w _
  have B1 : Below w.heap.size w ((w.alloc (.cells #[.slice (some ⟨b, o, none⟩) T.length cap] 24)).alloc (.cells #[.int .i64 1, .int .i64 tn, .int .i64 0, .int .i64 sp, .int .i64 co] 65)) := below2 w _ _
  have cs := on_some B0 hs
  obtain ⟨c0, c1, c2, c3, c4⟩ := hpc.on B0
  have N0 : Blk ((w.alloc (.cells #[.slice (some ⟨b, o, none⟩) T.length cap] 24)).alloc (.cells #[.int .i64 1, .int .i64 tn, .int .i64 0, .int .i64 sp, .int .i64 co] 65)) w.heap.size 24 #[.slice (some ⟨b, o, none⟩) T.length cap] := (Blk.new w _ _).on (below1 _ _)
  have N1 : Blk ((w.alloc (.cells #[.slice (some ⟨b, o, none⟩) T.length cap] 24)).alloc (.cells #[.int .i64 1, .int .i64 tn, .int .i64 0, .int .i64 sp, .int .i64 co] 65)) (w.heap.size + 1) 65 #[.int .i64 1, .int .i64 tn, .int .i64 0, .int .i64 sp, .int .i64 co] := Blk.new2 w _ _ _
  have t0 := N0.one
  obtain ⟨p0, p1, p2, p3, p4⟩ := N1.five
  clear hA hs hpc hP2 hc2 hp hL N0 N1 hc
  go_enter Try.func55, Try.ntmps55
  go_wp2
  go_ret
  exact ⟨rfl, B1⟩
set_option maxRecDepth 100000 in
set_option maxHeartbeats 1000000 in
theorem rp1e {tn co : Int} (tv : Value) (T : List (List Pt)) (n i : Nat) (L : List Pt) (w : World) (hT : PsT w tv T) (hL : T[n]? = some L) (hp : L[i]? = some (⟨1, tn, 0, 0, co⟩ : Pt)) (h0 : 0 ≤ tn) (h1 : tn ≤ 3) (h : ¬ co = 0) : Calls Try.prog 55 #[.agg #[tv], .int .i64 n, .int .i64 i] w fun e w' => e = .returned (.bool false) ∧ Below w.heap.size w w' := by
  obtain ⟨A, cap, rfl, htm, hA⟩ := hT
  have hnT := (List.getElem?_eq_some_iff.1 hL).1
  have hiL := (List.getElem?_eq_some_iff.1 hp).1
  obtain ⟨b, o, rfl, hb, hc⟩ := hA (by rintro rfl; simp at hL)
  obtain ⟨s, hs, hP⟩ := hc n L hL
  obtain ⟨A2, cap2, rfl, hLm, hP2⟩ := hP
  obtain ⟨b2, o2, rfl, hb2, hc2⟩ := hP2 (by rintro rfl; simp at hp)
  have hpc := hc2 i _ hp
  have hnz : (n : Int) < (T.length : Int) := by omega
  have hiz : (i : Int) < (L.length : Int) := by omega
  have B0 : Below w.heap.size w (w.alloc (.cells #[.slice (some ⟨b, o, none⟩) T.length cap] 24)) := below1 w _
  have B1 : Below w.heap.size w ((w.alloc (.cells #[.slice (some ⟨b, o, none⟩) T.length cap] 24)).alloc (.cells #[.int .i64 1, .int .i64 tn, .int .i64 0, .int .i64 0, .int .i64 co] 65)) := below2 w _ _
  have cs := on_some B0 hs
  obtain ⟨c0, c1, c2, c3, c4⟩ := hpc.on B0
  have N0 : Blk ((w.alloc (.cells #[.slice (some ⟨b, o, none⟩) T.length cap] 24)).alloc (.cells #[.int .i64 1, .int .i64 tn, .int .i64 0, .int .i64 0, .int .i64 co] 65)) w.heap.size 24 #[.slice (some ⟨b, o, none⟩) T.length cap] := (Blk.new w _ _).on (below1 _ _)
  have N1 : Blk ((w.alloc (.cells #[.slice (some ⟨b, o, none⟩) T.length cap] 24)).alloc (.cells #[.int .i64 1, .int .i64 tn, .int .i64 0, .int .i64 0, .int .i64 co] 65)) (w.heap.size + 1) 65 #[.int .i64 1, .int .i64 tn, .int .i64 0, .int .i64 0, .int .i64 co] := Blk.new2 w _ _ _
  have t0 := N0.one
  obtain ⟨p0, p1, p2, p3, p4⟩ := N1.five
  have e3 : (co == 0) = false := beq_false_of_ne h
  clear hA hs hpc hP2 hc2 hp hL N0 N1 hc
  go_enter Try.func55, Try.ntmps55
  go_wp2
  go_ret
  exact ⟨rfl, B1⟩
set_option maxRecDepth 100000 in
set_option maxHeartbeats 1000000 in
theorem rp1f {tn : Int} (tv : Value) (T : List (List Pt)) (n i : Nat) (L : List Pt) (w : World) (hT : PsT w tv T) (hL : T[n]? = some L) (hp : L[i]? = some (⟨1, tn, 0, 0, 0⟩ : Pt)) (h0 : 0 ≤ tn) (h1 : tn ≤ 3) : Calls Try.prog 55 #[.agg #[tv], .int .i64 n, .int .i64 i] w fun e w' => e = .returned (.bool true) ∧ Below w.heap.size w w' := by
  obtain ⟨A, cap, rfl, htm, hA⟩ := hT
  have hnT := (List.getElem?_eq_some_iff.1 hL).1
  have hiL := (List.getElem?_eq_some_iff.1 hp).1
  obtain ⟨b, o, rfl, hb, hc⟩ := hA (by rintro rfl; simp at hL)
  obtain ⟨s, hs, hP⟩ := hc n L hL
  obtain ⟨A2, cap2, rfl, hLm, hP2⟩ := hP
  obtain ⟨b2, o2, rfl, hb2, hc2⟩ := hP2 (by rintro rfl; simp at hp)
  have hpc := hc2 i _ hp
  have hnz : (n : Int) < (T.length : Int) := by omega
  have hiz : (i : Int) < (L.length : Int) := by omega
  have B0 : Below w.heap.size w (w.alloc (.cells #[.slice (some ⟨b, o, none⟩) T.length cap] 24)) := below1 w _
  have B1 : Below w.heap.size w ((w.alloc (.cells #[.slice (some ⟨b, o, none⟩) T.length cap] 24)).alloc (.cells #[.int .i64 1, .int .i64 tn, .int .i64 0, .int .i64 0, .int .i64 0] 65)) := below2 w _ _
  have cs := on_some B0 hs
  obtain ⟨c0, c1, c2, c3, c4⟩ := hpc.on B0
  have N0 : Blk ((w.alloc (.cells #[.slice (some ⟨b, o, none⟩) T.length cap] 24)).alloc (.cells #[.int .i64 1, .int .i64 tn, .int .i64 0, .int .i64 0, .int .i64 0] 65)) w.heap.size 24 #[.slice (some ⟨b, o, none⟩) T.length cap] := (Blk.new w _ _).on (below1 _ _)
  have N1 : Blk ((w.alloc (.cells #[.slice (some ⟨b, o, none⟩) T.length cap] 24)).alloc (.cells #[.int .i64 1, .int .i64 tn, .int .i64 0, .int .i64 0, .int .i64 0] 65)) (w.heap.size + 1) 65 #[.int .i64 1, .int .i64 tn, .int .i64 0, .int .i64 0, .int .i64 0] := Blk.new2 w _ _ _
  have t0 := N0.one
  obtain ⟨p0, p1, p2, p3, p4⟩ := N1.five
  clear hA hs hpc hP2 hc2 hp hL N0 N1 hc
  go_enter Try.func55, Try.ntmps55
  go_wp2
  go_ret
  exact ⟨rfl, B1⟩
set_option maxRecDepth 100000 in
set_option maxHeartbeats 1000000 in
theorem rp2a {kd tn pr sp co : Int} (tv : Value) (T : List (List Pt)) (n i : Nat) (L : List Pt) (w : World) (hT : PsT w tv T) (hL : T[n]? = some L) (hp : L[i]? = some (⟨kd, tn, pr, sp, co⟩ : Pt)) (h0 : ¬ kd = 0) (h1 : ¬ kd = 1) (h : ¬ kd = 2) : Calls Try.prog 55 #[.agg #[tv], .int .i64 n, .int .i64 i] w fun e w' => e = .returned (.bool false) ∧ Below w.heap.size w w' := by
  obtain ⟨A, cap, rfl, htm, hA⟩ := hT
  have hnT := (List.getElem?_eq_some_iff.1 hL).1
  have hiL := (List.getElem?_eq_some_iff.1 hp).1
  obtain ⟨b, o, rfl, hb, hc⟩ := hA (by rintro rfl; simp at hL)
  obtain ⟨s, hs, hP⟩ := hc n L hL
  obtain ⟨A2, cap2, rfl, hLm, hP2⟩ := hP
  obtain ⟨b2, o2, rfl, hb2, hc2⟩ := hP2 (by rintro rfl; simp at hp)
  have hpc := hc2 i _ hp
  have hnz : (n : Int) < (T.length : Int) := by omega
  have hiz : (i : Int) < (L.length : Int) := by omega
  have B0 : Below w.heap.size w (w.alloc (.cells #[.slice (some ⟨b, o, none⟩) T.length cap] 24)) := below1 w _
  have B1 : Below w.heap.size w ((w.alloc (.cells #[.slice (some ⟨b, o, none⟩) T.length cap] 24)).alloc (.cells #[.int .i64 kd, .int .i64 tn, .int .i64 pr, .int .i64 sp, .int .i64 co] 65)) := below2 w _ _
  have cs := on_some B0 hs
  obtain ⟨c0, c1, c2, c3, c4⟩ := hpc.on B0
  have N0 : Blk ((w.alloc (.cells #[.slice (some ⟨b, o, none⟩) T.length cap] 24)).alloc (.cells #[.int .i64 kd, .int .i64 tn, .int .i64 pr, .int .i64 sp, .int .i64 co] 65)) w.heap.size 24 #[.slice (some ⟨b, o, none⟩) T.length cap] := (Blk.new w _ _).on (below1 _ _)
  have N1 : Blk ((w.alloc (.cells #[.slice (some ⟨b, o, none⟩) T.length cap] 24)).alloc (.cells #[.int .i64 kd, .int .i64 tn, .int .i64 pr, .int .i64 sp, .int .i64 co] 65)) (w.heap.size + 1) 65 #[.int .i64 kd, .int .i64 tn, .int .i64 pr, .int .i64 sp, .int .i64 co] := Blk.new2 w _ _ _
  have t0 := N0.one
  obtain ⟨p0, p1, p2, p3, p4⟩ := N1.five
  have e2 : (kd == 2) = false := beq_false_of_ne h
  have e3 : (kd != 2) = true := by simp [h]
  clear hA hs hpc hP2 hc2 hp hL N0 N1 hc
  go_enter Try.func55, Try.ntmps55
  go_wp2_with fail
  go_quiet (fail)
  go_wp2
  go_ret
  exact ⟨rfl, bldrewN B1 _⟩
set_option maxRecDepth 100000 in
set_option maxHeartbeats 1000000 in
theorem rp2b {tn pr sp co : Int} (tv : Value) (T : List (List Pt)) (n i : Nat) (L : List Pt) (w : World) (hT : PsT w tv T) (hL : T[n]? = some L) (hp : L[i]? = some (⟨2, tn, pr, sp, co⟩ : Pt)) (h : ¬ tn = 0) : Calls Try.prog 55 #[.agg #[tv], .int .i64 n, .int .i64 i] w fun e w' => e = .returned (.bool false) ∧ Below w.heap.size w w' := by
  obtain ⟨A, cap, rfl, htm, hA⟩ := hT
  have hnT := (List.getElem?_eq_some_iff.1 hL).1
  have hiL := (List.getElem?_eq_some_iff.1 hp).1
  obtain ⟨b, o, rfl, hb, hc⟩ := hA (by rintro rfl; simp at hL)
  obtain ⟨s, hs, hP⟩ := hc n L hL
  obtain ⟨A2, cap2, rfl, hLm, hP2⟩ := hP
  obtain ⟨b2, o2, rfl, hb2, hc2⟩ := hP2 (by rintro rfl; simp at hp)
  have hpc := hc2 i _ hp
  have hnz : (n : Int) < (T.length : Int) := by omega
  have hiz : (i : Int) < (L.length : Int) := by omega
  have B0 : Below w.heap.size w (w.alloc (.cells #[.slice (some ⟨b, o, none⟩) T.length cap] 24)) := below1 w _
  have B1 : Below w.heap.size w ((w.alloc (.cells #[.slice (some ⟨b, o, none⟩) T.length cap] 24)).alloc (.cells #[.int .i64 2, .int .i64 tn, .int .i64 pr, .int .i64 sp, .int .i64 co] 65)) := below2 w _ _
  have cs := on_some B0 hs
  obtain ⟨c0, c1, c2, c3, c4⟩ := hpc.on B0
  have N0 : Blk ((w.alloc (.cells #[.slice (some ⟨b, o, none⟩) T.length cap] 24)).alloc (.cells #[.int .i64 2, .int .i64 tn, .int .i64 pr, .int .i64 sp, .int .i64 co] 65)) w.heap.size 24 #[.slice (some ⟨b, o, none⟩) T.length cap] := (Blk.new w _ _).on (below1 _ _)
  have N1 : Blk ((w.alloc (.cells #[.slice (some ⟨b, o, none⟩) T.length cap] 24)).alloc (.cells #[.int .i64 2, .int .i64 tn, .int .i64 pr, .int .i64 sp, .int .i64 co] 65)) (w.heap.size + 1) 65 #[.int .i64 2, .int .i64 tn, .int .i64 pr, .int .i64 sp, .int .i64 co] := Blk.new2 w _ _ _
  have t0 := N0.one
  obtain ⟨p0, p1, p2, p3, p4⟩ := N1.five
  have e3 : (tn != 0) = true := by simp [h]
  clear hA hs hpc hP2 hc2 hp hL N0 N1 hc
  go_enter Try.func55, Try.ntmps55
  go_wp2_with fail
  go_quiet (fail)
  go_wp2
  go_ret
  exact ⟨rfl, bldrewN B1 _⟩
end Go.Proofs

namespace Go.Proofs
open Go.RowKit Go.Proofs.Hd Go.Lib
set_option maxRecDepth 100000 in
set_option maxHeartbeats 1000000 in
theorem rp2c {pr sp co : Int} (tv : Value) (T : List (List Pt)) (n i : Nat) (L : List Pt) (w : World) (hT : PsT w tv T) (hL : T[n]? = some L) (hp : L[i]? = some (⟨2, 0, pr, sp, co⟩ : Pt)) (h3 : co < 1) : Calls Try.prog 55 #[.agg #[tv], .int .i64 n, .int .i64 i] w fun e w' => e = .returned (.bool false) ∧ Below w.heap.size w w' := by
  obtain ⟨A, cap, rfl, htm, hA⟩ := hT
  have hnT := (List.getElem?_eq_some_iff.1 hL).1
  have hiL := (List.getElem?_eq_some_iff.1 hp).1
  obtain ⟨b, o, rfl, hb, hc⟩ := hA (by rintro rfl; simp at hL)
  obtain ⟨s, hs, hP⟩ := hc n L hL
  obtain ⟨A2, cap2, rfl, hLm, hP2⟩ := hP
  obtain ⟨b2, o2, rfl, hb2, hc2⟩ := hP2 (by rintro rfl; simp at hp)
  have hpc := hc2 i _ hp
  have hnz : (n : Int) < (T.length : Int) := by omega
  have hiz : (i : Int) < (L.length : Int) := by omega
  have B0 : Below w.heap.size w (w.alloc (.cells #[.slice (some ⟨b, o, none⟩) T.length cap] 24)) := below1 w _
  have B1 : Below w.heap.size w ((w.alloc (.cells #[.slice (some ⟨b, o, none⟩) T.length cap] 24)).alloc (.cells #[.int .i64 2, .int .i64 0, .int .i64 pr, .int .i64 sp, .int .i64 co] 65)) := below2 w _ _
  have cs := on_some B0 hs
  obtain ⟨c0, c1, c2, c3, c4⟩ := hpc.on B0
  have N0 : Blk ((w.alloc (.cells #[.slice (some ⟨b, o, none⟩) T.length cap] 24)).alloc (.cells #[.int .i64 2, .int .i64 0, .int .i64 pr, .int .i64 sp, .int .i64 co] 65)) w.heap.size 24 #[.slice (some ⟨b, o, none⟩) T.length cap] := (Blk.new w _ _).on (below1 _ _)
  have N1 : Blk ((w.alloc (.cells #[.slice (some ⟨b, o, none⟩) T.length cap] 24)).alloc (.cells #[.int .i64 2, .int .i64 0, .int .i64 pr, .int .i64 sp, .int .i64 co] 65)) (w.heap.size + 1) 65 #[.int .i64 2, .int .i64 0, .int .i64 pr, .int .i64 sp, .int .i64 co] := Blk.new2 w _ _ _
  have t0 := N0.one
  obtain ⟨p0, p1, p2, p3, p4⟩ := N1.five
  have dh3 : decide (co < 1) = true := decide_eq_true h3
  clear hA hs hpc hP2 hc2 hp hL N0 N1 hc
  go_enter Try.func55, Try.ntmps55
  go_wp2_with fail
  go_quiet (fail)
  go_wp2
  go_ret
  exact ⟨rfl, bldrewN B1 _⟩
set_option maxRecDepth 100000 in
set_option maxHeartbeats 1000000 in
theorem rp2d {pr sp co : Int} (tv : Value) (T : List (List Pt)) (n i : Nat) (L : List Pt) (w : World) (hT : PsT w tv T) (hL : T[n]? = some L) (hp : L[i]? = some (⟨2, 0, pr, sp, co⟩ : Pt)) (h3 : ¬ co < 1) (h4 : 1000 < co) : Calls Try.prog 55 #[.agg #[tv], .int .i64 n, .int .i64 i] w fun e w' => e = .returned (.bool false) ∧ Below w.heap.size w w' := by
  obtain ⟨A, cap, rfl, htm, hA⟩ := hT
  have hnT := (List.getElem?_eq_some_iff.1 hL).1
  have hiL := (List.getElem?_eq_some_iff.1 hp).1
  obtain ⟨b, o, rfl, hb, hc⟩ := hA (by rintro rfl; simp at hL)
  obtain ⟨s, hs, hP⟩ := hc n L hL
  obtain ⟨A2, cap2, rfl, hLm, hP2⟩ := hP
  obtain ⟨b2, o2, rfl, hb2, hc2⟩ := hP2 (by rintro rfl; simp at hp)
  have hpc := hc2 i _ hp
  have hnz : (n : Int) < (T.length : Int) := by omega
  have hiz : (i : Int) < (L.length : Int) := by omega
  have B0 : Below w.heap.size w (w.alloc (.cells #[.slice (some ⟨b, o, none⟩) T.length cap] 24)) := below1 w _
  have B1 : Below w.heap.size w ((w.alloc (.cells #[.slice (some ⟨b, o, none⟩) T.length cap] 24)).alloc (.cells #[.int .i64 2, .int .i64 0, .int .i64 pr, .int .i64 sp, .int .i64 co] 65)) := below2 w _ _
  have cs := on_some B0 hs
  obtain ⟨c0, c1, c2, c3, c4⟩ := hpc.on B0
  have N0 : Blk ((w.alloc (.cells #[.slice (some ⟨b, o, none⟩) T.length cap] 24)).alloc (.cells #[.int .i64 2, .int .i64 0, .int .i64 pr, .int .i64 sp, .int .i64 co] 65)) w.heap.size 24 #[.slice (some ⟨b, o, none⟩) T.length cap] := (Blk.new w _ _).on (below1 _ _)
  have N1 : Blk ((w.alloc (.cells #[.slice (some ⟨b, o, none⟩) T.length cap] 24)).alloc (.cells #[.int .i64 2, .int .i64 0, .int .i64 pr, .int .i64 sp, .int .i64 co] 65)) (w.heap.size + 1) 65 #[.int .i64 2, .int .i64 0, .int .i64 pr, .int .i64 sp, .int .i64 co] := Blk.new2 w _ _ _
  have t0 := N0.one
  obtain ⟨p0, p1, p2, p3, p4⟩ := N1.five
  have dh3 : decide (co < 1) = false := decide_eq_false h3
  have dh4 : decide (1000 < co) = true := decide_eq_true h4
  clear hA hs hpc hP2 hc2 hp hL N0 N1 hc
  go_enter Try.func55, Try.ntmps55
  go_wp2_with fail
  go_quiet (fail)
  go_wp2
  go_ret
  exact ⟨rfl, bldrewN B1 _⟩
set_option maxRecDepth 100000 in
set_option maxHeartbeats 1000000 in
theorem rp2e {pr sp co : Int} (tv : Value) (T : List (List Pt)) (n i : Nat) (L : List Pt) (w : World) (hT : PsT w tv T) (hL : T[n]? = some L) (hp : L[i]? = some (⟨2, 0, pr, sp, co⟩ : Pt)) (h3 : ¬ co < 1) (h4 : ¬ 1000 < co) (h5 : pr < 0) : Calls Try.prog 55 #[.agg #[tv], .int .i64 n, .int .i64 i] w fun e w' => e = .returned (.bool false) ∧ Below w.heap.size w w' := by
  obtain ⟨A, cap, rfl, htm, hA⟩ := hT
  have hnT := (List.getElem?_eq_some_iff.1 hL).1
  have hiL := (List.getElem?_eq_some_iff.1 hp).1
  obtain ⟨b, o, rfl, hb, hc⟩ := hA (by rintro rfl; simp at hL)
  obtain ⟨s, hs, hP⟩ := hc n L hL
  obtain ⟨A2, cap2, rfl, hLm, hP2⟩ := hP
  obtain ⟨b2, o2, rfl, hb2, hc2⟩ := hP2 (by rintro rfl; simp at hp)
  have hpc := hc2 i _ hp
  have hnz : (n : Int) < (T.length : Int) := by omega
  have hiz : (i : Int) < (L.length : Int) := by omega
  have B0 : Below w.heap.size w (w.alloc (.cells #[.slice (some ⟨b, o, none⟩) T.length cap] 24)) := below1 w _
  have B1 : Below w.heap.size w ((w.alloc (.cells #[.slice (some ⟨b, o, none⟩) T.length cap] 24)).alloc (.cells #[.int .i64 2, .int .i64 0, .int .i64 pr, .int .i64 sp, .int .i64 co] 65)) := below2 w _ _
  have cs := on_some B0 hs
  obtain ⟨c0, c1, c2, c3, c4⟩ := hpc.on B0
  have N0 : Blk ((w.alloc (.cells #[.slice (some ⟨b, o, none⟩) T.length cap] 24)).alloc (.cells #[.int .i64 2, .int .i64 0, .int .i64 pr, .int .i64 sp, .int .i64 co] 65)) w.heap.size 24 #[.slice (some ⟨b, o, none⟩) T.length cap] := (Blk.new w _ _).on (below1 _ _)
  have N1 : Blk ((w.alloc (.cells #[.slice (some ⟨b, o, none⟩) T.length cap] 24)).alloc (.cells #[.int .i64 2, .int .i64 0, .int .i64 pr, .int .i64 sp, .int .i64 co] 65)) (w.heap.size + 1) 65 #[.int .i64 2, .int .i64 0, .int .i64 pr, .int .i64 sp, .int .i64 co] := Blk.new2 w _ _ _
  have t0 := N0.one
  obtain ⟨p0, p1, p2, p3, p4⟩ := N1.five
  have dh3 : decide (co < 1) = false := decide_eq_false h3
  have dh4 : decide (1000 < co) = false := decide_eq_false h4
  have dh5 : decide (pr < 0) = true := decide_eq_true h5
  clear hA hs hpc hP2 hc2 hp hL N0 N1 hc
  go_enter Try.func55, Try.ntmps55
  go_wp2_with fail
  go_quiet (fail)
  go_wp2
  go_ret
  exact ⟨rfl, bldrewN B1 _⟩
set_option maxRecDepth 100000 in
set_option maxHeartbeats 1000000 in
theorem rp2f {pr sp co : Int} (tv : Value) (T : List (List Pt)) (n i : Nat) (L : List Pt) (w : World) (hT : PsT w tv T) (hL : T[n]? = some L) (hp : L[i]? = some (⟨2, 0, pr, sp, co⟩ : Pt)) (h3 : ¬ co < 1) (h4 : ¬ 1000 < co) (h5 : ¬ pr < 0) (h6 : (T.length : Int) ≤ pr) : Calls Try.prog 55 #[.agg #[tv], .int .i64 n, .int .i64 i] w fun e w' => e = .returned (.bool false) ∧ Below w.heap.size w w' := by
  obtain ⟨A, cap, rfl, htm, hA⟩ := hT
  have hnT := (List.getElem?_eq_some_iff.1 hL).1
  have hiL := (List.getElem?_eq_some_iff.1 hp).1
  obtain ⟨b, o, rfl, hb, hc⟩ := hA (by rintro rfl; simp at hL)
  obtain ⟨s, hs, hP⟩ := hc n L hL
  obtain ⟨A2, cap2, rfl, hLm, hP2⟩ := hP
  obtain ⟨b2, o2, rfl, hb2, hc2⟩ := hP2 (by rintro rfl; simp at hp)
  have hpc := hc2 i _ hp
  have hnz : (n : Int) < (T.length : Int) := by omega
  have hiz : (i : Int) < (L.length : Int) := by omega
  have B0 : Below w.heap.size w (w.alloc (.cells #[.slice (some ⟨b, o, none⟩) T.length cap] 24)) := below1 w _
  have B1 : Below w.heap.size w ((w.alloc (.cells #[.slice (some ⟨b, o, none⟩) T.length cap] 24)).alloc (.cells #[.int .i64 2, .int .i64 0, .int .i64 pr, .int .i64 sp, .int .i64 co] 65)) := below2 w _ _
  have cs := on_some B0 hs
  obtain ⟨c0, c1, c2, c3, c4⟩ := hpc.on B0
  have N0 : Blk ((w.alloc (.cells #[.slice (some ⟨b, o, none⟩) T.length cap] 24)).alloc (.cells #[.int .i64 2, .int .i64 0, .int .i64 pr, .int .i64 sp, .int .i64 co] 65)) w.heap.size 24 #[.slice (some ⟨b, o, none⟩) T.length cap] := (Blk.new w _ _).on (below1 _ _)
  have N1 : Blk ((w.alloc (.cells #[.slice (some ⟨b, o, none⟩) T.length cap] 24)).alloc (.cells #[.int .i64 2, .int .i64 0, .int .i64 pr, .int .i64 sp, .int .i64 co] 65)) (w.heap.size + 1) 65 #[.int .i64 2, .int .i64 0, .int .i64 pr, .int .i64 sp, .int .i64 co] := Blk.new2 w _ _ _
  have t0 := N0.one
  obtain ⟨p0, p1, p2, p3, p4⟩ := N1.five
  have dh3 : decide (co < 1) = false := decide_eq_false h3
  have dh4 : decide (1000 < co) = false := decide_eq_false h4
  have dh5 : decide (pr < 0) = false := decide_eq_false h5
  have dh6 : decide ((T.length : Int) ≤ pr) = true := decide_eq_true h6
  clear hA hs hpc hP2 hc2 hp hL N0 N1 hc
  go_enter Try.func55, Try.ntmps55
  go_wp2_with fail
  go_quiet (fail)
  go_wp2
  go_ret
  exact ⟨rfl, bldrewN B1 _⟩
set_option maxRecDepth 100000 in
set_option maxHeartbeats 1000000 in
theorem rp2g {sp co : Int} (tv : Value) (T : List (List Pt)) (n i : Nat) (L : List Pt) (w : World) (hT : PsT w tv T) (hL : T[n]? = some L) (hp : L[i]? = some (⟨2, 0, (n : Int), sp, co⟩ : Pt)) (h3 : ¬ co < 1) (h4 : ¬ 1000 < co) : Calls Try.prog 55 #[.agg #[tv], .int .i64 n, .int .i64 i] w fun e w' => e = .returned (.bool false) ∧ Below w.heap.size w w' := by
  obtain ⟨A, cap, rfl, htm, hA⟩ := hT
  have hnT := (List.getElem?_eq_some_iff.1 hL).1
  have hiL := (List.getElem?_eq_some_iff.1 hp).1
  obtain ⟨b, o, rfl, hb, hc⟩ := hA (by rintro rfl; simp at hL)
  obtain ⟨s, hs, hP⟩ := hc n L hL
  obtain ⟨A2, cap2, rfl, hLm, hP2⟩ := hP
  obtain ⟨b2, o2, rfl, hb2, hc2⟩ := hP2 (by rintro rfl; simp at hp)
  have hpc := hc2 i _ hp
  have hnz : (n : Int) < (T.length : Int) := by omega
  have hiz : (i : Int) < (L.length : Int) := by omega
  have B0 : Below w.heap.size w (w.alloc (.cells #[.slice (some ⟨b, o, none⟩) T.length cap] 24)) := below1 w _
  have B1 : Below w.heap.size w ((w.alloc (.cells #[.slice (some ⟨b, o, none⟩) T.length cap] 24)).alloc (.cells #[.int .i64 2, .int .i64 0, .int .i64 (n : Int), .int .i64 sp, .int .i64 co] 65)) := below2 w _ _
  have cs := on_some B0 hs
  obtain ⟨c0, c1, c2, c3, c4⟩ := hpc.on B0
  have N0 : Blk ((w.alloc (.cells #[.slice (some ⟨b, o, none⟩) T.length cap] 24)).alloc (.cells #[.int .i64 2, .int .i64 0, .int .i64 (n : Int), .int .i64 sp, .int .i64 co] 65)) w.heap.size 24 #[.slice (some ⟨b, o, none⟩) T.length cap] := (Blk.new w _ _).on (below1 _ _)
  have N1 : Blk ((w.alloc (.cells #[.slice (some ⟨b, o, none⟩) T.length cap] 24)).alloc (.cells #[.int .i64 2, .int .i64 0, .int .i64 (n : Int), .int .i64 sp, .int .i64 co] 65)) (w.heap.size + 1) 65 #[.int .i64 2, .int .i64 0, .int .i64 (n : Int), .int .i64 sp, .int .i64 co] := Blk.new2 w _ _ _
  have t0 := N0.one
  obtain ⟨p0, p1, p2, p3, p4⟩ := N1.five
  have dh3 : decide (co < 1) = false := decide_eq_false h3
  have dh4 : decide (1000 < co) = false := decide_eq_false h4
  have d5 : decide ((n : Int) < 0) = false := decide_eq_false (by omega)
  have d6 : decide ((T.length : Int) ≤ (n : Int)) = false := decide_eq_false (by omega)
  have d6' : decide (T.length ≤ n) = false := decide_eq_false (by omega)
  clear hA hs hpc hP2 hc2 hp hL N0 N1 hc
  go_enter Try.func55, Try.ntmps55
  go_wp2_with fail
  go_quiet (fail)
  go_wp2
  go_ret
  exact ⟨rfl, bldrewN B1 _⟩
set_option maxRecDepth 100000 in
set_option maxHeartbeats 1000000 in
theorem rp2h {sp co : Int} {m : Nat} (tv : Value) (T : List (List Pt)) (n i : Nat) (L : List Pt) (w : World) (hT : PsT w tv T) (hL : T[n]? = some L) (hp : L[i]? = some (⟨2, 0, (m : Int), sp, co⟩ : Pt)) (h3 : ¬ co < 1) (h4 : ¬ 1000 < co) (hm : m < T.length) (hmn : m ≠ n) (h8 : sp < 0) : Calls Try.prog 55 #[.agg #[tv], .int .i64 n, .int .i64 i] w fun e w' => e = .returned (.bool false) ∧ Below w.heap.size w w' := by
  obtain ⟨A, cap, rfl, htm, hA⟩ := hT
  have hnT := (List.getElem?_eq_some_iff.1 hL).1
  have hiL := (List.getElem?_eq_some_iff.1 hp).1
  obtain ⟨b, o, rfl, hb, hc⟩ := hA (by rintro rfl; simp at hL)
  obtain ⟨s, hs, hP⟩ := hc n L hL
  obtain ⟨A2, cap2, rfl, hLm, hP2⟩ := hP
  obtain ⟨b2, o2, rfl, hb2, hc2⟩ := hP2 (by rintro rfl; simp at hp)
  have hpc := hc2 i _ hp
  have hnz : (n : Int) < (T.length : Int) := by omega
  have hiz : (i : Int) < (L.length : Int) := by omega
  have B0 : Below w.heap.size w (w.alloc (.cells #[.slice (some ⟨b, o, none⟩) T.length cap] 24)) := below1 w _
  have B1 : Below w.heap.size w ((w.alloc (.cells #[.slice (some ⟨b, o, none⟩) T.length cap] 24)).alloc (.cells #[.int .i64 2, .int .i64 0, .int .i64 (m : Int), .int .i64 sp, .int .i64 co] 65)) := below2 w _ _
  have cs := on_some B0 hs
  obtain ⟨c0, c1, c2, c3, c4⟩ := hpc.on B0
  have N0 : Blk ((w.alloc (.cells #[.slice (some ⟨b, o, none⟩) T.length cap] 24)).alloc (.cells #[.int .i64 2, .int .i64 0, .int .i64 (m : Int), .int .i64 sp, .int .i64 co] 65)) w.heap.size 24 #[.slice (some ⟨b, o, none⟩) T.length cap] := (Blk.new w _ _).on (below1 _ _)
  have N1 : Blk ((w.alloc (.cells #[.slice (some ⟨b, o, none⟩) T.length cap] 24)).alloc (.cells #[.int .i64 2, .int .i64 0, .int .i64 (m : Int), .int .i64 sp, .int .i64 co] 65)) (w.heap.size + 1) 65 #[.int .i64 2, .int .i64 0, .int .i64 (m : Int), .int .i64 sp, .int .i64 co] := Blk.new2 w _ _ _
  have t0 := N0.one
  obtain ⟨p0, p1, p2, p3, p4⟩ := N1.five
  have dh3 : decide (co < 1) = false := decide_eq_false h3
  have dh4 : decide (1000 < co) = false := decide_eq_false h4
  have d5 : decide ((m : Int) < 0) = false := decide_eq_false (by omega)
  have d6 : decide ((T.length : Int) ≤ (m : Int)) = false := decide_eq_false (by omega)
  have d6' : decide (T.length ≤ m) = false := decide_eq_false (by omega)
  have d7 : ((m : Int) == (n : Int)) = false := beq_false_of_ne (by omega)
  have d7' : ¬ m = n := by omega
  have d7'' : (m == n) = false := beq_false_of_ne d7'
  have dh8 : decide (sp < 0) = true := decide_eq_true h8
  clear hA hs hpc hP2 hc2 hp hL N0 N1 hc
  go_enter Try.func55, Try.ntmps55
  go_wp2_with fail
  go_quiet (fail)
  go_wp2
  go_ret
  exact ⟨rfl, bldrewN B1 _⟩
set_option maxRecDepth 100000 in
set_option maxHeartbeats 1000000 in
theorem rp2i {sp co : Int} {m : Nat} (tv : Value) (T : List (List Pt)) (n i : Nat) (L : List Pt) (w : World) (hT : PsT w tv T) (hL : T[n]? = some L) (hp : L[i]? = some (⟨2, 0, (m : Int), sp, co⟩ : Pt)) (h3 : ¬ co < 1) (h4 : ¬ 1000 < co) (L' : List Pt) (hL' : T[m]? = some L') (hm : m < T.length) (hmn : m ≠ n) (h8 : ¬ sp < 0) (h9 : (L'.length : Int) ≤ sp) : Calls Try.prog 55 #[.agg #[tv], .int .i64 n, .int .i64 i] w fun e w' => e = .returned (.bool false) ∧ Below w.heap.size w w' := by
  obtain ⟨A, cap, rfl, htm, hA⟩ := hT
  have hnT := (List.getElem?_eq_some_iff.1 hL).1
  have hiL := (List.getElem?_eq_some_iff.1 hp).1
  obtain ⟨b, o, rfl, hb, hc⟩ := hA (by rintro rfl; simp at hL)
  obtain ⟨s, hs, hP⟩ := hc n L hL
  obtain ⟨A2, cap2, rfl, hLm, hP2⟩ := hP
  obtain ⟨b2, o2, rfl, hb2, hc2⟩ := hP2 (by rintro rfl; simp at hp)
  have hpc := hc2 i _ hp
  have hnz : (n : Int) < (T.length : Int) := by omega
  have hiz : (i : Int) < (L.length : Int) := by omega
  have B0 : Below w.heap.size w (w.alloc (.cells #[.slice (some ⟨b, o, none⟩) T.length cap] 24)) := below1 w _
  have B1 : Below w.heap.size w ((w.alloc (.cells #[.slice (some ⟨b, o, none⟩) T.length cap] 24)).alloc (.cells #[.int .i64 2, .int .i64 0, .int .i64 (m : Int), .int .i64 sp, .int .i64 co] 65)) := below2 w _ _
  have cs := on_some B0 hs
  obtain ⟨c0, c1, c2, c3, c4⟩ := hpc.on B0
  have N0 : Blk ((w.alloc (.cells #[.slice (some ⟨b, o, none⟩) T.length cap] 24)).alloc (.cells #[.int .i64 2, .int .i64 0, .int .i64 (m : Int), .int .i64 sp, .int .i64 co] 65)) w.heap.size 24 #[.slice (some ⟨b, o, none⟩) T.length cap] := (Blk.new w _ _).on (below1 _ _)
  have N1 : Blk ((w.alloc (.cells #[.slice (some ⟨b, o, none⟩) T.length cap] 24)).alloc (.cells #[.int .i64 2, .int .i64 0, .int .i64 (m : Int), .int .i64 sp, .int .i64 co] 65)) (w.heap.size + 1) 65 #[.int .i64 2, .int .i64 0, .int .i64 (m : Int), .int .i64 sp, .int .i64 co] := Blk.new2 w _ _ _
  have t0 := N0.one
  obtain ⟨p0, p1, p2, p3, p4⟩ := N1.five
  have dh3 : decide (co < 1) = false := decide_eq_false h3
  have dh4 : decide (1000 < co) = false := decide_eq_false h4
  have d5 : decide ((m : Int) < 0) = false := decide_eq_false (by omega)
  have d6 : decide ((T.length : Int) ≤ (m : Int)) = false := decide_eq_false (by omega)
  have d6' : decide (T.length ≤ m) = false := decide_eq_false (by omega)
  have d7 : ((m : Int) == (n : Int)) = false := beq_false_of_ne (by omega)
  have d7' : ¬ m = n := by omega
  have d7'' : (m == n) = false := beq_false_of_ne d7'
  have dh8 : decide (sp < 0) = false := decide_eq_false h8
  have dh9 : decide ((L'.length : Int) ≤ sp) = true := decide_eq_true h9
  have hmz : (m : Int) < (T.length : Int) := by omega
  obtain ⟨s', hs', A3, cap3, rfl, hLm', hP3⟩ := hc m L' hL'
  have cs' := on_some B1 hs'
  clear hP3 hs' hc
  clear hA hs hpc hP2 hc2 hp hL N0 N1
  go_enter Try.func55, Try.ntmps55
  go_wp2_with fail
  go_quiet (fail)
  go_wp2
  go_ret
  exact ⟨rfl, bldrewN B1 _⟩
end Go.Proofs

namespace Go.Proofs
open Go.RowKit Go.Proofs.Hd Go.Lib
set_option maxRecDepth 100000 in
set_option maxHeartbeats 1000000 in
theorem rp3 {co : Int} {m j : Nat} (tv : Value) (T : List (List Pt)) (n i : Nat) (L : List Pt) (w : World) (hT : PsT w tv T) (hL : T[n]? = some L) (hp : L[i]? = some (⟨2, 0, (m : Int), (j : Int), co⟩ : Pt)) (h3 : ¬ co < 1) (h4 : ¬ 1000 < co) (L' : List Pt) (hL' : T[m]? = some L') (hm : m < T.length) (hmn : m ≠ n) (qk qt qp qs qc : Int) (hq : L'[j]? = some (⟨qk, qt, qp, qs, qc⟩ : Pt)) (x : Bool) (hx : eqP ⟨qk, qt, qp, qs, qc⟩ ⟨2, 0, (n : Int), (i : Int), co⟩ = x) : Calls Try.prog 55 #[.agg #[tv], .int .i64 n, .int .i64 i] w fun e w' => e = .returned (.bool x) ∧ Below w.heap.size w w' := by
  obtain ⟨A, cap, rfl, htm, hA⟩ := hT
  have hnT := (List.getElem?_eq_some_iff.1 hL).1
  have hiL := (List.getElem?_eq_some_iff.1 hp).1
  obtain ⟨b, o, rfl, hb, hc⟩ := hA (by rintro rfl; simp at hL)
  obtain ⟨s, hs, hP⟩ := hc n L hL
  obtain ⟨A2, cap2, rfl, hLm, hP2⟩ := hP
  obtain ⟨b2, o2, rfl, hb2, hc2⟩ := hP2 (by rintro rfl; simp at hp)
  have hpc := hc2 i _ hp
  have hnz : (n : Int) < (T.length : Int) := by omega
  have hiz : (i : Int) < (L.length : Int) := by omega
  have B0 : Below w.heap.size w (w.alloc (.cells #[.slice (some ⟨b, o, none⟩) T.length cap] 24)) := below1 w _
  have B1 : Below w.heap.size w ((w.alloc (.cells #[.slice (some ⟨b, o, none⟩) T.length cap] 24)).alloc (.cells #[.int .i64 2, .int .i64 0, .int .i64 (m : Int), .int .i64 (j : Int), .int .i64 co] 65)) := below2 w _ _
  have cs := on_some B0 hs
  obtain ⟨c0, c1, c2, c3, c4⟩ := hpc.on B0
  have N0 : Blk ((w.alloc (.cells #[.slice (some ⟨b, o, none⟩) T.length cap] 24)).alloc (.cells #[.int .i64 2, .int .i64 0, .int .i64 (m : Int), .int .i64 (j : Int), .int .i64 co] 65)) w.heap.size 24 #[.slice (some ⟨b, o, none⟩) T.length cap] := (Blk.new w _ _).on (below1 _ _)
  have N1 : Blk ((w.alloc (.cells #[.slice (some ⟨b, o, none⟩) T.length cap] 24)).alloc (.cells #[.int .i64 2, .int .i64 0, .int .i64 (m : Int), .int .i64 (j : Int), .int .i64 co] 65)) (w.heap.size + 1) 65 #[.int .i64 2, .int .i64 0, .int .i64 (m : Int), .int .i64 (j : Int), .int .i64 co] := Blk.new2 w _ _ _
  have t0 := N0.one
  obtain ⟨p0, p1, p2, p3, p4⟩ := N1.five
  have dh3 : decide (co < 1) = false := decide_eq_false h3
  have dh4 : decide (1000 < co) = false := decide_eq_false h4
  have d5 : decide ((m : Int) < 0) = false := decide_eq_false (by omega)
  have d6 : decide ((T.length : Int) ≤ (m : Int)) = false := decide_eq_false (by omega)
  have d6' : decide (T.length ≤ m) = false := decide_eq_false (by omega)
  have d7 : ((m : Int) == (n : Int)) = false := beq_false_of_ne (by omega)
  have d7' : ¬ m = n := by omega
  have d7'' : (m == n) = false := beq_false_of_ne d7'
  have hmz : (m : Int) < (T.length : Int) := by omega
  obtain ⟨s', hs', A3, cap3, rfl, hLm', hP3⟩ := hc m L' hL'
  have cs' := on_some B1 hs'
  obtain ⟨b3, o3, rfl, hb3, hc3⟩ := hP3 (by rintro rfl; simp at hq)
  have hjL := (List.getElem?_eq_some_iff.1 hq).1
  have hjz : (j : Int) < (L'.length : Int) := by omega
  have d8 : decide ((j : Int) < 0) = false := decide_eq_false (by omega)
  have d9 : decide ((L'.length : Int) ≤ (j : Int)) = false := decide_eq_false (by omega)
  have d9' : decide (L'.length ≤ j) = false := decide_eq_false (by omega)
  have HQ := Lib.hid (hc3 j _ hq)
  have HN1 := Lib.hid N1
  clear hs' hc hc3 hq hL'
  clear hA hs hpc hP2 hc2 hp hL N0 N1
  go_enter Try.func55, Try.ntmps55
  go_wp2_with fail
  go_quiet (fail)
  have HB := Lib.hid (bldrewN B1 nq)
  have t0' := on_some (bldrewN (Below.refl _ _) nq) t0
  have p2' := on_some (bldrewN (Below.refl _ _) nq) p2
  have p3' := on_some (bldrewN (Below.refl _ _) nq) p3
  have cs'' := on_some (bldrewN (Below.refl _ _) nq) cs'
  have HN := Lib.hid (HN1.out.drewN nq)
  clear B1 t0 p0 p1 p2 p3 p4 cs cs' HN1 c0 c1 c2 c3 c4
  generalize ((w.alloc (.cells #[.slice (some ⟨b, o, none⟩) T.length cap] 24)).alloc (.cells #[.int .i64 2, .int .i64 0, .int .i64 (m : Int), .int .i64 (j : Int), .int .i64 co] 65)).drewN nq = w1 at HB t0' p2' p3' cs'' HN ⊢
  clear nq
  have hbz := below1 w1 (.cells #[.int .i64 0, .int .i64 0, .int .i64 0, .int .i64 0, .int .i64 0] 65)
  obtain ⟨q0, q1, q2, q3, q4⟩ := HQ.out.on (HB.out.trans (hbz.mono HB.out.size))
  have t1 := on_some hbz t0'
  have p21 := on_some hbz p2'
  have p31 := on_some hbz p3'
  have cs1 := on_some hbz cs''
  have p4' := (HN.out.five).2.2.2.2
  have N2 : Blk (w1.alloc (.cells #[.int .i64 0, .int .i64 0, .int .i64 0, .int .i64 0, .int .i64 0] 65)) w1.heap.size 65 #[.int .i64 0, .int .i64 0, .int .i64 0, .int .i64 0, .int .i64 0] := Blk.new w1 _ _
  have B5 := (below1 w1 (.cells #[.int .i64 qk, .int .i64 qt, .int .i64 qp, .int .i64 qs, .int .i64 qc] 65)).drew
  have K : Blk (w1.alloc (.cells #[.int .i64 qk, .int .i64 qt, .int .i64 qp, .int .i64 qs, .int .i64 qc] 65)).drew w1.heap.size 65 #[.int .i64 qk, .int .i64 qt, .int .i64 qp, .int .i64 qs, .int .i64 qc] := (Blk.new w1 _ _).drew1
  have f0 := N2.free 0
  have f1 := N2.free 1
  have f2 := N2.free 2
  have f3 := N2.free 3
  have f4 := N2.free 4
  obtain ⟨y0, y1, y2, y3, y4⟩ := N2.five
  have p5 := on_some B5 p4'
  have HK := Lib.hid K
  have HB5 := Lib.hid (HB.out.trans (B5.mono HB.out.size))
  obtain ⟨r0, r1, r2, r3, r4⟩ := HQ.out.on HB.out
  clear N2 K B5 hbz p4' HB HN HQ
  have mixed : Try.prog.follows Departure.mixedOrders = true := by kernel_rfl
  go_wp2_with fail
  go_big_region_o
  clear f0 f1 f2 f3 f4 y0 y1 y2 y3 y4 q0 q1 q2 q3 q4 t1 p21 p31 cs1 r0 r1 r2 r3 r4 t0' p2' p3' cs''
  generalize (w1.alloc (.cells #[.int .i64 qk, .int .i64 qt, .int .i64 qp, .int .i64 qs, .int .i64 qc] 65)).drew = w5 at HK HB5 p5 ⊢
  obtain ⟨z0, z1, z2, z3, z4⟩ := HK.out.five
  by_cases k0 : qk = 2
  · subst k0
    by_cases k1 : qp = (n : Int)
    · subst k1
      by_cases k2 : qs = (i : Int)
      · subst k2
        by_cases k3 : qc = co
        · subst k3
          by_cases k4 : qt = 0
          · subst k4
            have hx2 : x = true := by rw [← hx]; exact eqP_self _
            subst hx2
            go_wp2
            go_ret
            exact ⟨rfl, HB5.out⟩
          · have hx2 : x = false := by rw [← hx]; simp [eqP, k4]
            have e3 : (qt == 0) = false := beq_false_of_ne k4
            subst hx2
            go_wp2
            go_ret
            exact ⟨rfl, HB5.out⟩
        · have hx2 : x = false := by rw [← hx]; simp [eqP, k3]
          have e3 : (qc == co) = false := beq_false_of_ne k3
          subst hx2
          go_wp2
          go_ret
          exact ⟨rfl, HB5.out⟩
      · have hx2 : x = false := by rw [← hx]; simp [eqP, k2]
        have e3 : (qs == (i : Int)) = false := beq_false_of_ne k2
        subst hx2
        go_wp2
        go_ret
        exact ⟨rfl, HB5.out⟩
    · have hx2 : x = false := by rw [← hx]; simp [eqP, k1]
      have e3 : (qp == (n : Int)) = false := beq_false_of_ne k1
      subst hx2
      go_wp2
      go_ret
      exact ⟨rfl, HB5.out⟩
  · have hx2 : x = false := by rw [← hx]; simp [eqP, k0]
    have e3 : (qk == 2) = false := beq_false_of_ne k0
    subst hx2
    go_wp2
    go_ret
    exact ⟨rfl, HB5.out⟩
end Go.Proofs

namespace Go.Proofs
open Go.RowKit Go.Proofs.Hd Go.Lib
theorem rport_c (x : Bool) (tv : Value) (T : List (List Pt)) (n i : Nat) (L : List Pt) (p : Pt) (w : World) (hT : PsT w tv T) (hL : T[n]? = some L) (hp : L[i]? = some p) (hx : okP T n i p = x) : Calls Try.prog 55 #[.agg #[tv], .int .i64 n, .int .i64 i] w fun e w' => e = .returned (.bool x) ∧ Below w.heap.size w w' := by
  obtain ⟨kd, tn, pr, sp, co⟩ := p
  unfold okP at hx
  dsimp only at hx
  by_cases k0 : kd = 0
  · subst k0
    rw [if_neg (by decide), if_neg (by decide)] at hx
    by_cases h1 : tn = 0
    · subst h1
      by_cases h2 : pr = 0
      · subst h2
        by_cases h3 : sp = 0
        · subst h3
          by_cases h4 : co = 0
          · subst h4
            obtain rfl : x = true := by rw [← hx]; exact eqP_self _
            exact rp0e tv T n i L w hT hL hp
          · obtain rfl : x = false := by rw [← hx]; simp [eqP, h4]
            exact rp0d tv T n i L w hT hL hp h4
        · obtain rfl : x = false := by rw [← hx]; simp [eqP, h3]
          exact rp0c tv T n i L w hT hL hp h3
      · obtain rfl : x = false := by rw [← hx]; simp [eqP, h2]
        exact rp0b tv T n i L w hT hL hp h2
    · obtain rfl : x = false := by rw [← hx]; simp [eqP, h1]
      exact rp0a tv T n i L w hT hL hp h1
  by_cases k1 : kd = 1
  · subst k1
    rw [if_pos rfl] at hx
    by_cases h1 : 0 ≤ tn
    · by_cases h2 : tn ≤ 3
      · have hb : inB tn 4 = true := by simp [inB]; omega
        rw [hb, Bool.true_and] at hx
        by_cases h3 : pr = 0
        · subst h3
          by_cases h4 : sp = 0
          · subst h4
            by_cases h5 : co = 0
            · subst h5
              obtain rfl : x = true := by rw [← hx]; exact eqP_self _
              exact rp1f tv T n i L w hT hL hp h1 h2
            · obtain rfl : x = false := by rw [← hx]; simp [eqP, h5]
              exact rp1e tv T n i L w hT hL hp h1 h2 h5
          · obtain rfl : x = false := by rw [← hx]; simp [eqP, h4]
            exact rp1d tv T n i L w hT hL hp h1 h2 h4
        · obtain rfl : x = false := by rw [← hx]; simp [eqP, h3]
          exact rp1c tv T n i L w hT hL hp h1 h2 h3
      · obtain rfl : x = false := by
          have hb : inB tn 4 = false := by simp [inB]; omega
          rw [← hx, hb]; rfl
        exact rp1b tv T n i L w hT hL hp h1 h2
    · obtain rfl : x = false := by
        have hb : inB tn 4 = false := by simp [inB]; omega
        rw [← hx, hb]; rfl
      exact rp1a tv T n i L w hT hL hp h1
  rw [if_neg k1] at hx
  by_cases k2 : kd = 2
  · subst k2
    rw [if_pos rfl] at hx
    by_cases h1 : tn = 0
    · subst h1
      by_cases h3 : co < 1
      · obtain rfl : x = false := by rw [← hx, decide_eq_false (by omega : ¬ 1 ≤ co)]; simp
        exact rp2c tv T n i L w hT hL hp h3
      by_cases h4 : 1000 < co
      · obtain rfl : x = false := by rw [← hx, decide_eq_false (by omega : ¬ co ≤ 1000)]; simp
        exact rp2d tv T n i L w hT hL hp h3 h4
      rw [decide_eq_true (by omega : 1 ≤ co), decide_eq_true (by omega : co ≤ 1000)] at hx
      simp only [decide_true, Bool.true_and] at hx
      by_cases h5 : pr < 0
      · obtain rfl : x = false := by
          have hn : ptAt T pr sp = none := ptAt_far1 (by simp [inB]; omega)
          rw [← hx]; simp [ansP, hn]
        exact rp2e tv T n i L w hT hL hp h3 h4 h5
      by_cases h6 : (T.length : Int) ≤ pr
      · obtain rfl : x = false := by
          have hn : ptAt T pr sp = none := ptAt_far1 (by simp [inB]; omega)
          rw [← hx]; simp [ansP, hn]
        exact rp2f tv T n i L w hT hL hp h3 h4 h5 h6
      obtain ⟨m, rfl⟩ : ∃ m : Nat, pr = (m : Int) := ⟨pr.toNat, by omega⟩
      by_cases h7 : m = n
      · subst h7
        obtain rfl : x = false := by
          rw [← hx]
          unfold ansP
          cases ptAt T (m : Int) sp <;> simp
        exact rp2g tv T m i L w hT hL hp h3 h4
      have hm : m < T.length := by omega
      have hL' : T[m]? = some T[m] := List.getElem?_eq_getElem hm
      generalize T[m] = L' at hL'
      by_cases h8 : sp < 0
      · obtain rfl : x = false := by
          have hn : ptAt T (m : Int) sp = none := ptAt_far2 hL' (by simp [inB]; omega)
          rw [← hx]; simp [ansP, hn]
        exact rp2h tv T n i L w hT hL hp h3 h4 hm h7 h8
      by_cases h9 : (L'.length : Int) ≤ sp
      · obtain rfl : x = false := by
          have hn : ptAt T (m : Int) sp = none := ptAt_far2 hL' (by simp [inB]; omega)
          rw [← hx]; simp [ansP, hn]
        exact rp2i tv T n i L w hT hL hp h3 h4 L' hL' hm h7 h8 h9
      obtain ⟨j, rfl⟩ : ∃ j : Nat, sp = (j : Int) := ⟨sp.toNat, by omega⟩
      have hj : j < L'.length := by omega
      have hq : L'[j]? = some L'[j] := List.getElem?_eq_getElem hj
      generalize L'[j] = q at hq
      obtain ⟨qk, qt, qp, qs, qc⟩ := q
      have hx2 : eqP ⟨qk, qt, qp, qs, qc⟩ ⟨2, 0, (n : Int), (i : Int), co⟩ = x := by
        rw [← hx]
        unfold ansP
        simp only [ptAt_nat hL' hq]
        have : ((m : Int) == (n : Int)) = false := beq_false_of_ne (by omega)
        rw [this]; rfl
      exact rp3 tv T n i L w hT hL hp h3 h4 L' hL' hm h7 qk qt qp qs qc hq x hx2
    · obtain rfl : x = false := by rw [← hx]; simp [h1]
      exact rp2b tv T n i L w hT hL hp h1
  · obtain rfl : x = false := by rw [← hx, if_neg k2]; simp [eqP, k0]
    exact rp2a tv T n i L w hT hL hp k0 k1 k2
set_option maxRecDepth 100000 in
set_option maxHeartbeats 2000000 in
theorem rtsound_c (tv : Value) (T : List (List Pt)) (w : World) (hT : PsT w tv T) : Calls Try.prog 30 #[.agg #[tv]] w fun e w' => e = .returned (.int .i64 (sTp T)) ∧ Below w.heap.size w w' := by
  have HT := Lib.hid hT
  obtain ⟨A, cap, rfl, htm, hA⟩ := hT
  have HB := Lib.hid (below1 w (.cells #[.slice A T.length cap] 24))
  have NB : Hid (Blk (w.alloc (.cells #[.slice A T.length cap] 24)) w.heap.size 24 #[.slice A T.length cap]) := Blk.new w _ _
  have htz : (T.length : Int) ≤ 9223372036854775807 := by unfold maxLen at htm; omega
  by_cases h1 : 1 ≤ T.length
  · by_cases h6 : T.length ≤ 6
    · have hz1 : ¬ (T.length : Int) < 1 := by omega
      have hz6 : ¬ (6 : Int) < (T.length : Int) := by omega
      obtain ⟨b, o, rfl, hb0, hc⟩ := hA (by rintro rfl; simp at h1)
      have HC := Lib.hid hc
      clear hc hA
      go_enter Try.func30, Try.ntmps30
      go_wp2
      go_loopg [3] T.length (fun gk s3 wr => ∃ (k : Nat), k ≤ T.length ∧ gk = T.length - k ∧ s3 = .int .i64 k ∧ Hid (∀ j L, j < k → T[j]? = some L → L.length ≤ 6) ∧ Hid (Blk wr w.heap.size 24 #[.slice (some ⟨b, o, none⟩) T.length cap]) ∧ Hid (Below w.heap.size w wr))
      case atStart => exact ⟨0, Nat.zero_le _, rfl, rfl, fun j L hj => absurd hj (Nat.not_lt_zero _), NB, HB⟩
      case round =>
        clear HB NB
        obtain ⟨k, hk, rfl, rfl, HN, NB, HW⟩ := hrel
        have cb := NB.out.one
        by_cases hlt : k < T.length
        · have hltz : (k : Int) < (T.length : Int) := by omega
          obtain ⟨L, hTL⟩ : ∃ L, T[k]? = some L := ⟨_, List.getElem?_eq_getElem hlt⟩
          obtain ⟨s, hcell0, A1, c1, rfl, _⟩ := HC.out k L hTL
          have hcell := on_some HW.out hcell0
          have HTL := Lib.hid hTL
          clear hTL hcell0
          by_cases hl6 : L.length ≤ 6
          · have hl6z : ¬ (6 : Int) < (L.length : Int) := by omega
            have HN2 : Hid (∀ j L, j < k + 1 → T[j]? = some L → L.length ≤ 6) := fun j L' hj hL' => by
              by_cases e : j = k
              · subst e
                rw [HTL.out] at hL'
                injection hL' with hL'
                subst hL'
                exact hl6
              · exact HN.out j L' (by omega) hL'
            clear HN
            go_wp2
            go_roundg (T.length - (k + 1))
            case measure => omega
            case rel => exact ⟨k + 1, by omega, rfl, by go_num, HN2, NB, HW⟩
          · have hl6z : (6 : Int) < (L.length : Int) := by omega
            have HE : Hid (sTp T = 4) := sTp_range (by
              cases hs : szT T with
              | false => rfl
              | true => exact absurd ((szT_iff.1 hs).2.2 L (List.mem_of_getElem? HTL.out)) hl6)
            clear HN
            go_wp2
            go_ret
            exact ⟨by rw [HE.out]; rfl, HW.out⟩
        · have hltz : ¬ (k : Int) < (T.length : Int) := by omega
          have hs : Hid (szT T = true) := szT_iff.2 ⟨h1, h6, fun L hL => by
            obtain ⟨j, hj⟩ := List.getElem?_of_mem hL
            have := (List.getElem?_eq_some_iff.1 hj).1
            exact HN.out j L (by omega) hj⟩
          clear HN
          go_wp2
          clear cb
          go_loopg [4, 5] T.length (fun gn s4 _ wn => ∃ (n : Nat), n ≤ T.length ∧ gn = T.length - n ∧ s4 = .int .i64 n ∧ Hid (okTo T n) ∧ Hid (Blk wn w.heap.size 24 #[.slice (some ⟨b, o, none⟩) T.length cap]) ∧ Hid (Below w.heap.size w wn))
          case atStart => exact ⟨0, Nat.zero_le _, rfl, rfl, fun n i L p hn => absurd hn (Nat.not_lt_zero _), NB, HW⟩
          case round =>
            clear HW NB
            obtain ⟨n, hn, rfl, rfl, HO, NB, HB⟩ := hrel
            have cb := NB.out.one
            by_cases hnt : n < T.length
            · have hntz : (n : Int) < (T.length : Int) := by omega
              obtain ⟨L, hTL⟩ : ∃ L, T[n]? = some L := ⟨_, List.getElem?_eq_getElem hnt⟩
              obtain ⟨s, hcell0, A1, c1, rfl, hLm, hA1⟩ := HC.out n L hTL
              have HCE := Lib.hid hcell0
              have HTL := Lib.hid hTL
              have hLz : (L.length : Int) ≤ 6 := by have := (szT_iff.1 hs.out).2.2 L (List.mem_of_getElem? hTL); omega
              clear hTL hcell0 hA1
              go_wp2
              clear cb
              go_loopg [5] L.length (fun gi s5 wi => ∃ (i : Nat), i ≤ L.length ∧ gi = L.length - i ∧ s5 = .int .i64 i ∧ Hid (okUp T n L i) ∧ Hid (Blk wi w.heap.size 24 #[.slice (some ⟨b, o, none⟩) T.length cap]) ∧ Hid (Below w.heap.size w wi))
              case atStart => exact ⟨0, Nat.zero_le _, rfl, rfl, fun i p hi => absurd hi (Nat.not_lt_zero _), NB, HB⟩
              case round =>
                clear HB NB
                obtain ⟨i, hi, rfl, rfl, HI, NB, HB⟩ := hrel
                have cb := NB.out.one
                have hcell := on_some HB.out HCE.out
                by_cases hit : i < L.length
                · have hitz : (i : Int) < (L.length : Int) := by omega
                  obtain ⟨p, hp⟩ : ∃ p, L[i]? = some p := ⟨_, List.getElem?_eq_getElem hit⟩
                  cases hx : okP T n i p with
                  | false =>
                    have HE := Lib.hid (sTp_form hs.out HTL.out hp hx)
                    go_wp2_with fail
                    (with_reducible refine (rport_c false _ T n i L p _ (HT.out.on HB.out) HTL.out hp hx).mono ?_)
                    rintro e w2 ⟨rfl, hb2⟩
                    have B2 := Lib.hid (HB.out.trans (hb2.mono HB.out.size))
                    clear HB hb2 NB cb hcell
                    go_wp2
                    go_ret
                    exact ⟨by rw [HE.out]; rfl, B2.out⟩
                  | true =>
                    have HI2 := Lib.hid (okUp_succ HI.out hp hx)
                    go_wp2_with fail
                    (with_reducible refine (rport_c true _ T n i L p _ (HT.out.on HB.out) HTL.out hp hx).mono ?_)
                    rintro e w2 ⟨rfl, hb2⟩
                    have HB2 := Lib.hid (HB.out.trans (hb2.mono HB.out.size))
                    have NB2 := Lib.hid (NB.out.on hb2)
                    clear HB hb2 NB cb hcell
                    go_wp2
                    go_roundg (L.length - (i + 1))
                    case measure => omega
                    case rel => exact ⟨i + 1, by omega, rfl, by go_num, HI2, NB2, HB2⟩
                · have hitz : ¬ (i : Int) < (L.length : Int) := by omega
                  obtain rfl : i = L.length := by omega
                  have HO2 := Lib.hid (okTo_succ HO.out HTL.out HI.out)
                  go_wp2
                  go_roundg (T.length - (n + 1))
                  case measure => omega
                  case rel => exact ⟨n + 1, by omega, rfl, by go_num, HO2, NB, HB⟩
            · have hntz : ¬ (n : Int) < (T.length : Int) := by omega
              obtain rfl : n = T.length := by omega
              have HE := Lib.hid (sTp_ok hs.out HO.out)
              clear HC HO
              go_wp2
              go_ret
              exact ⟨by rw [HE.out]; rfl, HB.out⟩
    · have hz1 : ¬ (T.length : Int) < 1 := by omega
      have hz6 : (6 : Int) < (T.length : Int) := by omega
      have HE : Hid (sTp T = 4) := sTp_range (by simp [szT, h6])
      clear hA
      go_enter Try.func30, Try.ntmps30
      go_wp2
      go_ret
      exact ⟨by rw [HE.out]; rfl, HB.out⟩
  · have HE : Hid (sTp T = 4) := sTp_range (by simp [szT, h1])
    have h0 : T.length = 0 := by omega
    have hz1 : (T.length : Int) < 1 := by omega
    clear hA
    go_enter Try.func30, Try.ntmps30
    rw [h0] at HB ⊢
    go_wp2
    go_ret
    exact ⟨by rw [HE.out]; rfl, HB.out⟩
end Go.Proofs

namespace Go.Proofs.Hd
open Go.RowKit
/-- v is a slice that reads as the tables of all switches. -/
def RuQ (w : World) (v : Value) (B : List (List (List Rl))) : Prop := ∃ A cap, v = .slice A B.length cap ∧ B.length ≤ maxLen ∧ (B ≠ [] → ∃ b o, A = some ⟨b, o, none⟩ ∧ b < w.heap.size ∧ ∀ (k : Nat) (T : List (List Rl)), B[k]? = some T → ∃ s, w.cell? ⟨b, o + k, none⟩ = some s ∧ RuT w s T)
theorem RuQ.on {w w' : World} {v : Value} {B : List (List (List Rl))} (h : RuQ w v B) (hb : Below w.heap.size w w') : RuQ w' v B := by
  obtain ⟨A, cap, e, h1, h⟩ := h
  refine ⟨A, cap, e, h1, fun hne => ?_⟩
  obtain ⟨b, o, e2, hl, hc⟩ := h hne
  refine ⟨b, o, e2, Nat.lt_of_lt_of_le hl hb.size, fun k T hk => ?_⟩
  obtain ⟨s, h3, h4⟩ := hc k T hk
  exact ⟨s, on_some hb h3, h4.on hb⟩
theorem Ps.po {w : World} {v : Value} {L : List Pt} (h : Ps w v L) : Po w v (L.map Pt.kind) := by
  obtain ⟨A, cap, rfl, hl, h⟩ := h
  cases L with
  | nil => exact .inl ⟨rfl, A, cap, rfl⟩
  | cons p L =>
    obtain ⟨b, o, rfl, hlt, hc⟩ := h (by simp)
    refine .inr ⟨b, o, cap, by simp, by simpa using hl, hlt, fun k x hk => ?_⟩
    rw [List.getElem?_map] at hk
    cases hq : (p :: L)[k]? with
    | none => rw [hq] at hk; cases hk
    | some q =>
      rw [hq] at hk
      injection hk with hk
      rw [← hk]
      exact (hc k q hq).1
/-- The first error of a switch's tables. -/
def firT : List (List (List Rl)) → List (List Pt) → Int
  | B :: BB, L :: T => if sT B (L.map Pt.kind) = 0 then firT BB T else sT B (L.map Pt.kind)
  | _, _ => 0
theorem firT_at {BB : List (List (List Rl))} {T : List (List Pt)} {k : Nat} {B : List (List Rl)} {L : List Pt} (hB : BB[k]? = some B) (hL : T[k]? = some L) : firT (BB.drop k) (T.drop k) = if sT B (L.map Pt.kind) = 0 then firT (BB.drop (k + 1)) (T.drop (k + 1)) else sT B (L.map Pt.kind) := by
  obtain ⟨h1, e1⟩ := List.getElem?_eq_some_iff.1 hB
  obtain ⟨h2, e2⟩ := List.getElem?_eq_some_iff.1 hL
  rw [List.drop_eq_getElem_cons h1, List.drop_eq_getElem_cons h2, e1, e2, firT]
theorem firT_end {BB : List (List (List Rl))} (T : List (List Pt)) {k : Nat} (h : BB.length ≤ k) : firT (BB.drop k) (T.drop k) = 0 := by
  rw [List.drop_eq_nil_of_le h]
  cases T.drop k <;> rfl
/-- What Sound says of a configuration. -/
noncomputable def cfgT (T : List (List Pt)) (ten : Int) (P : List (Int × Int)) (Q : List Wa) (BB : List (List (List Rl))) : Int :=
  if sTp T = 0 then (if polT T ten P Q = 0 then (if BB.length = T.length then firT BB T else 4) else polT T ten P Q) else sTp T
/-- A sound topology has few ports. -/
theorem sum_le6 : ∀ T : List (List Pt), (∀ L ∈ T, L.length ≤ 6) → ports T ≤ T.length * 6
  | [], _ => Nat.zero_le _
  | L :: T, h => by
    have h1 := sum_le6 T fun L hL => h L (List.mem_cons_of_mem _ hL)
    have h2 := h L (List.mem_cons_self ..)
    have h3 : ports (L :: T) = L.length + ports T := by simp [ports]
    rw [h3, List.length_cons]
    omega
theorem ports_sound {T : List (List Pt)} (h : sTp T = 0) : ports T ≤ 2000000 := by
  obtain ⟨_, h6, hl⟩ := szT_iff.1 (sTp_zero h).1
  have := sum_le6 T hl
  omega
end Go.Proofs.Hd
namespace Go.Proofs
open Go.RowKit Go.Proofs.Hd Go.Lib
set_option maxRecDepth 100000 in
set_option maxHeartbeats 4000000 in
theorem rcsound_c (tv pv wv bv : Value) (T : List (List Pt)) (ten : Int) (P : List (Int × Int)) (Q : List Wa) (BB : List (List (List Rl))) (w : World) (hT : PsT w tv T) (hP : Pe w pv P) (hQ : Wy w wv Q) (hB : RuQ w bv BB) : Calls Try.prog 10 #[.agg #[tv, .int .i64 ten, pv, wv, bv]] w fun e w' => e = .returned (.int .i64 (cfgT T ten P Q BB)) ∧ Below w.heap.size w w' := by
  have HT := Lib.hid hT
  have HP := Lib.hid hP
  have HQ := Lib.hid hQ
  obtain ⟨A, cap, rfl, htm, hA⟩ := hT
  obtain ⟨pA, pc, rfl, -, -⟩ := hP
  obtain ⟨wA, wc, rfl, -, -⟩ := hQ
  obtain ⟨bA, bc, rfl, hbm, hBA⟩ := hB
  have hbz : (BB.length : Int) ≤ 9223372036854775807 := by unfold maxLen at hbm; omega
  have B0 : Below w.heap.size w (w.alloc (.cells #[.slice A T.length cap, .int .i64 ten, .slice pA P.length pc, .slice wA Q.length wc, .slice bA BB.length bc] 31)) := below1 w _
  have N0 : Hid (Blk (w.alloc (.cells #[.slice A T.length cap, .int .i64 ten, .slice pA P.length pc, .slice wA Q.length wc, .slice bA BB.length bc] 31)) w.heap.size 31 #[.slice A T.length cap, .int .i64 ten, .slice pA P.length pc, .slice wA Q.length wc, .slice bA BB.length bc]) := Blk.new w _ _
  have HA := Lib.hid hA
  have HBA := Lib.hid hBA
  clear hA hBA
  go_enter Try.func10, Try.ntmps10
  go_wp2_with fail
  (with_reducible refine (rtsound_c _ T _ (HT.out.on B0)).mono ?_)
  rintro e w1 ⟨rfl, hb1⟩
  have HB1 := Lib.hid (B0.trans (hb1.mono B0.size))
  have N1 := Lib.hid (N0.out.on hb1)
  clear hb1 B0 N0
  by_cases hs : sTp T = 0
  · obtain ⟨d0, d1, d2, d3, d4⟩ := N1.out.five
    have hn := ports_sound hs
    have h6 := (szT_iff.1 (sTp_zero hs).1).2.1
    have HC : Hid (cfgT T ten P Q BB = if polT T ten P Q = 0 then (if BB.length = T.length then firT BB T else 4) else polT T ten P Q) := by show _ = _; unfold cfgT; rw [if_pos hs]
    rw [hs]
    clear hs
    go_wp2_with fail
    (with_reducible refine (rpolicy_c _ _ _ T ten P Q _ (HT.out.on HB1.out) (HP.out.on HB1.out) (HQ.out.on HB1.out) hn).mono ?_)
    rintro e w2 ⟨rfl, hb2⟩
    have HB2 := Lib.hid (HB1.out.trans (hb2.mono HB1.out.size))
    have N2 := Lib.hid (N1.out.on hb2)
    clear hb2 HB1 N1 d0 d1 d2 d3 d4
    obtain ⟨d0, d1, d2, d3, d4⟩ := N2.out.five
    obtain ⟨q, hq⟩ : ∃ q, polT T ten P Q = q := ⟨_, rfl⟩
    rw [hq] at HC ⊢
    clear hq
    by_cases hq0 : q = 0
    · subst hq0
      rw [if_pos rfl] at HC
      by_cases hl : BB.length = T.length
      · rw [if_pos hl] at HC
        have hlz : (BB.length : Int) = (T.length : Int) := by omega
        have hbl : (BB.length : Int) ≤ 6 := by omega
        obtain ⟨nb, hnb1, hnb2⟩ : ∃ nb, nb ≤ BB.length ∧ BB.length ≤ nb := ⟨_, Nat.le_refl _, Nat.le_refl _⟩
        have HL := Lib.hid hl
        have hne1 : ((BB.length : Int) != (T.length : Int)) = false := by simp [hl]
        clear hl hlz
        go_wp2
        clear d0 d1 d2 d3 d4
        go_loopg [3, 4] BB.length (fun gk _ s4 wr => ∃ k : Nat, k ≤ BB.length ∧ gk = BB.length - k ∧ s4 = .int .i64 k ∧ Hid (firT BB T = firT (BB.drop k) (T.drop k)) ∧ Hid (Below w2.heap.size w2 wr))
        case atStart => exact ⟨0, Nat.zero_le _, rfl, rfl, rfl, Below.refl _ _⟩
        case round =>
          obtain ⟨k, hk, rfl, rfl, HF, HW⟩ := hrel
          have HB3 := Lib.hid (HB2.out.trans (HW.out.mono HB2.out.size))
          obtain ⟨d0, d1, d2, d3, d4⟩ := (N2.out.on HW.out).five
          by_cases hlt : k < BB.length
          · have hltz : (k : Int) < (BB.length : Int) := by omega
            have hkT : k < T.length := by have := HL.out; omega
            have hkTz : (k : Int) < (T.length : Int) := by omega
            obtain ⟨B, hBk⟩ : ∃ B, BB[k]? = some B := ⟨_, List.getElem?_eq_getElem hlt⟩
            obtain ⟨L, hLk⟩ : ∃ L, T[k]? = some L := ⟨_, List.getElem?_eq_getElem hkT⟩
            obtain ⟨bb, bo, rfl, _, hbc⟩ := HBA.out (by rintro rfl; simp at hlt)
            obtain ⟨tb, tof, rfl, _, htc⟩ := HA.out (by rintro rfl; simp at hkT)
            obtain ⟨s1, hs1, hR⟩ := hbc k B hBk
            obtain ⟨s2, hs2, hPs⟩ := htc k L hLk
            have hPo := hPs.po
            obtain ⟨A1, c1, rfl, -⟩ := id hR
            obtain ⟨A2, c2, rfl, -⟩ := id hPs
            have x1 := on_some HB3.out hs1
            have x2 := on_some HB3.out hs2
            have HR := Lib.hid hR
            have HPo := Lib.hid hPo
            have KP : ∀ W, Below wr.heap.size wr W → (Below wr.heap.size wr W ∧ W.cell? ⟨w.heap.size, 0, none⟩ = some (.slice (some ⟨tb, tof, none⟩) T.length cap) ∧ W.cell? ⟨w.heap.size, 4, none⟩ = some (.slice (some ⟨bb, bo, none⟩) BB.length bc) ∧ W.cell? ⟨bb, bo + k, none⟩ = some (.slice A1 B.length c1) ∧ W.cell? ⟨tb, tof + k, none⟩ = some (.slice A2 L.length c2)) := fun W hb => ⟨hb, on_some hb d0, on_some hb d4, on_some hb x1, on_some hb x2⟩
            have HKP := Lib.hid KP
            have HN := Lib.hid (firT_at hBk hLk)
            obtain ⟨z, hz⟩ : ∃ z, sT B (L.map Pt.kind) = z := ⟨_, rfl⟩
            rw [hz] at HN
            have HZ := Lib.hid hz
            clear KP x1 x2 hbc htc hs1 hs2 hR hPs hPo hBk hLk hz
            go_upto_region 12 with (fail)
            refine wp_region_held_drew (S := fun w' => Below wr.heap.size wr w' ∧ w'.cell? ⟨w.heap.size, 0, none⟩ = some (.slice (some ⟨tb, tof, none⟩) T.length cap) ∧ w'.cell? ⟨w.heap.size, 4, none⟩ = some (.slice (some ⟨bb, bo, none⟩) BB.length bc) ∧ w'.cell? ⟨bb, bo + k, none⟩ = some (.slice A1 B.length c1) ∧ w'.cell? ⟨tb, tof + k, none⟩ = some (.slice A2 L.length c2)) (by kernel_rfl) (HKP.out _ (Below.refl _ wr).drew) (fun hHeld => ?_)
            refine wpAnyH_take (i := 0) (oi := ⟨some 34, _, _, _, _, _⟩) (v := ?vf0) rfl (by kernel_rfl) (by kernel_rfl) (by kernel_rfl) (fun _ _ _ h => h) (Or.inl ⟨by rfl, ?yf0⟩) hHeld ?rf0
            case yf0 => (intro w' hSw; (try dsimp only at hSw); go_simp; try (with_reducible rfl))
            simp only [Act.put, List.setIfInBounds_toArray, List.set_cons_zero, List.set_cons_succ]
            refine wpAnyH_take (i := 1) (oi := ⟨some 35, _, _, _, _, _⟩) (v := ?vf1) rfl (by kernel_rfl) (by kernel_rfl) (by kernel_rfl) (fun _ _ _ h => h) (Or.inl ⟨by rfl, ?yf1⟩) hHeld ?rf1
            case yf1 => (intro w' hSw; (try dsimp only at hSw); go_simp; try (with_reducible rfl))
            simp only [Act.put, List.setIfInBounds_toArray, List.set_cons_zero, List.set_cons_succ]
            refine wpAnyH_take (i := 2) (oi := ⟨some 36, _, _, _, _, _⟩) (v := ?vf2) rfl (by kernel_rfl) (by kernel_rfl) (by kernel_rfl) (fun _ _ _ h => h) (Or.inl ⟨by rfl, ?yf2⟩) hHeld ?rf2
            case yf2 => (intro w' hSw; (try dsimp only at hSw); go_simp; try (with_reducible rfl))
            simp only [Act.put, List.setIfInBounds_toArray, List.set_cons_zero, List.set_cons_succ]
            refine wpAnyH_take (i := 3) (oi := ⟨some 37, _, _, _, _, _⟩) (v := ?vf3) rfl (by kernel_rfl) (by kernel_rfl) (by kernel_rfl) (fun _ _ _ h => h) (Or.inl ⟨by rfl, ?yf3⟩) hHeld ?rf3
            case yf3 => (intro w' hSw; (try dsimp only at hSw); go_simp; try (with_reducible rfl))
            simp only [Act.put, List.setIfInBounds_toArray, List.set_cons_zero, List.set_cons_succ]
            refine wpAnyH_take (i := 4) (oi := ⟨some 38, _, _, _, _, _⟩) (v := ?vf4) rfl (by kernel_rfl) (by kernel_rfl) (by kernel_rfl) (fun _ _ _ h => h) (Or.inl ⟨by rfl, ?yf4⟩) hHeld ?rf4
            case yf4 => (intro w' hSw; (try dsimp only at hSw); go_simp; try (with_reducible rfl))
            simp only [Act.put, List.setIfInBounds_toArray, List.set_cons_zero, List.set_cons_succ]
            refine wpAnyH_take (i := 5) (oi := ⟨some 39, _, _, _, _, _⟩) (v := ?vf5) rfl (by kernel_rfl) (by kernel_rfl) (by kernel_rfl) (fun _ _ _ h => h) (Or.inl ⟨by rfl, ?yf5⟩) hHeld ?rf5
            case yf5 => (intro w' hSw; (try dsimp only at hSw); go_simp; try (with_reducible rfl))
            simp only [Act.put, List.setIfInBounds_toArray, List.set_cons_zero, List.set_cons_succ]
            refine wpAnyH_take (i := 6) (oi := ⟨some 40, _, _, _, _, _⟩) (v := ?vf6) rfl (by kernel_rfl) (by kernel_rfl) (by kernel_rfl) (fun _ _ _ h => h) (Or.inl ⟨by rfl, ?yf6⟩) hHeld ?rf6
            case yf6 => (intro w' hSw; (try dsimp only at hSw); go_simp; try (with_reducible rfl))
            simp only [Act.put, List.setIfInBounds_toArray, List.set_cons_zero, List.set_cons_succ]
            refine wpAnyH_take (i := 7) (oi := ⟨some 41, _, _, _, _, _⟩) (v := ?vf7) rfl (by kernel_rfl) (by kernel_rfl) (by kernel_rfl) (fun _ _ _ h => h) (Or.inl ⟨by rfl, ?yf7⟩) hHeld ?rf7
            case yf7 => (intro w' hSw; (try dsimp only at hSw); go_simp; try (with_reducible rfl))
            simp only [Act.put, List.setIfInBounds_toArray, List.set_cons_zero, List.set_cons_succ]
            refine wpAnyH_take (i := 8) (oi := ⟨some 42, _, _, _, _, _⟩) (v := ?vf8) rfl (by kernel_rfl) (by kernel_rfl) (by kernel_rfl) (fun _ _ _ h => h) (Or.inl ⟨by rfl, ?yf8⟩) hHeld ?rf8
            case yf8 => (intro w' hSw; (try dsimp only at hSw); go_simp; try (with_reducible rfl))
            simp only [Act.put, List.setIfInBounds_toArray, List.set_cons_zero, List.set_cons_succ]
            refine wpAnyH_take (i := 9) (oi := ⟨some 43, _, _, _, _, _⟩) (v := ?vf9) rfl (by kernel_rfl) (by kernel_rfl) (by kernel_rfl) (fun _ _ _ h => h) (Or.inl ⟨by rfl, ?yf9⟩) hHeld ?rf9
            case yf9 => (intro w' hSw; (try dsimp only at hSw); go_simp; try (with_reducible rfl))
            simp only [Act.put, List.setIfInBounds_toArray, List.set_cons_zero, List.set_cons_succ]
            refine wpAnyH_take (i := 10) (oi := ⟨some 44, _, _, _, _, _⟩) (v := ?vf10) rfl (by kernel_rfl) (by kernel_rfl) (by kernel_rfl) (fun _ _ _ h => h) (Or.inl ⟨by rfl, ?yf10⟩) hHeld ?rf10
            case yf10 => (intro w' hSw; (try dsimp only at hSw); go_simp; try (with_reducible rfl))
            simp only [Act.put, List.setIfInBounds_toArray, List.set_cons_zero, List.set_cons_succ]
            refine wpAnyH_ready (rs := [11]) (by kernel_rfl) (by simp) ?_
            refine AllReadyH.cons (o := ⟨some 45, _, _, _, _, _⟩) rfl (fun K hK => ?_) AllReadyH.nil
            go_simp
            (with_reducible refine (rtabs_c _ _ B (L.map Pt.kind) _ (HR.out.on (HB3.out.trans (hHeld.1.mono HB3.out.size))) (HPo.out.on (HB3.out.trans (hHeld.1.mono HB3.out.size)))).mono ?_)
            rintro e w5 ⟨rfl, hb⟩
            rw [HZ.out]
            (try dsimp only)
            refine hK.out _ _ (HKP.out _ (hHeld.1.trans (hb.mono hHeld.1.size))) (fun hNext => ?_)
            clear hK K hHeld
            have hHeld := hNext
            clear hNext
            try simp only [Act.put, List.setIfInBounds_toArray, List.set_cons_zero, List.set_cons_succ]
            refine wpAnyH_take (i := 12) (oi := ⟨some 3, _, _, _, _, _⟩) (v := ?vf12) rfl (by kernel_rfl) (by kernel_rfl) (by kernel_rfl) (fun _ _ _ h => h) (Or.inl ⟨by rfl, ?yf12⟩) hHeld ?rf12
            case yf12 => (intro w' hSw; (try dsimp only at hSw); go_simp; try (with_reducible rfl))
            simp only [Act.put, List.setIfInBounds_toArray, List.set_cons_zero, List.set_cons_succ]
            refine wpAnyH_done (by kernel_rfl) ?_ _
            have HBE := Lib.hid (HB3.out.trans (hHeld.1.mono HB3.out.size))
            have HWE := Lib.hid (HW.out.trans (hHeld.1.mono HW.out.size))
            clear hHeld HKP HB3 HW d0 d1 d2 d3 d4
            by_cases hz0 : z = 0
            · subst hz0
              rw [if_pos rfl] at HN
              have HF2 : Hid (firT BB T = firT (BB.drop (k + 1)) (T.drop (k + 1))) := HF.out.trans HN.out
              go_wp2
              go_roundg (BB.length - (k + 1))
              case measure => omega
              case rel => exact ⟨k + 1, by omega, rfl, by go_num, HF2, HWE⟩
            · rw [if_neg hz0] at HN
              have HE : Hid (cfgT T ten P Q BB = z) := HC.out.trans (HF.out.trans HN.out)
              go_wp2
              go_ret
              exact ⟨by rw [HE.out]; rfl, HBE.out⟩
          · have hltz : ¬ (k : Int) < (BB.length : Int) := by omega
            have HE : Hid (cfgT T ten P Q BB = 0) := HC.out.trans (HF.out.trans (firT_end T (by omega)))
            go_wp2
            go_ret
            exact ⟨by rw [HE.out]; rfl, HB3.out⟩
      · rw [if_neg hl] at HC
        have hlz : ¬ (BB.length : Int) = (T.length : Int) := by omega
        have hne1 : ((BB.length : Int) != (T.length : Int)) = true := bne_iff_ne.2 hlz
        have HE := HC
        clear HC
        go_wp2
        go_ret
        exact ⟨by rw [HE.out]; rfl, HB2.out⟩
    · rw [if_neg hq0] at HC
      have HE := HC
      clear HC
      go_wp2
      go_ret
      exact ⟨by rw [HE.out]; rfl, HB2.out⟩
  · have HE : Hid (cfgT T ten P Q BB = sTp T) := by show _ = _; unfold cfgT; rw [if_neg hs]
    obtain ⟨q, hq⟩ : ∃ q, sTp T = q := ⟨_, rfl⟩
    rw [hq] at hs HE ⊢
    clear hq
    go_wp2
    go_ret
    exact ⟨by rw [HE.out]; rfl, HB1.out⟩
end Go.Proofs

namespace Go.Proofs
open Go.RowKit Go.Proofs.Hd Go.Lib
theorem cwin_c (x : Bool) (n m : Int) (w : World) (hx : inB n m = x) : Calls Try.prog 33 #[.int .i64 n, .int .i64 m] w fun e w' => e = .returned (.bool x) ∧ w' = w := by
  unfold inB at hx
  by_cases h0 : 0 ≤ n
  · by_cases h1 : n < m
    · rw [decide_eq_true h0, decide_eq_true h1] at hx
      subst hx
      go_enter Try.func33, Try.ntmps33
      go_wp2
      go_ret
      exact ⟨rfl, rfl⟩
    · rw [decide_eq_true h0, decide_eq_false h1] at hx
      subst hx
      go_enter Try.func33, Try.ntmps33
      go_wp2
      go_ret
      exact ⟨rfl, rfl⟩
  · rw [decide_eq_false h0] at hx
    subst hx
    go_enter Try.func33, Try.ntmps33
    go_wp2
    go_ret
    exact ⟨rfl, rfl⟩
theorem info_port : (Try.prog.info? 65).map (fun i => (i.zero, i.size, i.bytes)) = some (some (.agg #[.int .i64 0, .int .i64 0, .int .i64 0, .int .i64 0, .int .i64 0]), 5, 40) := by kernel_rfl
theorem nil_port : ∀ (w : World) (a : Option Addr) (n c n' c' : Nat), (binOp .eql 63 (.slice a n c) (.slice none n' c')).run Try.prog w = .ok (.bool a.isNone) w := fun w a n c n' c' => Lib.run_eql_slice_nil w _ _ a n c n' c' Try.underlying63
set_option maxRecDepth 100000 in
theorem copied_port (v : Value) (n : Nat) (news : List Value) (w : World) (hn : n ≤ 3518437208780) (hs : Src w 5 v n news) (hs1 : ∀ W, Below w.heap.size w W → Src W 5 v n news) : Calls Try.prog 63 #[v] w fun e w' => ∃ v', e = .returned v' ∧ w'.ownsRow w.heap.size 65 5 v' n news ∧ Below w.heap.size w w' := by
  have q := nil_port
  obtain ⟨ic, hic, hcz0, hcz1, hcz2⟩ := info_parts info_port
  have hnz : (n : Int) ≤ 3518437208780 := by omega
  have hs2 := hs1 _ (below1 w (.cells (madeCells (.agg #[.int .i64 0, .int .i64 0, .int .i64 0, .int .i64 0, .int .i64 0] : Value).cells (n * 5)) 65))
  have B0 := below1 w (.cells (madeCells (.agg #[.int .i64 0, .int .i64 0, .int .i64 0, .int .i64 0, .int .i64 0] : Value).cells (n * 5)) 65)
  have O := World.ownsRow_made (base := w.heap.size) (e := 65) (size := 5) w (madeCells (.agg #[.int .i64 0, .int .i64 0, .int .i64 0, .int .i64 0, .int .i64 0] : Value).cells (n * 5)) n (Nat.le_refl _) (by unfold maxLen; omega) (by simp [madeCells])
  have hmk : (Instr.makeSlice 63 (.int .i64 0) (.int .i64 (n : Int))).run Try.prog w = .ok (.slice (some ⟨w.heap.size, 0, none⟩) 0 n) (w.alloc (.cells (madeCells (.agg #[.int .i64 0, .int .i64 0, .int .i64 0, .int .i64 0, .int .i64 0] : Value).cells (n * 5)) 65)) := by
    have h := run_make (P := Try.prog) w 63 65 ic _ Try.underlying63 hic hcz0 .i64 .i64 0 n (by omega) (by omega) (by rw [hcz2]; omega) (by omega)
    rw [hcz1] at h
    exact h
  clear hs1
  obtain ⟨_, _, ⟨h0, c, rfl⟩ | ⟨ad, c, rfl, _⟩⟩ := hs
  · have hx : Hid (n = 0) := h0
    have hl := hs2.1
    obtain rfl : news = [] := List.eq_nil_of_length_eq_zero (by rw [hl, h0, Nat.zero_mul])
    clear hmk O B0 hs2 h0 hnz hl hn
    go_enter Try.func63, Try.ntmps63
    go_wp2
    go_ret
    exact ⟨_, rfl, by rw [hx.out]; exact World.ownsRow_nil _ _ _ _, Below.refl _ _⟩
  · generalize w.alloc (.cells (madeCells (.agg #[.int .i64 0, .int .i64 0, .int .i64 0, .int .i64 0, .int .i64 0] : Value).cells (n * 5)) 65) = w1 at hmk O B0 hs2
    have hb1 := B0.size
    go_enter Try.func63, Try.ntmps63
    go_wp2_with (at_builtin; refine wpList_app _ rfl (.tmp 7) (.tmp 8) 63 rfl w.heap.size 65 ic _ 5 40 Try.underlying63 hic hcz0 hcz1 hcz2 rfl (by decide) _ 0 [] rfl O _ n news rfl hs2 (by unfold maxLen; omega) (by omega) hb1 ?_)
    intro v2 w2 hown hg
    have B2 := B0.grown hg hb1 (fun j hj => by simp [Value.ownBlock] at hj; omega)
    clear hs2 O B0 hg hmk
    go_wp2
    go_ret
    exact ⟨_, rfl, by simpa using hown, B2⟩
theorem info_pair : (Try.prog.info? 66).map (fun i => (i.zero, i.size, i.bytes)) = some (some (.agg #[.int .i64 0, .int .i64 0]), 2, 16) := by kernel_rfl
theorem nil_pair : ∀ (w : World) (a : Option Addr) (n c n' c' : Nat), (binOp .eql 25 (.slice a n c) (.slice none n' c')).run Try.prog w = .ok (.bool a.isNone) w := fun w a n c n' c' => Lib.run_eql_slice_nil w _ _ a n c n' c' Try.underlying25
set_option maxRecDepth 100000 in
theorem copied_pair (v : Value) (n : Nat) (news : List Value) (w : World) (hn : n ≤ 8796093021952) (hs : Src w 2 v n news) (hs1 : ∀ W, Below w.heap.size w W → Src W 2 v n news) : Calls Try.prog 41 #[v] w fun e w' => ∃ v', e = .returned v' ∧ w'.ownsRow w.heap.size 66 2 v' n news ∧ Below w.heap.size w w' := by
  have q := nil_pair
  obtain ⟨ic, hic, hcz0, hcz1, hcz2⟩ := info_parts info_pair
  have hnz : (n : Int) ≤ 8796093021952 := by omega
  have hs2 := hs1 _ (below1 w (.cells (madeCells (.agg #[.int .i64 0, .int .i64 0] : Value).cells (n * 2)) 66))
  have B0 := below1 w (.cells (madeCells (.agg #[.int .i64 0, .int .i64 0] : Value).cells (n * 2)) 66)
  have O := World.ownsRow_made (base := w.heap.size) (e := 66) (size := 2) w (madeCells (.agg #[.int .i64 0, .int .i64 0] : Value).cells (n * 2)) n (Nat.le_refl _) (by unfold maxLen; omega) (by simp [madeCells])
  have hmk : (Instr.makeSlice 25 (.int .i64 0) (.int .i64 (n : Int))).run Try.prog w = .ok (.slice (some ⟨w.heap.size, 0, none⟩) 0 n) (w.alloc (.cells (madeCells (.agg #[.int .i64 0, .int .i64 0] : Value).cells (n * 2)) 66)) := by
    have h := run_make (P := Try.prog) w 25 66 ic _ Try.underlying25 hic hcz0 .i64 .i64 0 n (by omega) (by omega) (by rw [hcz2]; omega) (by omega)
    rw [hcz1] at h
    exact h
  clear hs1
  obtain ⟨_, _, ⟨h0, c, rfl⟩ | ⟨ad, c, rfl, _⟩⟩ := hs
  · have hx : Hid (n = 0) := h0
    have hl := hs2.1
    obtain rfl : news = [] := List.eq_nil_of_length_eq_zero (by rw [hl, h0, Nat.zero_mul])
    clear hmk O B0 hs2 h0 hnz hl hn
    go_enter Try.func41, Try.ntmps41
    go_wp2
    go_ret
    exact ⟨_, rfl, by rw [hx.out]; exact World.ownsRow_nil _ _ _ _, Below.refl _ _⟩
  · generalize w.alloc (.cells (madeCells (.agg #[.int .i64 0, .int .i64 0] : Value).cells (n * 2)) 66) = w1 at hmk O B0 hs2
    have hb1 := B0.size
    go_enter Try.func41, Try.ntmps41
    go_wp2_with (at_builtin; refine wpList_app _ rfl (.tmp 7) (.tmp 8) 25 rfl w.heap.size 66 ic _ 2 16 Try.underlying25 hic hcz0 hcz1 hcz2 rfl (by decide) _ 0 [] rfl O _ n news rfl hs2 (by unfold maxLen; omega) (by omega) hb1 ?_)
    intro v2 w2 hown hg
    have B2 := B0.grown hg hb1 (fun j hj => by simp [Value.ownBlock] at hj; omega)
    clear hs2 O B0 hg hmk
    go_wp2
    go_ret
    exact ⟨_, rfl, by simpa using hown, B2⟩
theorem info_way : (Try.prog.info? 68).map (fun i => (i.zero, i.size, i.bytes)) = some (some (.agg #[.int .i64 0, .int .i64 0, .int .i64 0]), 3, 24) := by kernel_rfl
theorem nil_way : ∀ (w : World) (a : Option Addr) (n c n' c' : Nat), (binOp .eql 26 (.slice a n c) (.slice none n' c')).run Try.prog w = .ok (.bool a.isNone) w := fun w a n c n' c' => Lib.run_eql_slice_nil w _ _ a n c n' c' Try.underlying26
set_option maxRecDepth 100000 in
theorem copied_way (v : Value) (n : Nat) (news : List Value) (w : World) (hn : n ≤ 5864062014634) (hs : Src w 3 v n news) (hs1 : ∀ W, Below w.heap.size w W → Src W 3 v n news) : Calls Try.prog 42 #[v] w fun e w' => ∃ v', e = .returned v' ∧ w'.ownsRow w.heap.size 68 3 v' n news ∧ Below w.heap.size w w' := by
  have q := nil_way
  obtain ⟨ic, hic, hcz0, hcz1, hcz2⟩ := info_parts info_way
  have hnz : (n : Int) ≤ 5864062014634 := by omega
  have hs2 := hs1 _ (below1 w (.cells (madeCells (.agg #[.int .i64 0, .int .i64 0, .int .i64 0] : Value).cells (n * 3)) 68))
  have B0 := below1 w (.cells (madeCells (.agg #[.int .i64 0, .int .i64 0, .int .i64 0] : Value).cells (n * 3)) 68)
  have O := World.ownsRow_made (base := w.heap.size) (e := 68) (size := 3) w (madeCells (.agg #[.int .i64 0, .int .i64 0, .int .i64 0] : Value).cells (n * 3)) n (Nat.le_refl _) (by unfold maxLen; omega) (by simp [madeCells])
  have hmk : (Instr.makeSlice 26 (.int .i64 0) (.int .i64 (n : Int))).run Try.prog w = .ok (.slice (some ⟨w.heap.size, 0, none⟩) 0 n) (w.alloc (.cells (madeCells (.agg #[.int .i64 0, .int .i64 0, .int .i64 0] : Value).cells (n * 3)) 68)) := by
    have h := run_make (P := Try.prog) w 26 68 ic _ Try.underlying26 hic hcz0 .i64 .i64 0 n (by omega) (by omega) (by rw [hcz2]; omega) (by omega)
    rw [hcz1] at h
    exact h
  clear hs1
  obtain ⟨_, _, ⟨h0, c, rfl⟩ | ⟨ad, c, rfl, _⟩⟩ := hs
  · have hx : Hid (n = 0) := h0
    have hl := hs2.1
    obtain rfl : news = [] := List.eq_nil_of_length_eq_zero (by rw [hl, h0, Nat.zero_mul])
    clear hmk O B0 hs2 h0 hnz hl hn
    go_enter Try.func42, Try.ntmps42
    go_wp2
    go_ret
    exact ⟨_, rfl, by rw [hx.out]; exact World.ownsRow_nil _ _ _ _, Below.refl _ _⟩
  · generalize w.alloc (.cells (madeCells (.agg #[.int .i64 0, .int .i64 0, .int .i64 0] : Value).cells (n * 3)) 68) = w1 at hmk O B0 hs2
    have hb1 := B0.size
    go_enter Try.func42, Try.ntmps42
    go_wp2_with (at_builtin; refine wpList_app _ rfl (.tmp 7) (.tmp 8) 26 rfl w.heap.size 68 ic _ 3 24 Try.underlying26 hic hcz0 hcz1 hcz2 rfl (by decide) _ 0 [] rfl O _ n news rfl hs2 (by unfold maxLen; omega) (by omega) hb1 ?_)
    intro v2 w2 hown hg
    have B2 := B0.grown hg hb1 (fun j hj => by simp [Value.ownBlock] at hj; omega)
    clear hs2 O B0 hg hmk
    go_wp2
    go_ret
    exact ⟨_, rfl, by simpa using hown, B2⟩
theorem info_rule : (Try.prog.info? 62).map (fun i => (i.zero, i.size, i.bytes)) = some (some (.agg #[.int .i64 0, .int .u64 0, .int .u64 0, .int .u64 0, .int .u64 0, .int .i64 0, .int .i64 0, .int .i64 0, .int .u64 0, .int .u64 0, .int .u64 0, .int .u64 0]), 12, 96) := by kernel_rfl
theorem nil_rule : ∀ (w : World) (a : Option Addr) (n c n' c' : Nat), (binOp .eql 58 (.slice a n c) (.slice none n' c')).run Try.prog w = .ok (.bool a.isNone) w := fun w a n c n' c' => Lib.run_eql_slice_nil w _ _ a n c n' c' Try.underlying58
set_option maxRecDepth 100000 in
theorem copied_rule (v : Value) (n : Nat) (news : List Value) (w : World) (hn : n ≤ 1466015503658) (hs : Src w 12 v n news) (hs1 : ∀ W, Below w.heap.size w W → Src W 12 v n news) : Calls Try.prog 65 #[v] w fun e w' => ∃ v', e = .returned v' ∧ w'.ownsRow w.heap.size 62 12 v' n news ∧ Below w.heap.size w w' := by
  have q := nil_rule
  obtain ⟨ic, hic, hcz0, hcz1, hcz2⟩ := info_parts info_rule
  have hnz : (n : Int) ≤ 1466015503658 := by omega
  have hs2 := hs1 _ (below1 w (.cells (madeCells (.agg #[.int .i64 0, .int .u64 0, .int .u64 0, .int .u64 0, .int .u64 0, .int .i64 0, .int .i64 0, .int .i64 0, .int .u64 0, .int .u64 0, .int .u64 0, .int .u64 0] : Value).cells (n * 12)) 62))
  have B0 := below1 w (.cells (madeCells (.agg #[.int .i64 0, .int .u64 0, .int .u64 0, .int .u64 0, .int .u64 0, .int .i64 0, .int .i64 0, .int .i64 0, .int .u64 0, .int .u64 0, .int .u64 0, .int .u64 0] : Value).cells (n * 12)) 62)
  have O := World.ownsRow_made (base := w.heap.size) (e := 62) (size := 12) w (madeCells (.agg #[.int .i64 0, .int .u64 0, .int .u64 0, .int .u64 0, .int .u64 0, .int .i64 0, .int .i64 0, .int .i64 0, .int .u64 0, .int .u64 0, .int .u64 0, .int .u64 0] : Value).cells (n * 12)) n (Nat.le_refl _) (by unfold maxLen; omega) (by simp [madeCells])
  have hmk : (Instr.makeSlice 58 (.int .i64 0) (.int .i64 (n : Int))).run Try.prog w = .ok (.slice (some ⟨w.heap.size, 0, none⟩) 0 n) (w.alloc (.cells (madeCells (.agg #[.int .i64 0, .int .u64 0, .int .u64 0, .int .u64 0, .int .u64 0, .int .i64 0, .int .i64 0, .int .i64 0, .int .u64 0, .int .u64 0, .int .u64 0, .int .u64 0] : Value).cells (n * 12)) 62)) := by
    have h := run_make (P := Try.prog) w 58 62 ic _ Try.underlying58 hic hcz0 .i64 .i64 0 n (by omega) (by omega) (by rw [hcz2]; omega) (by omega)
    rw [hcz1] at h
    exact h
  clear hs1
  obtain ⟨_, _, ⟨h0, c, rfl⟩ | ⟨ad, c, rfl, _⟩⟩ := hs
  · have hx : Hid (n = 0) := h0
    have hl := hs2.1
    obtain rfl : news = [] := List.eq_nil_of_length_eq_zero (by rw [hl, h0, Nat.zero_mul])
    clear hmk O B0 hs2 h0 hnz hl hn
    go_enter Try.func65, Try.ntmps65
    go_wp2
    go_ret
    exact ⟨_, rfl, by rw [hx.out]; exact World.ownsRow_nil _ _ _ _, Below.refl _ _⟩
  · generalize w.alloc (.cells (madeCells (.agg #[.int .i64 0, .int .u64 0, .int .u64 0, .int .u64 0, .int .u64 0, .int .i64 0, .int .i64 0, .int .i64 0, .int .u64 0, .int .u64 0, .int .u64 0, .int .u64 0] : Value).cells (n * 12)) 62) = w1 at hmk O B0 hs2
    have hb1 := B0.size
    go_enter Try.func65, Try.ntmps65
    go_wp2_with (at_builtin; refine wpList_app _ rfl (.tmp 7) (.tmp 8) 58 rfl w.heap.size 62 ic _ 12 96 Try.underlying58 hic hcz0 hcz1 hcz2 rfl (by decide) _ 0 [] rfl O _ n news rfl hs2 (by unfold maxLen; omega) (by omega) hb1 ?_)
    intro v2 w2 hown hg
    have B2 := B0.grown hg hb1 (fun j hj => by simp [Value.ownBlock] at hj; omega)
    clear hs2 O B0 hg hmk
    go_wp2
    go_ret
    exact ⟨_, rfl, by simpa using hown, B2⟩
theorem info_ports : (Try.prog.info? 63).map (fun i => (i.zero, i.size, i.bytes)) = some (some (.slice none 0 0), 1, 24) := by kernel_rfl
theorem nil_ports : ∀ (w : World) (a : Option Addr) (n c n' c' : Nat), (binOp .eql 22 (.slice a n c) (.slice none n' c')).run Try.prog w = .ok (.bool a.isNone) w := fun w a n c n' c' => Lib.run_eql_slice_nil w _ _ a n c n' c' Try.underlying22
set_option maxRecDepth 100000 in
theorem copied_ports (v : Value) (n : Nat) (news : List Value) (w : World) (hn : n ≤ 5864062014634) (hs : Src w 1 v n news) (hs1 : ∀ W, Below w.heap.size w W → Src W 1 v n news) : Calls Try.prog 62 #[v] w fun e w' => ∃ v', e = .returned v' ∧ w'.ownsRow w.heap.size 63 1 v' n news ∧ Below w.heap.size w w' := by
  have q := nil_ports
  obtain ⟨ic, hic, hcz0, hcz1, hcz2⟩ := info_parts info_ports
  have hnz : (n : Int) ≤ 5864062014634 := by omega
  have hs2 := hs1 _ (below1 w (.cells (madeCells (.slice none 0 0 : Value).cells (n * 1)) 63))
  have B0 := below1 w (.cells (madeCells (.slice none 0 0 : Value).cells (n * 1)) 63)
  have O := World.ownsRow_made (base := w.heap.size) (e := 63) (size := 1) w (madeCells (.slice none 0 0 : Value).cells (n * 1)) n (Nat.le_refl _) (by unfold maxLen; omega) (by simp [madeCells])
  have hmk : (Instr.makeSlice 22 (.int .i64 0) (.int .i64 (n : Int))).run Try.prog w = .ok (.slice (some ⟨w.heap.size, 0, none⟩) 0 n) (w.alloc (.cells (madeCells (.slice none 0 0 : Value).cells (n * 1)) 63)) := by
    have h := run_make (P := Try.prog) w 22 63 ic _ Try.underlying22 hic hcz0 .i64 .i64 0 n (by omega) (by omega) (by rw [hcz2]; omega) (by omega)
    rw [hcz1] at h
    exact h
  clear hs1
  obtain ⟨_, _, ⟨h0, c, rfl⟩ | ⟨ad, c, rfl, _⟩⟩ := hs
  · have hx : Hid (n = 0) := h0
    have hl := hs2.1
    obtain rfl : news = [] := List.eq_nil_of_length_eq_zero (by rw [hl, h0, Nat.zero_mul])
    clear hmk O B0 hs2 h0 hnz hl hn
    go_enter Try.func62, Try.ntmps62
    go_wp2
    go_ret
    exact ⟨_, rfl, by rw [hx.out]; exact World.ownsRow_nil _ _ _ _, Below.refl _ _⟩
  · generalize w.alloc (.cells (madeCells (.slice none 0 0 : Value).cells (n * 1)) 63) = w1 at hmk O B0 hs2
    have hb1 := B0.size
    go_enter Try.func62, Try.ntmps62
    go_wp2_with (at_builtin; refine wpList_app _ rfl (.tmp 7) (.tmp 8) 22 rfl w.heap.size 63 ic _ 1 24 Try.underlying22 hic hcz0 hcz1 hcz2 rfl (by decide) _ 0 [] rfl O _ n news rfl hs2 (by unfold maxLen; omega) (by omega) hb1 ?_)
    intro v2 w2 hown hg
    have B2 := B0.grown hg hb1 (fun j hj => by simp [Value.ownBlock] at hj; omega)
    clear hs2 O B0 hg hmk
    go_wp2
    go_ret
    exact ⟨_, rfl, by simpa using hown, B2⟩
theorem info_rules : (Try.prog.info? 58).map (fun i => (i.zero, i.size, i.bytes)) = some (some (.slice none 0 0), 1, 24) := by kernel_rfl
theorem nil_rules : ∀ (w : World) (a : Option Addr) (n c n' c' : Nat), (binOp .eql 57 (.slice a n c) (.slice none n' c')).run Try.prog w = .ok (.bool a.isNone) w := fun w a n c n' c' => Lib.run_eql_slice_nil w _ _ a n c n' c' Try.underlying57
set_option maxRecDepth 100000 in
theorem copied_rules (v : Value) (n : Nat) (news : List Value) (w : World) (hn : n ≤ 5864062014634) (hs : Src w 1 v n news) (hs1 : ∀ W, Below w.heap.size w W → Src W 1 v n news) : Calls Try.prog 64 #[v] w fun e w' => ∃ v', e = .returned v' ∧ w'.ownsRow w.heap.size 58 1 v' n news ∧ Below w.heap.size w w' := by
  have q := nil_rules
  obtain ⟨ic, hic, hcz0, hcz1, hcz2⟩ := info_parts info_rules
  have hnz : (n : Int) ≤ 5864062014634 := by omega
  have hs2 := hs1 _ (below1 w (.cells (madeCells (.slice none 0 0 : Value).cells (n * 1)) 58))
  have B0 := below1 w (.cells (madeCells (.slice none 0 0 : Value).cells (n * 1)) 58)
  have O := World.ownsRow_made (base := w.heap.size) (e := 58) (size := 1) w (madeCells (.slice none 0 0 : Value).cells (n * 1)) n (Nat.le_refl _) (by unfold maxLen; omega) (by simp [madeCells])
  have hmk : (Instr.makeSlice 57 (.int .i64 0) (.int .i64 (n : Int))).run Try.prog w = .ok (.slice (some ⟨w.heap.size, 0, none⟩) 0 n) (w.alloc (.cells (madeCells (.slice none 0 0 : Value).cells (n * 1)) 58)) := by
    have h := run_make (P := Try.prog) w 57 58 ic _ Try.underlying57 hic hcz0 .i64 .i64 0 n (by omega) (by omega) (by rw [hcz2]; omega) (by omega)
    rw [hcz1] at h
    exact h
  clear hs1
  obtain ⟨_, _, ⟨h0, c, rfl⟩ | ⟨ad, c, rfl, _⟩⟩ := hs
  · have hx : Hid (n = 0) := h0
    have hl := hs2.1
    obtain rfl : news = [] := List.eq_nil_of_length_eq_zero (by rw [hl, h0, Nat.zero_mul])
    clear hmk O B0 hs2 h0 hnz hl hn
    go_enter Try.func64, Try.ntmps64
    go_wp2
    go_ret
    exact ⟨_, rfl, by rw [hx.out]; exact World.ownsRow_nil _ _ _ _, Below.refl _ _⟩
  · generalize w.alloc (.cells (madeCells (.slice none 0 0 : Value).cells (n * 1)) 58) = w1 at hmk O B0 hs2
    have hb1 := B0.size
    go_enter Try.func64, Try.ntmps64
    go_wp2_with (at_builtin; refine wpList_app _ rfl (.tmp 7) (.tmp 8) 57 rfl w.heap.size 58 ic _ 1 24 Try.underlying57 hic hcz0 hcz1 hcz2 rfl (by decide) _ 0 [] rfl O _ n news rfl hs2 (by unfold maxLen; omega) (by omega) hb1 ?_)
    intro v2 w2 hown hg
    have B2 := B0.grown hg hb1 (fun j hj => by simp [Value.ownBlock] at hj; omega)
    clear hs2 O B0 hg hmk
    go_wp2
    go_ret
    exact ⟨_, rfl, by simpa using hown, B2⟩
theorem info_tabs : (Try.prog.info? 57).map (fun i => (i.zero, i.size, i.bytes)) = some (some (.slice none 0 0), 1, 24) := by kernel_rfl
theorem nil_tabs : ∀ (w : World) (a : Option Addr) (n c n' c' : Nat), (binOp .eql 29 (.slice a n c) (.slice none n' c')).run Try.prog w = .ok (.bool a.isNone) w := fun w a n c n' c' => Lib.run_eql_slice_nil w _ _ a n c n' c' Try.underlying29
set_option maxRecDepth 100000 in
theorem copied_tabs (v : Value) (n : Nat) (news : List Value) (w : World) (hn : n ≤ 5864062014634) (hs : Src w 1 v n news) (hs1 : ∀ W, Below w.heap.size w W → Src W 1 v n news) : Calls Try.prog 43 #[v] w fun e w' => ∃ v', e = .returned v' ∧ w'.ownsRow w.heap.size 57 1 v' n news ∧ Below w.heap.size w w' := by
  have q := nil_tabs
  obtain ⟨ic, hic, hcz0, hcz1, hcz2⟩ := info_parts info_tabs
  have hnz : (n : Int) ≤ 5864062014634 := by omega
  have hs2 := hs1 _ (below1 w (.cells (madeCells (.slice none 0 0 : Value).cells (n * 1)) 57))
  have B0 := below1 w (.cells (madeCells (.slice none 0 0 : Value).cells (n * 1)) 57)
  have O := World.ownsRow_made (base := w.heap.size) (e := 57) (size := 1) w (madeCells (.slice none 0 0 : Value).cells (n * 1)) n (Nat.le_refl _) (by unfold maxLen; omega) (by simp [madeCells])
  have hmk : (Instr.makeSlice 29 (.int .i64 0) (.int .i64 (n : Int))).run Try.prog w = .ok (.slice (some ⟨w.heap.size, 0, none⟩) 0 n) (w.alloc (.cells (madeCells (.slice none 0 0 : Value).cells (n * 1)) 57)) := by
    have h := run_make (P := Try.prog) w 29 57 ic _ Try.underlying29 hic hcz0 .i64 .i64 0 n (by omega) (by omega) (by rw [hcz2]; omega) (by omega)
    rw [hcz1] at h
    exact h
  clear hs1
  obtain ⟨_, _, ⟨h0, c, rfl⟩ | ⟨ad, c, rfl, _⟩⟩ := hs
  · have hx : Hid (n = 0) := h0
    have hl := hs2.1
    obtain rfl : news = [] := List.eq_nil_of_length_eq_zero (by rw [hl, h0, Nat.zero_mul])
    clear hmk O B0 hs2 h0 hnz hl hn
    go_enter Try.func43, Try.ntmps43
    go_wp2
    go_ret
    exact ⟨_, rfl, by rw [hx.out]; exact World.ownsRow_nil _ _ _ _, Below.refl _ _⟩
  · generalize w.alloc (.cells (madeCells (.slice none 0 0 : Value).cells (n * 1)) 57) = w1 at hmk O B0 hs2
    have hb1 := B0.size
    go_enter Try.func43, Try.ntmps43
    go_wp2_with (at_builtin; refine wpList_app _ rfl (.tmp 7) (.tmp 8) 29 rfl w.heap.size 57 ic _ 1 24 Try.underlying29 hic hcz0 hcz1 hcz2 rfl (by decide) _ 0 [] rfl O _ n news rfl hs2 (by unfold maxLen; omega) (by omega) hb1 ?_)
    intro v2 w2 hown hg
    have B2 := B0.grown hg hb1 (fun j hj => by simp [Value.ownBlock] at hj; omega)
    clear hs2 O B0 hg hmk
    go_wp2
    go_ret
    exact ⟨_, rfl, by simpa using hown, B2⟩
end Go.Proofs
