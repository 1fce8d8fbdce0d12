/-
  customhouselaw03.PileOnce returns true for every input, and each argument reads behind the call as before. No conditions.
  The walk of customhouselaw03.PileJoins: it returns true. Conditions as each theorem lists them.
  The walk of customhouselaw03.PileOnce: it returns true. Conditions as each theorem lists them.
-/
import Derived.Test.YtipkefljicoldaaJ8
import Derived.BigFrame
import Derived.Test.YtipkefljicoldaaRows
import Derived.Below
namespace Go.Proofs.Hd
open Go.RowKit
theorem lessL_snd {N : List Cb} : ∀ {M R : List Cb}, (∀ c ∈ M, c.snd = true) → lessL M N = some R → ∀ c ∈ R, c.snd = true := by
  induction N with
  | nil => intro M R hM h; rw [lessL] at h; injection h with h; subst h; exact hM
  | cons g N ih =>
    intro M R hM h
    rw [lessL] at h
    by_cases hl : (leanS (offL M g)).length ≤ 200
    · rw [if_pos hl] at h; exact ih (leanS_snd _) h
    · rw [if_neg hl] at h; cases h
theorem lessL_len {N : List Cb} : ∀ {M R : List Cb}, M.length ≤ 200 → lessL M N = some R → R.length ≤ 200 := by
  induction N with
  | nil => intro M R hM h; rw [lessL] at h; injection h with h; subst h; exact hM
  | cons g N ih =>
    intro M R hM h
    rw [lessL] at h
    by_cases hl : (leanS (offL M g)).length ≤ 200
    · rw [if_pos hl] at h; exact ih hl h
    · rw [if_neg hl] at h; cases h
theorem wpList_appW {P : Program} (w : World) {ops : Array Oper} {rest : List Oper} {o : Oper} {a : Act} {Q : Exit → Act → World → Prop} (hw : Region.wanted o (yielded ops a.tmps) = true) (s x : Operand) (t : TypeId)
    (ho : o.op = .call { callee := .builtin .append, args := #[s, x], argTypes := #[t, t] }) (base : Nat) (e : TypeId) (i : TypeInfo) (z : Value) (size bytes : Nat) (ht : P.underlying t = some (.slice e)) (hi : P.info? e = some i) (hz : i.zero = some z)
    (hsize : i.size = size) (hby : i.bytes = bytes) (hzs : z.cells.size = size) (hsz : 0 < size) (v : Value) (n : Nat) (xs : List Value) (hs : a.eval s = v) (hown : w.ownsRow base e size v n xs)
    (y : Value) (m : Nat) (news : List Value) (hy : a.eval x = y) (hx : Src w size y m news) (h63 : n + m ≤ maxLen) (hbytes : (n + m) * bytes ≤ 140737488355328) (hbase : base ≤ w.heap.size)
    (h : ∀ v' w', w'.ownsRow base e size v' (n + m) (xs ++ news) → w.grownBy w' v.ownBlock → wpList P ops Q rest (a.put o.dst v') w') : wpList P ops Q (o :: rest) a w :=
  BigFrame.wpList_want hw fun _ hK => wp_app w s x t ho base e i z size bytes ht hi hz hsize hby hzs hsz v n xs hs hown y m news hy hx h63 hbytes hbase fun v' w' h2 h3 => hK _ _ (h v' w' h2 h3)
end Go.Proofs.Hd
namespace Go.Proofs
open Go.RowKit Go.Proofs.Hd Go.Lib
attribute [local go_sem] uv_nonneg
set_option maxHeartbeats 4000000 in
set_option maxRecDepth 100000 in
theorem pjoins_ff (A1 A2 : Option Addr) (c1 c2 n1 n2 : Nat) (M N : List Cb) (w : World) (hM : M.length ≤ 12) (hN : N.length ≤ 12)
    (s1 : ∀ W : World, Calls Try.prog 18 #[.slice A1 n1 c1] W fun e w' => e = .returned (.slice A1 M.length c1) ∧ W = w') (s2 : ∀ W : World, Calls Try.prog 18 #[.slice A2 n2 c2] W fun e w' => e = .returned (.slice A2 N.length c2) ∧ W = w')
    (pa : Pl w (.slice A1 M.length c1) M) (pb : Pl w (.slice A2 N.length c2) N) (hMs : M.all Cb.snd = false) (hNs : N.all Cb.snd = false) :
    Calls Try.prog 5 #[.slice A1 n1 c1, .slice A2 n2 c2] w fun e w' => e = .returned (.bool true) ∧ Below w.heap.size w w' := by
  obtain ⟨is, his, hs0, hs1, hs2⟩ := info_parts infoStr
  have hMz : decide (M.length ≤ 200) = true := decide_eq_true (by omega)
  have hNz : decide (N.length ≤ 200) = true := decide_eq_true (by omega)
  have eM : sndL M = false := by unfold sndL; rw [hMz, hMs]; rfl
  have eN : sndL N = false := by unfold sndL; rw [hNz, hNs]; rfl
  have t1 := fun W (h : Pl W (.slice A1 M.length c1) M) => (texts_c _ M W (by omega) h).mono fun e w' h => h.2 hMs
  have t2 := fun W (h : Pl W (.slice A2 N.length c2) N) => (texts_c _ N W (by omega) h).mono fun e w' h => h.2 hNs
  have eb : (sndL M && sndL N) = false := by rw [eM, eN]; rfl
  have q1 := fun W h1 h2 => pjoin_bad (.slice A1 M.length c1) (.slice A2 N.length c2) M N W h1 h2 eb
  have q2 := fun W h1 h2 => pmeet_bad (.slice A1 M.length c1) (.slice A2 N.length c2) M N W h1 h2 eb
  have q3 := fun W h1 h2 => pless_bad (.slice A1 M.length c1) (.slice A2 N.length c2) M N W h1 h2 eb
  have q4 := fun W h1 h2 => pwithin_bad (.slice A1 M.length c1) (.slice A2 N.length c2) M N W h1 h2 eb
  have L := Below.refl w.heap.size w
  have Hs1 := Lib.hid s1
  have Hs2 := Lib.hid s2
  have Ht1 := Lib.hid t1
  have Ht2 := Lib.hid t2
  have Hq1 := Lib.hid q1
  have Hq2 := Lib.hid q2
  have Hq3 := Lib.hid q3
  have Hq4 := Lib.hid q4
  clear s1 s2 t1 t2 q1 q2 q3 q4 hMz hNz hMs hNs eM eN eb
  go_enter Try.func5, Try.ntmps5
  go_wp2_with fail
  (with_reducible refine (Hs1.out _).mono ?_)
  rintro e w' ⟨rfl, rfl⟩
  go_wp2_with fail
  (with_reducible refine (Hs2.out _).mono ?_)
  rintro e w' ⟨rfl, rfl⟩
  go_wp2_with fail
  refine (Ht1.out _ pa).mono ?_
  rintro e w1 ⟨rfl, hb⟩
  replace pa := pa.on hb
  replace pb := pb.on hb
  replace L := L.trans (hb.mono L.size)
  clear hb
  go_wp2_with fail
  refine (Ht2.out _ pb).mono ?_
  rintro e w2 ⟨rfl, hb⟩
  replace pa := pa.on hb
  replace pb := pb.on hb
  replace L := L.trans (hb.mono L.size)
  clear hb
  go_wp2_with fail
  refine (Hq1.out _ pa pb).mono ?_
  rintro e w3 ⟨rfl, hb⟩
  replace pa := pa.on hb
  replace pb := pb.on hb
  replace L := L.trans (hb.mono L.size)
  clear hb
  go_wp2_with fail
  refine (Hq2.out _ pa pb).mono ?_
  rintro e w4 ⟨rfl, hb⟩
  replace pa := pa.on hb
  replace pb := pb.on hb
  replace L := L.trans (hb.mono L.size)
  clear hb
  go_wp2_with fail
  refine (Hq3.out _ pa pb).mono ?_
  rintro e w5 ⟨rfl, hb⟩
  replace pa := pa.on hb
  replace pb := pb.on hb
  replace L := L.trans (hb.mono L.size)
  clear hb
  go_wp2_with fail
  refine (Hq4.out _ pa pb).mono ?_
  rintro e w6 ⟨rfl, hb⟩
  replace pa := pa.on hb
  replace pb := pb.on hb
  replace L := L.trans (hb.mono L.size)
  clear hb
  go_wp2_with fail
  refine (awake3_c _).mono ?_
  rintro e w7 ⟨rfl, hb⟩
  replace pa := pa.on hb
  replace pb := pb.on hb
  replace L := L.trans (hb.mono L.size)
  clear hb
  go_wp2
  go_ret
  exact ⟨rfl, L⟩
set_option maxHeartbeats 4000000 in
set_option maxRecDepth 100000 in
theorem pjoins_ft (A1 A2 : Option Addr) (c1 c2 n1 n2 : Nat) (M N : List Cb) (w : World) (hM : M.length ≤ 12) (hN : N.length ≤ 12)
    (s1 : ∀ W : World, Calls Try.prog 18 #[.slice A1 n1 c1] W fun e w' => e = .returned (.slice A1 M.length c1) ∧ W = w') (s2 : ∀ W : World, Calls Try.prog 18 #[.slice A2 n2 c2] W fun e w' => e = .returned (.slice A2 N.length c2) ∧ W = w')
    (pa : Pl w (.slice A1 M.length c1) M) (pb : Pl w (.slice A2 N.length c2) N) (hMs : M.all Cb.snd = false) (hNs : N.all Cb.snd = true) :
    Calls Try.prog 5 #[.slice A1 n1 c1, .slice A2 n2 c2] w fun e w' => e = .returned (.bool true) ∧ Below w.heap.size w w' := by
  obtain ⟨is, his, hs0, hs1, hs2⟩ := info_parts infoStr
  have hMz : decide (M.length ≤ 200) = true := decide_eq_true (by omega)
  have hNz : decide (N.length ≤ 200) = true := decide_eq_true (by omega)
  have eM : sndL M = false := by unfold sndL; rw [hMz, hMs]; rfl
  have eN : sndL N = true := by unfold sndL; rw [hNz, hNs]; rfl
  have t1 := fun W (h : Pl W (.slice A1 M.length c1) M) => (texts_c _ M W (by omega) h).mono fun e w' h => h.2 hMs
  have t2 := fun W (h : Pl W (.slice A2 N.length c2) N) => (texts_c _ N W (by omega) h).mono fun e w' h => h.1 hNs
  rw [hNz] at t2
  have eb : (sndL M && sndL N) = false := by rw [eM, eN]; rfl
  have q1 := fun W h1 h2 => pjoin_bad (.slice A1 M.length c1) (.slice A2 N.length c2) M N W h1 h2 eb
  have q2 := fun W h1 h2 => pmeet_bad (.slice A1 M.length c1) (.slice A2 N.length c2) M N W h1 h2 eb
  have q3 := fun W h1 h2 => pless_bad (.slice A1 M.length c1) (.slice A2 N.length c2) M N W h1 h2 eb
  have q4 := fun W h1 h2 => pwithin_bad (.slice A1 M.length c1) (.slice A2 N.length c2) M N W h1 h2 eb
  have L := Below.refl w.heap.size w
  have Hs1 := Lib.hid s1
  have Hs2 := Lib.hid s2
  have Ht1 := Lib.hid t1
  have Ht2 := Lib.hid t2
  have Hq1 := Lib.hid q1
  have Hq2 := Lib.hid q2
  have Hq3 := Lib.hid q3
  have Hq4 := Lib.hid q4
  clear s1 s2 t1 t2 q1 q2 q3 q4 hMz hNz hMs hNs eM eN eb
  go_enter Try.func5, Try.ntmps5
  go_wp2_with fail
  (with_reducible refine (Hs1.out _).mono ?_)
  rintro e w' ⟨rfl, rfl⟩
  go_wp2_with fail
  (with_reducible refine (Hs2.out _).mono ?_)
  rintro e w' ⟨rfl, rfl⟩
  go_wp2_with fail
  refine (Ht1.out _ pa).mono ?_
  rintro e w1 ⟨rfl, hb⟩
  replace pa := pa.on hb
  replace pb := pb.on hb
  replace L := L.trans (hb.mono L.size)
  clear hb
  go_wp2_with fail
  refine (Ht2.out _ pb).mono ?_
  rintro e w2 ⟨vt, rfl, Ot, hb⟩
  replace pa := pa.on hb
  replace pb := pb.on hb
  replace L := L.trans (hb.mono L.size)
  have pt := own_PlT Ot
  clear Ot
  clear hb
  go_wp2_with fail
  refine (Hq1.out _ pa pb).mono ?_
  rintro e w3 ⟨rfl, hb⟩
  replace pa := pa.on hb
  replace pb := pb.on hb
  replace pt := pt.on hb
  replace L := L.trans (hb.mono L.size)
  clear hb
  go_wp2_with fail
  refine (Hq2.out _ pa pb).mono ?_
  rintro e w4 ⟨rfl, hb⟩
  replace pa := pa.on hb
  replace pb := pb.on hb
  replace pt := pt.on hb
  replace L := L.trans (hb.mono L.size)
  clear hb
  go_wp2_with fail
  refine (Hq3.out _ pa pb).mono ?_
  rintro e w5 ⟨rfl, hb⟩
  replace pa := pa.on hb
  replace pb := pb.on hb
  replace pt := pt.on hb
  replace L := L.trans (hb.mono L.size)
  clear hb
  go_wp2_with fail
  refine (Hq4.out _ pa pb).mono ?_
  rintro e w6 ⟨rfl, hb⟩
  replace pa := pa.on hb
  replace pb := pb.on hb
  replace pt := pt.on hb
  replace L := L.trans (hb.mono L.size)
  clear hb
  go_wp2_with fail
  refine (awake3_c _).mono ?_
  rintro e w7 ⟨rfl, hb⟩
  replace pa := pa.on hb
  replace pb := pb.on hb
  replace pt := pt.on hb
  replace L := L.trans (hb.mono L.size)
  clear hb
  go_wp2
  go_ret
  exact ⟨rfl, L⟩
set_option maxHeartbeats 4000000 in
set_option maxRecDepth 100000 in
theorem pjoins_tf (A1 A2 : Option Addr) (c1 c2 n1 n2 : Nat) (M N : List Cb) (w : World) (hM : M.length ≤ 12) (hN : N.length ≤ 12)
    (s1 : ∀ W : World, Calls Try.prog 18 #[.slice A1 n1 c1] W fun e w' => e = .returned (.slice A1 M.length c1) ∧ W = w') (s2 : ∀ W : World, Calls Try.prog 18 #[.slice A2 n2 c2] W fun e w' => e = .returned (.slice A2 N.length c2) ∧ W = w')
    (pa : Pl w (.slice A1 M.length c1) M) (pb : Pl w (.slice A2 N.length c2) N) (hMs : M.all Cb.snd = true) (hNs : N.all Cb.snd = false) :
    Calls Try.prog 5 #[.slice A1 n1 c1, .slice A2 n2 c2] w fun e w' => e = .returned (.bool true) ∧ Below w.heap.size w w' := by
  obtain ⟨is, his, hs0, hs1, hs2⟩ := info_parts infoStr
  have hMz : decide (M.length ≤ 200) = true := decide_eq_true (by omega)
  have hNz : decide (N.length ≤ 200) = true := decide_eq_true (by omega)
  have eM : sndL M = true := by unfold sndL; rw [hMz, hMs]; rfl
  have eN : sndL N = false := by unfold sndL; rw [hNz, hNs]; rfl
  have t1 := fun W (h : Pl W (.slice A1 M.length c1) M) => (texts_c _ M W (by omega) h).mono fun e w' h => h.1 hMs
  have t2 := fun W (h : Pl W (.slice A2 N.length c2) N) => (texts_c _ N W (by omega) h).mono fun e w' h => h.2 hNs
  rw [hMz] at t1
  have eb : (sndL M && sndL N) = false := by rw [eM, eN]; rfl
  have q1 := fun W h1 h2 => pjoin_bad (.slice A1 M.length c1) (.slice A2 N.length c2) M N W h1 h2 eb
  have q2 := fun W h1 h2 => pmeet_bad (.slice A1 M.length c1) (.slice A2 N.length c2) M N W h1 h2 eb
  have q3 := fun W h1 h2 => pless_bad (.slice A1 M.length c1) (.slice A2 N.length c2) M N W h1 h2 eb
  have q4 := fun W h1 h2 => pwithin_bad (.slice A1 M.length c1) (.slice A2 N.length c2) M N W h1 h2 eb
  have L := Below.refl w.heap.size w
  have Hs1 := Lib.hid s1
  have Hs2 := Lib.hid s2
  have Ht1 := Lib.hid t1
  have Ht2 := Lib.hid t2
  have Hq1 := Lib.hid q1
  have Hq2 := Lib.hid q2
  have Hq3 := Lib.hid q3
  have Hq4 := Lib.hid q4
  clear s1 s2 t1 t2 q1 q2 q3 q4 hMz hNz hMs hNs eM eN eb
  go_enter Try.func5, Try.ntmps5
  go_wp2_with fail
  (with_reducible refine (Hs1.out _).mono ?_)
  rintro e w' ⟨rfl, rfl⟩
  go_wp2_with fail
  (with_reducible refine (Hs2.out _).mono ?_)
  rintro e w' ⟨rfl, rfl⟩
  go_wp2_with fail
  refine (Ht1.out _ pa).mono ?_
  rintro e w1 ⟨vs, rfl, Os, hb⟩
  replace pa := pa.on hb
  replace pb := pb.on hb
  replace L := L.trans (hb.mono L.size)
  have ps := own_PlT Os
  clear Os
  clear hb
  go_wp2_with fail
  refine (Ht2.out _ pb).mono ?_
  rintro e w2 ⟨rfl, hb⟩
  replace pa := pa.on hb
  replace pb := pb.on hb
  replace ps := ps.on hb
  replace L := L.trans (hb.mono L.size)
  clear hb
  go_wp2_with fail
  refine (Hq1.out _ pa pb).mono ?_
  rintro e w3 ⟨rfl, hb⟩
  replace pa := pa.on hb
  replace pb := pb.on hb
  replace ps := ps.on hb
  replace L := L.trans (hb.mono L.size)
  clear hb
  go_wp2_with fail
  refine (Hq2.out _ pa pb).mono ?_
  rintro e w4 ⟨rfl, hb⟩
  replace pa := pa.on hb
  replace pb := pb.on hb
  replace ps := ps.on hb
  replace L := L.trans (hb.mono L.size)
  clear hb
  go_wp2_with fail
  refine (Hq3.out _ pa pb).mono ?_
  rintro e w5 ⟨rfl, hb⟩
  replace pa := pa.on hb
  replace pb := pb.on hb
  replace ps := ps.on hb
  replace L := L.trans (hb.mono L.size)
  clear hb
  go_wp2_with fail
  refine (Hq4.out _ pa pb).mono ?_
  rintro e w6 ⟨rfl, hb⟩
  replace pa := pa.on hb
  replace pb := pb.on hb
  replace ps := ps.on hb
  replace L := L.trans (hb.mono L.size)
  clear hb
  go_wp2_with fail
  refine (awake3_c _).mono ?_
  rintro e w7 ⟨rfl, hb⟩
  replace pa := pa.on hb
  replace pb := pb.on hb
  replace ps := ps.on hb
  replace L := L.trans (hb.mono L.size)
  clear hb
  go_wp2
  go_ret
  exact ⟨rfl, L⟩
set_option maxHeartbeats 4000000 in
set_option maxRecDepth 100000 in
theorem pjoins_none (A1 A2 : Option Addr) (c1 c2 n1 n2 : Nat) (M N : List Cb) (w : World) (hM : M.length ≤ 12) (hN : N.length ≤ 12)
    (s1 : ∀ W : World, Calls Try.prog 18 #[.slice A1 n1 c1] W fun e w' => e = .returned (.slice A1 M.length c1) ∧ W = w') (s2 : ∀ W : World, Calls Try.prog 18 #[.slice A2 n2 c2] W fun e w' => e = .returned (.slice A2 N.length c2) ∧ W = w')
    (pa : Pl w (.slice A1 M.length c1) M) (pb : Pl w (.slice A2 N.length c2) N) (hMs : M.all Cb.snd = true) (hNs : N.all Cb.snd = true) (hR : lessL M N = none) :
    Calls Try.prog 5 #[.slice A1 n1 c1, .slice A2 n2 c2] w fun e w' => e = .returned (.bool true) ∧ Below w.heap.size w w' := by
  obtain ⟨is, his, hs0, hs1, hs2⟩ := info_parts infoStr
  have hMz : decide (M.length ≤ 200) = true := decide_eq_true (by omega)
  have hNz : decide (N.length ≤ 200) = true := decide_eq_true (by omega)
  have eM : sndL M = true := by unfold sndL; rw [hMz, hMs]; rfl
  have eN : sndL N = true := by unfold sndL; rw [hNz, hNs]; rfl
  have t1 := fun W (h : Pl W (.slice A1 M.length c1) M) => (texts_c _ M W (by omega) h).mono fun e w' h => h.1 hMs
  have t2 := fun W (h : Pl W (.slice A2 N.length c2) N) => (texts_c _ N W (by omega) h).mono fun e w' h => h.1 hNs
  rw [hMz] at t1
  rw [hNz] at t2
  have gM := sndL_all eM
  have gN := sndL_all eN
  have hJ : capL (leanS (M ++ N)) = some (leanS (M ++ N)) := by
    unfold capL
    rw [if_pos]
    have := leanS_le (M ++ N)
    rw [List.length_append] at this
    omega
  have hJl : (leanS (M ++ N)).length ≤ 1000000 := by have := leanS_le (M ++ N); rw [List.length_append] at this; omega
  have hml := metL_len M N M.length
  rw [List.take_length] at hml
  have hml2 : M.length * N.length ≤ 12 * 12 := Nat.mul_le_mul hM hN
  have hKl := leanS_le (metL M N)
  have hK : capL (leanS (metL M N)) = some (leanS (metL M N)) := by
    unfold capL
    rw [if_pos]
    omega
  have q1 := fun W h1 h2 => (pjoin_any (.slice A1 M.length c1) (.slice A2 N.length c2) M N W h1 h2 eM eN).mono fun e w' h => h.1 _ hJ
  have q2 := fun W h1 h2 => (pmeet_any (.slice A1 M.length c1) (.slice A2 N.length c2) M N W h1 h2 eM eN).mono fun e w' h => h.1 _ hK
  have q3 := fun W h1 h2 => (pless_any (.slice A1 M.length c1) (.slice A2 N.length c2) M N W h1 h2 eM eN).mono fun e w' h => h.2 hR
  have q4 := fun W h1 h2 => pwithin_over (.slice A1 M.length c1) (.slice A2 N.length c2) M N W h1 h2 eM eN hR
  have q5 := fun W v u (h1 : PlT W v M) (h2 : PlT W u N) => (rless3_c v u M N W (by omega) (by omega) gM gN h1 h2).mono fun e w' h => h.2 hR
  have L := Below.refl w.heap.size w
  have Hs1 := Lib.hid s1
  have Hs2 := Lib.hid s2
  have Ht1 := Lib.hid t1
  have Ht2 := Lib.hid t2
  have Hq1 := Lib.hid q1
  have Hq2 := Lib.hid q2
  have Hq3 := Lib.hid q3
  have Hq4 := Lib.hid q4
  have Hq5 := Lib.hid q5
  clear s1 s2 t1 t2 q1 q2 q3 q4 q5 hMz hNz hMs hNs eM eN hR hJ hK
  have HgM := Lib.hid gM
  have HgN := Lib.hid gN
  clear gM gN
  go_enter Try.func5, Try.ntmps5
  go_wp2_with fail
  (with_reducible refine (Hs1.out _).mono ?_)
  rintro e w' ⟨rfl, rfl⟩
  go_wp2_with fail
  (with_reducible refine (Hs2.out _).mono ?_)
  rintro e w' ⟨rfl, rfl⟩
  go_wp2_with fail
  refine (Ht1.out _ pa).mono ?_
  rintro e w1 ⟨vs, rfl, Os, hb⟩
  replace pa := pa.on hb
  replace pb := pb.on hb
  replace L := L.trans (hb.mono L.size)
  have ps := own_PlT Os
  clear Os
  clear hb
  go_wp2_with fail
  refine (Ht2.out _ pb).mono ?_
  rintro e w2 ⟨vt, rfl, Ot, hb⟩
  replace pa := pa.on hb
  replace pb := pb.on hb
  replace ps := ps.on hb
  replace L := L.trans (hb.mono L.size)
  have pt := own_PlT Ot
  clear Ot
  clear hb
  go_wp2_with fail
  refine (Hq1.out _ pa pb).mono ?_
  rintro e w3 ⟨vj, rfl, Oj, hb⟩
  replace pa := pa.on hb
  replace pb := pb.on hb
  replace ps := ps.on hb
  replace pt := pt.on hb
  replace L := L.trans (hb.mono L.size)
  have pj := own_Pl Oj
  clear Oj
  clear hb
  go_wp2_with fail
  refine (Hq2.out _ pa pb).mono ?_
  rintro e w4 ⟨vm, rfl, Om, hb⟩
  replace pa := pa.on hb
  replace pb := pb.on hb
  replace ps := ps.on hb
  replace pt := pt.on hb
  replace pj := pj.on hb
  replace L := L.trans (hb.mono L.size)
  have pm := own_Pl Om
  clear Om
  clear hb
  go_wp2_with fail
  refine (Hq3.out _ pa pb).mono ?_
  rintro e w5 ⟨rfl, hb⟩
  replace pa := pa.on hb
  replace pb := pb.on hb
  replace ps := ps.on hb
  replace pt := pt.on hb
  replace pj := pj.on hb
  replace pm := pm.on hb
  replace L := L.trans (hb.mono L.size)
  clear hb
  go_wp2_with fail
  refine (Hq4.out _ pa pb).mono ?_
  rintro e w6 ⟨rfl, hb⟩
  replace pa := pa.on hb
  replace pb := pb.on hb
  replace ps := ps.on hb
  replace pt := pt.on hb
  replace pj := pj.on hb
  replace pm := pm.on hb
  replace L := L.trans (hb.mono L.size)
  clear hb
  go_upto_region 10 with (fail)
  have b7 := below1 w6 (.cells #[] 9)
  have O7 := World.ownsRow_made (base := w6.heap.size) (e := 9) (size := 1) w6 #[] 0 (Nat.le_refl _) (Nat.zero_le _) rfl
  have S7 := (ps.on b7).src
  have hz6 := L.size
  have L7 := L.trans (b7.mono L.size)
  go_wp2_with (at_builtin; refine wpList_appW _ (by rfl) (.tmp 106) (.tmp 107) 26 rfl w6.heap.size 9 is _ 1 16 Try.underlying26 his hs0 hs1 hs2 rfl (by decide) _ 0 [] rfl O7 _ M.length (strs M) rfl S7 (by unfold maxLen; omega) (by omega) (by simp) ?_)
  intro v8 w8 O8 hg8
  have b8 : Below w6.heap.size w6 w8 := b7.grown hg8 (by simp) (fun j hj => by simp [Value.ownBlock] at hj; omega)
  have S8 := (pt.on b8).src
  have hz8 := b8.size
  clear O7 S7 b7 hg8 L7
  go_wp2_with (at_builtin; refine wpList_appW _ (by rfl) (.tmp 108) (.tmp 109) 26 rfl w6.heap.size 9 is _ 1 16 Try.underlying26 his hs0 hs1 hs2 rfl (by decide) _ _ _ rfl O8 _ N.length (strs N) rfl S8 (by unfold maxLen; omega) (by omega) hz8 ?_)
  intro v9 w9 O9 hg9
  have hb : Below w6.heap.size w6 w9 := b8.grown hg9 hz8 (fun j hj => (O8.lt j hj).1)
  have PT : PlT w9 v9 (M ++ N) := own_PlT (by rw [strs_append, List.length_append]; exact O9)
  clear O8 S8 b8 hg9 O9 hz8
  replace pa := pa.on hb
  replace pb := pb.on hb
  replace ps := ps.on hb
  replace pt := pt.on hb
  replace pj := pj.on hb
  replace pm := pm.on hb
  replace L := L.trans (hb.mono L.size)
  clear hb
  have hcon := rlean_c v9 (M ++ N) w9 (by rw [List.length_append]; omega) (fun d hd => (List.mem_append.1 hd).elim (HgM.out d) (HgN.out d)) PT
  go_wp2_with fail
  refine (hcon).mono ?_
  rintro e w10 ⟨vx, rfl, Ox, hb⟩
  replace pa := pa.on hb
  replace pb := pb.on hb
  replace ps := ps.on hb
  replace pt := pt.on hb
  replace pj := pj.on hb
  replace pm := pm.on hb
  replace PT := PT.on hb
  replace L := L.trans (hb.mono L.size)
  have px := own_PlT Ox
  clear Ox
  clear hb
  clear hcon
  have hcon := same_c vj vx (leanS (M ++ N)) w10 hJl (leanS_snd _) pj px
  go_wp2_with fail
  refine (hcon).mono ?_
  rintro e w11 ⟨rfl, hb⟩
  replace pa := pa.on hb
  replace pb := pb.on hb
  replace ps := ps.on hb
  replace pt := pt.on hb
  replace pj := pj.on hb
  replace pm := pm.on hb
  replace PT := PT.on hb
  replace px := px.on hb
  replace L := L.trans (hb.mono L.size)
  clear hb
  clear hcon PT px
  have hcon := rmeet3_c vs vt M N w11 (by omega) (by omega) HgM.out HgN.out ps pt
  go_wp2_with fail
  refine (hcon).mono ?_
  rintro e w12 ⟨vx, rfl, Ox, hb⟩
  replace pa := pa.on hb
  replace pb := pb.on hb
  replace ps := ps.on hb
  replace pt := pt.on hb
  replace pj := pj.on hb
  replace pm := pm.on hb
  replace L := L.trans (hb.mono L.size)
  have px := own_PlT Ox
  clear Ox
  clear hb
  clear hcon
  have hcon := rlean_c vx (metL M N) w12 (by omega) (metL_snd HgM.out HgN.out) px
  go_wp2_with fail
  refine (hcon).mono ?_
  rintro e w13 ⟨vy, rfl, Oy, hb⟩
  replace pa := pa.on hb
  replace pb := pb.on hb
  replace ps := ps.on hb
  replace pt := pt.on hb
  replace pj := pj.on hb
  replace pm := pm.on hb
  replace px := px.on hb
  replace L := L.trans (hb.mono L.size)
  have py := own_PlT Oy
  clear Oy
  clear hb
  clear hcon
  have hcon := same_c vm vy (leanS (metL M N)) w13 (by omega) (leanS_snd _) pm py
  go_wp2_with fail
  refine (hcon).mono ?_
  rintro e w14 ⟨rfl, hb⟩
  replace pa := pa.on hb
  replace pb := pb.on hb
  replace ps := ps.on hb
  replace pt := pt.on hb
  replace pj := pj.on hb
  replace pm := pm.on hb
  replace px := px.on hb
  replace py := py.on hb
  replace L := L.trans (hb.mono L.size)
  clear hb
  clear hcon px py
  go_wp2_with fail
  refine (Hq5.out _ _ _ ps pt).mono ?_
  rintro e w15 ⟨rfl, hb⟩
  replace pa := pa.on hb
  replace pb := pb.on hb
  replace ps := ps.on hb
  replace pt := pt.on hb
  replace pj := pj.on hb
  replace pm := pm.on hb
  replace L := L.trans (hb.mono L.size)
  clear hb
  go_wp2_with fail
  refine (awake3_c _).mono ?_
  rintro e w16 ⟨rfl, hb⟩
  replace pa := pa.on hb
  replace pb := pb.on hb
  replace ps := ps.on hb
  replace pt := pt.on hb
  replace pj := pj.on hb
  replace pm := pm.on hb
  replace L := L.trans (hb.mono L.size)
  clear hb
  go_wp2
  go_ret
  exact ⟨rfl, L⟩
set_option maxHeartbeats 4000000 in
set_option maxRecDepth 100000 in
theorem pjoins_nil (A1 A2 : Option Addr) (c1 c2 n1 n2 : Nat) (M N : List Cb) (w : World) (hM : M.length ≤ 12) (hN : N.length ≤ 12)
    (s1 : ∀ W : World, Calls Try.prog 18 #[.slice A1 n1 c1] W fun e w' => e = .returned (.slice A1 M.length c1) ∧ W = w') (s2 : ∀ W : World, Calls Try.prog 18 #[.slice A2 n2 c2] W fun e w' => e = .returned (.slice A2 N.length c2) ∧ W = w')
    (pa : Pl w (.slice A1 M.length c1) M) (pb : Pl w (.slice A2 N.length c2) N) (hMs : M.all Cb.snd = true) (hNs : N.all Cb.snd = true) (hR : lessL M N = some []) :
    Calls Try.prog 5 #[.slice A1 n1 c1, .slice A2 n2 c2] w fun e w' => e = .returned (.bool true) ∧ Below w.heap.size w w' := by
  obtain ⟨is, his, hs0, hs1, hs2⟩ := info_parts infoStr
  have hMz : decide (M.length ≤ 200) = true := decide_eq_true (by omega)
  have hNz : decide (N.length ≤ 200) = true := decide_eq_true (by omega)
  have eM : sndL M = true := by unfold sndL; rw [hMz, hMs]; rfl
  have eN : sndL N = true := by unfold sndL; rw [hNz, hNs]; rfl
  have t1 := fun W (h : Pl W (.slice A1 M.length c1) M) => (texts_c _ M W (by omega) h).mono fun e w' h => h.1 hMs
  have t2 := fun W (h : Pl W (.slice A2 N.length c2) N) => (texts_c _ N W (by omega) h).mono fun e w' h => h.1 hNs
  rw [hMz] at t1
  rw [hNz] at t2
  have gM := sndL_all eM
  have gN := sndL_all eN
  have hJ : capL (leanS (M ++ N)) = some (leanS (M ++ N)) := by
    unfold capL
    rw [if_pos]
    have := leanS_le (M ++ N)
    rw [List.length_append] at this
    omega
  have hJl : (leanS (M ++ N)).length ≤ 1000000 := by have := leanS_le (M ++ N); rw [List.length_append] at this; omega
  have hml := metL_len M N M.length
  rw [List.take_length] at hml
  have hml2 : M.length * N.length ≤ 12 * 12 := Nat.mul_le_mul hM hN
  have hKl := leanS_le (metL M N)
  have hK : capL (leanS (metL M N)) = some (leanS (metL M N)) := by
    unfold capL
    rw [if_pos]
    omega
  have q1 := fun W h1 h2 => (pjoin_any (.slice A1 M.length c1) (.slice A2 N.length c2) M N W h1 h2 eM eN).mono fun e w' h => h.1 _ hJ
  have q2 := fun W h1 h2 => (pmeet_any (.slice A1 M.length c1) (.slice A2 N.length c2) M N W h1 h2 eM eN).mono fun e w' h => h.1 _ hK
  have q3 := fun W h1 h2 => (pless_any (.slice A1 M.length c1) (.slice A2 N.length c2) M N W h1 h2 eM eN).mono fun e w' h => h.1 _ hR
  have q4 := fun W h1 h2 => pwithin_some (.slice A1 M.length c1) (.slice A2 N.length c2) M N W h1 h2 eM eN ([] : List Cb) hR true rfl
  have q5 := fun W v u (h1 : PlT W v M) (h2 : PlT W u N) => (rless3_c v u M N W (by omega) (by omega) gM gN h1 h2).mono fun e w' h => h.1 _ hR
  have gR : ∀ d ∈ ([] : List Cb), d.snd = true := lessL_snd gM hR
  have hRl : ([] : List Cb).length ≤ 200 := lessL_len (by omega) hR
  have L := Below.refl w.heap.size w
  have Hs1 := Lib.hid s1
  have Hs2 := Lib.hid s2
  have Ht1 := Lib.hid t1
  have Ht2 := Lib.hid t2
  have Hq1 := Lib.hid q1
  have Hq2 := Lib.hid q2
  have Hq3 := Lib.hid q3
  have Hq4 := Lib.hid q4
  have Hq5 := Lib.hid q5
  clear s1 s2 t1 t2 q1 q2 q3 q4 q5 hMz hNz hMs hNs eM eN hR hJ hK
  have HgM := Lib.hid gM
  have HgN := Lib.hid gN
  clear gM gN
  have HgR := Lib.hid gR
  clear gR
  go_enter Try.func5, Try.ntmps5
  go_wp2_with fail
  (with_reducible refine (Hs1.out _).mono ?_)
  rintro e w' ⟨rfl, rfl⟩
  go_wp2_with fail
  (with_reducible refine (Hs2.out _).mono ?_)
  rintro e w' ⟨rfl, rfl⟩
  go_wp2_with fail
  refine (Ht1.out _ pa).mono ?_
  rintro e w1 ⟨vs, rfl, Os, hb⟩
  replace pa := pa.on hb
  replace pb := pb.on hb
  replace L := L.trans (hb.mono L.size)
  have ps := own_PlT Os
  clear Os
  clear hb
  go_wp2_with fail
  refine (Ht2.out _ pb).mono ?_
  rintro e w2 ⟨vt, rfl, Ot, hb⟩
  replace pa := pa.on hb
  replace pb := pb.on hb
  replace ps := ps.on hb
  replace L := L.trans (hb.mono L.size)
  have pt := own_PlT Ot
  clear Ot
  clear hb
  go_wp2_with fail
  refine (Hq1.out _ pa pb).mono ?_
  rintro e w3 ⟨vj, rfl, Oj, hb⟩
  replace pa := pa.on hb
  replace pb := pb.on hb
  replace ps := ps.on hb
  replace pt := pt.on hb
  replace L := L.trans (hb.mono L.size)
  have pj := own_Pl Oj
  clear Oj
  clear hb
  go_wp2_with fail
  refine (Hq2.out _ pa pb).mono ?_
  rintro e w4 ⟨vm, rfl, Om, hb⟩
  replace pa := pa.on hb
  replace pb := pb.on hb
  replace ps := ps.on hb
  replace pt := pt.on hb
  replace pj := pj.on hb
  replace L := L.trans (hb.mono L.size)
  have pm := own_Pl Om
  clear Om
  clear hb
  go_wp2_with fail
  refine (Hq3.out _ pa pb).mono ?_
  rintro e w5 ⟨vl, rfl, Ol, hb⟩
  replace pa := pa.on hb
  replace pb := pb.on hb
  replace ps := ps.on hb
  replace pt := pt.on hb
  replace pj := pj.on hb
  replace pm := pm.on hb
  replace L := L.trans (hb.mono L.size)
  have pl := own_Pl Ol
  clear Ol
  clear hb
  go_wp2_with fail
  refine (Hq4.out _ pa pb).mono ?_
  rintro e w6 ⟨rfl, hb⟩
  replace pa := pa.on hb
  replace pb := pb.on hb
  replace ps := ps.on hb
  replace pt := pt.on hb
  replace pj := pj.on hb
  replace pm := pm.on hb
  replace pl := pl.on hb
  replace L := L.trans (hb.mono L.size)
  clear hb
  go_upto_region 10 with (fail)
  have b7 := below1 w6 (.cells #[] 9)
  have O7 := World.ownsRow_made (base := w6.heap.size) (e := 9) (size := 1) w6 #[] 0 (Nat.le_refl _) (Nat.zero_le _) rfl
  have S7 := (ps.on b7).src
  have hz6 := L.size
  have L7 := L.trans (b7.mono L.size)
  go_wp2_with (at_builtin; refine wpList_appW _ (by rfl) (.tmp 106) (.tmp 107) 26 rfl w6.heap.size 9 is _ 1 16 Try.underlying26 his hs0 hs1 hs2 rfl (by decide) _ 0 [] rfl O7 _ M.length (strs M) rfl S7 (by unfold maxLen; omega) (by omega) (by simp) ?_)
  intro v8 w8 O8 hg8
  have b8 : Below w6.heap.size w6 w8 := b7.grown hg8 (by simp) (fun j hj => by simp [Value.ownBlock] at hj; omega)
  have S8 := (pt.on b8).src
  have hz8 := b8.size
  clear O7 S7 b7 hg8 L7
  go_wp2_with (at_builtin; refine wpList_appW _ (by rfl) (.tmp 108) (.tmp 109) 26 rfl w6.heap.size 9 is _ 1 16 Try.underlying26 his hs0 hs1 hs2 rfl (by decide) _ _ _ rfl O8 _ N.length (strs N) rfl S8 (by unfold maxLen; omega) (by omega) hz8 ?_)
  intro v9 w9 O9 hg9
  have hb : Below w6.heap.size w6 w9 := b8.grown hg9 hz8 (fun j hj => (O8.lt j hj).1)
  have PT : PlT w9 v9 (M ++ N) := own_PlT (by rw [strs_append, List.length_append]; exact O9)
  clear O8 S8 b8 hg9 O9 hz8
  replace pa := pa.on hb
  replace pb := pb.on hb
  replace ps := ps.on hb
  replace pt := pt.on hb
  replace pj := pj.on hb
  replace pm := pm.on hb
  replace pl := pl.on hb
  replace L := L.trans (hb.mono L.size)
  clear hb
  have hcon := rlean_c v9 (M ++ N) w9 (by rw [List.length_append]; omega) (fun d hd => (List.mem_append.1 hd).elim (HgM.out d) (HgN.out d)) PT
  go_wp2_with fail
  refine (hcon).mono ?_
  rintro e w10 ⟨vx, rfl, Ox, hb⟩
  replace pa := pa.on hb
  replace pb := pb.on hb
  replace ps := ps.on hb
  replace pt := pt.on hb
  replace pj := pj.on hb
  replace pm := pm.on hb
  replace pl := pl.on hb
  replace PT := PT.on hb
  replace L := L.trans (hb.mono L.size)
  have px := own_PlT Ox
  clear Ox
  clear hb
  clear hcon
  have hcon := same_c vj vx (leanS (M ++ N)) w10 hJl (leanS_snd _) pj px
  go_wp2_with fail
  refine (hcon).mono ?_
  rintro e w11 ⟨rfl, hb⟩
  replace pa := pa.on hb
  replace pb := pb.on hb
  replace ps := ps.on hb
  replace pt := pt.on hb
  replace pj := pj.on hb
  replace pm := pm.on hb
  replace pl := pl.on hb
  replace PT := PT.on hb
  replace px := px.on hb
  replace L := L.trans (hb.mono L.size)
  clear hb
  clear hcon PT px
  have hcon := rmeet3_c vs vt M N w11 (by omega) (by omega) HgM.out HgN.out ps pt
  go_wp2_with fail
  refine (hcon).mono ?_
  rintro e w12 ⟨vx, rfl, Ox, hb⟩
  replace pa := pa.on hb
  replace pb := pb.on hb
  replace ps := ps.on hb
  replace pt := pt.on hb
  replace pj := pj.on hb
  replace pm := pm.on hb
  replace pl := pl.on hb
  replace L := L.trans (hb.mono L.size)
  have px := own_PlT Ox
  clear Ox
  clear hb
  clear hcon
  have hcon := rlean_c vx (metL M N) w12 (by omega) (metL_snd HgM.out HgN.out) px
  go_wp2_with fail
  refine (hcon).mono ?_
  rintro e w13 ⟨vy, rfl, Oy, hb⟩
  replace pa := pa.on hb
  replace pb := pb.on hb
  replace ps := ps.on hb
  replace pt := pt.on hb
  replace pj := pj.on hb
  replace pm := pm.on hb
  replace pl := pl.on hb
  replace px := px.on hb
  replace L := L.trans (hb.mono L.size)
  have py := own_PlT Oy
  clear Oy
  clear hb
  clear hcon
  have hcon := same_c vm vy (leanS (metL M N)) w13 (by omega) (leanS_snd _) pm py
  go_wp2_with fail
  refine (hcon).mono ?_
  rintro e w14 ⟨rfl, hb⟩
  replace pa := pa.on hb
  replace pb := pb.on hb
  replace ps := ps.on hb
  replace pt := pt.on hb
  replace pj := pj.on hb
  replace pm := pm.on hb
  replace pl := pl.on hb
  replace px := px.on hb
  replace py := py.on hb
  replace L := L.trans (hb.mono L.size)
  clear hb
  clear hcon px py
  go_wp2_with fail
  refine (Hq5.out _ _ _ ps pt).mono ?_
  rintro e w15 ⟨vw, rfl, pw, hb⟩
  replace pa := pa.on hb
  replace pb := pb.on hb
  replace ps := ps.on hb
  replace pt := pt.on hb
  replace pj := pj.on hb
  replace pm := pm.on hb
  replace pl := pl.on hb
  replace L := L.trans (hb.mono L.size)
  clear hb
  obtain ⟨W1, W2, rfl, _⟩ := pw.form
  go_wp2_with fail
  refine (awake3_c _).mono ?_
  rintro e w16 ⟨rfl, hb⟩
  replace pa := pa.on hb
  replace pb := pb.on hb
  replace ps := ps.on hb
  replace pt := pt.on hb
  replace pj := pj.on hb
  replace pm := pm.on hb
  replace pl := pl.on hb
  replace pw := pw.on hb
  replace L := L.trans (hb.mono L.size)
  clear hb
  have hcon := same_c vl _ ([] : List Cb) w16 (by omega) HgR.out pl pw
  go_wp2_with fail
  refine (hcon).mono ?_
  rintro e w17 ⟨rfl, hb⟩
  replace pa := pa.on hb
  replace pb := pb.on hb
  replace ps := ps.on hb
  replace pt := pt.on hb
  replace pj := pj.on hb
  replace pm := pm.on hb
  replace pl := pl.on hb
  replace pw := pw.on hb
  replace L := L.trans (hb.mono L.size)
  clear hb
  go_wp2
  go_ret
  exact ⟨rfl, L⟩
set_option maxHeartbeats 4000000 in
set_option maxRecDepth 100000 in
theorem pjoins_cons (A1 A2 : Option Addr) (c1 c2 n1 n2 : Nat) (M N : List Cb) (c : Cb) (R : List Cb) (w : World) (hM : M.length ≤ 12) (hN : N.length ≤ 12)
    (s1 : ∀ W : World, Calls Try.prog 18 #[.slice A1 n1 c1] W fun e w' => e = .returned (.slice A1 M.length c1) ∧ W = w') (s2 : ∀ W : World, Calls Try.prog 18 #[.slice A2 n2 c2] W fun e w' => e = .returned (.slice A2 N.length c2) ∧ W = w')
    (pa : Pl w (.slice A1 M.length c1) M) (pb : Pl w (.slice A2 N.length c2) N) (hMs : M.all Cb.snd = true) (hNs : N.all Cb.snd = true) (hR : lessL M N = some (c :: R)) :
    Calls Try.prog 5 #[.slice A1 n1 c1, .slice A2 n2 c2] w fun e w' => e = .returned (.bool true) ∧ Below w.heap.size w w' := by
  obtain ⟨is, his, hs0, hs1, hs2⟩ := info_parts infoStr
  have hMz : decide (M.length ≤ 200) = true := decide_eq_true (by omega)
  have hNz : decide (N.length ≤ 200) = true := decide_eq_true (by omega)
  have eM : sndL M = true := by unfold sndL; rw [hMz, hMs]; rfl
  have eN : sndL N = true := by unfold sndL; rw [hNz, hNs]; rfl
  have t1 := fun W (h : Pl W (.slice A1 M.length c1) M) => (texts_c _ M W (by omega) h).mono fun e w' h => h.1 hMs
  have t2 := fun W (h : Pl W (.slice A2 N.length c2) N) => (texts_c _ N W (by omega) h).mono fun e w' h => h.1 hNs
  rw [hMz] at t1
  rw [hNz] at t2
  have gM := sndL_all eM
  have gN := sndL_all eN
  have hJ : capL (leanS (M ++ N)) = some (leanS (M ++ N)) := by
    unfold capL
    rw [if_pos]
    have := leanS_le (M ++ N)
    rw [List.length_append] at this
    omega
  have hJl : (leanS (M ++ N)).length ≤ 1000000 := by have := leanS_le (M ++ N); rw [List.length_append] at this; omega
  have hml := metL_len M N M.length
  rw [List.take_length] at hml
  have hml2 : M.length * N.length ≤ 12 * 12 := Nat.mul_le_mul hM hN
  have hKl := leanS_le (metL M N)
  have hK : capL (leanS (metL M N)) = some (leanS (metL M N)) := by
    unfold capL
    rw [if_pos]
    omega
  have q1 := fun W h1 h2 => (pjoin_any (.slice A1 M.length c1) (.slice A2 N.length c2) M N W h1 h2 eM eN).mono fun e w' h => h.1 _ hJ
  have q2 := fun W h1 h2 => (pmeet_any (.slice A1 M.length c1) (.slice A2 N.length c2) M N W h1 h2 eM eN).mono fun e w' h => h.1 _ hK
  have q3 := fun W h1 h2 => (pless_any (.slice A1 M.length c1) (.slice A2 N.length c2) M N W h1 h2 eM eN).mono fun e w' h => h.1 _ hR
  have q4 := fun W h1 h2 => pwithin_some (.slice A1 M.length c1) (.slice A2 N.length c2) M N W h1 h2 eM eN (c :: R) hR false rfl
  have q5 := fun W v u (h1 : PlT W v M) (h2 : PlT W u N) => (rless3_c v u M N W (by omega) (by omega) gM gN h1 h2).mono fun e w' h => h.1 _ hR
  have gR : ∀ d ∈ (c :: R), d.snd = true := lessL_snd gM hR
  have hRl : (c :: R).length ≤ 200 := lessL_len (by omega) hR
  have L := Below.refl w.heap.size w
  have Hs1 := Lib.hid s1
  have Hs2 := Lib.hid s2
  have Ht1 := Lib.hid t1
  have Ht2 := Lib.hid t2
  have Hq1 := Lib.hid q1
  have Hq2 := Lib.hid q2
  have Hq3 := Lib.hid q3
  have Hq4 := Lib.hid q4
  have Hq5 := Lib.hid q5
  clear s1 s2 t1 t2 q1 q2 q3 q4 q5 hMz hNz hMs hNs eM eN hR hJ hK
  have HgM := Lib.hid gM
  have HgN := Lib.hid gN
  clear gM gN
  have HgR := Lib.hid gR
  clear gR
  go_enter Try.func5, Try.ntmps5
  go_wp2_with fail
  (with_reducible refine (Hs1.out _).mono ?_)
  rintro e w' ⟨rfl, rfl⟩
  go_wp2_with fail
  (with_reducible refine (Hs2.out _).mono ?_)
  rintro e w' ⟨rfl, rfl⟩
  go_wp2_with fail
  refine (Ht1.out _ pa).mono ?_
  rintro e w1 ⟨vs, rfl, Os, hb⟩
  replace pa := pa.on hb
  replace pb := pb.on hb
  replace L := L.trans (hb.mono L.size)
  have ps := own_PlT Os
  clear Os
  clear hb
  go_wp2_with fail
  refine (Ht2.out _ pb).mono ?_
  rintro e w2 ⟨vt, rfl, Ot, hb⟩
  replace pa := pa.on hb
  replace pb := pb.on hb
  replace ps := ps.on hb
  replace L := L.trans (hb.mono L.size)
  have pt := own_PlT Ot
  clear Ot
  clear hb
  go_wp2_with fail
  refine (Hq1.out _ pa pb).mono ?_
  rintro e w3 ⟨vj, rfl, Oj, hb⟩
  replace pa := pa.on hb
  replace pb := pb.on hb
  replace ps := ps.on hb
  replace pt := pt.on hb
  replace L := L.trans (hb.mono L.size)
  have pj := own_Pl Oj
  clear Oj
  clear hb
  go_wp2_with fail
  refine (Hq2.out _ pa pb).mono ?_
  rintro e w4 ⟨vm, rfl, Om, hb⟩
  replace pa := pa.on hb
  replace pb := pb.on hb
  replace ps := ps.on hb
  replace pt := pt.on hb
  replace pj := pj.on hb
  replace L := L.trans (hb.mono L.size)
  have pm := own_Pl Om
  clear Om
  clear hb
  go_wp2_with fail
  refine (Hq3.out _ pa pb).mono ?_
  rintro e w5 ⟨vl, rfl, Ol, hb⟩
  replace pa := pa.on hb
  replace pb := pb.on hb
  replace ps := ps.on hb
  replace pt := pt.on hb
  replace pj := pj.on hb
  replace pm := pm.on hb
  replace L := L.trans (hb.mono L.size)
  have pl := own_Pl Ol
  clear Ol
  clear hb
  go_wp2_with fail
  refine (Hq4.out _ pa pb).mono ?_
  rintro e w6 ⟨rfl, hb⟩
  replace pa := pa.on hb
  replace pb := pb.on hb
  replace ps := ps.on hb
  replace pt := pt.on hb
  replace pj := pj.on hb
  replace pm := pm.on hb
  replace pl := pl.on hb
  replace L := L.trans (hb.mono L.size)
  clear hb
  go_upto_region 10 with (fail)
  have b7 := below1 w6 (.cells #[] 9)
  have O7 := World.ownsRow_made (base := w6.heap.size) (e := 9) (size := 1) w6 #[] 0 (Nat.le_refl _) (Nat.zero_le _) rfl
  have S7 := (ps.on b7).src
  have hz6 := L.size
  have L7 := L.trans (b7.mono L.size)
  go_wp2_with (at_builtin; refine wpList_appW _ (by rfl) (.tmp 106) (.tmp 107) 26 rfl w6.heap.size 9 is _ 1 16 Try.underlying26 his hs0 hs1 hs2 rfl (by decide) _ 0 [] rfl O7 _ M.length (strs M) rfl S7 (by unfold maxLen; omega) (by omega) (by simp) ?_)
  intro v8 w8 O8 hg8
  have b8 : Below w6.heap.size w6 w8 := b7.grown hg8 (by simp) (fun j hj => by simp [Value.ownBlock] at hj; omega)
  have S8 := (pt.on b8).src
  have hz8 := b8.size
  clear O7 S7 b7 hg8 L7
  go_wp2_with (at_builtin; refine wpList_appW _ (by rfl) (.tmp 108) (.tmp 109) 26 rfl w6.heap.size 9 is _ 1 16 Try.underlying26 his hs0 hs1 hs2 rfl (by decide) _ _ _ rfl O8 _ N.length (strs N) rfl S8 (by unfold maxLen; omega) (by omega) hz8 ?_)
  intro v9 w9 O9 hg9
  have hb : Below w6.heap.size w6 w9 := b8.grown hg9 hz8 (fun j hj => (O8.lt j hj).1)
  have PT : PlT w9 v9 (M ++ N) := own_PlT (by rw [strs_append, List.length_append]; exact O9)
  clear O8 S8 b8 hg9 O9 hz8
  replace pa := pa.on hb
  replace pb := pb.on hb
  replace ps := ps.on hb
  replace pt := pt.on hb
  replace pj := pj.on hb
  replace pm := pm.on hb
  replace pl := pl.on hb
  replace L := L.trans (hb.mono L.size)
  clear hb
  have hcon := rlean_c v9 (M ++ N) w9 (by rw [List.length_append]; omega) (fun d hd => (List.mem_append.1 hd).elim (HgM.out d) (HgN.out d)) PT
  go_wp2_with fail
  refine (hcon).mono ?_
  rintro e w10 ⟨vx, rfl, Ox, hb⟩
  replace pa := pa.on hb
  replace pb := pb.on hb
  replace ps := ps.on hb
  replace pt := pt.on hb
  replace pj := pj.on hb
  replace pm := pm.on hb
  replace pl := pl.on hb
  replace PT := PT.on hb
  replace L := L.trans (hb.mono L.size)
  have px := own_PlT Ox
  clear Ox
  clear hb
  clear hcon
  have hcon := same_c vj vx (leanS (M ++ N)) w10 hJl (leanS_snd _) pj px
  go_wp2_with fail
  refine (hcon).mono ?_
  rintro e w11 ⟨rfl, hb⟩
  replace pa := pa.on hb
  replace pb := pb.on hb
  replace ps := ps.on hb
  replace pt := pt.on hb
  replace pj := pj.on hb
  replace pm := pm.on hb
  replace pl := pl.on hb
  replace PT := PT.on hb
  replace px := px.on hb
  replace L := L.trans (hb.mono L.size)
  clear hb
  clear hcon PT px
  have hcon := rmeet3_c vs vt M N w11 (by omega) (by omega) HgM.out HgN.out ps pt
  go_wp2_with fail
  refine (hcon).mono ?_
  rintro e w12 ⟨vx, rfl, Ox, hb⟩
  replace pa := pa.on hb
  replace pb := pb.on hb
  replace ps := ps.on hb
  replace pt := pt.on hb
  replace pj := pj.on hb
  replace pm := pm.on hb
  replace pl := pl.on hb
  replace L := L.trans (hb.mono L.size)
  have px := own_PlT Ox
  clear Ox
  clear hb
  clear hcon
  have hcon := rlean_c vx (metL M N) w12 (by omega) (metL_snd HgM.out HgN.out) px
  go_wp2_with fail
  refine (hcon).mono ?_
  rintro e w13 ⟨vy, rfl, Oy, hb⟩
  replace pa := pa.on hb
  replace pb := pb.on hb
  replace ps := ps.on hb
  replace pt := pt.on hb
  replace pj := pj.on hb
  replace pm := pm.on hb
  replace pl := pl.on hb
  replace px := px.on hb
  replace L := L.trans (hb.mono L.size)
  have py := own_PlT Oy
  clear Oy
  clear hb
  clear hcon
  have hcon := same_c vm vy (leanS (metL M N)) w13 (by omega) (leanS_snd _) pm py
  go_wp2_with fail
  refine (hcon).mono ?_
  rintro e w14 ⟨rfl, hb⟩
  replace pa := pa.on hb
  replace pb := pb.on hb
  replace ps := ps.on hb
  replace pt := pt.on hb
  replace pj := pj.on hb
  replace pm := pm.on hb
  replace pl := pl.on hb
  replace px := px.on hb
  replace py := py.on hb
  replace L := L.trans (hb.mono L.size)
  clear hb
  clear hcon px py
  go_wp2_with fail
  refine (Hq5.out _ _ _ ps pt).mono ?_
  rintro e w15 ⟨vw, rfl, pw, hb⟩
  replace pa := pa.on hb
  replace pb := pb.on hb
  replace ps := ps.on hb
  replace pt := pt.on hb
  replace pj := pj.on hb
  replace pm := pm.on hb
  replace pl := pl.on hb
  replace L := L.trans (hb.mono L.size)
  clear hb
  obtain ⟨W1, W2, rfl, _⟩ := pw.form
  go_wp2_with fail
  refine (awake3_c _).mono ?_
  rintro e w16 ⟨rfl, hb⟩
  replace pa := pa.on hb
  replace pb := pb.on hb
  replace ps := ps.on hb
  replace pt := pt.on hb
  replace pj := pj.on hb
  replace pm := pm.on hb
  replace pl := pl.on hb
  replace pw := pw.on hb
  replace L := L.trans (hb.mono L.size)
  clear hb
  have hcon := same_c vl _ (c :: R) w16 (by omega) HgR.out pl pw
  go_wp2_with fail
  refine (hcon).mono ?_
  rintro e w17 ⟨rfl, hb⟩
  replace pa := pa.on hb
  replace pb := pb.on hb
  replace ps := ps.on hb
  replace pt := pt.on hb
  replace pj := pj.on hb
  replace pm := pm.on hb
  replace pl := pl.on hb
  replace pw := pw.on hb
  replace L := L.trans (hb.mono L.size)
  clear hb
  have hz : ((((c :: R).length : Nat) : Int) == 0) = false := by simp; omega
  clear hcon pw pl HgR
  generalize (c :: R).length = n at hz
  go_wp2
  go_ret
  exact ⟨rfl, L⟩
theorem pjoins_c (A1 A2 : Option Addr) (c1 c2 : Nat) (A B : List Cb) (w : World) (la : A.length ≤ c1) (ma : c1 ≤ maxLen) (lb : B.length ≤ c2) (mb : c2 ≤ maxLen) (ha : Pl w (.slice A1 A.length c1) A) (hb : Pl w (.slice A2 B.length c2) B) :
    Calls Try.prog 5 #[.slice A1 A.length c1, .slice A2 B.length c2] w fun e w' => e = .returned (.bool true) ∧ Below w.heap.size w w' := by
  have s1 := fun W => small_c A1 c1 A W la ma
  have s2 := fun W => small_c A2 c2 B W lb mb
  have pa := ha.take 12
  have pb := hb.take 12
  have hM : (A.take 12).length ≤ 12 := by simp; omega
  have hN : (B.take 12).length ≤ 12 := by simp; omega
  generalize A.take 12 = M at s1 pa hM
  generalize B.take 12 = N at s2 pb hN
  cases hMs : M.all Cb.snd with
  | false =>
    cases hNs : N.all Cb.snd with
    | false => exact pjoins_ff A1 A2 c1 c2 _ _ M N w hM hN s1 s2 pa pb hMs hNs
    | true => exact pjoins_ft A1 A2 c1 c2 _ _ M N w hM hN s1 s2 pa pb hMs hNs
  | true =>
    cases hNs : N.all Cb.snd with
    | false => exact pjoins_tf A1 A2 c1 c2 _ _ M N w hM hN s1 s2 pa pb hMs hNs
    | true =>
      cases hR : lessL M N with
      | none => exact pjoins_none A1 A2 c1 c2 _ _ M N w hM hN s1 s2 pa pb hMs hNs hR
      | some R =>
        cases R with
        | nil => exact pjoins_nil A1 A2 c1 c2 _ _ M N w hM hN s1 s2 pa pb hMs hNs hR
        | cons c R => exact pjoins_cons A1 A2 c1 c2 _ _ M N c R w hM hN s1 s2 pa pb hMs hNs hR
end Go.Proofs

namespace Go.Proofs.Hd
open Go.RowKit
theorem leanS_at {L : List Cb} {i : Nat} {a : Cb} (h : (leanS L)[i]? = some a) : ∃ p, (leanI L)[i]? = some p ∧ L[p]? = some a := by
  have hi := (List.getElem?_eq_some_iff.1 h).1
  rw [leanS_len] at hi
  refine ⟨_, List.getElem?_eq_getElem hi, ?_⟩
  have hp := leanI_lt (List.getElem_mem hi)
  rw [List.getElem?_eq_getElem hp]
  have e := leanS_take L i _ _ (List.getElem?_eq_getElem hi) (List.getElem?_eq_getElem hp)
  have hl := take_len L i (by omega)
  have hall : leanS L = ((leanI L).take (i + 1)).filterMap (fun i => L[i]?) ++ ((leanI L).drop (i + 1)).filterMap (fun i => L[i]?) := by
    unfold leanS
    rw [← List.filterMap_append, List.take_append_drop]
  rw [hall, e, List.append_assoc, List.getElem?_append_right (by omega), hl, Nat.sub_self] at h
  simpa using h
theorem leanI_sorted (L : List Cb) : (leanI L).Pairwise (· < ·) := List.Pairwise.sublist List.filter_sublist (sI_sorted L _)
theorem spare_lean (L : List Cb) (i : Nat) (hi : i < (leanS L).length) : spare (leanS L) i = false := by
  cases hs : spare (leanS L) i with
  | false => rfl
  | true =>
    exfalso
    obtain ⟨k, b, hb, hki, hw, hor⟩ := (spare_iff (List.getElem?_eq_getElem hi)).1 hs
    obtain ⟨p, hp, hpa⟩ := leanS_at (List.getElem?_eq_getElem hi)
    obtain ⟨q, hq, hqb⟩ := leanS_at hb
    have hsp : spare L p = false := by
      have := (List.mem_filter.1 (List.mem_of_getElem? hp)).2
      simpa using this
    obtain ⟨hpi, ep⟩ := List.getElem?_eq_some_iff.1 hp
    obtain ⟨hqi, eq⟩ := List.getElem?_eq_some_iff.1 hq
    have hpw := List.pairwise_iff_getElem.1 (leanI_sorted L)
    have hne : q ≠ p := by
      rcases Nat.lt_or_gt_of_ne hki with h | h
      · have := hpw k i hqi hpi h; rw [ep, eq] at this; omega
      · have := hpw i k hpi hqi h; rw [ep, eq] at this; omega
    have : spare L p = true := (spare_iff hpa).2 ⟨q, b, hqb, hne, hw, hor.imp id (fun h => by have := hpw k i hqi hpi h; rw [ep, eq] at this; exact this)⟩
    rw [hsp] at this; cases this
theorem leanS_idem (L : List Cb) : leanS (leanS L) = leanS L := by
  rw [← leanU_all (leanS_snd L)]
  unfold leanU
  have h : ∀ n, n ≤ (leanS L).length → (List.range n).filterMap (fun i => if spare (leanS L) i = true then none else (leanS L)[i]?) = (leanS L).take n := by
    intro n
    induction n with
    | zero => intro _; rfl
    | succ n ih =>
      intro hn
      rw [List.range_succ, List.filterMap_append, ih (by omega), List.take_succ_eq_append_getElem (by omega)]
      congr 1
      have hs := spare_lean L n (by omega)
      rw [List.filterMap_cons_some (b := (leanS L)[n]) (by rw [hs]; simp)]
      rfl
  rw [h _ (Nat.le_refl _), List.take_length]
theorem has_value {c : Cb} (h : c.snd = true) : c.has c.vh c.vl = true := by
  rw [Cb.has_iff]
  rw [Cb.snd_iff] at h
  intro j hj
  have := h j hj
  show (c.V j && c.K j) = c.V j
  revert this
  cases c.V j <;> cases c.K j <;> simp
theorem none_has {R : List Cb} (hs : ∀ c ∈ R, c.snd = true) (h : ∀ x y, anyHas R x y = false) : R = [] := by
  cases R with
  | nil => rfl
  | cons c R =>
    have := h c.vh c.vl
    unfold anyHas at this
    rw [List.any_cons, has_value (hs c (List.mem_cons_self ..))] at this
    cases this
/-- Nothing is left of a list without one that has all that it has. -/
theorem lessL_none {M N R : List Cb} (hM : ∀ c ∈ M, c.snd = true) (hN : ∀ c ∈ N, c.snd = true) (h : ∀ x y, anyHas M x y = true → anyHas N x y = true) (hR : lessL M N = some R) : R = [] := by
  refine none_has (lessL_snd hM hR) fun x y => ?_
  rw [lessL_has x y hN hM hR]
  have := h x y
  revert this
  cases anyHas M x y <;> cases anyHas N x y <;> simp
end Go.Proofs.Hd
namespace Go.Proofs
open Go.RowKit Go.Proofs.Hd Go.Lib
attribute [local go_sem] uv_nonneg
set_option maxHeartbeats 4000000 in
set_option maxRecDepth 100000 in
theorem ponce_b1 (A1 A2 : Option Addr) (c1 c2 n1 n2 : Nat) (M N : List Cb) (w : World)
    (s1 : ∀ W : World, Calls Try.prog 18 #[.slice A1 n1 c1] W fun e w' => e = .returned (.slice A1 M.length c1) ∧ W = w') (s2 : ∀ W : World, Calls Try.prog 18 #[.slice A2 n2 c2] W fun e w' => e = .returned (.slice A2 N.length c2) ∧ W = w')
    (pa : Pl w (.slice A1 M.length c1) M) (pb : Pl w (.slice A2 N.length c2) N) (h1 : sndL M = false) :
    Calls Try.prog 7 #[.slice A1 n1 c1, .slice A2 n2 c2] w fun e w' => e = .returned (.bool true) ∧ Below w.heap.size w w' := by
  have L := Below.refl w.heap.size w
  have Hs1 := Lib.hid s1
  have Hs2 := Lib.hid s2
  have Hq1 := Lib.hid (fun W h => psound_c false (.slice A1 M.length c1) M W h1 h)
  clear s1 s2 h1
  go_enter Try.func7, Try.ntmps7
  go_wp2_with fail
  (with_reducible refine (Hs1.out _).mono ?_)
  rintro e w' ⟨rfl, rfl⟩
  go_wp2_with fail
  (with_reducible refine (Hs2.out _).mono ?_)
  rintro e w' ⟨rfl, rfl⟩
  go_wp2_with fail
  refine (awake3_c _).mono ?_
  rintro e w1 ⟨rfl, hb⟩
  replace pa := pa.on hb
  replace pb := pb.on hb
  replace L := L.trans (hb.mono L.size)
  clear hb
  go_wp2_with fail
  refine (Hq1.out _ pa).mono ?_
  rintro e w2 ⟨rfl, hb⟩
  replace pa := pa.on hb
  replace pb := pb.on hb
  replace L := L.trans (hb.mono L.size)
  clear hb
  go_wp2_with fail
  refine (awake3_c _).mono ?_
  rintro e w4 ⟨rfl, hb⟩
  replace pa := pa.on hb
  replace pb := pb.on hb
  replace L := L.trans (hb.mono L.size)
  clear hb
  go_wp2
  go_ret
  exact ⟨rfl, L⟩
set_option maxHeartbeats 4000000 in
set_option maxRecDepth 100000 in
theorem ponce_b2 (A1 A2 : Option Addr) (c1 c2 n1 n2 : Nat) (M N : List Cb) (w : World)
    (s1 : ∀ W : World, Calls Try.prog 18 #[.slice A1 n1 c1] W fun e w' => e = .returned (.slice A1 M.length c1) ∧ W = w') (s2 : ∀ W : World, Calls Try.prog 18 #[.slice A2 n2 c2] W fun e w' => e = .returned (.slice A2 N.length c2) ∧ W = w')
    (pa : Pl w (.slice A1 M.length c1) M) (pb : Pl w (.slice A2 N.length c2) N) (h1 : sndL M = true) (h2 : sndL N = false) :
    Calls Try.prog 7 #[.slice A1 n1 c1, .slice A2 n2 c2] w fun e w' => e = .returned (.bool true) ∧ Below w.heap.size w w' := by
  have L := Below.refl w.heap.size w
  have Hs1 := Lib.hid s1
  have Hs2 := Lib.hid s2
  have Hq1 := Lib.hid (fun W h => psound_c true (.slice A1 M.length c1) M W h1 h)
  have Hq2 := Lib.hid (fun W h => psound_c false (.slice A2 N.length c2) N W h2 h)
  clear s1 s2 h1 h2
  go_enter Try.func7, Try.ntmps7
  go_wp2_with fail
  (with_reducible refine (Hs1.out _).mono ?_)
  rintro e w' ⟨rfl, rfl⟩
  go_wp2_with fail
  (with_reducible refine (Hs2.out _).mono ?_)
  rintro e w' ⟨rfl, rfl⟩
  go_wp2_with fail
  refine (awake3_c _).mono ?_
  rintro e w1 ⟨rfl, hb⟩
  replace pa := pa.on hb
  replace pb := pb.on hb
  replace L := L.trans (hb.mono L.size)
  clear hb
  go_wp2_with fail
  refine (Hq1.out _ pa).mono ?_
  rintro e w2 ⟨rfl, hb⟩
  replace pa := pa.on hb
  replace pb := pb.on hb
  replace L := L.trans (hb.mono L.size)
  clear hb
  go_wp2_with fail
  refine (Hq2.out _ pb).mono ?_
  rintro e w3 ⟨rfl, hb⟩
  replace pa := pa.on hb
  replace pb := pb.on hb
  replace L := L.trans (hb.mono L.size)
  clear hb
  go_wp2_with fail
  refine (awake3_c _).mono ?_
  rintro e w4 ⟨rfl, hb⟩
  replace pa := pa.on hb
  replace pb := pb.on hb
  replace L := L.trans (hb.mono L.size)
  clear hb
  go_wp2
  go_ret
  exact ⟨rfl, L⟩
set_option maxHeartbeats 4000000 in
set_option maxRecDepth 100000 in
theorem ponce_gtt (A1 A2 : Option Addr) (c1 c2 n1 n2 : Nat) (M N : List Cb) (w : World) (hM : M.length ≤ 12) (hN : N.length ≤ 12)
    (s1 : ∀ W : World, Calls Try.prog 18 #[.slice A1 n1 c1] W fun e w' => e = .returned (.slice A1 M.length c1) ∧ W = w') (s2 : ∀ W : World, Calls Try.prog 18 #[.slice A2 n2 c2] W fun e w' => e = .returned (.slice A2 N.length c2) ∧ W = w')
    (pa : Pl w (.slice A1 M.length c1) M) (pb : Pl w (.slice A2 N.length c2) N) (h1 : sndL M = true) (h2 : sndL N = true) (hE : lessL M M = some []) (hG : lessL M (leanS (M ++ N)) = some []) :
    Calls Try.prog 7 #[.slice A1 n1 c1, .slice A2 n2 c2] w fun e w' => e = .returned (.bool true) ∧ Below w.heap.size w w' := by
  have L := Below.refl w.heap.size w
  have gM := sndL_all h1
  have gN := sndL_all h2
  have hJl : (leanS (M ++ N)).length ≤ 200 := by have := leanS_le (M ++ N); rw [List.length_append] at this; omega
  have hJ : capL (leanS (M ++ N)) = some (leanS (M ++ N)) := by unfold capL; rw [if_pos hJl]
  have h3 : sndL (leanS (M ++ N)) = true := by
    unfold sndL
    rw [decide_eq_true hJl, Bool.true_and, List.all_eq_true]
    exact leanS_snd _
  have hLl := leanS_le M
  have hLt : (leanS M).all Cb.snd = true := by rw [List.all_eq_true]; exact leanS_snd _
  have hLz : decide ((leanS M).length ≤ 200) = true := decide_eq_true (by omega)
  have Hs1 := Lib.hid s1
  have Hs2 := Lib.hid s2
  have Hq1 := Lib.hid (fun W h => psound_c true (.slice A1 M.length c1) M W h1 h)
  have Hq2 := Lib.hid (fun W h => psound_c true (.slice A2 N.length c2) N W h2 h)
  have Hq3 := Lib.hid (fun W h => plean_c (.slice A1 M.length c1) M W (by omega) h)
  have t4 := fun W v (h : Pl W v (leanS M)) => plean_c v (leanS M) W (by omega) h
  rw [leanS_idem] at t4
  have Hq4 := Lib.hid t4
  have t5 := fun W v (h : Pl W v (leanS M)) => (texts_c v (leanS M) W (by omega) h).mono fun e w' h => h.1 hLt
  rw [hLz] at t5
  have Hq5 := Lib.hid t5
  have Hq6 := Lib.hid (fun W h => (pless_any (.slice A1 M.length c1) (.slice A1 M.length c1) M M W h h h1 h1).mono fun e w' h => h.1 _ hE)
  have Hq7 := Lib.hid (fun W h h' => (pjoin_any (.slice A1 M.length c1) (.slice A2 N.length c2) M N W h h' h1 h2).mono fun e w' h => h.1 _ hJ)
  have Hq8 := Lib.hid (fun W v h (h' : Pl W v (leanS (M ++ N))) => pwithin_some (.slice A1 M.length c1) v M (leanS (M ++ N)) W h h' h1 h3 [] hG true rfl)
  clear s1 s2 h1 h2 h3 hE hG hJ t4 t5 hLt hLz gM gN
  go_enter Try.func7, Try.ntmps7
  go_wp2_with fail
  (with_reducible refine (Hs1.out _).mono ?_)
  rintro e w' ⟨rfl, rfl⟩
  go_wp2_with fail
  (with_reducible refine (Hs2.out _).mono ?_)
  rintro e w' ⟨rfl, rfl⟩
  go_wp2_with fail
  refine (awake3_c _).mono ?_
  rintro e w1 ⟨rfl, hb⟩
  replace pa := pa.on hb
  replace pb := pb.on hb
  replace L := L.trans (hb.mono L.size)
  clear hb
  go_wp2_with fail
  refine (Hq1.out _ pa).mono ?_
  rintro e w2 ⟨rfl, hb⟩
  replace pa := pa.on hb
  replace pb := pb.on hb
  replace L := L.trans (hb.mono L.size)
  clear hb
  go_wp2_with fail
  refine (Hq2.out _ pb).mono ?_
  rintro e w3 ⟨rfl, hb⟩
  replace pa := pa.on hb
  replace pb := pb.on hb
  replace L := L.trans (hb.mono L.size)
  clear hb
  go_wp2_with fail
  refine (Hq3.out _ pa).mono ?_
  rintro e w4 ⟨v4, rfl, O4, hb⟩
  replace pa := pa.on hb
  replace pb := pb.on hb
  replace L := L.trans (hb.mono L.size)
  have p4 := own_Pl O4
  clear O4
  clear hb
  go_wp2_with fail
  refine (Hq4.out _ _ p4).mono ?_
  rintro e w5 ⟨v5, rfl, O5, hb⟩
  replace pa := pa.on hb
  replace pb := pb.on hb
  replace p4 := p4.on hb
  replace L := L.trans (hb.mono L.size)
  have p5 := own_Pl O5
  clear O5
  clear hb
  go_wp2_with fail
  refine (Hq5.out _ _ p4).mono ?_
  rintro e w6 ⟨v6, rfl, O6, hb⟩
  replace pa := pa.on hb
  replace pb := pb.on hb
  replace p4 := p4.on hb
  replace p5 := p5.on hb
  replace L := L.trans (hb.mono L.size)
  have p6 := own_PlT O6
  clear O6
  clear hb
  go_wp2_with fail
  refine (Hq6.out _ pa).mono ?_
  rintro e w7 ⟨v7, rfl, O7, hb⟩
  replace pa := pa.on hb
  replace pb := pb.on hb
  replace p4 := p4.on hb
  replace p5 := p5.on hb
  replace p6 := p6.on hb
  replace L := L.trans (hb.mono L.size)
  clear hb
  obtain ⟨E1, E2, rfl, _⟩ := own_form O7
  clear O7
  go_wp2_with fail
  refine (Hq7.out _ pa pb).mono ?_
  rintro e w8 ⟨v8, rfl, O8, hb⟩
  replace pa := pa.on hb
  replace pb := pb.on hb
  replace p4 := p4.on hb
  replace p5 := p5.on hb
  replace p6 := p6.on hb
  replace L := L.trans (hb.mono L.size)
  have p8 := own_Pl O8
  clear O8
  clear hb
  go_wp2_with fail
  refine (Hq8.out _ _ pa p8).mono ?_
  rintro e w9 ⟨rfl, hb⟩
  replace pa := pa.on hb
  replace pb := pb.on hb
  replace p4 := p4.on hb
  replace p5 := p5.on hb
  replace p6 := p6.on hb
  replace p8 := p8.on hb
  replace L := L.trans (hb.mono L.size)
  clear hb
  have hcon := same_c v5 v6 (leanS M) w9 (by omega) (leanS_snd _) p5 p6
  go_wp2_with fail
  refine (hcon).mono ?_
  rintro e w10 ⟨rfl, hb⟩
  replace pa := pa.on hb
  replace pb := pb.on hb
  replace p4 := p4.on hb
  replace p5 := p5.on hb
  replace p6 := p6.on hb
  replace p8 := p8.on hb
  replace L := L.trans (hb.mono L.size)
  clear hb
  clear hcon
  go_wp2
  go_ret
  exact ⟨rfl, L⟩
set_option maxHeartbeats 4000000 in
set_option maxRecDepth 100000 in
theorem ponce_gtf (A1 A2 : Option Addr) (c1 c2 n1 n2 : Nat) (M N : List Cb) (w : World) (hM : M.length ≤ 12) (hN : N.length ≤ 12)
    (s1 : ∀ W : World, Calls Try.prog 18 #[.slice A1 n1 c1] W fun e w' => e = .returned (.slice A1 M.length c1) ∧ W = w') (s2 : ∀ W : World, Calls Try.prog 18 #[.slice A2 n2 c2] W fun e w' => e = .returned (.slice A2 N.length c2) ∧ W = w')
    (pa : Pl w (.slice A1 M.length c1) M) (pb : Pl w (.slice A2 N.length c2) N) (h1 : sndL M = true) (h2 : sndL N = true) (hE : lessL M M = some []) (hG : lessL M (leanS (M ++ N)) = none) :
    Calls Try.prog 7 #[.slice A1 n1 c1, .slice A2 n2 c2] w fun e w' => e = .returned (.bool true) ∧ Below w.heap.size w w' := by
  have L := Below.refl w.heap.size w
  have gM := sndL_all h1
  have gN := sndL_all h2
  have hJl : (leanS (M ++ N)).length ≤ 200 := by have := leanS_le (M ++ N); rw [List.length_append] at this; omega
  have hJ : capL (leanS (M ++ N)) = some (leanS (M ++ N)) := by unfold capL; rw [if_pos hJl]
  have h3 : sndL (leanS (M ++ N)) = true := by
    unfold sndL
    rw [decide_eq_true hJl, Bool.true_and, List.all_eq_true]
    exact leanS_snd _
  have hLl := leanS_le M
  have hLt : (leanS M).all Cb.snd = true := by rw [List.all_eq_true]; exact leanS_snd _
  have hLz : decide ((leanS M).length ≤ 200) = true := decide_eq_true (by omega)
  have Hs1 := Lib.hid s1
  have Hs2 := Lib.hid s2
  have Hq1 := Lib.hid (fun W h => psound_c true (.slice A1 M.length c1) M W h1 h)
  have Hq2 := Lib.hid (fun W h => psound_c true (.slice A2 N.length c2) N W h2 h)
  have Hq3 := Lib.hid (fun W h => plean_c (.slice A1 M.length c1) M W (by omega) h)
  have t4 := fun W v (h : Pl W v (leanS M)) => plean_c v (leanS M) W (by omega) h
  rw [leanS_idem] at t4
  have Hq4 := Lib.hid t4
  have t5 := fun W v (h : Pl W v (leanS M)) => (texts_c v (leanS M) W (by omega) h).mono fun e w' h => h.1 hLt
  rw [hLz] at t5
  have Hq5 := Lib.hid t5
  have Hq6 := Lib.hid (fun W h => (pless_any (.slice A1 M.length c1) (.slice A1 M.length c1) M M W h h h1 h1).mono fun e w' h => h.1 _ hE)
  have Hq7 := Lib.hid (fun W h h' => (pjoin_any (.slice A1 M.length c1) (.slice A2 N.length c2) M N W h h' h1 h2).mono fun e w' h => h.1 _ hJ)
  have Hq8 := Lib.hid (fun W v h (h' : Pl W v (leanS (M ++ N))) => pwithin_over (.slice A1 M.length c1) v M (leanS (M ++ N)) W h h' h1 h3 hG)
  clear s1 s2 h1 h2 h3 hE hG hJ t4 t5 hLt hLz gM gN
  go_enter Try.func7, Try.ntmps7
  go_wp2_with fail
  (with_reducible refine (Hs1.out _).mono ?_)
  rintro e w' ⟨rfl, rfl⟩
  go_wp2_with fail
  (with_reducible refine (Hs2.out _).mono ?_)
  rintro e w' ⟨rfl, rfl⟩
  go_wp2_with fail
  refine (awake3_c _).mono ?_
  rintro e w1 ⟨rfl, hb⟩
  replace pa := pa.on hb
  replace pb := pb.on hb
  replace L := L.trans (hb.mono L.size)
  clear hb
  go_wp2_with fail
  refine (Hq1.out _ pa).mono ?_
  rintro e w2 ⟨rfl, hb⟩
  replace pa := pa.on hb
  replace pb := pb.on hb
  replace L := L.trans (hb.mono L.size)
  clear hb
  go_wp2_with fail
  refine (Hq2.out _ pb).mono ?_
  rintro e w3 ⟨rfl, hb⟩
  replace pa := pa.on hb
  replace pb := pb.on hb
  replace L := L.trans (hb.mono L.size)
  clear hb
  go_wp2_with fail
  refine (Hq3.out _ pa).mono ?_
  rintro e w4 ⟨v4, rfl, O4, hb⟩
  replace pa := pa.on hb
  replace pb := pb.on hb
  replace L := L.trans (hb.mono L.size)
  have p4 := own_Pl O4
  clear O4
  clear hb
  go_wp2_with fail
  refine (Hq4.out _ _ p4).mono ?_
  rintro e w5 ⟨v5, rfl, O5, hb⟩
  replace pa := pa.on hb
  replace pb := pb.on hb
  replace p4 := p4.on hb
  replace L := L.trans (hb.mono L.size)
  have p5 := own_Pl O5
  clear O5
  clear hb
  go_wp2_with fail
  refine (Hq5.out _ _ p4).mono ?_
  rintro e w6 ⟨v6, rfl, O6, hb⟩
  replace pa := pa.on hb
  replace pb := pb.on hb
  replace p4 := p4.on hb
  replace p5 := p5.on hb
  replace L := L.trans (hb.mono L.size)
  have p6 := own_PlT O6
  clear O6
  clear hb
  go_wp2_with fail
  refine (Hq6.out _ pa).mono ?_
  rintro e w7 ⟨v7, rfl, O7, hb⟩
  replace pa := pa.on hb
  replace pb := pb.on hb
  replace p4 := p4.on hb
  replace p5 := p5.on hb
  replace p6 := p6.on hb
  replace L := L.trans (hb.mono L.size)
  clear hb
  obtain ⟨E1, E2, rfl, _⟩ := own_form O7
  clear O7
  go_wp2_with fail
  refine (Hq7.out _ pa pb).mono ?_
  rintro e w8 ⟨v8, rfl, O8, hb⟩
  replace pa := pa.on hb
  replace pb := pb.on hb
  replace p4 := p4.on hb
  replace p5 := p5.on hb
  replace p6 := p6.on hb
  replace L := L.trans (hb.mono L.size)
  have p8 := own_Pl O8
  clear O8
  clear hb
  go_wp2_with fail
  refine (Hq8.out _ _ pa p8).mono ?_
  rintro e w9 ⟨rfl, hb⟩
  replace pa := pa.on hb
  replace pb := pb.on hb
  replace p4 := p4.on hb
  replace p5 := p5.on hb
  replace p6 := p6.on hb
  replace p8 := p8.on hb
  replace L := L.trans (hb.mono L.size)
  clear hb
  have hcon := same_c v5 v6 (leanS M) w9 (by omega) (leanS_snd _) p5 p6
  go_wp2_with fail
  refine (hcon).mono ?_
  rintro e w10 ⟨rfl, hb⟩
  replace pa := pa.on hb
  replace pb := pb.on hb
  replace p4 := p4.on hb
  replace p5 := p5.on hb
  replace p6 := p6.on hb
  replace p8 := p8.on hb
  replace L := L.trans (hb.mono L.size)
  clear hb
  clear hcon
  go_wp2
  go_ret
  exact ⟨rfl, L⟩
set_option maxHeartbeats 4000000 in
set_option maxRecDepth 100000 in
theorem ponce_gft (A1 A2 : Option Addr) (c1 c2 n1 n2 : Nat) (M N : List Cb) (w : World) (hM : M.length ≤ 12) (hN : N.length ≤ 12)
    (s1 : ∀ W : World, Calls Try.prog 18 #[.slice A1 n1 c1] W fun e w' => e = .returned (.slice A1 M.length c1) ∧ W = w') (s2 : ∀ W : World, Calls Try.prog 18 #[.slice A2 n2 c2] W fun e w' => e = .returned (.slice A2 N.length c2) ∧ W = w')
    (pa : Pl w (.slice A1 M.length c1) M) (pb : Pl w (.slice A2 N.length c2) N) (h1 : sndL M = true) (h2 : sndL N = true) (hE : lessL M M = none) (hG : lessL M (leanS (M ++ N)) = some []) :
    Calls Try.prog 7 #[.slice A1 n1 c1, .slice A2 n2 c2] w fun e w' => e = .returned (.bool true) ∧ Below w.heap.size w w' := by
  have L := Below.refl w.heap.size w
  have gM := sndL_all h1
  have gN := sndL_all h2
  have hJl : (leanS (M ++ N)).length ≤ 200 := by have := leanS_le (M ++ N); rw [List.length_append] at this; omega
  have hJ : capL (leanS (M ++ N)) = some (leanS (M ++ N)) := by unfold capL; rw [if_pos hJl]
  have h3 : sndL (leanS (M ++ N)) = true := by
    unfold sndL
    rw [decide_eq_true hJl, Bool.true_and, List.all_eq_true]
    exact leanS_snd _
  have hLl := leanS_le M
  have hLt : (leanS M).all Cb.snd = true := by rw [List.all_eq_true]; exact leanS_snd _
  have hLz : decide ((leanS M).length ≤ 200) = true := decide_eq_true (by omega)
  have Hs1 := Lib.hid s1
  have Hs2 := Lib.hid s2
  have Hq1 := Lib.hid (fun W h => psound_c true (.slice A1 M.length c1) M W h1 h)
  have Hq2 := Lib.hid (fun W h => psound_c true (.slice A2 N.length c2) N W h2 h)
  have Hq3 := Lib.hid (fun W h => plean_c (.slice A1 M.length c1) M W (by omega) h)
  have t4 := fun W v (h : Pl W v (leanS M)) => plean_c v (leanS M) W (by omega) h
  rw [leanS_idem] at t4
  have Hq4 := Lib.hid t4
  have t5 := fun W v (h : Pl W v (leanS M)) => (texts_c v (leanS M) W (by omega) h).mono fun e w' h => h.1 hLt
  rw [hLz] at t5
  have Hq5 := Lib.hid t5
  have Hq6 := Lib.hid (fun W h => (pless_any (.slice A1 M.length c1) (.slice A1 M.length c1) M M W h h h1 h1).mono fun e w' h => h.2 hE)
  have Hq7 := Lib.hid (fun W h h' => (pjoin_any (.slice A1 M.length c1) (.slice A2 N.length c2) M N W h h' h1 h2).mono fun e w' h => h.1 _ hJ)
  have Hq8 := Lib.hid (fun W v h (h' : Pl W v (leanS (M ++ N))) => pwithin_some (.slice A1 M.length c1) v M (leanS (M ++ N)) W h h' h1 h3 [] hG true rfl)
  clear s1 s2 h1 h2 h3 hE hG hJ t4 t5 hLt hLz gM gN
  go_enter Try.func7, Try.ntmps7
  go_wp2_with fail
  (with_reducible refine (Hs1.out _).mono ?_)
  rintro e w' ⟨rfl, rfl⟩
  go_wp2_with fail
  (with_reducible refine (Hs2.out _).mono ?_)
  rintro e w' ⟨rfl, rfl⟩
  go_wp2_with fail
  refine (awake3_c _).mono ?_
  rintro e w1 ⟨rfl, hb⟩
  replace pa := pa.on hb
  replace pb := pb.on hb
  replace L := L.trans (hb.mono L.size)
  clear hb
  go_wp2_with fail
  refine (Hq1.out _ pa).mono ?_
  rintro e w2 ⟨rfl, hb⟩
  replace pa := pa.on hb
  replace pb := pb.on hb
  replace L := L.trans (hb.mono L.size)
  clear hb
  go_wp2_with fail
  refine (Hq2.out _ pb).mono ?_
  rintro e w3 ⟨rfl, hb⟩
  replace pa := pa.on hb
  replace pb := pb.on hb
  replace L := L.trans (hb.mono L.size)
  clear hb
  go_wp2_with fail
  refine (Hq3.out _ pa).mono ?_
  rintro e w4 ⟨v4, rfl, O4, hb⟩
  replace pa := pa.on hb
  replace pb := pb.on hb
  replace L := L.trans (hb.mono L.size)
  have p4 := own_Pl O4
  clear O4
  clear hb
  go_wp2_with fail
  refine (Hq4.out _ _ p4).mono ?_
  rintro e w5 ⟨v5, rfl, O5, hb⟩
  replace pa := pa.on hb
  replace pb := pb.on hb
  replace p4 := p4.on hb
  replace L := L.trans (hb.mono L.size)
  have p5 := own_Pl O5
  clear O5
  clear hb
  go_wp2_with fail
  refine (Hq5.out _ _ p4).mono ?_
  rintro e w6 ⟨v6, rfl, O6, hb⟩
  replace pa := pa.on hb
  replace pb := pb.on hb
  replace p4 := p4.on hb
  replace p5 := p5.on hb
  replace L := L.trans (hb.mono L.size)
  have p6 := own_PlT O6
  clear O6
  clear hb
  go_wp2_with fail
  refine (Hq6.out _ pa).mono ?_
  rintro e w7 ⟨rfl, hb⟩
  replace pa := pa.on hb
  replace pb := pb.on hb
  replace p4 := p4.on hb
  replace p5 := p5.on hb
  replace p6 := p6.on hb
  replace L := L.trans (hb.mono L.size)
  clear hb
  go_wp2_with fail
  refine (Hq7.out _ pa pb).mono ?_
  rintro e w8 ⟨v8, rfl, O8, hb⟩
  replace pa := pa.on hb
  replace pb := pb.on hb
  replace p4 := p4.on hb
  replace p5 := p5.on hb
  replace p6 := p6.on hb
  replace L := L.trans (hb.mono L.size)
  have p8 := own_Pl O8
  clear O8
  clear hb
  go_wp2_with fail
  refine (Hq8.out _ _ pa p8).mono ?_
  rintro e w9 ⟨rfl, hb⟩
  replace pa := pa.on hb
  replace pb := pb.on hb
  replace p4 := p4.on hb
  replace p5 := p5.on hb
  replace p6 := p6.on hb
  replace p8 := p8.on hb
  replace L := L.trans (hb.mono L.size)
  clear hb
  have hcon := same_c v5 v6 (leanS M) w9 (by omega) (leanS_snd _) p5 p6
  go_wp2_with fail
  refine (hcon).mono ?_
  rintro e w10 ⟨rfl, hb⟩
  replace pa := pa.on hb
  replace pb := pb.on hb
  replace p4 := p4.on hb
  replace p5 := p5.on hb
  replace p6 := p6.on hb
  replace p8 := p8.on hb
  replace L := L.trans (hb.mono L.size)
  clear hb
  clear hcon
  go_wp2
  go_ret
  exact ⟨rfl, L⟩
set_option maxHeartbeats 4000000 in
set_option maxRecDepth 100000 in
theorem ponce_gff (A1 A2 : Option Addr) (c1 c2 n1 n2 : Nat) (M N : List Cb) (w : World) (hM : M.length ≤ 12) (hN : N.length ≤ 12)
    (s1 : ∀ W : World, Calls Try.prog 18 #[.slice A1 n1 c1] W fun e w' => e = .returned (.slice A1 M.length c1) ∧ W = w') (s2 : ∀ W : World, Calls Try.prog 18 #[.slice A2 n2 c2] W fun e w' => e = .returned (.slice A2 N.length c2) ∧ W = w')
    (pa : Pl w (.slice A1 M.length c1) M) (pb : Pl w (.slice A2 N.length c2) N) (h1 : sndL M = true) (h2 : sndL N = true) (hE : lessL M M = none) (hG : lessL M (leanS (M ++ N)) = none) :
    Calls Try.prog 7 #[.slice A1 n1 c1, .slice A2 n2 c2] w fun e w' => e = .returned (.bool true) ∧ Below w.heap.size w w' := by
  have L := Below.refl w.heap.size w
  have gM := sndL_all h1
  have gN := sndL_all h2
  have hJl : (leanS (M ++ N)).length ≤ 200 := by have := leanS_le (M ++ N); rw [List.length_append] at this; omega
  have hJ : capL (leanS (M ++ N)) = some (leanS (M ++ N)) := by unfold capL; rw [if_pos hJl]
  have h3 : sndL (leanS (M ++ N)) = true := by
    unfold sndL
    rw [decide_eq_true hJl, Bool.true_and, List.all_eq_true]
    exact leanS_snd _
  have hLl := leanS_le M
  have hLt : (leanS M).all Cb.snd = true := by rw [List.all_eq_true]; exact leanS_snd _
  have hLz : decide ((leanS M).length ≤ 200) = true := decide_eq_true (by omega)
  have Hs1 := Lib.hid s1
  have Hs2 := Lib.hid s2
  have Hq1 := Lib.hid (fun W h => psound_c true (.slice A1 M.length c1) M W h1 h)
  have Hq2 := Lib.hid (fun W h => psound_c true (.slice A2 N.length c2) N W h2 h)
  have Hq3 := Lib.hid (fun W h => plean_c (.slice A1 M.length c1) M W (by omega) h)
  have t4 := fun W v (h : Pl W v (leanS M)) => plean_c v (leanS M) W (by omega) h
  rw [leanS_idem] at t4
  have Hq4 := Lib.hid t4
  have t5 := fun W v (h : Pl W v (leanS M)) => (texts_c v (leanS M) W (by omega) h).mono fun e w' h => h.1 hLt
  rw [hLz] at t5
  have Hq5 := Lib.hid t5
  have Hq6 := Lib.hid (fun W h => (pless_any (.slice A1 M.length c1) (.slice A1 M.length c1) M M W h h h1 h1).mono fun e w' h => h.2 hE)
  have Hq7 := Lib.hid (fun W h h' => (pjoin_any (.slice A1 M.length c1) (.slice A2 N.length c2) M N W h h' h1 h2).mono fun e w' h => h.1 _ hJ)
  have Hq8 := Lib.hid (fun W v h (h' : Pl W v (leanS (M ++ N))) => pwithin_over (.slice A1 M.length c1) v M (leanS (M ++ N)) W h h' h1 h3 hG)
  clear s1 s2 h1 h2 h3 hE hG hJ t4 t5 hLt hLz gM gN
  go_enter Try.func7, Try.ntmps7
  go_wp2_with fail
  (with_reducible refine (Hs1.out _).mono ?_)
  rintro e w' ⟨rfl, rfl⟩
  go_wp2_with fail
  (with_reducible refine (Hs2.out _).mono ?_)
  rintro e w' ⟨rfl, rfl⟩
  go_wp2_with fail
  refine (awake3_c _).mono ?_
  rintro e w1 ⟨rfl, hb⟩
  replace pa := pa.on hb
  replace pb := pb.on hb
  replace L := L.trans (hb.mono L.size)
  clear hb
  go_wp2_with fail
  refine (Hq1.out _ pa).mono ?_
  rintro e w2 ⟨rfl, hb⟩
  replace pa := pa.on hb
  replace pb := pb.on hb
  replace L := L.trans (hb.mono L.size)
  clear hb
  go_wp2_with fail
  refine (Hq2.out _ pb).mono ?_
  rintro e w3 ⟨rfl, hb⟩
  replace pa := pa.on hb
  replace pb := pb.on hb
  replace L := L.trans (hb.mono L.size)
  clear hb
  go_wp2_with fail
  refine (Hq3.out _ pa).mono ?_
  rintro e w4 ⟨v4, rfl, O4, hb⟩
  replace pa := pa.on hb
  replace pb := pb.on hb
  replace L := L.trans (hb.mono L.size)
  have p4 := own_Pl O4
  clear O4
  clear hb
  go_wp2_with fail
  refine (Hq4.out _ _ p4).mono ?_
  rintro e w5 ⟨v5, rfl, O5, hb⟩
  replace pa := pa.on hb
  replace pb := pb.on hb
  replace p4 := p4.on hb
  replace L := L.trans (hb.mono L.size)
  have p5 := own_Pl O5
  clear O5
  clear hb
  go_wp2_with fail
  refine (Hq5.out _ _ p4).mono ?_
  rintro e w6 ⟨v6, rfl, O6, hb⟩
  replace pa := pa.on hb
  replace pb := pb.on hb
  replace p4 := p4.on hb
  replace p5 := p5.on hb
  replace L := L.trans (hb.mono L.size)
  have p6 := own_PlT O6
  clear O6
  clear hb
  go_wp2_with fail
  refine (Hq6.out _ pa).mono ?_
  rintro e w7 ⟨rfl, hb⟩
  replace pa := pa.on hb
  replace pb := pb.on hb
  replace p4 := p4.on hb
  replace p5 := p5.on hb
  replace p6 := p6.on hb
  replace L := L.trans (hb.mono L.size)
  clear hb
  go_wp2_with fail
  refine (Hq7.out _ pa pb).mono ?_
  rintro e w8 ⟨v8, rfl, O8, hb⟩
  replace pa := pa.on hb
  replace pb := pb.on hb
  replace p4 := p4.on hb
  replace p5 := p5.on hb
  replace p6 := p6.on hb
  replace L := L.trans (hb.mono L.size)
  have p8 := own_Pl O8
  clear O8
  clear hb
  go_wp2_with fail
  refine (Hq8.out _ _ pa p8).mono ?_
  rintro e w9 ⟨rfl, hb⟩
  replace pa := pa.on hb
  replace pb := pb.on hb
  replace p4 := p4.on hb
  replace p5 := p5.on hb
  replace p6 := p6.on hb
  replace p8 := p8.on hb
  replace L := L.trans (hb.mono L.size)
  clear hb
  have hcon := same_c v5 v6 (leanS M) w9 (by omega) (leanS_snd _) p5 p6
  go_wp2_with fail
  refine (hcon).mono ?_
  rintro e w10 ⟨rfl, hb⟩
  replace pa := pa.on hb
  replace pb := pb.on hb
  replace p4 := p4.on hb
  replace p5 := p5.on hb
  replace p6 := p6.on hb
  replace p8 := p8.on hb
  replace L := L.trans (hb.mono L.size)
  clear hb
  clear hcon
  go_wp2
  go_ret
  exact ⟨rfl, L⟩
theorem ponce_c (A1 A2 : Option Addr) (c1 c2 : Nat) (A B : List Cb) (w : World) (la : A.length ≤ c1) (ma : c1 ≤ maxLen) (lb : B.length ≤ c2) (mb : c2 ≤ maxLen) (ha : Pl w (.slice A1 A.length c1) A) (hb : Pl w (.slice A2 B.length c2) B) :
    Calls Try.prog 7 #[.slice A1 A.length c1, .slice A2 B.length c2] w fun e w' => e = .returned (.bool true) ∧ Below w.heap.size w w' := by
  have s1 := fun W => small_c A1 c1 A W la ma
  have s2 := fun W => small_c A2 c2 B W lb mb
  have pa := ha.take 12
  have pb := hb.take 12
  have hM : (A.take 12).length ≤ 12 := by simp; omega
  have hN : (B.take 12).length ≤ 12 := by simp; omega
  generalize A.take 12 = M at s1 pa hM
  generalize B.take 12 = N at s2 pb hN
  cases h1 : sndL M with
  | false => exact ponce_b1 A1 A2 c1 c2 _ _ M N w s1 s2 pa pb h1
  | true =>
    cases h2 : sndL N with
    | false => exact ponce_b2 A1 A2 c1 c2 _ _ M N w s1 s2 pa pb h1 h2
    | true =>
      have gM := sndL_all h1
      have gN := sndL_all h2
      have hall : ∀ x y, anyHas M x y = true → anyHas (leanS (M ++ N)) x y = true := fun x y h => by
        rw [leanS_has (fun d hd => (List.mem_append.1 hd).elim (gM d) (gN d))]
        unfold anyHas at h ⊢
        rw [List.any_append, h, Bool.true_or]
      cases hE : lessL M M with
      | none =>
        cases hG : lessL M (leanS (M ++ N)) with
        | none => exact ponce_gff A1 A2 c1 c2 _ _ M N w hM hN s1 s2 pa pb h1 h2 hE hG
        | some R =>
          obtain rfl := lessL_none gM (leanS_snd _) hall hG
          exact ponce_gft A1 A2 c1 c2 _ _ M N w hM hN s1 s2 pa pb h1 h2 hE hG
      | some S =>
        obtain rfl := lessL_none gM gM (fun _ _ h => h) hE
        cases hG : lessL M (leanS (M ++ N)) with
        | none => exact ponce_gtf A1 A2 c1 c2 _ _ M N w hM hN s1 s2 pa pb h1 h2 hE hG
        | some R =>
          obtain rfl := lessL_none gM (leanS_snd _) hall hG
          exact ponce_gtt A1 A2 c1 c2 _ _ M N w hM hN s1 s2 pa pb h1 h2 hE hG
end Go.Proofs

namespace Go.Proofs.Ytipkefljicoldaa
open Go.ChangeShapes Go.WideShapes Go.ChangeAt Go.RowKit Go.Joins Go.Proofs.Hd

theorem laidOut_ponce : laidOutB Try.prog = true := by kernel_rfl
set_option maxRecDepth 100000 in
theorem ponce_lifted (os : Os) (started : os.Started) (H : Type) (enc : TypeId × Value → H) :
    ReturnsInHanded {} Try.checked os 7 .any (Rows.pileOnceSpec.pre6 enc Try.prog Try.f7 Rows.pileOnceRow.domain false) (Rows.pileOnceSpec.post enc Try.prog Try.f7 false true false false) := by
  refine returnsInHanded_of_change (C := Try.checked) own started (by kernel_rfl) Try.func7
    (ChangeSpec.witness6 (enc := enc) (C := Try.checked) false ⟨#[], #[.slice none 0 0, .slice none 0 0], []⟩ 8 (by kernel_rfl) (by kernel_rfl) (by kernel_rfl) (by kernel_rfl)) ?_
  intro W base args ds gs before hval0 hW hcnd _
  have hval : ∀ (j : Nat) t v, Try.f7.params[j]? = some t → args[j]? = some v → Value.okWide Try.prog W .any base t v := hval0
  have hW' := hW
  obtain ⟨p, q, hA0, hV, rfl, hfz, hnd⟩ := hW
  have hA : DataW.TrodAll enc Try.prog W 0 (fun _ => true) true Try.f7.params.toList args.toList ds p := hA0
  rw [Try.params7] at hA hval
  obtain ⟨v0, vs0, d0, ds0, p0, q0, hargs, rfl, rfl, h0, r0⟩ := trodAll_cons hA
  obtain ⟨v1, vs1, d1, ds1, p1, q1, rfl, rfl, rfl, h1, r1⟩ := trodAll_cons r0
  obtain ⟨rfl, rfl, rfl⟩ := trodAll_nil r1
  obtain rfl : args = #[v0, v1] := by cases args; simp_all
  obtain ⟨rfl, rfl⟩ := trodVars_none hV
  have k0 := h0
  have lt0 : ∀ x ∈ p0, x.block < W.heap.size := by obtain ⟨m, hm⟩ := k0; exact DataW.trod_lt m _ _ _ hm
  obtain ⟨aA, ac, aL, rfl, la, ma, pa⟩ := open_pl (hval 0 22 v0 rfl rfl) h0
  have k1 := h1
  have lt1 : ∀ x ∈ p1, x.block < W.heap.size := by obtain ⟨m, hm⟩ := k1; exact DataW.trod_lt m _ _ _ hm
  obtain ⟨bA, bc, bL, rfl, lb, mb, pb⟩ := open_pl (hval 1 22 v1 rfl rfl) h1
  clear hA0 hval0
  refine (ponce_c aA bA ac bc aL bL W la ma lb mb pa pb).mono fun e W' ⟨he, hg⟩ => ?_
  subst he
  exact ⟨_, rfl, _, _, _, [], _, [], hW', trodAll_mk1 (shut_bool Try.underlying4 _), (trodAll_cons_mk (Below.trod laidOut_ponce (by kernel_rfl) (of_decide_eq_true (by kernel_rfl)) k0 hg lt0) (trodAll_cons_mk (Below.trod laidOut_ponce (by kernel_rfl) (of_decide_eq_true (by kernel_rfl)) k1 hg lt1) trodAll_mk0)), rfl, hg.frame _, (fun h => by cases h)⟩

theorem ponce_holds : Rows.PileOnceSaid :=
  OpenClaim.holds_of_wide 7 Try.f7 rfl rfl rfl rfl rfl rfl rfl ⟨rfl, rfl, rfl, rfl, rfl⟩ rfl rfl rfl rfl rfl (by kernel_rfl) Try.func7 (by kernel_rfl)
    (of_decide_eq_true (by kernel_rfl)) (by unfold Func.isWrapper; first | (rw [if_pos (by decide +kernel)]; kernel_rfl) | (rw [if_neg (by decide +kernel)]; exact ⟨rfl, rfl⟩))
    (fun os started H enc _ => ponce_lifted os started H enc)
#print axioms ponce_holds
end Go.Proofs.Ytipkefljicoldaa
