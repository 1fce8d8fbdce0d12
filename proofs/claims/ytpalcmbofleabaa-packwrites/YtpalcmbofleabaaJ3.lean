/-
  Fields as the laws of layer 4 hand them in: how they lie in memory, and their encodings as lists of bytes. No conditions.
  How a slice of fields, and a slice of bytes, that is handed in reads. No conditions.
  Plain facts: what is held in a region that draws may be made more; the fields of one kind or another as bytes. No conditions.
  Plain facts: fields that are not all the same have unlike encodings; two Writers whose memory is apart. No conditions.
-/
import Derived.Test.YtpalcmbofleabaaJ2
import Derived.Deep.Slices
import Derived.OrdersHeld
namespace Go.Proofs.Hd
open Go.RowKit
/-- A field: what, a number, a wide number, a text. -/
structure Fdt where
  a : Int
  n : Int
  u : BitVec 64
  s : ByteArray
instance : Inhabited Fdt := ⟨⟨0, 0, 0#64, ⟨#[]⟩⟩⟩
def Fdt.ok (x : Fdt) : Prop := (-9223372036854775808 ≤ x.n ∧ x.n ≤ 9223372036854775807) ∧ x.s.size ≤ maxLen
/-- Field x lies in block b from place o on. -/
def AtF (w : World) (b o : Nat) (x : Fdt) : Prop := w.cell? ⟨b, o, none⟩ = some (.int .i64 x.a) ∧ w.cell? ⟨b, o + 1, none⟩ = some (.int .i64 x.n) ∧ w.cell? ⟨b, o + 2, none⟩ = some (.int .u64 (uv x.u)) ∧ w.cell? ⟨b, o + 3, none⟩ = some (.string x.s)
theorem AtF.on {w w' : World} {b o : Nat} {x : Fdt} (h : AtF w b o x) (hb : Below w.heap.size w w') : AtF w' b o x := ⟨on_some hb h.1, on_some hb h.2.1, on_some hb h.2.2.1, on_some hb h.2.2.2⟩
/-- Slice A of capacity cap reads as the fields F. -/
def Fl (w : World) (A : Option Addr) (F : List Fdt) : Prop := F.length ≤ maxLen ∧ ∀ (k : Nat) (x : Fdt), F[k]? = some x → x.ok ∧ ∃ b off, A = some ⟨b, off, none⟩ ∧ AtF w b (off + k * 4) x
/-- The encoding of number, wide number and text, one field behind another. -/
def encR : List Fdt → List UInt8
  | [] => []
  | x :: G => bigB (BitVec.ofInt 64 x.n) 8 ++ (bigB x.u 8 ++ (txF (cutT (sl x.s)) ++ encR G))
theorem encR_snoc (G : List Fdt) (x : Fdt) : encR (G ++ [x]) = ((encR G ++ bigB (BitVec.ofInt 64 x.n) 8) ++ bigB x.u 8) ++ txF (cutT (sl x.s)) := by
  induction G with
  | nil => simp [encR]
  | cons y G ih => simp only [List.cons_append, encR, ih, List.append_assoc]
theorem encR_len (G : List Fdt) : (encR G).length ≤ G.length * 16777236 := by
  induction G with
  | nil => simp [encR]
  | cons y G ih =>
    have h := cutT_len (sl y.s)
    simp only [encR, List.length_append, bigB_len, txF_len, List.length_cons]
    omega
theorem take_nextF {F : List Fdt} {k : Nat} {x : Fdt} (h : F[k]? = some x) : F.take (k + 1) = F.take k ++ [x] := by
  obtain ⟨hi, e⟩ := List.getElem?_eq_some_iff.1 h
  rw [List.take_succ_eq_append_getElem hi, e]
theorem drop_nextF {F : List Fdt} {k : Nat} {x : Fdt} (h : F[k]? = some x) : F.drop k = x :: F.drop (k + 1) := by
  obtain ⟨hi, e⟩ := List.getElem?_eq_some_iff.1 h
  rw [List.drop_eq_getElem_cons hi, e]
theorem tkB_front (A R : List UInt8) (n : Nat) (h : A.length = n) : tkB (A ++ R) 0 n = A := (take_app A R n h).1
end Go.Proofs.Hd
namespace Go.Proofs
open Go.RowKit Go.Proofs.Hd Go.Lib
theorem b_num (w : World) (q : Nat) (n : Int) (R : List UInt8) (h1 : -9223372036854775808 ≤ n) (h2 : n ≤ 9223372036854775807) (h : Rdr w q (bigB (BitVec.ofInt 64 n) 8 ++ R) 0) :
    Calls Try.prog 18 #[.pointer (some ⟨q, 0, none⟩)] w (ReadR w q (.int .i64 n) R 0) := by
  have hcon := rnum_c w q _ 0 h
  obtain ⟨e1, e2, e3⟩ := take_app (bigB (BitVec.ofInt 64 n) 8) R 8 (bigB_len _ _)
  have e4 : wrap64 (uv (BitVec.ofInt 64 n)) = n := by rw [← IntWalk.i64_left]; exact wrapI_back n h1 h2
  rw [e1, e2, e3, num_big8, e4] at hcon
  exact hcon
theorem b_wide (w : World) (q : Nat) (u : BitVec 64) (R : List UInt8) (h : Rdr w q (bigB u 8 ++ R) 0) :
    Calls Try.prog 20 #[.pointer (some ⟨q, 0, none⟩)] w (ReadR w q (.int .u64 (uv u)) R 0) := by
  have hcon := rwide_c w q _ 0 h
  obtain ⟨e1, e2, e3⟩ := take_app (bigB u 8) R 8 (bigB_len _ _)
  rw [e1, e2, e3, num_big8] at hcon
  exact hcon
theorem b_text (w : World) (q : Nat) (T R : List UInt8) (hT : T.length ≤ 16777216) (h : Rdr w q (txF T ++ R) 0) :
    Calls Try.prog 21 #[.pointer (some ⟨q, 0, none⟩)] w (ReadR w q (.string (str T)) R 0) := by
  have hcon := rtext_c w q _ 0 h
  unfold txB txL txE at hcon
  unfold txF at hcon
  rw [List.append_assoc] at hcon
  obtain ⟨e1, e2, e3⟩ := take_app (bigB (BitVec.ofNat 64 T.length) 4) (T ++ R) 4 (bigB_len _ _)
  rw [e1, e2, e3, num_big4 _ (by omega)] at hcon
  obtain ⟨e1, e2, e3⟩ := take_app T R T.length rfl
  rw [e1, e2, e3] at hcon
  exact hcon
end Go.Proofs

namespace Go.Proofs.Ytpalcmbofleabaa
open Go.ChangeShapes Go.WideShapes Go.ChangeAt Go.RowKit Go.Joins Go.Deep Go.Proofs.Hd
theorem cellsField : Try.prog.cellsOf 27 = 4 := by kernel_rfl
theorem cellsInt : Try.prog.cellsOf 3 = 1 := by kernel_rfl
theorem cellsU64 : Try.prog.cellsOf 25 = 1 := by kernel_rfl
theorem cellsStr : Try.prog.cellsOf 9 = 1 := by kernel_rfl
theorem cellsU8 : Try.prog.cellsOf 5 = 1 := by kernel_rfl
/-- Field x lies at address a. -/
def FourF (w : World) (a : Addr) (x : Fdt) : Prop := w.cell? (a.add 0) = some (.int .i64 x.a) ∧ w.cell? (a.add 1) = some (.int .i64 x.n) ∧ w.cell? (a.add 2) = some (.int .u64 (uv x.u)) ∧ w.cell? (a.add 3) = some (.string x.s)
set_option maxRecDepth 100000 in
theorem read_field {H : Type} {enc : TypeId × Value → H} {W : World} {base : Nat} {sp : Nat → Bool} {n : Nat} {cs : List Value} {a : Addr} {y : DataW H × List MemPlace} (hc : W.cells? base a 4 = some cs) (h0 : DataW.trod enc Try.prog W base sp true n 27 cs = some y) :
    ∃ x : Fdt, x.ok ∧ FourF W a x := by
  obtain ⟨_, hl, hat⟩ := World.cells?_some hc
  match cs, hl with
  | [c0, c1, c2, c3], _ =>
    obtain ⟨y0, y1, y2, y3, m, hx, _, q0, q1, q2, q3⟩ := trod_struct4 Try.underlying27 h0
    have q0' : DataW.trod enc Try.prog W base sp true m 3 [c0] = some y0 := by simpa [cellsInt] using q0
    have q1' : DataW.trod enc Try.prog W base sp true m 3 [c1] = some y1 := by simpa [cellsInt] using q1
    have q2' : DataW.trod enc Try.prog W base sp true m 25 [c2] = some y2 := by simpa [cellsU64] using q2
    have q3' : DataW.trod enc Try.prog W base sp true m 9 [c3] = some y3 := by simpa [cellsStr] using q3
    obtain ⟨ka, e0, _, wa⟩ := DataW.trod_int Try.underlying3 q0'
    obtain ⟨kn, e1, _, wn⟩ := DataW.trod_int Try.underlying3 q1'
    obtain ⟨ku, e2, _, wu⟩ := DataW.trod_int Try.underlying25 q2'
    obtain ⟨ks, e3, _, ws⟩ := DataW.trod_string Try.underlying9 q3'
    simp at e0 e1 e2 e3
    subst e0 e1 e2 e3
    obtain ⟨u, rfl⟩ := uv_of ku wu
    exact ⟨⟨ka, kn, u, ks⟩, ⟨bounds_i64 wn, ws⟩, ⟨(hat 0 (by omega)).trans rfl, (hat 1 (by omega)).trans rfl, (hat 2 (by omega)).trans rfl, (hat 3 (by omega)).trans rfl⟩⟩
theorem four_atF {w : World} {b off n : Nat} {x : Fdt} (h : FourF w ((⟨b, off, none⟩ : Addr).add n) x) : AtF w b (off + n) x := by
  obtain ⟨h0, h1, h2, h3⟩ := h
  rw [Hd.add_plain, Hd.add_plain] at h0 h1 h2 h3
  exact ⟨h0, h1, h2, h3⟩
set_option maxRecDepth 100000 in
theorem open_fields {H : Type} {enc : TypeId × Value → H} {W : World} {base : Nat} {v : Value} {d : DataW H} {p : List MemPlace} (hok : Value.okWide Try.prog W .any base 22 v)
    (h0 : DataW.Trod enc Try.prog W 0 (fun _ => true) true 22 v d p) : ∃ (A : Option Addr) (cap : Nat) (F : List Fdt), v = .slice A F.length cap ∧ Fl W A F := by
  obtain ⟨fuel, hf⟩ := h0
  obtain ⟨va, vl, vc, rfl⟩ := okWide_slice Try.underlying22 hok
  rcases open_slice Try.underlying22 hf with ⟨h1, _⟩ | ⟨a, len, cap, m, n, D, Pl, hcs, _, hlc, hcm, hm, hx, hel⟩
  · have : va = none ∧ vl = 0 ∧ vc = 0 := by simpa [Value.cells] using h1
    obtain ⟨rfl, rfl, rfl⟩ := this
    exact ⟨none, 0, [], rfl, Nat.zero_le _, fun k x hk => by simp at hk⟩
  · have hv : va = some a ∧ vl = len ∧ vc = cap := by simpa [Value.cells] using hcs
    obtain ⟨rfl, rfl, rfl⟩ := hv
    rw [cellsField] at hel
    have hm' : m = vc := by simpa using hm
    subst hm'
    obtain ⟨f, hfour⟩ := choose_lt (α := Fdt) (p := fun i c => c.ok ∧ FourF W (a.add (i * 4)) c) (fun i (hi : i < m) => by
      obtain ⟨cs', hc, ht⟩ := hel i hi
      exact read_field hc ht)
    refine ⟨some a, m, (List.range vl).map f, by simp, by simp; omega, fun k x hk => ?_⟩
    obtain ⟨hkl, rfl⟩ := List.getElem?_eq_some_iff.1 hk
    simp only [List.length_map, List.length_range] at hkl
    simp only [List.getElem_map, List.getElem_range]
    obtain ⟨h1, h4⟩ := hfour k (by omega)
    obtain ⟨b, off, spot⟩ := a
    have hs : spot = none := by
      have := World.cell?_spot (hfour 0 (by omega)).2.1
      simpa [Addr.add] using this
    subst hs
    exact ⟨h1, b, off, rfl, four_atF h4⟩
theorem u8_of (z : Int) (h : (Lit.int .u8 z).wf = true) : ∃ x : UInt8, z = (x.toNat : Int) := by
  obtain ⟨h1, h2⟩ := bounds_u8 h
  refine ⟨UInt8.ofNat z.toNat, ?_⟩
  rw [UInt8.toNat_ofNat']
  omega
set_option maxRecDepth 100000 in
theorem open_bytes {H : Type} {enc : TypeId × Value → H} {W : World} {base : Nat} {v : Value} {d : DataW H} {p : List MemPlace} (hok : Value.okWide Try.prog W .any base 34 v)
    (h0 : DataW.Trod enc Try.prog W 0 (fun _ => true) true 34 v d p) : ∃ (L : List UInt8), Rd W v L ∧ (L.length = 0 ∨ ∃ el sp, d = .slice el sp ∧ el.length = L.length) := by
  obtain ⟨fuel, hf⟩ := h0
  obtain ⟨va, vl, vc, rfl⟩ := okWide_slice Try.underlying34 hok
  rcases open_slice Try.underlying34 hf with ⟨h1, _⟩ | ⟨a, len, cap, m, n, D, Pl, hcs, _, hlc, hcm, hm, hx, hel⟩
  · have : va = none ∧ vl = 0 ∧ vc = 0 := by simpa [Value.cells] using h1
    obtain ⟨rfl, rfl, rfl⟩ := this
    exact ⟨[], Rd.nil W, .inl rfl⟩
  · have hv : va = some a ∧ vl = len ∧ vc = cap := by simpa [Value.cells] using hcs
    obtain ⟨rfl, rfl, rfl⟩ := hv
    rw [cellsU8] at hel
    have hm' : m = vc := by simpa using hm
    subst hm'
    obtain ⟨f, hfour⟩ := choose_lt (α := UInt8) (p := fun i c => W.cell? ((a.add (i * 1)).add 0) = some (.int .u8 (c.toNat : Int))) (fun i (hi : i < m) => by
      obtain ⟨cs', hc, ht⟩ := hel i hi
      obtain ⟨_, hl, hat⟩ := World.cells?_some hc
      match cs', hl with
      | [c0], _ =>
        obtain ⟨z, e0, _, wz⟩ := DataW.trod_int Try.underlying5 ht
        simp at e0
        subst e0
        obtain ⟨x, rfl⟩ := u8_of z wz
        exact ⟨x, (hat 0 (by omega)).trans rfl⟩)
    have hd := congrArg Prod.fst hx
    refine ⟨(List.range vl).map f, ?_, .inr ⟨_, _, hd, by simp⟩⟩
    by_cases h0 : vl = 0
    · subst h0
      exact .inl ⟨by simp, _, _, rfl, hcm⟩
    · have h1 := hfour 0 (by omega)
      obtain ⟨b, off, spot⟩ := a
      have hs : spot = none := by
        have := World.cell?_spot h1
        simpa [Addr.add] using this
      subst hs
      have hlt := World.block_lt_of_cell? W _ h1
      rw [Hd.block_add, Hd.block_add] at hlt
      refine .inr ⟨b, off, m, by simp, by simpa using hlc, hcm, hlt, fun k c hk => ?_⟩
      obtain ⟨hkl, rfl⟩ := List.getElem?_eq_some_iff.1 hk
      simp only [List.length_map, List.length_range] at hkl
      simp only [List.getElem_map, List.getElem_range]
      have := hfour k (by omega)
      rw [Hd.add_plain, Hd.add_plain] at this
      simpa using this
end Go.Proofs.Ytpalcmbofleabaa

namespace Go.Proofs.Hd
open Go.RowKit
theorem wpAnyH_more {P : Program} {ops : Array Oper} {Q : Exit → Act → World → Prop} {md : Region.Mode} {S S' : World → Prop} (hs : ∀ w, S' w → S w) :
    ∀ (fuel : Nat) (listed : Array Bool) (a : Act) (w : World), wpAnyH P md ops Q S' fuel listed a w → wpAnyH P md ops Q S fuel listed a w
  | 0, _, _, _, h => h
  | fuel + 1, _, _, _, h => ⟨h.1, fun i hi => wpOp_mono (fun a' w' h' => ⟨hs w' h'.1, wpAnyH_more hs fuel _ a' w' h'.2⟩) (h.2 i hi)⟩
/-- The encoding of a field of the kind that it names. -/
def encK1 (x : Fdt) : List UInt8 := if x.a = 0 then bigB (BitVec.ofInt 64 x.n) 8 else if x.a = 1 then bigB x.u 8 else if x.a = 2 then txF (cutT (sl x.s)) else []
def encK (F : List Fdt) : List UInt8 := F.flatMap encK1
theorem encK_snoc (F : List Fdt) (x : Fdt) : encK (F ++ [x]) = encK F ++ encK1 x := by simp [encK]
theorem encK1_len (x : Fdt) : (encK1 x).length ≤ 16777220 := by
  have h := cutT_len (sl x.s)
  unfold encK1
  split
  · rw [bigB_len]; omega
  · split
    · rw [bigB_len]; omega
    · split
      · rw [txF_len]; omega
      · simp
theorem encK_len (F : List Fdt) : (encK F).length ≤ F.length * 16777220 := by
  induction F with
  | nil => simp [encK]
  | cons x F ih =>
    have h := encK1_len x
    have e : encK (x :: F) = encK1 x ++ encK F := by simp [encK]
    rw [e, List.length_append, List.length_cons]
    omega
end Go.Proofs.Hd

namespace Go.Proofs.Hd
open Go.RowKit
def eqF (x y : Fdt) : Bool := decide (x.n = y.n) && decide (sl x.s = sl y.s) && decide (x.u = y.u)
def eqL : List Fdt → List Fdt → Bool
  | [], [] => true
  | x :: F, y :: G => eqF x y && eqL F G
  | _, _ => false
theorem eqL_snoc : ∀ (F G : List Fdt) (x y : Fdt), F.length = G.length → eqL (F ++ [x]) (G ++ [y]) = (eqL F G && eqF x y)
  | [], [], x, y, _ => by simp [eqL]
  | a :: F, b :: G, x, y, h => by
    have := eqL_snoc F G x y (by simpa using h)
    simp only [List.cons_append, eqL, this, Bool.and_assoc]
  | [], _ :: _, _, _, h => by simp at h
  | _ :: _, [], _, _, h => by simp at h
/-- The encoding of number, text and wide number, one field behind another. -/
def encA : List Fdt → List UInt8
  | [] => []
  | x :: G => bigB (BitVec.ofInt 64 x.n) 8 ++ (txF (cutT (sl x.s)) ++ (bigB x.u 8 ++ encA G))
theorem encA_snoc (G : List Fdt) (x : Fdt) : encA (G ++ [x]) = ((encA G ++ bigB (BitVec.ofInt 64 x.n) 8) ++ txF (cutT (sl x.s))) ++ bigB x.u 8 := by
  induction G with
  | nil => simp [encA]
  | cons y G ih => simp only [List.cons_append, encA, ih, List.append_assoc]
theorem encA_len (G : List Fdt) : (encA G).length ≤ G.length * 16777236 := by
  induction G with
  | nil => simp [encA]
  | cons y G ih =>
    have h := cutT_len (sl y.s)
    simp only [encA, List.length_append, bigB_len, txF_len, List.length_cons]
    omega
/-- Fields whose texts are short. -/
def Sht (F : List Fdt) : Prop := ∀ x ∈ F, x.ok ∧ x.s.size ≤ 1048576
theorem Sht.snoc {F : List Fdt} {x : Fdt} (h : Sht F) (hx : x.ok) (hs : x.s.size ≤ 1048576) : Sht (F ++ [x]) := by
  intro y hy
  rcases List.mem_append.1 hy with hy | hy
  · exact h y hy
  · have : y = x := by simpa using hy
    subst this; exact ⟨hx, hs⟩
theorem cut_short {x : Fdt} (hs : x.s.size ≤ 1048576) : cutT (sl x.s) = sl x.s := by unfold cutT; rw [if_pos (by rw [sl_len]; omega)]
theorem encA_eq : ∀ (F G : List Fdt), F.length = G.length → Sht F → Sht G → (encA F = encA G ↔ eqL F G = true)
  | [], [], _, _, _ => by simp [encA, eqL]
  | x :: F, y :: G, hl, hF, hG => by
    have ih := encA_eq F G (by simpa using hl) (fun z hz => hF z (by simp [hz])) (fun z hz => hG z (by simp [hz]))
    obtain ⟨hx, hxs⟩ := hF x (by simp)
    obtain ⟨hy, hys⟩ := hG y (by simp)
    have cx := cut_short hxs
    have cy := cut_short hys
    have lx := sl_len x.s
    have ly := sl_len y.s
    simp only [encA, eqL, cx, cy, eqF, Bool.and_eq_true, decide_eq_true_eq]
    constructor
    · intro h
      obtain ⟨h1, h2⟩ := List.append_inj h (by rw [bigB_len, bigB_len])
      have en := ofInt_inj hx.1.1 hx.1.2 hy.1.1 hy.1.2 (bigB_inj8 h1)
      unfold txF at h2
      rw [List.append_assoc, List.append_assoc] at h2
      obtain ⟨h3, h4⟩ := List.append_inj h2 (by rw [bigB_len, bigB_len])
      have el := bigB_inj4 (by omega) (by omega) h3
      obtain ⟨h5, h6⟩ := List.append_inj h4 el
      obtain ⟨h7, h8⟩ := List.append_inj h6 (by rw [bigB_len, bigB_len])
      exact ⟨⟨⟨en, h5⟩, bigB_inj8 h7⟩, ih.1 h8⟩
    · rintro ⟨⟨⟨e1, e2⟩, e3⟩, e4⟩
      rw [e1, e2, e3, ih.2 e4]
  | [], _ :: _, h, _, _ => by simp at h
  | _ :: _, [], h, _, _ => by simp at h
theorem apart_eq (F G : List Fdt) (hl : F.length = G.length) (hF : Sht F) (hG : Sht G) : ((str (seal8 (encA F))).toList == (str (seal8 (encA G))).toList) = eqL F G := by
  rw [str_eq]
  cases h : eqL F G with
  | true => exact decide_eq_true (by rw [(encA_eq F G hl hF hG).2 h])
  | false =>
    refine decide_eq_false (fun c => ?_)
    have := (encA_eq F G hl hF hG).1 (seal8_inj c)
    rw [h] at this; cases this
/-- Two Writers, their memory apart. -/
def Two (w : World) (base p q : Nat) (o1 o2 : Option Nat) (B C : List UInt8) : Prop := Wrt w base p o1 B ∧ Wrt w base q o2 C ∧ (∀ k, o1 = some k → o2 ≠ some k) ∧ p ≠ q
theorem Wrt.not_row {w : World} {base base' p q : Nat} {o1 o2 : Option Nat} {B C : List UInt8} (h : Wrt w base p o1 B) (k : Wrt w base' q o2 C) : o2 ≠ some p := by
  obtain ⟨v, hb, -, -⟩ := h
  obtain ⟨u, -, rfl, hown⟩ := k
  exact fun e => own_apart hown hb (by decide) e.symm
theorem Two.on {w w' : World} {base p q : Nat} {o1 o2 : Option Nat} {B C : List UInt8} (h : Two w base p q o1 o2 B C) (hb : Below w.heap.size w w') : Two w' base p q o1 o2 B C := ⟨h.1.on hb, h.2.1.on hb, h.2.2⟩
theorem Two.stepX {w w' : World} {base p q : Nat} {o1 o1' o2 : Option Nat} {B B' C : List UInt8} (h : Two w base p q o1 o2 B C) (k : Wrt w' base p o1' B') (s : Wst w w' p o1 o1') : Two w' base p q o1' o2 B' C := by
  obtain ⟨hx, hy, ha, hn⟩ := h
  refine ⟨k, hy.ch s.1 ?_ ?_, ?_, hn⟩
  · rintro (c | c)
    · exact hn c.symm
    · exact hy.not_row hx c
  · rintro j hj (c | c)
    · subst c; exact hx.not_row hy hj
    · exact ha j c hj
  · intro j hj
    rcases s.2 with e | ⟨j', e, hj'⟩
    · rw [e] at hj; exact ha j hj
    · rw [e] at hj
      injection hj with hj
      intro c
      have := (hy.lt.2 j c).2
      omega
theorem Two.swap {w : World} {base p q : Nat} {o1 o2 : Option Nat} {B C : List UInt8} (h : Two w base p q o1 o2 B C) : Two w base q p o2 o1 C B := ⟨h.2.1, h.1, fun k e c => h.2.2.1 k c e, fun e => h.2.2.2 e.symm⟩
theorem Two.stepY {w w' : World} {base p q : Nat} {o1 o2' o2 : Option Nat} {B C' C : List UInt8} (h : Two w base p q o1 o2 B C) (k : Wrt w' base q o2' C') (s : Wst w w' q o2 o2') : Two w' base p q o1 o2' B C' := (h.swap.stepX k s).swap
end Go.Proofs.Hd
