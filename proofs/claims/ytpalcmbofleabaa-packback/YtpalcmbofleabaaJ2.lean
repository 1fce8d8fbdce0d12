/-
  Plain facts on worlds: bytes in memory, rows of bytes that grow, what a call changes at most. No program in sight. No conditions.
  Contracts of pack.number, pack.Sum, pack.withNumber and slices.Clone over bytes. Conditions as each theorem lists them.
  Contracts of pack.New and of the methods of pack.Writer: Num, Wide, Text, Bytes. Conditions as each theorem lists them.
  Contracts of (*pack.Writer).Text and of (*pack.Writer).Bytes. Conditions as each theorem lists them.
  Contracts of the methods of pack.Reader: take, Num, Wide, Text, Left, End. Conditions as each theorem lists them.
  The contract of pack.Read: which Reader it returns. Conditions as each theorem lists them.
  Contracts of the reference of layer 4: Big, Number, Text, Sum, Sealed. Conditions as each theorem lists them.
  Contracts of the reference of layer 4: Text, Sealed, Read and the Reader. Conditions as each theorem lists them.
  Contracts of the reference's Reader of layer 4: take, Wide, Text. Conditions as each theorem lists them.
  The contract of the laws' awake of layer 4: it returns true. Conditions as each theorem lists them.
-/
import Derived.Test.YtpalcmbofleabaaJ1
import Derived.Lib.Hide
import Derived.Laws.IdiomStrings
import Derived.Laws.BytesArg
import Derived.Test.YtpalcmbofleabaaChecked
import Derived.Deep.LoopGhost
import Derived.OwnWalk
import Derived.Lib.SliceRun
import Derived.Deep.RegionHeld3
import Derived.Deep.DeepCutAuto
import Derived.Deep.Light
import Derived.Laws.MakeOwn
namespace Go.Proofs.Hd
open Go.RowKit
/-- Bytes as cells. -/
def bc (B : List UInt8) : List Value := B.map fun b => Value.int .u8 b.toNat
theorem bc_len (B : List UInt8) : (bc B).length = B.length := by simp [bc]
theorem bc_append (A B : List UInt8) : bc (A ++ B) = bc A ++ bc B := by simp [bc]
theorem bc_get {B : List UInt8} {k : Nat} {b : UInt8} (h : B[k]? = some b) : (bc B)[k]? = some (.int .u8 b.toNat) := by simp [bc, h]
theorem bc_one (B : List UInt8) : ∀ u ∈ bc B, u.oneCell' = true := by
  intro u hu; simp only [bc, List.mem_map] at hu; obtain ⟨b, _, rfl⟩ := hu; rfl
/-- A text of bytes. -/
def str (B : List UInt8) : ByteArray := ⟨B.toArray⟩
theorem str_size (B : List UInt8) : (str B).size = B.length := by show B.toArray.size = _; simp
theorem strCells_str (B : List UInt8) : Lib.strCells (str B) = bc B := by simp [Lib.strCells, str, bc]
theorem str_of (s : ByteArray) : s = str s.data.toList := by cases s; simp [str]
theorem str_inj {A B : List UInt8} (h : str A = str B) : A = B := by
  unfold str at h; injection h with h; simpa using h
theorem add_plain (b o j : Nat) : (⟨b, o, none⟩ : Addr).add j = ⟨b, o + j, none⟩ := by
  unfold Addr.add; by_cases h : j = 0 <;> simp [h]
/-- v is a slice that reads as the bytes L. -/
def Rd (w : World) (v : Value) (L : List UInt8) : Prop := (L = [] ∧ ∃ A cap, v = .slice A 0 cap ∧ cap ≤ maxLen) ∨ ∃ b off cap, v = .slice (some ⟨b, off, none⟩) L.length cap ∧ L.length ≤ cap ∧ cap ≤ maxLen ∧ b < w.heap.size ∧ ∀ (k : Nat) (c : UInt8), L[k]? = some c → w.cell? ⟨b, off + k, none⟩ = some (.int .u8 c.toNat)
theorem Rd.form {w : World} {v : Value} {L : List UInt8} (h : Rd w v L) : ∃ A cap, v = .slice A L.length cap ∧ L.length ≤ cap ∧ cap ≤ maxLen ∧ ∀ (k : Nat) (c : UInt8), L[k]? = some c → ∃ b off, A = some ⟨b, off, none⟩ ∧ w.cell? ⟨b, off + k, none⟩ = some (.int .u8 c.toNat) := by
  rcases h with ⟨rfl, A, cap, rfl, hm⟩ | ⟨b, off, cap, rfl, hc, hm, hb, h⟩
  · exact ⟨A, cap, rfl, Nat.zero_le _, hm, fun k c hk => by simp at hk⟩
  · exact ⟨_, cap, rfl, hc, hm, fun k c hk => ⟨b, off, rfl, h k c hk⟩⟩
theorem Rd.on {w w' : World} {v : Value} {L : List UInt8} (h : Rd w v L) (hb : Below w.heap.size w w') : Rd w' v L := by
  rcases h with h | ⟨b, off, cap, e, hc, hm, hs, h⟩
  · exact .inl h
  · exact .inr ⟨b, off, cap, e, hc, hm, Nat.lt_of_lt_of_le hs hb.size, fun k c hk => on_some hb (h k c hk)⟩
theorem Rd.nil (w : World) : Rd w (.slice none 0 0) [] := .inl ⟨rfl, none, 0, rfl, Nat.zero_le _⟩
theorem Rd.src {w : World} {v : Value} {L : List UInt8} (h : Rd w v L) : Src w 1 v L.length (bc L) := by
  refine ⟨by simp [bc], bc_one L, ?_⟩
  rcases h with ⟨rfl, A, cap, rfl, _⟩ | ⟨b, off, cap, rfl, _, _, hb, h⟩
  · cases A with
    | none => exact .inl ⟨rfl, cap, rfl⟩
    | some ad => exact .inr ⟨ad, cap, rfl, fun j u hu => by simp [bc] at hu⟩
  · refine .inr ⟨_, cap, rfl, fun j u hu => ?_⟩
    have hj : j < L.length := by have := (List.getElem?_eq_some_iff.1 hu).1; rwa [bc_len] at this
    rw [bc_get (List.getElem?_eq_getElem hj)] at hu
    injection hu with hu
    subst hu
    rw [add_plain]
    exact h j _ (List.getElem?_eq_getElem hj)
theorem Rd.of_own {w : World} {base e : Nat} {v : Value} {B : List UInt8} (h : w.ownsRow base e 1 v B.length (bc B)) : Rd w v B := by
  rcases h.2 with ⟨rfl, h0⟩ | ⟨g, cap, cur, hv, hge, hheap, hlc, hcm, _⟩
  · obtain rfl : B = [] := List.eq_nil_of_length_eq_zero h0
    exact .inl ⟨rfl, _, _, rfl, Nat.zero_le _⟩
  · subst hv
    refine .inr ⟨g, 0, cap, rfl, hlc, hcm, (h.lt g rfl).2, fun k c hc => ?_⟩
    have := h.cells (g := g) rfl k _ (bc_get hc)
    rwa [add_plain] at this
/-- The block in which a slice lies is one of bytes. -/
def In8 (w : World) (t : TypeId) (v : Value) : Prop := ∀ g, v.ownBlock = some g → TB w g t
theorem In8.on {w w' : World} {t : TypeId} {v : Value} (h : In8 w t v) (hb : Below w.heap.size w w') : In8 w' t v := fun g hg => (h g hg).on hb
theorem In8.of_own {w : World} {base e size n : Nat} {v : Value} {xs : List Value} (h : w.ownsRow base e size v n xs) : In8 w e v := by
  intro g hg
  rcases h.2 with ⟨rfl, _⟩ | ⟨g', cap, cur, rfl, _, hh, _⟩
  · simp [Value.ownBlock] at hg
  · simp [Value.ownBlock] at hg
    subst hg
    exact ⟨_, _, hh⟩
/-- From w to w' at most the blocks of S have changed, and new ones may be there. -/
structure Ch (S : Nat → Prop) (w w' : World) : Prop where
  os : w'.os = w.os
  tape : w'.tape = w.tape
  output : w'.output = w.output
  size : w.heap.size ≤ w'.heap.size
  block : ∀ k, k < w.heap.size → ¬ S k → w'.heap[k]? = w.heap[k]?
theorem Ch.refl (S : Nat → Prop) (w : World) : Ch S w w := ⟨rfl, rfl, rfl, Nat.le_refl _, fun _ _ _ => rfl⟩
theorem Ch.trans {S : Nat → Prop} {a b c : World} (h : Ch S a b) (k : Ch S b c) : Ch S a c :=
  ⟨k.os.trans h.os, k.tape.trans h.tape, k.output.trans h.output, Nat.le_trans h.size k.size, fun i hi hs => (k.block i (Nat.lt_of_lt_of_le hi h.size) hs).trans (h.block i hi hs)⟩
theorem Ch.mono {S S' : Nat → Prop} {w w' : World} (h : Ch S w w') (hs : ∀ k, k < w.heap.size → S k → S' k) : Ch S' w w' := ⟨h.os, h.tape, h.output, h.size, fun k hk hn => h.block k hk (fun c => hn (hs k hk c))⟩
theorem Ch.of_below {S : Nat → Prop} {w w' : World} (h : Below w.heap.size w w') : Ch S w w' := ⟨h.os, h.tape, h.output, h.size, fun k hk _ => h.block k hk⟩
theorem Ch.below {S : Nat → Prop} {B : Nat} {w w' : World} (h : Ch S w w') (hB : B ≤ w.heap.size) (hs : ∀ k, k < B → ¬ S k) : Below B w w' := ⟨h.os, h.tape, h.output, h.size, fun k hk => h.block k (by omega) (hs k hk)⟩
theorem Ch.set (w : World) (p : Addr) (u : Value) : Ch (· = p.block) w (w.setCell p u) := ⟨rfl, rfl, rfl, by simp [World.setCell], fun k _ hn => Below.heap_setCell _ _ _ _ hn⟩
theorem Ch.blk {S : Nat → Prop} {w w' : World} {g : Nat} {t : TypeId} {cs : Array Value} (h : Ch S w w') (b : Blk w g t cs) (hn : ¬ S g) : Blk w' g t cs := (h.block g b.lt hn).trans b
theorem Ch.tb {S : Nat → Prop} {w w' : World} {g : Nat} {t : TypeId} (h : Ch S w w') (b : TB w g t) (hn : ¬ S g) : TB w' g t := by
  obtain ⟨cs, fr, e⟩ := b; exact ⟨cs, fr, (h.block g (TB.lt ⟨cs, fr, e⟩) hn).trans e⟩
theorem Ch.cell {S : Nat → Prop} {w w' : World} {p : Addr} {v : Value} (h : Ch S w w') (hc : w.cell? p = some v) (hn : ¬ S p.block) : w'.cell? p = some v :=
  (World.cell?_of_block (h.block p.block (World.block_lt_of_cell? w p hc) hn)).trans hc
theorem Ch.rd {S : Nat → Prop} {w w' : World} {v : Value} {L : List UInt8} (h : Ch S w w') (r : Rd w v L) (hn : ∀ g, v.ownBlock = some g → ¬ S g) : Rd w' v L := by
  rcases r with r | ⟨b, off, cap, e, hc, hm, hs, r⟩
  · exact .inl r
  · subst e
    exact .inr ⟨b, off, cap, rfl, hc, hm, Nat.lt_of_lt_of_le hs h.size, fun k c hk => h.cell (r k c hk) (hn b rfl)⟩
theorem Ch.in8 {S : Nat → Prop} {w w' : World} {t : TypeId} {v : Value} (h : Ch S w w') (r : In8 w t v) (hn : ∀ g, v.ownBlock = some g → ¬ S g) : In8 w' t v := fun g hg => h.tb (r g hg) (hn g hg)
theorem Ch.own {S : Nat → Prop} {w w' : World} {base e size n : Nat} {v : Value} {xs : List Value} (h : Ch S w w') (r : w.ownsRow base e size v n xs) (hn : ∀ g, v.ownBlock = some g → ¬ S g) : w'.ownsRow base e size v n xs := by
  refine ⟨r.1, ?_⟩
  rcases r.2 with r | ⟨g, cap, cur, rfl, hb, hg, rest⟩
  · exact .inl r
  · exact .inr ⟨g, cap, cur, rfl, hb, (h.block g (Array.getElem?_eq_some_iff.1 hg).1 (hn g rfl)).trans hg, rest⟩
theorem TB.ne {w : World} {g g' : Nat} {t t' : TypeId} {cs : Array Value} (h : TB w g t) (h' : Blk w g' t' cs) (hne : t ≠ t') : g ≠ g' := by
  rintro rfl
  obtain ⟨c, f, e⟩ := h
  unfold Blk at h'
  rw [e] at h'
  injection h' with h'
  injection h' with _ ht
  exact hne ht
theorem Blk.ne {w : World} {g g' : Nat} {t t' : TypeId} {cs cs' : Array Value} (h : Blk w g t cs) (h' : Blk w g' t' cs') (hne : t ≠ t') : g ≠ g' := TB.ne ⟨cs, (0, 0), h⟩ h' hne
theorem Blk.tb {w : World} {g : Nat} {t : TypeId} {cs : Array Value} (h : Blk w g t cs) : TB w g t := ⟨cs, (0, 0), h⟩
/-- A row that lay at o has grown and lies at o' now: nothing else has changed. -/
def Grw (w w' : World) (o o' : Option Nat) : Prop := w.grownBy w' o ∧ (o' = o ∨ ∃ k, o' = some k ∧ w.heap.size ≤ k)
theorem Grw.refl (w : World) (o : Option Nat) : Grw w w o o := ⟨World.grownBy.refl w o, .inl rfl⟩
theorem Grw.trans {a b c : World} {o o1 o2 : Option Nat} (h : Grw a b o o1) (k : Grw b c o1 o2) : Grw a c o o2 := by
  refine ⟨⟨k.1.os.trans h.1.os, k.1.tape.trans h.1.tape, k.1.output.trans h.1.output, Nat.le_trans h.1.size k.1.size, fun i hi hn => ?_⟩, ?_⟩
  · refine (k.1.block i (Nat.lt_of_lt_of_le hi h.1.size) ?_).trans (h.1.block i hi hn)
    rcases h.2 with e | ⟨j, e, hj⟩
    · rw [e]; exact hn
    · rw [e]; intro c; injection c with c; omega
  · rcases k.2 with e | ⟨j, e, hj⟩
    · rcases h.2 with e' | ⟨j, e', hj⟩
      · exact .inl (e.trans e')
      · exact .inr ⟨j, e.trans e', hj⟩
    · exact .inr ⟨j, e, Nat.le_trans h.1.size hj⟩
theorem Grw.ch {w w' : World} {o o' : Option Nat} (h : Grw w w' o o') : Ch (fun k => o = some k) w w' := ⟨h.1.os, h.1.tape, h.1.output, h.1.size, fun k hk hn => h.1.block k hk (fun c => hn c.symm)⟩
theorem Grw.of_below {w w' : World} (h : Below w.heap.size w w') (o : Option Nat) : Grw w w' o o := ⟨grown_of_below h o, .inl rfl⟩
theorem Grw.below {w w' : World} {o o' : Option Nat} {B : Nat} (h : Grw w w' o o') (hB : B ≤ w.heap.size) (ho : ∀ k, o = some k → B ≤ k) : Below B w w' :=
  (Below.refl B w).grown h.1 hB ho
section
variable {P : Program} (w : World)
theorem run_app2 (base : Nat) (t ty e : TypeId) (i : TypeInfo) (z : Value) (size bytes : Nat) (ht : P.underlying t = some (.slice e)) (hi : P.info? e = some i) (hz : i.zero = some z)
    (hsize : i.size = size) (hby : i.bytes = bytes) (hzs : z.cells.size = size) (hsz : 0 < size) (v : Value) (n : Nat) (xs : List Value) (hown : w.ownsRow base e size v n xs)
    (x : Value) (m : Nat) (news : List Value) (hx : Src w size x m news) (h63 : n + m ≤ maxLen) (hbytes : (n + m) * bytes ≤ 140737488355328) (hbase : base ≤ w.heap.size) :
    ∃ v' w', (Builtin.append_ #[t, t] ty #[v, x]).run P w = .ok v' w' ∧ w'.ownsRow base e size v' (n + m) (xs ++ news) ∧ Grw w w' v.ownBlock v'.ownBlock := by
  obtain ⟨hl, h1, ⟨rfl, c, rfl⟩ | ⟨ad, c, rfl, hc⟩⟩ := hx
  · obtain rfl : news = [] := List.eq_nil_of_length_eq_zero (by simpa using hl)
    refine ⟨v, w, ?_, by simpa using hown, Grw.refl w _⟩
    rcases hown.2 with ⟨rfl, rfl⟩ | ⟨g, cap, cur, rfl, _, _, hnc, _⟩
    · simp [Builtin.append_, run_underlying ht, sizeOf, typeInfo, hi, Builtin.lenOf, Builtin.firstCells]
    · simp [Builtin.append_, run_underlying ht, sizeOf, typeInfo, hi, Builtin.lenOf, Builtin.firstCells, hnc, storeCells]
  · obtain ⟨v', w', hr, h2, h3, _, h5⟩ := run_append_own_at (P := P) w base t ty e i z size bytes ht hi hz hsize hby hzs hsz v n xs hown ad m c news hl hc h1 h63 hbytes hbase
    exact ⟨v', w', hr, h2, h3, h5.imp id fun h => ⟨_, h, Nat.le_refl _⟩⟩
theorem run_appS2 (base : Nat) (t u ty e : TypeId) (i : TypeInfo) (ht : P.underlying t = some (.slice e)) (hu : P.underlying u = some .string) (hi : P.info? e = some i) (hz : i.zero = some (.int .u8 0))
    (hsize : i.size = 1) (hby : i.bytes = 1) (v : Value) (n : Nat) (xs : List Value) (hown : w.ownsRow base e 1 v n xs) (s : ByteArray)
    (h63 : n + s.size ≤ maxLen) (hbytes : n + s.size ≤ 140737488355328) (hbase : base ≤ w.heap.size) :
    ∃ v' w', (Builtin.append_ #[t, u] ty #[v, .string s]).run P w = .ok v' w' ∧ w'.ownsRow base e 1 v' (n + s.size) (xs ++ Lib.strCells s) ∧ Grw w w' v.ownBlock v'.ownBlock := by
  obtain ⟨v', w', hr, h2, h3, h4⟩ := Lib.run_append_own_string (P := P) w base t u ty e i ht hu hi hz hsize hby v n xs hown s h63 hbytes hbase
  refine ⟨v', w', hr, h2, h3, ?_⟩
  have hsmall : n + s.size ≤ 9223372036854775807 := by simp only [maxLen] at h63; omega
  rcases hown.2 with ⟨rfl, rfl⟩ | ⟨g, cap, cur, rfl, hbg, hg, hnc, hcm, hcs, htake⟩
  · by_cases hm : s.size = 0
    · exact .inl (by rw [h4.2 ⟨rfl, hm⟩])
    · have hr' := run_append_nil_string (P := P) w t u ty e i (.int .u8 0) ht hu hi hz s (by omega) (by omega) (by rw [hby]; omega)
      rw [hr] at hr'
      injection hr' with e1 e2
      exact .inr ⟨_, by rw [e1]; rfl, Nat.le_refl _⟩
  · by_cases hroom : n + s.size ≤ cap
    · have hcs' : cur.size = cap := by simpa using hcs
      have hr' := Lib.run_append_room_string (P := P) w t u ty e i ht hu hi hsize g n cap cur hg s hroom (by omega)
      rw [hr] at hr'
      injection hr' with e1 e2
      exact .inl (by rw [e1]; rfl)
    · have holds : ∀ j u, xs[j]? = some u → w.cell? ((⟨g, 0, none⟩ : Addr).add j) = some u := hown.cells (g := g) rfl
      have hr' := Lib.run_append_grow_string (P := P) w t u ty e i (.int .u8 0) ht hu hi hz ⟨g, 0, none⟩ n cap xs (by rw [hsize]; exact hown.1) holds s (by omega) (by omega) (by rw [hby]; exact growslice_fits (by omega) (by omega))
      rw [hr] at hr'
      injection hr' with e1 e2
      exact .inr ⟨_, by rw [e1]; rfl, Nat.le_refl _⟩
theorem wpList_app2 {ops : Array Oper} {rest : List Oper} {o : Oper} {a : Act} {Q : Exit → Act → World → Prop} (hgd : o.guard = none) (s x : Operand) (t : TypeId)
    (ho : o.op = .call { callee := .builtin .append, args := #[s, x], argTypes := #[t, t] }) (base : Nat) (e : TypeId) (i : TypeInfo) (z : Value) (size bytes : Nat) (ht : P.underlying t = some (.slice e)) (hi : P.info? e = some i) (hz : i.zero = some z)
    (hsize : i.size = size) (hby : i.bytes = bytes) (hzs : z.cells.size = size) (hsz : 0 < size) (v : Value) (n : Nat) (xs : List Value) (hs : a.eval s = v) (hown : w.ownsRow base e size v n xs)
    (y : Value) (m : Nat) (news : List Value) (hy : a.eval x = y) (hx : Src w size y m news) (h63 : n + m ≤ maxLen) (hbytes : (n + m) * bytes ≤ 140737488355328) (hbase : base ≤ w.heap.size)
    (h : ∀ v' w', w'.ownsRow base e size v' (n + m) (xs ++ news) → Grw w w' v.ownBlock v'.ownBlock → wpList P ops Q rest (a.put o.dst v') w') : wpList P ops Q (o :: rest) a w := by
  obtain ⟨v', w', hr, h2, h3⟩ := run_app2 (P := P) w base t o.type e i z size bytes ht hi hz hsize hby hzs hsz v n xs hown y m news hx h63 hbytes hbase
  exact Lib.wpList_append_run w hgd s x t t ho v y hs hy v' w' hr (h v' w' h2 h3)
theorem wpList_appS2 {ops : Array Oper} {rest : List Oper} {o : Oper} {a : Act} {Q : Exit → Act → World → Prop} (hgd : o.guard = none) (sl x : Operand) (t u : TypeId)
    (ho : o.op = .call { callee := .builtin .append, args := #[sl, x], argTypes := #[t, u] }) (base : Nat) (e : TypeId) (i : TypeInfo) (ht : P.underlying t = some (.slice e)) (hu : P.underlying u = some .string) (hi : P.info? e = some i) (hz : i.zero = some (.int .u8 0))
    (hsize : i.size = 1) (hby : i.bytes = 1) (v : Value) (n : Nat) (xs : List Value) (hs : a.eval sl = v) (hown : w.ownsRow base e 1 v n xs) (s : ByteArray) (hx : a.eval x = .string s)
    (h63 : n + s.size ≤ maxLen) (hbytes : n + s.size ≤ 140737488355328) (hbase : base ≤ w.heap.size)
    (h : ∀ v' w', w'.ownsRow base e 1 v' (n + s.size) (xs ++ Lib.strCells s) → Grw w w' v.ownBlock v'.ownBlock → wpList P ops Q rest (a.put o.dst v') w') : wpList P ops Q (o :: rest) a w := by
  obtain ⟨v', w', hr, h2, h3⟩ := run_appS2 (P := P) w base t u o.type e i ht hu hi hz hsize hby v n xs hown s h63 hbytes hbase
  exact Lib.wpList_append_run w hgd sl x t u ho v (.string s) hs hx v' w' hr (h v' w' h2 h3)
/-- string(b). -/
theorem run_text {t u e : TypeId} (ht : P.underlying t = some (.slice e)) (he : P.underlying e = some (.int .u8)) (hu : P.underlying u = some .string) {v : Value} {L : List UInt8} (h : Rd w v L) :
    (convert t u v).run P w = .ok (.string (str L)) w := by
  rcases h with ⟨rfl, A, cap, rfl, _⟩ | ⟨b, off, cap, rfl, _, _, hb, h⟩
  · cases A with
    | none => rw [run_convert_bytes_nil w t e ht he 0 cap u hu]; rfl
    | some ad => exact run_convert_bytes_back w t u e ad cap [] ht he hu (fun j hj => by simp at hj)
  · refine run_convert_bytes_back w t u e ⟨b, off, none⟩ cap L ht he hu (fun j hj => ?_)
    rw [add_plain]; exact h j _ (List.getElem?_eq_getElem hj)
end
/-- A list of bytes was returned, behind what a row of base holds: the row has grown. -/
def GotB (t : TypeId) (w : World) (base : Nat) (o : Option Nat) (B : List UInt8) (e : Ending) (w' : World) : Prop := ∃ v, e = .returned v ∧ w'.ownsRow base t 1 v B.length (bc B) ∧ Grw w w' o v.ownBlock
end Go.Proofs.Hd

namespace Go.Proofs
open Go.RowKit Go.Proofs.Hd Go.Lib
attribute [local go_sem] uv_nonneg
theorem info8 : (Try.prog.info? 5).map (fun i => (i.zero, i.size, i.bytes)) = some (some (.int .u8 0), 1, 1) := by kernel_rfl
theorem take_next {L : List UInt8} {k : Nat} {x : UInt8} (h : L[k]? = some x) : L.take (k + 1) = L.take k ++ [x] := by
  obtain ⟨hi, e⟩ := List.getElem?_eq_some_iff.1 h
  rw [List.take_succ_eq_append_getElem hi, e]
set_option maxHeartbeats 400000 in
theorem number_c (v : Value) (L : List UInt8) (w : World) (hv : Rd w v L) : Calls Try.prog 29 #[v] w fun e w' => e = .returned (.int .u64 (uv (num L))) ∧ w = w' := by
  obtain ⟨A, cap, rfl, hlc, hcm, hc⟩ := hv.form
  have hl : (L.length : Int) ≤ 9223372036854775807 := by unfold maxLen at hcm; omega
  have HC := Lib.hid hc
  clear hc hv hlc hcm
  go_enter Try.func29, Try.ntmps29
  go_wp2
  go_loop [3, 5, 8] (fun s3 _ s8 => ∃ k : Nat, k ≤ L.length ∧ s8 = .int .i64 k ∧ s3 = .int .u64 (uv (num (L.take k)))) (fun _ _ s8 => L.length - (intOf s8).toNat)
  case atStart => exact ⟨0, Nat.zero_le _, rfl, rfl⟩
  case round =>
    obtain ⟨k, hk, rfl, rfl⟩ := hrel
    by_cases hlt : k < L.length
    · have hltz : (k : Int) < (L.length : Int) := by omega
      obtain ⟨x, hx⟩ : ∃ x, L[k]? = some x := ⟨_, List.getElem?_eq_getElem hlt⟩
      obtain ⟨b, off, rfl, hcell⟩ := HC.out k x hx
      have HS := Lib.hid (num_step (L.take k) x)
      have HT := Lib.hid (take_next hx)
      have hx1 : ((x.toNat : Nat) : Int) ≤ 255 := by have := byte_lt x; omega
      clear hx
      go_wp2
      go_round
      case rel => exact ⟨k + 1, by omega, by go_num, by rw [HT.out, ← HS.out]⟩
      case measure => simp [intOf]; omega
    · have hltz : ¬ (k : Int) < (L.length : Int) := by omega
      go_wp2
      go_ret
      exact ⟨by rw [List.take_of_length_le (by omega)]; rfl, rfl⟩
set_option maxHeartbeats 400000 in
theorem sum_c (v : Value) (L : List UInt8) (w : World) (hv : Rd w v L) : Calls Try.prog 25 #[v] w fun e w' => e = .returned (.int .u64 (uv (fnv L))) ∧ w = w' := by
  obtain ⟨A, cap, rfl, hlc, hcm, hc⟩ := hv.form
  have hl : (L.length : Int) ≤ 9223372036854775807 := by unfold maxLen at hcm; omega
  have HC := Lib.hid hc
  clear hc hv hlc hcm
  go_enter Try.func25, Try.ntmps25
  go_wp2
  go_loop [3, 5, 8] (fun s3 _ s8 => ∃ k : Nat, k ≤ L.length ∧ s8 = .int .i64 k ∧ s3 = .int .u64 (uv (fnv (L.take k)))) (fun _ _ s8 => L.length - (intOf s8).toNat)
  case atStart => exact ⟨0, Nat.zero_le _, rfl, by rw [List.take_zero, fnv_nil]⟩
  case round =>
    obtain ⟨k, hk, rfl, rfl⟩ := hrel
    by_cases hlt : k < L.length
    · have hltz : (k : Int) < (L.length : Int) := by omega
      obtain ⟨x, hx⟩ : ∃ x, L[k]? = some x := ⟨_, List.getElem?_eq_getElem hlt⟩
      obtain ⟨b, off, rfl, hcell⟩ := HC.out k x hx
      have HS := Lib.hid (fnv_step (L.take k) x)
      have HT := Lib.hid (take_next hx)
      have hx1 : ((x.toNat : Nat) : Int) ≤ 255 := by have := byte_lt x; omega
      clear hx
      go_wp2
      go_round
      case rel => exact ⟨k + 1, by omega, by go_num, by rw [HT.out, ← HS.out]⟩
      case measure => simp [intOf]; omega
    · have hltz : ¬ (k : Int) < (L.length : Int) := by omega
      go_wp2
      go_ret
      exact ⟨by rw [List.take_of_length_le (by omega)]; rfl, rfl⟩
theorem one8 {w : World} {g : Nat} {t : TypeId} {x : UInt8} (h : Blk w g t #[.int .u8 (x.toNat : Int)]) : Rd w (.slice (some ⟨g, 0, none⟩) 1 1) [x] := by
  refine .inr ⟨g, 0, 1, rfl, Nat.le_refl _, by simp [maxLen], h.lt, fun k c hk => ?_⟩
  have hk0 : k < 1 := by simpa using (List.getElem?_eq_some_iff.1 hk).1
  obtain rfl : k = 0 := by omega
  simp at hk
  subst hk
  exact h.cell 0
set_option maxHeartbeats 1000000 in
theorem withNumber_c (base : Nat) (v : Value) (B : List UInt8) (n : BitVec 64) (k : Nat) (w : World) (hk : k ≤ 8) (hB : B.length + 8 ≤ 140737488355328) (hb : base ≤ w.heap.size) (hown : w.ownsRow base 5 1 v B.length (bc B)) :
    Calls Try.prog 27 #[v, .int .u64 (uv n), .int .i64 k] w (GotB 5 w base v.ownBlock (B ++ bigB n k)) := by
  obtain ⟨i8, hi8, hz0, hz1, hz2⟩ := info_parts info8
  have hkz : (k : Int) ≤ 8 := by omega
  have HO := Lib.hid hown
  clear hown
  go_enter Try.func27, Try.ntmps27
  go_wp2
  go_loopg [0, 7, 9] k (fun gg s0 _ s9 wr => ∃ i : Nat, i ≤ k ∧ k - i ≤ gg ∧ s9 = .int .i64 i ∧ Hid (wr.ownsRow base 5 1 s0 (B ++ (bigB n k).take i).length (bc (B ++ (bigB n k).take i)) ∧ Grw w wr v.ownBlock s0.ownBlock))
  case atStart => exact ⟨0, Nat.zero_le _, by omega, rfl, by rw [List.take_zero, List.append_nil]; exact ⟨HO.out, Grw.refl _ _⟩⟩
  case round =>
    obtain ⟨i, hi, hg, rfl, HR⟩ := hrel
    by_cases hlt : i < k
    · have hltz : (i : Int) < (k : Int) := by omega
      obtain ⟨j, hj⟩ : ∃ j, i + 1 + j = k := ⟨k - i - 1, by omega⟩
      have hjz : (k : Int) - 1 - (i : Int) = (j : Int) := by omega
      have HJ := Lib.hid hj
      have hbv : uv n / 2 ^ (j * 8) % 256 = ((byt n j).toNat : Int) := by rw [← byt_step, IntKind.wrap_u8]
      have B1 := below1 wr (.cells #[.int .u8 ((byt n j).toNat : Int)] 5)
      have O1 := own_on HR.out.1 B1
      have S1 : Src (wr.alloc (.cells #[.int .u8 ((byt n j).toNat : Int)] 5)) 1 (.slice (some ⟨wr.heap.size, 0, none⟩) 1 1) 1 (bc [byt n j]) := (one8 (Blk.new wr 5 _)).src
      have G1 := HR.out.2.trans (Grw.of_below B1 _)
      have hz := HR.out.2.1.size
      have hl : (B ++ (bigB n k).take i).length + 1 ≤ B.length + 8 := by simp [bigB_len]; omega
      have HL := Lib.hid hl
      clear hj HR hl
      go_wp2_with (at_builtin; refine wpList_app2 _ rfl (.tmp 12) (.tmp 21) 34 rfl base 5 i8 _ 1 1 Try.underlying34 hi8 hz0 hz1 hz2 rfl (by decide) _ _ _ rfl O1 _ 1 _ rfl S1 ?q5 ?q6 ?q7 ?_)
      case q5 => have := HL.out; unfold maxLen; omega
      case q6 => have := HL.out; omega
      case q7 => simp; omega
      intro v2 w2 O2 G2
      clear O1 S1
      go_wp2
      go_roundg (k - (i + 1))
      case measure => omega
      case rel =>
        refine ⟨i + 1, by omega, by omega, by go_num, ?_, G1.trans G2⟩
        rw [bigB_take n k i j HJ.out, ← List.append_assoc]
        simpa [bc_append, Nat.add_assoc] using O2
    · have hltz : ¬ (i : Int) < (k : Int) := by omega
      go_wp2
      go_ret
      have e : (bigB n k).take i = bigB n k := by rw [show i = k by omega, bigB_full]
      rw [e] at HR
      exact ⟨_, rfl, HR.out.1, HR.out.2⟩
theorem withNumber8_c (base : Nat) (v : Value) (B : List UInt8) (n : BitVec 64) (w : World) (hB : B.length + 8 ≤ 140737488355328) (hb : base ≤ w.heap.size) (hown : w.ownsRow base 5 1 v B.length (bc B)) :
    Calls Try.prog 27 #[v, .int .u64 (uv n), .int .i64 8] w (GotB 5 w base v.ownBlock (B ++ bigB n 8)) := withNumber_c base v B n 8 w (Nat.le_refl _) hB hb hown
theorem nil8 : ∀ (w : World) (a : Option Addr) (n c n' c' : Nat), (binOp .eql 34 (.slice a n c) (.slice none n' c')).run Try.prog w = .ok (.bool a.isNone) w := fun w a n c n' c' => Lib.run_eql_slice_nil w _ _ a n c n' c' Try.underlying34
set_option maxRecDepth 100000 in
theorem clone8_c (v : Value) (L : List UInt8) (w : World) (hl : L.length ≤ 140737488355328) (hv : Rd w v L) : Calls Try.prog 28 #[v] w (GotB 5 w w.heap.size none L) := by
  have hs := hv.src
  have B0 := below1 w (.cells #[] 5)
  have hs1 := (hv.on B0).src
  have q := nil8
  clear hv
  obtain ⟨i8, hi8, hz0, hz1, hz2⟩ := info_parts info8
  obtain ⟨_, _, ⟨h0, c, rfl⟩ | ⟨ad, c, rfl, _⟩⟩ := hs
  · obtain rfl : L = [] := List.eq_nil_of_length_eq_zero h0
    go_enter Try.func28, Try.ntmps28
    go_wp2
    go_ret
    exact ⟨_, rfl, World.ownsRow_nil _ _ _ _, Grw.refl _ _⟩
  · have O := World.ownsRow_made (base := w.heap.size) (e := 5) (size := 1) w #[] 0 (Nat.le_refl _) (Nat.zero_le _) rfl
    go_enter Try.func28, Try.ntmps28
    go_wp2_with (at_builtin; refine wpList_app2 _ rfl (.tmp 5) (.tmp 6) 34 rfl w.heap.size 5 i8 _ 1 1 Try.underlying34 hi8 hz0 hz1 hz2 rfl (by decide) _ 0 [] rfl O _ L.length (bc L) rfl hs1 (by unfold maxLen; omega) (by omega) (by simp) ?_)
    intro v2 w2 hown G2
    clear hs1 O
    have B2 : Below w.heap.size w w2 := B0.trans (G2.below (by simp) (fun k hk => by simp [Value.ownBlock] at hk; omega))
    go_wp2
    go_ret
    refine ⟨_, rfl, by simpa using hown, grown_of_below B2 _, .inr ?_⟩
    rcases G2.2 with e | ⟨k, e, hk⟩
    · exact ⟨w.heap.size, e, Nat.le_refl _⟩
    · exact ⟨k, e, by simp at hk; omega⟩
end Go.Proofs

namespace Go.Proofs.Hd
open Go.RowKit
/-- A Writer lies in block p; its bytes are B, in a row of their own at o. -/
def Wrt (w : World) (base p : Nat) (o : Option Nat) (B : List UInt8) : Prop := ∃ v, Blk w p 53 #[v] ∧ v.ownBlock = o ∧ w.ownsRow base 5 1 v B.length (bc B)
/-- At most the Writer at p and its row at o have changed; the row is at o' now. -/
def Wst (w w' : World) (p : Nat) (o o' : Option Nat) : Prop := Ch (fun k => k = p ∨ o = some k) w w' ∧ (o' = o ∨ ∃ k, o' = some k ∧ w.heap.size ≤ k)
theorem Wst.trans {a b c : World} {p : Nat} {o o1 o2 : Option Nat} (h : Wst a b p o o1) (k : Wst b c p o1 o2) : Wst a c p o o2 := by
  refine ⟨⟨k.1.os.trans h.1.os, k.1.tape.trans h.1.tape, k.1.output.trans h.1.output, Nat.le_trans h.1.size k.1.size, fun i hi hn => ?_⟩, ?_⟩
  · refine (k.1.block i (Nat.lt_of_lt_of_le hi h.1.size) ?_).trans (h.1.block i hi hn)
    rintro (c | c)
    · exact hn (.inl c)
    · rcases h.2 with e | ⟨j, e, hj⟩
      · exact hn (.inr (e ▸ c))
      · rw [e] at c; injection c with c; omega
  · rcases k.2 with e | ⟨j, e, hj⟩
    · rcases h.2 with e' | ⟨j, e', hj⟩
      · exact .inl (e.trans e')
      · exact .inr ⟨j, e.trans e', hj⟩
    · exact .inr ⟨j, e, Nat.le_trans h.1.size hj⟩
theorem Wst.of_below {w w' : World} (h : Below w.heap.size w w') (p : Nat) (o : Option Nat) : Wst w w' p o o := ⟨Ch.of_below h, .inl rfl⟩
theorem Wrt.ne {w : World} {base p : Nat} {o : Option Nat} {B : List UInt8} (h : Wrt w base p o B) : o ≠ some p := by
  obtain ⟨v, hb, rfl, hown⟩ := h
  exact fun e => own_apart hown hb (by decide) e.symm
theorem Wrt.lt {w : World} {base p : Nat} {o : Option Nat} {B : List UInt8} (h : Wrt w base p o B) : p < w.heap.size ∧ ∀ k, o = some k → base ≤ k ∧ k < w.heap.size := by
  obtain ⟨v, hb, rfl, hown⟩ := h
  exact ⟨hb.lt, fun k hk => hown.lt k hk⟩
theorem Wrt.on {w w' : World} {base p : Nat} {o : Option Nat} {B : List UInt8} (h : Wrt w base p o B) (hb : Below w.heap.size w w') : Wrt w' base p o B := by
  obtain ⟨v, b, e, hown⟩ := h
  exact ⟨v, b.on hb, e, own_on hown hb⟩
theorem Wrt.ch {S : Nat → Prop} {w w' : World} {base p : Nat} {o : Option Nat} {B : List UInt8} (h : Wrt w base p o B) (hc : Ch S w w') (hp : ¬ S p) (ho : ∀ k, o = some k → ¬ S k) : Wrt w' base p o B := by
  obtain ⟨v, b, rfl, hown⟩ := h
  exact ⟨v, hc.blk b hp, rfl, hc.own hown ho⟩
theorem Wrt.rd {w : World} {base p : Nat} {o : Option Nat} {B : List UInt8} (h : Wrt w base p o B) : ∃ A cap, Blk w p 53 #[.slice A B.length cap] ∧ (Value.slice A B.length cap).ownBlock = o ∧ w.ownsRow base 5 1 (.slice A B.length cap) B.length (bc B) ∧ Rd w (.slice A B.length cap) B := by
  obtain ⟨v, b, e, hown⟩ := h
  have r := Rd.of_own hown
  obtain ⟨A, cap, rfl, _⟩ := r.form
  exact ⟨A, cap, b, e, hown, r⟩
/-- The Writer was returned; it has the bytes B now. -/
def DidW (w : World) (base p : Nat) (o : Option Nat) (B : List UInt8) (e : Ending) (w' : World) : Prop := e = .returned (.pointer (some ⟨p, 0, none⟩)) ∧ ∃ o', Wrt w' base p o' B ∧ Wst w w' p o o'
/-- A Writer's field is stored anew. -/
theorem Wrt.store {w w1 : World} {base p : Nat} {v v1 : Value} {B : List UInt8} (b : Blk w p 53 #[v]) (hown : w.ownsRow base 5 1 v B.length (bc B)) {C : List UInt8} (hown1 : w1.ownsRow base 5 1 v1 C.length (bc C)) (g : Grw w w1 v.ownBlock v1.ownBlock) :
    Wrt (w1.setCell ⟨p, 0, none⟩ v1) base p v1.ownBlock C ∧ Wst w (w1.setCell ⟨p, 0, none⟩ v1) p v.ownBlock v1.ownBlock := by
  have n0 : some p ≠ v.ownBlock := own_apart hown b (by decide)
  have b1 : Blk w1 p 53 #[v] := b.grown g.1 n0
  have n1 : some p ≠ v1.ownBlock := own_apart hown1 b1 (by decide)
  refine ⟨⟨v1, b1.set 0 v1, rfl, ownsRow_setCell_other hown1 (fun e => n1 e.symm) _⟩, ?_, g.2⟩
  exact (g.ch.mono fun k _ h => .inr h).trans ((Ch.set w1 ⟨p, 0, none⟩ v1).mono fun k _ h => .inl h)
end Go.Proofs.Hd
namespace Go.Proofs
open Go.RowKit Go.Proofs.Hd Go.Lib
attribute [local go_sem] uv_nonneg
theorem new_c (w : World) (base : Nat) : Calls Try.prog 7 #[] w fun e w' => e = .returned (.pointer (some ⟨w.heap.size, 0, none⟩)) ∧ Wrt w' base w.heap.size none [] ∧ Below w.heap.size w w' := by
  have B0 := below1 w (.cells #[.slice none 0 0] 53)
  have K0 : Wrt (w.alloc (.cells #[.slice none 0 0] 53)) base w.heap.size none [] := ⟨_, Blk.new w _ _, rfl, World.ownsRow_nil _ _ _ _⟩
  go_enter Try.func7, Try.ntmps7
  go_wp2
  go_ret
  exact ⟨rfl, K0, B0⟩
set_option maxHeartbeats 400000 in
theorem wide_c (w : World) (base p : Nat) (o : Option Nat) (B : List UInt8) (n : BitVec 64) (hb : base ≤ w.heap.size) (hB : B.length + 8 ≤ 140737488355328) (h : Wrt w base p o B) :
    Calls Try.prog 10 #[.pointer (some ⟨p, 0, none⟩), .int .u64 (uv n)] w (DidW w base p o (B ++ bigB n 8)) := by
  obtain ⟨A, cap, b, rfl, hown, -⟩ := h.rd
  have hcon := withNumber_c base _ B n 8 w (by omega) hB hb hown
  generalize B ++ bigB n 8 = C at hcon ⊢
  have c0 := b.cell 0
  simp at c0
  have HB := Lib.hid b
  have HO := Lib.hid hown
  clear b hown h
  go_enter Try.func10, Try.ntmps10
  go_wp2_with fail
  refine hcon.mono ?_
  rintro e w1 ⟨v1, rfl, O1, G1⟩
  obtain ⟨A1, cp1, rfl, -⟩ := (Rd.of_own O1).form
  have K := Wrt.store HB.out HO.out O1 G1
  have b1 := HB.out.grown G1.1 (own_apart HO.out HB.out (by decide))
  have f1 := b1.free 0
  have c1 := b1.cell 0
  simp at c1
  clear hcon O1 G1 b1
  go_wp2
  go_ret
  exact ⟨rfl, _, K.1, K.2⟩
theorem wide_nil (w : World) (n : BitVec 64) : Calls Try.prog 10 #[.pointer none, .int .u64 (uv n)] w fun e w' => e = .returned (.pointer none) ∧ w = w' := by
  go_enter Try.func10, Try.ntmps10
  go_wp2
  go_ret
  exact ⟨rfl, rfl⟩
theorem wnum_c (w : World) (base p : Nat) (o : Option Nat) (B : List UInt8) (x : Int) (hb : base ≤ w.heap.size) (hB : B.length + 8 ≤ 140737488355328) (h : Wrt w base p o B) :
    Calls Try.prog 8 #[.pointer (some ⟨p, 0, none⟩), .int .i64 x] w (DidW w base p o (B ++ bigB (BitVec.ofInt 64 x) 8)) := by
  have hcon := wide_c w base p o B (BitVec.ofInt 64 x) hb hB h
  rw [← wrapU_ofInt] at hcon
  clear h
  go_enter Try.func8, Try.ntmps8
  go_wp2_with fail
  refine hcon.mono ?_
  rintro e w1 ⟨rfl, K⟩
  go_wp2
  go_ret
  exact ⟨rfl, K⟩
theorem wnum_nil (w : World) (x : Int) : Calls Try.prog 8 #[.pointer none, .int .i64 x] w fun e w' => e = .returned (.pointer none) ∧ w = w' := by
  have hcon := wide_nil w (BitVec.ofInt 64 x)
  rw [← wrapU_ofInt] at hcon
  go_enter Try.func8, Try.ntmps8
  go_wp2_with fail
  refine hcon.mono ?_
  rintro e w1 ⟨rfl, rfl⟩
  go_wp2
  go_ret
  exact ⟨rfl, rfl⟩
end Go.Proofs

namespace Go.Proofs.Hd
open Go.RowKit
/-- The bytes of a text. -/
def sl (s : ByteArray) : List UInt8 := s.data.toList
theorem sl_len (s : ByteArray) : (sl s).length = s.size := by unfold sl; rw [Array.length_toList]; rfl
theorem sl_str (B : List UInt8) : sl (str B) = B := by simp [sl, str]
theorem str_sl (s : ByteArray) : str (sl s) = s := (str_of s).symm
theorem strCells_sl (s : ByteArray) : Lib.strCells s = bc (sl s) := rfl
theorem sl_inj {s t : ByteArray} (h : sl s = sl t) : s = t := by rw [← str_sl s, h, str_sl]
/-- Bytes were returned, in memory of the call's own; nothing that was there has changed. -/
def GotN (t : TypeId) (w : World) (B : List UInt8) (e : Ending) (w' : World) : Prop := ∃ v, e = .returned v ∧ w'.ownsRow w.heap.size t 1 v B.length (bc B) ∧ Below w.heap.size w w'
end Go.Proofs.Hd
namespace Go.Proofs
open Go.RowKit Go.Proofs.Hd Go.Lib
attribute [local go_sem] uv_nonneg
set_option maxHeartbeats 1000000 in
theorem text_small (w : World) (base p : Nat) (o : Option Nat) (B : List UInt8) (s : ByteArray) (hs : s.size ≤ 16777216) (hb : base ≤ w.heap.size) (hB : B.length + 16777228 ≤ 140737488355328) (h : Wrt w base p o B) :
    Calls Try.prog 11 #[.pointer (some ⟨p, 0, none⟩), .string s] w (DidW w base p o (B ++ txF (cutT (sl s)))) := by
  obtain ⟨A, cap, b, rfl, hown, -⟩ := h.rd
  obtain ⟨i8, hi8, hz0, hz1, hz2⟩ := info_parts info8
  have hsz : (s.size : Int) ≤ 16777216 := by omega
  have hsl := sl_len s
  have hcut : cutT (sl s) = sl s := by unfold cutT; rw [if_pos (by omega)]
  have hcon := withNumber_c base _ B (BitVec.ofNat 64 s.size) 4 w (by omega) (by omega) hb hown
  have hC : (B ++ bigB (BitVec.ofNat 64 s.size) 4).length = B.length + 4 := by rw [List.length_append, bigB_len]
  obtain ⟨D, HD⟩ : ∃ D, Hid (B ++ txF (cutT (sl s)) = D) := ⟨_, rfl⟩
  have HE : Hid ((B ++ bigB (BitVec.ofNat 64 s.size) 4) ++ sl s = D) := by show _ = _; rw [← HD.out, hcut, txF, hsl, List.append_assoc]
  rw [HD.out]
  generalize B ++ bigB (BitVec.ofNat 64 s.size) 4 = C at hcon hC HE ⊢
  have HC : Hid (C.length = B.length + 4) := hC
  have hcl : C.length ≤ 140737471578112 := by omega
  rw [wrapU_nat s.size (by omega)] at hcon
  clear hcut hsl
  have c0 := b.cell 0
  simp at c0
  have HB := Lib.hid b
  have HO := Lib.hid hown
  clear b hown h hC HD
  go_enter Try.func11, Try.ntmps11
  go_wp2_with fail
  refine hcon.mono ?_
  rintro e w1 ⟨v1, rfl, O1, G1⟩
  have b1 := HB.out.grown G1.1 (own_apart HO.out HB.out (by decide))
  have hz := G1.1.size
  have HB1 := Lib.hid b1
  clear hcon b1
  go_wp2_with (at_builtin; refine wpList_appS2 _ rfl (.tmp 18) (.tmp 19) 34 9 rfl base 5 i8 Try.underlying34 Try.underlying9 hi8 hz0 hz1 hz2 _ _ _ rfl O1 s rfl ?q1 ?q2 ?q3 ?_)
  case q1 => unfold maxLen; omega
  case q2 => omega
  case q3 => omega
  intro v2 w2 O2 G2
  have O3 : w2.ownsRow base 5 1 v2 D.length (bc D) := by
    rw [← HE.out, bc_append, List.length_append, sl_len]; exact O2
  obtain ⟨A2, cp2, rfl, -⟩ := (Rd.of_own O3).form
  have b2 := HB1.out.grown G2.1 (own_apart O1 HB1.out (by decide))
  have K := Wrt.store HB.out HO.out O3 (G1.trans G2)
  have f1 := b2.free 0
  have c1 := b2.cell 0
  simp at c1
  clear O1 O2 O3 G1 G2 b2
  go_wp2
  go_ret
  exact ⟨rfl, _, K.1, K.2⟩
set_option maxHeartbeats 1000000 in
theorem text_big (w : World) (base p : Nat) (o : Option Nat) (B : List UInt8) (s : ByteArray) (hs : ¬ s.size ≤ 16777216) (hb : base ≤ w.heap.size) (hB : B.length + 16777228 ≤ 140737488355328) (h : Wrt w base p o B) :
    Calls Try.prog 11 #[.pointer (some ⟨p, 0, none⟩), .string s] w (DidW w base p o (B ++ txF (cutT (sl s)))) := by
  obtain ⟨A, cap, b, rfl, hown, -⟩ := h.rd
  obtain ⟨i8, hi8, hz0, hz1, hz2⟩ := info_parts info8
  have hsz : (16777216 : Int) < (s.size : Int) := by omega
  have hsl := sl_len s
  have hcut : cutT (sl s) = [] := by unfold cutT; rw [if_neg (by omega)]
  have hcon := withNumber_c base _ B 0#64 4 w (by omega) (by omega) hb hown
  have hC : (B ++ bigB 0#64 4).length = B.length + 4 := by rw [List.length_append, bigB_len]
  obtain ⟨D, HD⟩ : ∃ D, Hid (B ++ txF (cutT (sl s)) = D) := ⟨_, rfl⟩
  have HE : Hid ((B ++ bigB 0#64 4) ++ sl ⟨#[]⟩ = D) := by show _ = _; rw [← HD.out, hcut]; show _ = B ++ (bigB 0#64 4 ++ []); rw [List.append_nil, show sl ⟨#[]⟩ = [] from rfl, List.append_nil]
  rw [HD.out]
  generalize B ++ bigB 0#64 4 = C at hcon hC HE ⊢
  have HC : Hid (C.length = B.length + 4) := hC
  have hcl : C.length ≤ 140737471578112 := by omega
  rw [← uv_zero] at hcon
  clear hcut hsl
  have c0 := b.cell 0
  simp at c0
  have HB := Lib.hid b
  have HO := Lib.hid hown
  clear b hown h hC HD
  go_enter Try.func11, Try.ntmps11
  go_wp2_with fail
  refine hcon.mono ?_
  rintro e w1 ⟨v1, rfl, O1, G1⟩
  have b1 := HB.out.grown G1.1 (own_apart HO.out HB.out (by decide))
  have hz := G1.1.size
  have HB1 := Lib.hid b1
  clear hcon b1
  go_wp2_with (at_builtin; refine wpList_appS2 _ rfl (.tmp 18) (.tmp 19) 34 9 rfl base 5 i8 Try.underlying34 Try.underlying9 hi8 hz0 hz1 hz2 _ _ _ rfl O1 ⟨#[]⟩ rfl ?q1 ?q2 ?q3 ?_)
  case q1 => show C.length + 0 ≤ _; unfold maxLen; omega
  case q2 => show C.length + 0 ≤ _; omega
  case q3 => omega
  intro v2 w2 O2 G2
  have O3 : w2.ownsRow base 5 1 v2 D.length (bc D) := by
    rw [← HE.out, bc_append, List.length_append, sl_len]; exact O2
  obtain ⟨A2, cp2, rfl, -⟩ := (Rd.of_own O3).form
  have b2 := HB1.out.grown G2.1 (own_apart O1 HB1.out (by decide))
  have K := Wrt.store HB.out HO.out O3 (G1.trans G2)
  have f1 := b2.free 0
  have c1 := b2.cell 0
  simp at c1
  clear O1 O2 O3 G1 G2 b2
  go_wp2
  go_ret
  exact ⟨rfl, _, K.1, K.2⟩
theorem text_c (w : World) (base p : Nat) (o : Option Nat) (B : List UInt8) (s : ByteArray) (hb : base ≤ w.heap.size) (hB : B.length + 16777228 ≤ 140737488355328) (h : Wrt w base p o B) :
    Calls Try.prog 11 #[.pointer (some ⟨p, 0, none⟩), .string s] w (DidW w base p o (B ++ txF (cutT (sl s)))) := by
  by_cases hs : s.size ≤ 16777216
  · exact text_small w base p o B s hs hb hB h
  · exact text_big w base p o B s hs hb hB h
theorem text_nil (w : World) : Calls Try.prog 11 #[.pointer none, .string ⟨#[97]⟩] w fun e w' => e = .returned (.pointer none) ∧ w = w' := by
  go_enter Try.func11, Try.ntmps11
  go_wp2
  go_ret
  exact ⟨rfl, rfl⟩
theorem bytes_nil (w : World) : Calls Try.prog 14 #[.pointer none] w fun e w' => e = .returned (.slice none 0 0) ∧ w = w' := by
  go_enter Try.func14, Try.ntmps14
  go_wp2
  go_ret
  exact ⟨rfl, rfl⟩
set_option maxHeartbeats 2000000 in
set_option maxRecDepth 100000 in
theorem bytes_c (w : World) (base p : Nat) (o : Option Nat) (B : List UInt8) (hB : B.length + 8 ≤ 140737488355328) (h : Wrt w base p o B) :
    Calls Try.prog 14 #[.pointer (some ⟨p, 0, none⟩)] w (GotN 5 w (seal8 B)) := by
  obtain ⟨A, cap, b, rfl, hown, hr⟩ := h.rd
  have c0 := b.cell 0
  simp at c0
  have hp : (⟨p, 0, none⟩ : Addr).block < w.heap.size := b.lt
  have HR := Lib.hid hr
  clear b hown h hr
  go_enter Try.func14, Try.ntmps14
  go_upto_region 3 with (fail)
  refine wp_region_held_drew (S := fun w' => Below w.heap.size w w' ∧ w'.cell? ⟨p, 0, none⟩ = some (.slice A B.length cap)) (by kernel_rfl) (⟨(Below.refl _ _).drew, c0⟩) (fun hHeld => ?_)
  refine wpAnyH_take (i := 0) (oi := ⟨some 5, _, _, _, _, _⟩) (v := ?vq0) rfl (by kernel_rfl) (by kernel_rfl) (by kernel_rfl) (fun _ _ _ h => h) (Or.inl ⟨by rfl, ?yq0⟩) hHeld ?rq0
  case yq0 => (intro w' hSw; (try dsimp only at hSw); go_simp; try (with_reducible rfl))
  simp only [Act.put, List.setIfInBounds_toArray, List.set_cons_zero, List.set_cons_succ]
  refine wpAnyH_take (i := 1) (oi := ⟨some 6, _, _, _, _, _⟩) (v := ?vq1) rfl (by kernel_rfl) (by kernel_rfl) (by kernel_rfl) (fun _ _ _ h => h) (Or.inl ⟨by rfl, ?yq1⟩) hHeld ?rq1
  case yq1 => (intro w' hSw; (try dsimp only at hSw); go_simp; try (with_reducible rfl))
  simp only [Act.put, List.setIfInBounds_toArray, List.set_cons_zero, List.set_cons_succ]
  refine wpAnyH_take (i := 2) (oi := ⟨some 7, _, _, _, _, _⟩) (v := ?vq2) rfl (by kernel_rfl) (by kernel_rfl) (by kernel_rfl) (fun _ _ _ h => h) (Or.inl ⟨by rfl, ?yq2⟩) hHeld ?rq2
  case yq2 => (intro w' hSw; (try dsimp only at hSw); go_simp; try (with_reducible rfl))
  simp only [Act.put, List.setIfInBounds_toArray, List.set_cons_zero, List.set_cons_succ]
  refine wpAnyH_take (i := 3) (oi := ⟨some 8, _, _, _, _, _⟩) (v := ?vq3) rfl (by kernel_rfl) (by kernel_rfl) (by kernel_rfl) (fun _ _ _ h => h) (Or.inl ⟨by rfl, ?yq3⟩) hHeld ?rq3
  case yq3 => (intro w' hSw; (try dsimp only at hSw); go_simp; try (with_reducible rfl))
  simp only [Act.put, List.setIfInBounds_toArray, List.set_cons_zero, List.set_cons_succ]
  refine wpAnyH_take (i := 5) (oi := ⟨some 10, _, _, _, _, _⟩) (v := ?vq5) rfl (by kernel_rfl) (by kernel_rfl) (by kernel_rfl) (fun _ _ _ h => h) (Or.inl ⟨by rfl, ?yq5⟩) hHeld ?rq5
  case yq5 => (intro w' hSw; (try dsimp only at hSw); go_simp; try (with_reducible rfl))
  simp only [Act.put, List.setIfInBounds_toArray, List.set_cons_zero, List.set_cons_succ]
  refine wpAnyH_take (i := 6) (oi := ⟨some 11, _, _, _, _, _⟩) (v := ?vq6) rfl (by kernel_rfl) (by kernel_rfl) (by kernel_rfl) (fun _ _ _ h => h) (Or.inl ⟨by rfl, ?yq6⟩) hHeld ?rq6
  case yq6 => (intro w' hSw; (try dsimp only at hSw); go_simp; try (with_reducible rfl))
  simp only [Act.put, List.setIfInBounds_toArray, List.set_cons_zero, List.set_cons_succ]
  refine wpAnyH_take (i := 7) (oi := ⟨some 12, _, _, _, _, _⟩) (v := ?vq7) rfl (by kernel_rfl) (by kernel_rfl) (by kernel_rfl) (fun _ _ _ h => h) (Or.inl ⟨by rfl, ?yq7⟩) hHeld ?rq7
  case yq7 => (intro w' hSw; (try dsimp only at hSw); go_simp; try (with_reducible rfl))
  simp only [Act.put, List.setIfInBounds_toArray, List.set_cons_zero, List.set_cons_succ]
  refine wpAnyH_take (i := 8) (oi := ⟨some 13, _, _, _, _, _⟩) (v := ?vq8) rfl (by kernel_rfl) (by kernel_rfl) (by kernel_rfl) (fun _ _ _ h => h) (Or.inl ⟨by rfl, ?yq8⟩) hHeld ?rq8
  case yq8 => (intro w' hSw; (try dsimp only at hSw); go_simp; try (with_reducible rfl))
  simp only [Act.put, List.setIfInBounds_toArray, List.set_cons_zero, List.set_cons_succ]
  refine wpAnyH_ready (rs := [4]) (by kernel_rfl) (by simp) ?_
  refine AllReadyH.cons (o := ⟨some 9, _, _, _, _, _⟩) rfl (fun K hK => ?_) AllReadyH.nil
  go_simp
  (with_reducible refine (clone8_c _ B _ (by omega) (HR.out.on hHeld.1)).mono ?_)
  rintro e w1 ⟨v1, rfl, O1, G1⟩
  have hb1 := G1.below (Nat.le_refl _) (fun k hk => by cases hk)
  replace O1 : w1.ownsRow w.heap.size 5 1 v1 B.length (bc B) := O1
  (try dsimp only)
  refine hK.out _ _ (⟨hHeld.1.trans (hb1.mono hHeld.1.size), on_some hb1 hHeld.2⟩) (fun hNext => ?_)
  clear hK K hHeld
  have hHeld := hNext
  clear hNext
  try simp only [Act.put, List.setIfInBounds_toArray, List.set_cons_zero, List.set_cons_succ]
  refine wpAnyH_ready (rs := [9]) (by kernel_rfl) (by simp) ?_
  refine AllReadyH.cons (o := ⟨some 14, _, _, _, _, _⟩) rfl (fun K hK => ?_) AllReadyH.nil
  go_simp
  (with_reducible refine (sum_c _ B _ (HR.out.on hHeld.1)).mono ?_)
  rintro e w2 ⟨rfl, rfl⟩
  (try dsimp only)
  refine hK.out _ _ (hHeld) (fun hNext => ?_)
  clear hK K hHeld
  have hHeld := hNext
  clear hNext
  try simp only [Act.put, List.setIfInBounds_toArray, List.set_cons_zero, List.set_cons_succ]
  refine wpAnyH_ready (rs := [10]) (by kernel_rfl) (by simp) ?_
  refine AllReadyH.cons (o := ⟨some 15, _, _, _, _, _⟩) rfl (fun K hK => ?_) AllReadyH.nil
  go_simp
  (with_reducible refine (withNumber8_c w.heap.size v1 B (fnv B) _ (by omega) hHeld.1.size O1).mono ?_)
  rintro e w3 ⟨v3, rfl, O3, G3⟩
  have hb3 := hHeld.1.trans (G3.below hHeld.1.size (fun k hk => (O1.lt k hk).1))
  (try dsimp only)
  refine hK.out _ _ (⟨hb3, (hb3.cell hp).trans c0⟩) (fun hNext => ?_)
  clear hK K hHeld
  have hHeld := hNext
  clear hNext
  try simp only [Act.put, List.setIfInBounds_toArray, List.set_cons_zero, List.set_cons_succ]
  refine wpAnyH_take (i := 11) (oi := ⟨some 2, _, _, _, _, _⟩) (v := ?vq11) rfl (by kernel_rfl) (by kernel_rfl) (by kernel_rfl) (fun _ _ _ h => h) (Or.inl ⟨by rfl, ?yq11⟩) hHeld ?rq11
  case yq11 => (intro w' hSw; (try dsimp only at hSw); go_simp; try (with_reducible rfl))
  simp only [Act.put, List.setIfInBounds_toArray, List.set_cons_zero, List.set_cons_succ]
  refine wpAnyH_done (by kernel_rfl) ?_ _
  have hL := hHeld.1
  clear hHeld G3 G1 O1 hb1 hb3
  go_wp2
  go_ret
  exact ⟨_, rfl, O3, hL⟩
end Go.Proofs

namespace Go.Proofs.Hd
open Go.RowKit
theorem block_add (a : Addr) (k : Nat) : (a.add k).block = a.block := by unfold Addr.add; split <;> rfl
theorem Rd.take {w : World} {A : Option Addr} {cap : Nat} {L : List UInt8} (h : Rd w (.slice A L.length cap) L) {k : Nat} (hk : k ≤ L.length) : Rd w (.slice A k cap) (L.take k) := by
  have hl : (L.take k).length = k := by simp; omega
  rcases h with ⟨rfl, B, cap', e, hm⟩ | ⟨b, off, cap', e, hc, hm, hb, h⟩
  · obtain rfl : k = 0 := by simpa using hk
    injection e with e1 e2 e3
    subst e1 e3
    exact .inl ⟨by simp, A, cap, rfl, hm⟩
  · injection e with e1 e2 e3
    subst e1 e3
    refine .inr ⟨b, off, cap, by rw [hl], by rw [hl]; omega, hm, hb, fun j c hj => h j c ?_⟩
    have hjn := (List.getElem?_eq_some_iff.1 hj).1
    rw [List.getElem?_take_of_lt (by rw [hl] at hjn; exact hjn)] at hj
    exact hj
theorem Rd.drop {w : World} {A : Option Addr} {cap : Nat} {L : List UInt8} (h : Rd w (.slice A L.length cap) L) {k : Nat} (hk : k ≤ L.length) (_hc : ¬ cap = k) : Rd w (.slice (A.map fun x => x.add k) (L.length - k) (cap - k)) (L.drop k) := by
  rcases h with ⟨rfl, B, cap', e, hm⟩ | ⟨b, off, cap', e, hc, hm, hb, h⟩
  · injection e with e1 e2 e3
    subst e1 e3
    exact .inl ⟨by simp, A.map fun x => x.add k, cap - k, by simp, by omega⟩
  · injection e with e1 e2 e3
    subst e1 e3
    refine .inr ⟨b, off + k, cap - k, ?_, by rw [List.length_drop]; omega, by omega, hb, fun j c hj => ?_⟩
    · rw [List.length_drop]; show Value.slice (some ((⟨b, off, none⟩ : Addr).add k)) _ _ = _; rw [add_plain]
    · rw [List.getElem?_drop] at hj
      have := h _ _ hj
      rwa [← Nat.add_assoc] at this
theorem Rd.dropAll {w : World} {A : Option Addr} {k : Nat} {L : List UInt8} (_h : Rd w (.slice A L.length k) L) (hk : L.length = k) : Rd w (.slice A (L.length - k) 0) (L.drop k) := by
  refine .inl ⟨by rw [List.drop_eq_nil_iff]; omega, A, 0, by rw [hk, Nat.sub_self], Nat.zero_le _⟩
/-- A Reader lies in block p; L is left, and e its first error. -/
def Rdr (w : World) (p : Nat) (L : List UInt8) (e : Int) : Prop := ∃ v, Blk w p 57 #[v, .int .i64 e] ∧ Rd w v L ∧ In8 w 5 v
theorem Rdr.form {w : World} {p : Nat} {L : List UInt8} {e : Int} (h : Rdr w p L e) : ∃ A cap, Blk w p 57 #[.slice A L.length cap, .int .i64 e] ∧ Rd w (.slice A L.length cap) L ∧ In8 w 5 (.slice A L.length cap) ∧ L.length ≤ cap ∧ cap ≤ maxLen := by
  obtain ⟨v, b, r, i⟩ := h
  obtain ⟨A, cap, rfl, h1, h2, -⟩ := r.form
  exact ⟨A, cap, b, r, i, h1, h2⟩
theorem Rdr.lt {w : World} {p : Nat} {L : List UInt8} {e : Int} (h : Rdr w p L e) : p < w.heap.size := by
  obtain ⟨v, b, -⟩ := h; exact b.lt
theorem Rdr.on {w w' : World} {p : Nat} {L : List UInt8} {e : Int} (h : Rdr w p L e) (hb : Below w.heap.size w w') : Rdr w' p L e := by
  obtain ⟨v, b, r, i⟩ := h; exact ⟨v, b.on hb, r.on hb, i.on hb⟩
/-- A block of another type has changed. -/
theorem Rdr.ch {w w' : World} {p q : Nat} {t : TypeId} {cs : Array Value} {L : List UInt8} {e : Int} (h : Rdr w p L e) (hq : Blk w q t cs) (hc : Ch (· = q) w w') (h1 : 57 ≠ t) (h2 : 5 ≠ t) : Rdr w' p L e := by
  obtain ⟨v, b, r, i⟩ := h
  have hn : ∀ g, v.ownBlock = some g → ¬ g = q := fun g hg => (i g hg).ne hq h2
  exact ⟨v, hc.blk b (b.ne hq h1), hc.rd r hn, hc.in8 i hn⟩
/-- Bytes of a Reader were taken. -/
def TookR (w : World) (p : Nat) (L : List UInt8) (e : Int) (n : Nat) (en : Ending) (w' : World) : Prop := ∃ v, en = .returned v ∧ Rd w' v (tkB L e n) ∧ Rdr w' p (tkL L e n) (tkE L e n) ∧ Ch (· = p) w w'
/-- A Reader returned a value; the rest is left. -/
def ReadR (w : World) (p : Nat) (v : Value) (L : List UInt8) (e : Int) (en : Ending) (w' : World) : Prop := en = .returned v ∧ Rdr w' p L e ∧ Ch (· = p) w w'
end Go.Proofs.Hd
namespace Go.Proofs
open Go.RowKit Go.Proofs.Hd Go.Lib
attribute [local go_sem] uv_nonneg
theorem take_err (w : World) (p : Nat) (L : List UInt8) (e : Int) (n : Int) (k : Nat) (he : e ≠ 0) (h : Rdr w p L e) :
    Calls Try.prog 32 #[.pointer (some ⟨p, 0, none⟩), .int .u64 n] w (TookR w p L e k) := by
  obtain ⟨A, cap, b, -⟩ := h.form
  have c1 := b.cell 1
  simp at c1
  have heb : (e == 0) = false := by simpa using he
  have hne : (e != 0) = true := by simpa using he
  have K : tkB L e k = [] ∧ tkL L e k = L ∧ tkE L e k = e := by unfold tkB tkL tkE; simp [he]
  have HK := Lib.hid K
  have HH := Lib.hid h
  clear b h K
  go_enter Try.func32, Try.ntmps32
  go_wp2
  go_ret
  refine ⟨_, rfl, ?_, ?_, Ch.refl _ _⟩
  · rw [HK.out.1]; exact Rd.nil _
  · rw [HK.out.2.1, HK.out.2.2]; exact HH.out
set_option maxHeartbeats 400000 in
theorem take_short (w : World) (p : Nat) (L : List UInt8) (n : Int) (k : Nat) (hn : n = (k : Int)) (hk : k < 18446744073709551616) (hL : L.length < k) (h : Rdr w p L 0) :
    Calls Try.prog 32 #[.pointer (some ⟨p, 0, none⟩), .int .u64 n] w (TookR w p L 0 k) := by
  obtain ⟨A, cap, b, -, -, h1, h2⟩ := h.form
  have c0 := b.cell 0
  have c1 := b.cell 1
  simp at c0 c1
  have f0 := b.free 0
  have f1 := b.free 1
  have K : tkB L 0 k = [] ∧ tkL L 0 k = [] ∧ tkE L 0 k = 3 := by unfold tkB tkL tkE; simp; omega
  have HK := Lib.hid K
  have N : Rdr ((w.setCell ⟨p, 0, none⟩ (.slice none 0 0)).setCell ⟨p, 1, none⟩ (.int .i64 3)) p [] 3 := ⟨_, (b.set 0 _).set 1 _, Rd.nil _, fun g hg => by cases hg⟩
  have C : Ch (· = p) w ((w.setCell ⟨p, 0, none⟩ (.slice none 0 0)).setCell ⟨p, 1, none⟩ (.int .i64 3)) := (Ch.set w ⟨p, 0, none⟩ _).trans (Ch.set _ ⟨p, 1, none⟩ _)
  have hLz : (L.length : Int) < n := by omega
  have hlz : (L.length : Int) ≤ 9223372036854775807 := by unfold maxLen at h2; omega
  have hn1 : n < 18446744073709551616 := by omega
  have hn0 : 0 ≤ n := by omega
  clear b h K hn hL hk h1 h2
  go_enter Try.func32, Try.ntmps32
  go_wp2
  go_ret
  refine ⟨_, rfl, ?_, ?_, C⟩
  · rw [HK.out.1]; exact Rd.nil _
  · rw [HK.out.2.1, HK.out.2.2]; exact N
set_option maxHeartbeats 400000 in
theorem take_ok (w : World) (p : Nat) (L : List UInt8) (n : Int) (k : Nat) (hn : n = (k : Int)) (hL : k ≤ L.length) (h : Rdr w p L 0) :
    Calls Try.prog 32 #[.pointer (some ⟨p, 0, none⟩), .int .u64 n] w (TookR w p L 0 k) := by
  obtain ⟨A, cap, b, r, i8, h1, h2⟩ := h.form
  have c0 := b.cell 0
  have c1 := b.cell 1
  simp at c0 c1
  have f0 := b.free 0
  subst hn
  have hLz : (k : Int) ≤ (L.length : Int) := by omega
  have hcz : (L.length : Int) ≤ (cap : Int) := by omega
  have hkz : (k : Int) ≤ (cap : Int) := by omega
  have hlz : (cap : Int) ≤ 9223372036854775807 := by unfold maxLen at h2; omega
  have K : tkB L 0 k = L.take k ∧ tkL L 0 k = L.drop k ∧ tkE L 0 k = 0 := by unfold tkB tkL tkE; simp [hL]
  have HK := Lib.hid K
  have HB := Lib.hid b
  have HR := Lib.hid r
  have HI := Lib.hid i8
  have hn : ∀ g, (Value.slice A k cap).ownBlock = some g → ¬ g = p := fun g hg => (i8 g (by cases A <;> exact hg)).ne b (by decide)
  have HN := Lib.hid hn
  clear b h h1 h2 K r i8 hn
  have fin : ∀ (A' : Option Addr) (cap' : Nat), Rd w (.slice A' (L.length - k) cap') (L.drop k) → In8 w 5 (.slice A' (L.length - k) cap') → (Value.slice A' (L.length - k) cap').ownBlock = (Value.slice A k cap).ownBlock →
      TookR w p L 0 k (.returned (.slice A k cap)) (w.setCell ⟨p, 0, none⟩ (.slice A' (L.length - k) cap')) := by
    intro A' cap' r' i' e'
    have C := Ch.set w ⟨p, 0, none⟩ (.slice A' (L.length - k) cap')
    refine ⟨_, rfl, ?_, ?_, C⟩
    · rw [HK.out.1]; exact C.rd (HR.out.take hL) HN.out
    · rw [HK.out.2.1, HK.out.2.2]
      exact ⟨_, HB.out.set 0 _, C.rd r' (fun g hg => HN.out g (e' ▸ hg)), C.in8 i' (fun g hg => HN.out g (e' ▸ hg))⟩
  have HF := Lib.hid fin
  clear fin
  go_enter Try.func32, Try.ntmps32
  go_wp2
  · subst h
    go_ret
    refine HF.out A 0 ?_ (fun g hg => HI.out g (by cases A <;> exact hg)) (by cases A <;> rfl)
    exact HR.out.dropAll (by omega)
  · go_ret
    refine HF.out _ _ (HR.out.drop hL h) (fun g hg => HI.out g ?_) ?_
    · cases A with
      | none => cases hg
      | some a => rw [← hg]; exact congrArg some (block_add a k).symm
    · cases A with
      | none => rfl
      | some a => exact congrArg some (block_add a k)
theorem take_c (w : World) (p : Nat) (L : List UInt8) (e : Int) (n : Int) (k : Nat) (hn : n = (k : Int)) (hk : k < 18446744073709551616) (h : Rdr w p L e) :
    Calls Try.prog 32 #[.pointer (some ⟨p, 0, none⟩), .int .u64 n] w (TookR w p L e k) := by
  by_cases he : e = 0
  · subst he
    by_cases hL : k ≤ L.length
    · exact take_ok w p L n k hn hL h
    · exact take_short w p L n k hn hk (by omega) h
  · exact take_err w p L e n k he h
theorem take_nil (w : World) (n : Int) : Calls Try.prog 32 #[.pointer none, .int .u64 n] w fun e w' => e = .returned (.slice none 0 0) ∧ w = w' := by
  go_enter Try.func32, Try.ntmps32
  go_wp2
  go_ret
  exact ⟨rfl, rfl⟩
theorem rwide_c (w : World) (p : Nat) (L : List UInt8) (e : Int) (h : Rdr w p L e) :
    Calls Try.prog 20 #[.pointer (some ⟨p, 0, none⟩)] w (ReadR w p (.int .u64 (uv (num (tkB L e 8)))) (tkL L e 8) (tkE L e 8)) := by
  have hcon := take_c w p L e 8 8 rfl (by omega) h
  clear h
  go_enter Try.func20, Try.ntmps20
  go_wp2_with fail
  refine hcon.mono ?_
  rintro en w1 ⟨v1, rfl, R1, K1, C1⟩
  have hcon2 := number_c v1 _ w1 R1
  go_wp2_with fail
  refine hcon2.mono ?_
  rintro en w2 ⟨rfl, rfl⟩
  clear hcon hcon2 R1
  go_wp2
  go_ret
  exact ⟨rfl, K1, C1⟩
theorem rwide_nil (w : World) : Calls Try.prog 20 #[.pointer none] w fun e w' => e = .returned (.int .u64 0) ∧ w = w' := by
  have hcon := take_nil w 8
  go_enter Try.func20, Try.ntmps20
  go_wp2_with fail
  refine hcon.mono ?_
  rintro en w1 ⟨rfl, rfl⟩
  have hcon2 := number_c _ _ w (Rd.nil w)
  go_wp2_with fail
  refine hcon2.mono ?_
  rintro en w2 ⟨rfl, rfl⟩
  clear hcon hcon2
  go_wp2
  go_ret
  exact ⟨rfl, rfl⟩
theorem rnum_c (w : World) (p : Nat) (L : List UInt8) (e : Int) (h : Rdr w p L e) :
    Calls Try.prog 18 #[.pointer (some ⟨p, 0, none⟩)] w (ReadR w p (.int .i64 (wrap64 (uv (num (tkB L e 8))))) (tkL L e 8) (tkE L e 8)) := by
  have hcon := rwide_c w p L e h
  generalize num (tkB L e 8) = x at hcon ⊢
  clear h
  go_enter Try.func18, Try.ntmps18
  go_wp2_with fail
  refine hcon.mono ?_
  rintro en w1 ⟨rfl, K1, C1⟩
  clear hcon
  go_wp2
  go_ret
  exact ⟨rfl, K1, C1⟩
theorem rnum_nil (w : World) : Calls Try.prog 18 #[.pointer none] w fun e w' => e = .returned (.int .i64 0) ∧ w = w' := by
  have hcon := rwide_nil w
  go_enter Try.func18, Try.ntmps18
  go_wp2_with fail
  refine hcon.mono ?_
  rintro en w1 ⟨rfl, rfl⟩
  go_wp2
  go_ret
  exact ⟨rfl, rfl⟩
/-- What Text reads, and what is left. -/
def txB (L : List UInt8) (e : Int) : List UInt8 := tkB (tkL L e 4) (tkE L e 4) (num (tkB L e 4)).toNat
def txL (L : List UInt8) (e : Int) : List UInt8 := tkL (tkL L e 4) (tkE L e 4) (num (tkB L e 4)).toNat
def txE (L : List UInt8) (e : Int) : Int := tkE (tkL L e 4) (tkE L e 4) (num (tkB L e 4)).toNat
theorem rtext_c (w : World) (p : Nat) (L : List UInt8) (e : Int) (h : Rdr w p L e) :
    Calls Try.prog 21 #[.pointer (some ⟨p, 0, none⟩)] w (ReadR w p (.string (str (txB L e))) (txL L e) (txE L e)) := by
  have hcon := take_c w p L e 4 4 rfl (by omega) h
  unfold txB txL txE
  obtain ⟨M, HM⟩ : ∃ M, Hid (tkL L e 4 = M) := ⟨_, rfl⟩
  obtain ⟨f, HF⟩ : ∃ f, Hid (tkE L e 4 = f) := ⟨_, rfl⟩
  obtain ⟨N, HN⟩ : ∃ N, Hid (tkB L e 4 = N) := ⟨_, rfl⟩
  rw [HM.out, HF.out, HN.out]
  clear h
  go_enter Try.func21, Try.ntmps21
  go_wp2_with fail
  refine hcon.mono ?_
  rintro en w1 ⟨v1, rfl, R1, K1, C1⟩
  clear hcon
  rw [HM.out, HF.out] at K1
  rw [HN.out] at R1
  have hcon2 := number_c v1 _ w1 R1
  go_wp2_with fail
  refine hcon2.mono ?_
  rintro en w2 ⟨rfl, rfl⟩
  have hcon3 := take_c w1 p M f (uv (num N)) (num N).toNat rfl (num N).isLt K1
  clear hcon2 R1 K1
  go_wp2_with fail
  refine hcon3.mono ?_
  rintro en w2 ⟨v2, rfl, R2, K2, C2⟩
  clear hcon3
  have hr := run_text (P := Try.prog) w2 Try.underlying34 Try.underlying5 Try.underlying9 R2
  obtain ⟨A2, cp2, rfl, -⟩ := R2.form
  go_wp2
  go_ret
  exact ⟨rfl, K2, C1.trans C2⟩
theorem rtext_nil (w : World) : Calls Try.prog 21 #[.pointer none] w fun e w' => e = .returned (.string ⟨#[]⟩) ∧ w = w' := by
  have hcon := take_nil w 4
  go_enter Try.func21, Try.ntmps21
  go_wp2_with fail
  refine hcon.mono ?_
  rintro en w1 ⟨rfl, rfl⟩
  have hcon2 := number_c _ _ w (Rd.nil w)
  go_wp2_with fail
  refine hcon2.mono ?_
  rintro en w2 ⟨rfl, rfl⟩
  clear hcon hcon2
  have hcon3 := take_nil w (uv (num []))
  go_wp2_with fail
  refine hcon3.mono ?_
  rintro en w1 ⟨rfl, rfl⟩
  have hr := run_text (P := Try.prog) w Try.underlying34 Try.underlying5 Try.underlying9 (Rd.nil w)
  clear hcon3
  go_wp2
  go_ret
  exact ⟨rfl, rfl⟩
theorem left_c (w : World) (p : Nat) (L : List UInt8) (e : Int) (h : Rdr w p L e) : Calls Try.prog 23 #[.pointer (some ⟨p, 0, none⟩)] w fun en w' => en = .returned (.int .i64 (L.length : Int)) ∧ w = w' := by
  obtain ⟨A, cap, b, -⟩ := h.form
  have c0 := b.cell 0
  simp at c0
  clear b h
  go_enter Try.func23, Try.ntmps23
  go_wp2
  go_ret
  exact ⟨rfl, rfl⟩
theorem left_nil (w : World) : Calls Try.prog 23 #[.pointer none] w fun en w' => en = .returned (.int .i64 0) ∧ w = w' := by
  go_enter Try.func23, Try.ntmps23
  go_wp2
  go_ret
  exact ⟨rfl, rfl⟩
/-- What End says. -/
def endE (L : List UInt8) (e : Int) : Int := if L.length = 0 then e else 2
theorem end_c (w : World) (p : Nat) (L : List UInt8) (e : Int) (h : Rdr w p L e) : Calls Try.prog 24 #[.pointer (some ⟨p, 0, none⟩)] w fun en w' => en = .returned (.int .i64 (endE L e)) ∧ w = w' := by
  obtain ⟨A, cap, b, -⟩ := h.form
  have c0 := b.cell 0
  have c1 := b.cell 1
  simp at c0 c1
  clear b h
  unfold endE
  by_cases hl : L.length = 0
  · rw [if_pos hl]
    have hz : ¬ (0 : Int) < (L.length : Int) := by omega
    clear hl
    go_enter Try.func24, Try.ntmps24
    go_wp2
    go_ret
    exact ⟨rfl, rfl⟩
  · rw [if_neg hl]
    have hz : (0 : Int) < (L.length : Int) := by omega
    clear hl
    go_enter Try.func24, Try.ntmps24
    go_wp2
    go_ret
    exact ⟨rfl, rfl⟩
theorem end_nil (w : World) : Calls Try.prog 24 #[.pointer none] w fun en w' => en = .returned (.int .i64 1) ∧ w = w' := by
  go_enter Try.func24, Try.ntmps24
  go_wp2
  go_ret
  exact ⟨rfl, rfl⟩
end Go.Proofs

namespace Go.Proofs.Hd
open Go.RowKit
/-- The error and what is left at the start. -/
def rdE (L : List UInt8) : Int := if L.length < 8 then 3 else if num (L.drop (L.length - 8)) = fnv (L.take (L.length - 8)) then 0 else 2
def rdL (L : List UInt8) : List UInt8 := if L.length < 8 then [] else if num (L.drop (L.length - 8)) = fnv (L.take (L.length - 8)) then L.take (L.length - 8) else []
theorem rd_inv (L : List UInt8) : rdE L ≠ 0 → rdL L = [] := by
  unfold rdE rdL
  by_cases h1 : L.length < 8
  · simp [h1]
  · by_cases h2 : num (L.drop (L.length - 8)) = fnv (L.take (L.length - 8)) <;> simp [h1, h2]
/-- A new Reader was returned; nothing that was there has changed. -/
def NewR (w : World) (L : List UInt8) (e : Int) (en : Ending) (w' : World) : Prop := ∃ p, en = .returned (.pointer (some ⟨p, 0, none⟩)) ∧ w.heap.size ≤ p ∧ Rdr w' p L e ∧ Below w.heap.size w w'
theorem Rdr.new (w : World) (v : Value) (e : Int) (L : List UInt8) (r : Rd w v L) (i : In8 w 5 v) : Rdr (w.alloc (.cells #[v, .int .i64 e] 57)) w.heap.size L e :=
  ⟨v, Blk.new w _ _, r.on (below1 w _), i.on (below1 w _)⟩
end Go.Proofs.Hd
namespace Go.Proofs
open Go.RowKit Go.Proofs.Hd Go.Lib
attribute [local go_sem] uv_nonneg
theorem read_short (w : World) (v : Value) (L : List UInt8) (hl : L.length < 8) (h : Rd w v L) : Calls Try.prog 16 #[v] w (NewR w [] 3) := by
  obtain ⟨A, cap, rfl, -⟩ := h.form
  have hz : (L.length : Int) < 8 := by omega
  have N := Rdr.new w (.slice none 0 0) 3 [] (Rd.nil w) (fun g hg => by cases hg)
  have B := below1 w (.cells #[.slice none 0 0, .int .i64 3] 57)
  clear h
  go_enter Try.func16, Try.ntmps16
  go_wp2
  go_ret
  exact ⟨_, rfl, Nat.le_refl _, N, B⟩
set_option maxHeartbeats 1000000 in
set_option maxRecDepth 100000 in
theorem read_bad (w : World) (v : Value) (L : List UInt8) (hl : 8 ≤ L.length) (hq : num (L.drop (L.length - 8)) ≠ fnv (L.take (L.length - 8))) (h : Rd w v L) : Calls Try.prog 16 #[v] w (NewR w [] 2) := by
  obtain ⟨A, cap, rfl, h1, h2, -⟩ := h.form
  obtain ⟨m, hm⟩ : ∃ m, m + 8 = L.length := ⟨L.length - 8, by omega⟩
  have em : L.length - 8 = m := by omega
  rw [em] at hq
  have r1 := h.drop (k := m) (by omega) (by omega)
  have r2 := h.take (k := m) (by omega)
  rw [show L.length - m = 8 by omega] at r1
  have HR1 := Lib.hid r1
  have HR2 := Lib.hid r2
  have hmz : (L.length : Int) - 8 = (m : Int) := by omega
  have hnz : ¬ (L.length : Int) - 8 < 0 := by omega
  have hm0 : ¬ (m : Int) < 0 := by omega
  have hmc : (m : Int) ≤ (L.length : Int) := by omega
  have hmk : (m : Int) ≤ (cap : Int) := by omega
  have hlc : (L.length : Int) ≤ (cap : Int) := by omega
  have hcz : (cap : Int) ≤ 9223372036854775807 := by unfold maxLen at h2; omega
  have hck : ¬ cap = m := by omega
  have hl8 : L.length - m = 8 := by omega
  have hqb : (uv (num (L.drop m)) != uv (fnv (L.take m))) = true := by simp only [bne, uv_beq]; simpa using hq
  clear h h1 h2 hm em r1 r2 hq hl
  go_enter Try.func16, Try.ntmps16
  go_upto_region 4 with (fail)
  refine wp_region_held_drew (S := fun w' => Below w.heap.size w w') (by kernel_rfl) ((Below.refl _ _).drew) (fun hHeld => ?_)
  refine wpAnyH_take (i := 0) (oi := ⟨some 11, _, _, _, _, _⟩) (v := ?vq0) rfl (by kernel_rfl) (by kernel_rfl) (by kernel_rfl) (fun _ _ _ h => h) (Or.inl ⟨by rfl, ?yq0⟩) hHeld ?rq0
  case yq0 => (intro w' hSw; (try dsimp only at hSw); go_simp; try (with_reducible rfl))
  simp only [Act.put, List.setIfInBounds_toArray, List.set_cons_zero, List.set_cons_succ]
  refine wpAnyH_take (i := 1) (oi := ⟨some 12, _, _, _, _, _⟩) (v := ?vq1) rfl (by kernel_rfl) (by kernel_rfl) (by kernel_rfl) (fun _ _ _ h => h) (Or.inl ⟨by rfl, ?yq1⟩) hHeld ?rq1
  case yq1 => (intro w' hSw; (try dsimp only at hSw); go_simp; try (with_reducible rfl))
  simp only [Act.put, List.setIfInBounds_toArray, List.set_cons_zero, List.set_cons_succ]
  refine wpAnyH_take (i := 2) (oi := ⟨some 13, _, _, _, _, _⟩) (v := ?vq2) rfl (by kernel_rfl) (by kernel_rfl) (by kernel_rfl) (fun _ _ _ h => h) (Or.inl ⟨by rfl, ?yq2⟩) hHeld ?rq2
  case yq2 => (intro w' hSw; (try dsimp only at hSw); go_simp; try (with_reducible rfl))
  simp only [Act.put, List.setIfInBounds_toArray, List.set_cons_zero, List.set_cons_succ]
  refine wpAnyH_take (i := 4) (oi := ⟨some 15, _, _, _, _, _⟩) (v := ?vq4) rfl (by kernel_rfl) (by kernel_rfl) (by kernel_rfl) (fun _ _ _ h => h) (Or.inl ⟨by rfl, ?yq4⟩) hHeld ?rq4
  case yq4 => (intro w' hSw; (try dsimp only at hSw); go_simp; try (with_reducible rfl))
  simp only [Act.put, List.setIfInBounds_toArray, List.set_cons_zero, List.set_cons_succ]
  refine wpAnyH_take (i := 5) (oi := ⟨some 16, _, _, _, _, _⟩) (v := ?vq5) rfl (by kernel_rfl) (by kernel_rfl) (by kernel_rfl) (fun _ _ _ h => h) (Or.inl ⟨by rfl, ?yq5⟩) hHeld ?rq5
  case yq5 => (intro w' hSw; (try dsimp only at hSw); go_simp; try (with_reducible rfl))
  simp only [Act.put, List.setIfInBounds_toArray, List.set_cons_zero, List.set_cons_succ]
  refine wpAnyH_take (i := 6) (oi := ⟨some 17, _, _, _, _, _⟩) (v := ?vq6) rfl (by kernel_rfl) (by kernel_rfl) (by kernel_rfl) (fun _ _ _ h => h) (Or.inl ⟨by rfl, ?yq6⟩) hHeld ?rq6
  case yq6 => (intro w' hSw; (try dsimp only at hSw); go_simp; try (with_reducible rfl))
  simp only [Act.put, List.setIfInBounds_toArray, List.set_cons_zero, List.set_cons_succ]
  refine wpAnyH_ready (rs := [3]) (by kernel_rfl) (by simp) ?_
  refine AllReadyH.cons (o := ⟨some 14, _, _, _, _, _⟩) rfl (fun K hK => ?_) AllReadyH.nil
  go_simp
  (with_reducible refine (number_c _ _ _ (HR1.out.on hHeld)).mono ?_)
  rintro e w1 ⟨rfl, rfl⟩
  (try dsimp only)
  refine hK.out _ _ (hHeld) (fun hNext => ?_)
  clear hK K hHeld
  have hHeld := hNext
  clear hNext
  try simp only [Act.put, List.setIfInBounds_toArray, List.set_cons_zero, List.set_cons_succ]
  refine wpAnyH_ready (rs := [7]) (by kernel_rfl) (by simp) ?_
  refine AllReadyH.cons (o := ⟨some 18, _, _, _, _, _⟩) rfl (fun K hK => ?_) AllReadyH.nil
  go_simp
  (with_reducible refine (sum_c _ _ _ (HR2.out.on hHeld)).mono ?_)
  rintro e w2 ⟨rfl, rfl⟩
  (try dsimp only)
  refine hK.out _ _ (hHeld) (fun hNext => ?_)
  clear hK K hHeld
  have hHeld := hNext
  clear hNext
  try simp only [Act.put, List.setIfInBounds_toArray, List.set_cons_zero, List.set_cons_succ]
  refine wpAnyH_take (i := 8) (oi := ⟨some 19, _, _, _, _, _⟩) (v := ?vq8) rfl (by kernel_rfl) (by kernel_rfl) (by kernel_rfl) (fun _ _ _ h => h) (Or.inl ⟨by rfl, ?yq8⟩) hHeld ?rq8
  case yq8 => (intro w' hSw; (try dsimp only at hSw); go_simp; try (with_reducible rfl))
  simp only [Act.put, List.setIfInBounds_toArray, List.set_cons_zero, List.set_cons_succ]
  refine wpAnyH_done (by kernel_rfl) ?_ _
  clear HR1 HR2
  have N := fun W : World => Rdr.new W (.slice none 0 0) 2 [] (Rd.nil W) (fun g hg => by cases hg)
  have HN := Lib.hid N
  have hz := hHeld.size
  have HH := Lib.hid hHeld
  clear N hHeld
  go_wp2
  go_ret
  exact ⟨_, rfl, hz, HN.out _, HH.out.trans ((below1 _ _).mono hz)⟩
set_option maxHeartbeats 1000000 in
set_option maxRecDepth 100000 in
theorem read_good (w : World) (v : Value) (L : List UInt8) (hl : 8 ≤ L.length) (hs : L.length ≤ 140737488355328) (hq : num (L.drop (L.length - 8)) = fnv (L.take (L.length - 8))) (h : Rd w v L) : Calls Try.prog 16 #[v] w (NewR w (L.take (L.length - 8)) 0) := by
  obtain ⟨A, cap, rfl, h1, h2, -⟩ := h.form
  obtain ⟨m, hm⟩ : ∃ m, m + 8 = L.length := ⟨L.length - 8, by omega⟩
  have em : L.length - 8 = m := by omega
  rw [em] at hq
  have r1 := h.drop (k := m) (by omega) (by omega)
  have r2 := h.take (k := m) (by omega)
  rw [show L.length - m = 8 by omega] at r1
  have HR1 := Lib.hid r1
  have HR2 := Lib.hid r2
  have hmz : (L.length : Int) - 8 = (m : Int) := by omega
  have hnz : ¬ (L.length : Int) - 8 < 0 := by omega
  have hm0 : ¬ (m : Int) < 0 := by omega
  have hmc : (m : Int) ≤ (L.length : Int) := by omega
  have hmk : (m : Int) ≤ (cap : Int) := by omega
  have hlc : (L.length : Int) ≤ (cap : Int) := by omega
  have hcz : (cap : Int) ≤ 9223372036854775807 := by unfold maxLen at h2; omega
  have hck : ¬ cap = m := by omega
  have hl8 : L.length - m = 8 := by omega
  have hqb : (uv (num (L.drop m)) != uv (fnv (L.take m))) = false := by rw [hq]; simp
  rw [em]
  clear h h1 h2 hm em r1 r2 hq hl
  go_enter Try.func16, Try.ntmps16
  go_upto_region 4 with (fail)
  refine wp_region_held_drew (S := fun w' => Below w.heap.size w w') (by kernel_rfl) ((Below.refl _ _).drew) (fun hHeld => ?_)
  refine wpAnyH_take (i := 0) (oi := ⟨some 11, _, _, _, _, _⟩) (v := ?vq0) rfl (by kernel_rfl) (by kernel_rfl) (by kernel_rfl) (fun _ _ _ h => h) (Or.inl ⟨by rfl, ?yq0⟩) hHeld ?rq0
  case yq0 => (intro w' hSw; (try dsimp only at hSw); go_simp; try (with_reducible rfl))
  simp only [Act.put, List.setIfInBounds_toArray, List.set_cons_zero, List.set_cons_succ]
  refine wpAnyH_take (i := 1) (oi := ⟨some 12, _, _, _, _, _⟩) (v := ?vq1) rfl (by kernel_rfl) (by kernel_rfl) (by kernel_rfl) (fun _ _ _ h => h) (Or.inl ⟨by rfl, ?yq1⟩) hHeld ?rq1
  case yq1 => (intro w' hSw; (try dsimp only at hSw); go_simp; try (with_reducible rfl))
  simp only [Act.put, List.setIfInBounds_toArray, List.set_cons_zero, List.set_cons_succ]
  refine wpAnyH_take (i := 2) (oi := ⟨some 13, _, _, _, _, _⟩) (v := ?vq2) rfl (by kernel_rfl) (by kernel_rfl) (by kernel_rfl) (fun _ _ _ h => h) (Or.inl ⟨by rfl, ?yq2⟩) hHeld ?rq2
  case yq2 => (intro w' hSw; (try dsimp only at hSw); go_simp; try (with_reducible rfl))
  simp only [Act.put, List.setIfInBounds_toArray, List.set_cons_zero, List.set_cons_succ]
  refine wpAnyH_take (i := 4) (oi := ⟨some 15, _, _, _, _, _⟩) (v := ?vq4) rfl (by kernel_rfl) (by kernel_rfl) (by kernel_rfl) (fun _ _ _ h => h) (Or.inl ⟨by rfl, ?yq4⟩) hHeld ?rq4
  case yq4 => (intro w' hSw; (try dsimp only at hSw); go_simp; try (with_reducible rfl))
  simp only [Act.put, List.setIfInBounds_toArray, List.set_cons_zero, List.set_cons_succ]
  refine wpAnyH_take (i := 5) (oi := ⟨some 16, _, _, _, _, _⟩) (v := ?vq5) rfl (by kernel_rfl) (by kernel_rfl) (by kernel_rfl) (fun _ _ _ h => h) (Or.inl ⟨by rfl, ?yq5⟩) hHeld ?rq5
  case yq5 => (intro w' hSw; (try dsimp only at hSw); go_simp; try (with_reducible rfl))
  simp only [Act.put, List.setIfInBounds_toArray, List.set_cons_zero, List.set_cons_succ]
  refine wpAnyH_take (i := 6) (oi := ⟨some 17, _, _, _, _, _⟩) (v := ?vq6) rfl (by kernel_rfl) (by kernel_rfl) (by kernel_rfl) (fun _ _ _ h => h) (Or.inl ⟨by rfl, ?yq6⟩) hHeld ?rq6
  case yq6 => (intro w' hSw; (try dsimp only at hSw); go_simp; try (with_reducible rfl))
  simp only [Act.put, List.setIfInBounds_toArray, List.set_cons_zero, List.set_cons_succ]
  refine wpAnyH_ready (rs := [3]) (by kernel_rfl) (by simp) ?_
  refine AllReadyH.cons (o := ⟨some 14, _, _, _, _, _⟩) rfl (fun K hK => ?_) AllReadyH.nil
  go_simp
  (with_reducible refine (number_c _ _ _ (HR1.out.on hHeld)).mono ?_)
  rintro e w1 ⟨rfl, rfl⟩
  (try dsimp only)
  refine hK.out _ _ (hHeld) (fun hNext => ?_)
  clear hK K hHeld
  have hHeld := hNext
  clear hNext
  try simp only [Act.put, List.setIfInBounds_toArray, List.set_cons_zero, List.set_cons_succ]
  refine wpAnyH_ready (rs := [7]) (by kernel_rfl) (by simp) ?_
  refine AllReadyH.cons (o := ⟨some 18, _, _, _, _, _⟩) rfl (fun K hK => ?_) AllReadyH.nil
  go_simp
  (with_reducible refine (sum_c _ _ _ (HR2.out.on hHeld)).mono ?_)
  rintro e w2 ⟨rfl, rfl⟩
  (try dsimp only)
  refine hK.out _ _ (hHeld) (fun hNext => ?_)
  clear hK K hHeld
  have hHeld := hNext
  clear hNext
  try simp only [Act.put, List.setIfInBounds_toArray, List.set_cons_zero, List.set_cons_succ]
  refine wpAnyH_take (i := 8) (oi := ⟨some 19, _, _, _, _, _⟩) (v := ?vq8) rfl (by kernel_rfl) (by kernel_rfl) (by kernel_rfl) (fun _ _ _ h => h) (Or.inl ⟨by rfl, ?yq8⟩) hHeld ?rq8
  case yq8 => (intro w' hSw; (try dsimp only at hSw); go_simp; try (with_reducible rfl))
  simp only [Act.put, List.setIfInBounds_toArray, List.set_cons_zero, List.set_cons_succ]
  refine wpAnyH_done (by kernel_rfl) ?_ _
  have hz := hHeld.size
  have hcl : (L.take m).length ≤ 140737488355328 := by simp; omega
  have HH := Lib.hid hHeld
  have hcon := fun W (hb : Below w.heap.size w W) => clone8_c (.slice A m cap) (L.take m) W hcl (HR2.out.on hb)
  have HC := Lib.hid hcon
  clear HR1 HR2 hHeld hcon hcl
  go_wp2_with fail
  refine (HC.out _ HH.out).mono ?_
  rintro e w1 ⟨v1, rfl, O1, G1⟩
  have B1 := G1.below (Nat.le_refl _) (fun k hk => by cases hk)
  have N := Rdr.new w1 v1 0 _ (Rd.of_own O1) (In8.of_own O1)
  have B2 := (HH.out.trans (B1.mono HH.out.size))
  have B3 := B2.trans ((below1 w1 (.cells #[v1, .int .i64 0] 57)).mono B2.size)
  have hz1 := B2.size
  obtain ⟨A1, cp1, rfl, -⟩ := (Rd.of_own O1).form
  rw [List.length_take] at N B3
  clear HC O1 G1 B1 B2 HH
  go_wp2
  go_ret
  exact ⟨_, rfl, hz1, N, B3⟩
theorem read_c (w : World) (v : Value) (L : List UInt8) (hs : L.length ≤ 140737488355328) (h : Rd w v L) : Calls Try.prog 16 #[v] w (NewR w (rdL L) (rdE L)) := by
  unfold rdL rdE
  by_cases h1 : L.length < 8
  · rw [if_pos h1, if_pos h1]; exact read_short w v L h1 h
  · rw [if_neg h1, if_neg h1]
    by_cases h2 : num (L.drop (L.length - 8)) = fnv (L.take (L.length - 8))
    · rw [if_pos h2, if_pos h2]; exact read_good w v L (by omega) hs h2 h
    · rw [if_neg h2, if_neg h2]; exact read_bad w v L (by omega) h2 h
end Go.Proofs

namespace Go.Proofs.Hd
open Go.RowKit
theorem rd_blk {w : World} {g : Nat} {t : TypeId} {L : List UInt8} (h : Blk w g t (bc L).toArray) (hl : L.length ≤ maxLen) : Rd w (.slice (some ⟨g, 0, none⟩) L.length L.length) L := by
  refine .inr ⟨g, 0, L.length, rfl, Nat.le_refl _, hl, h.lt, fun k c hk => ?_⟩
  rw [Nat.zero_add, h.cell k, List.getElem?_toArray]
  exact bc_get hk
theorem made_u8 (k : Nat) : madeCells (Value.int .u8 0).cells (k * 1) = (bc (List.replicate k 0)).toArray := by
  apply Array.ext
  · simp [madeCells, bc]
  · intro i h1 h2
    simp [madeCells, bc, Value.cells, Nat.mod_one]
theorem big_put (n : BitVec 64) (j t : Nat) : (bc (List.replicate (j + 1) 0 ++ bigB n t)).toArray.setIfInBounds j (.int .u8 ((byt n t).toNat : Int)) = (bc (List.replicate j 0 ++ bigB n (t + 1))).toArray := by
  rw [List.setIfInBounds_toArray]
  congr 1
  rw [List.replicate_succ', List.append_assoc, bc_append, bc_append, bigB]
  have hl : (bc (List.replicate j 0)).length = j := by rw [bc_len, List.length_replicate]
  rw [List.set_append_right _ _ (by omega), hl, Nat.sub_self, bc_append]
  rfl
theorem big_next (n m : BitVec 64) (t : Nat) (h : m.toNat = n.toNat / 256 ^ t) : uv m / 256 = uv (BitVec.ofNat 64 (m.toNat / 256)) ∧ (BitVec.ofNat 64 (m.toNat / 256)).toNat = n.toNat / 256 ^ (t + 1) := by
  have hm := m.isLt
  have e : (BitVec.ofNat 64 (m.toNat / 256)).toNat = m.toNat / 256 := by rw [BitVec.toNat_ofNat]; omega
  refine ⟨?_, ?_⟩
  · unfold uv; rw [e]; omega
  · rw [e, h, Nat.div_div_eq_div_mul, Nat.pow_succ]
end Go.Proofs.Hd
namespace Go.Proofs
open Go.RowKit Go.Proofs.Hd Go.Lib
attribute [local go_sem] uv_nonneg
theorem make_u8 (k : Nat) (hk : k ≤ 8) (u : World) : (Instr.makeSlice 34 (.int .i64 (k : Int)) (.int .i64 (k : Int))).run Try.prog u = .ok (.slice (some ⟨u.heap.size, 0, none⟩) k k) (u.alloc (.cells (bc (List.replicate k 0)).toArray 5)) := by
  obtain ⟨i0, hi0, hz0, hz1, hz2⟩ := info_parts info8
  have h := run_make (P := Try.prog) u 34 5 i0 _ Try.underlying34 hi0 hz0 .i64 .i64 k k (by omega) (by omega) (by rw [hz2]; omega) (by omega)
  rw [hz1] at h
  exact h.trans (by rw [Int.toNat_natCast, made_u8])
set_option maxHeartbeats 400000 in
theorem big_c (n : BitVec 64) (k : Nat) (hk : k ≤ 8) (h0 : 0 < k) (w : World) : Calls Try.prog 9 #[.int .u64 (uv n), .int .i64 k] w fun e w' => e = .returned (.string (str (bigB n k))) ∧ Below w.heap.size w w' := by
  have hkz : (k : Int) ≤ 8 := by omega
  have hk0 : (0 : Int) < (k : Int) := by omega
  have hmk := make_u8 k hk
  have B0 := below1 w (.cells (bc (List.replicate k 0)).toArray 5)
  have X0 : Blk (w.alloc (.cells (bc (List.replicate k 0)).toArray 5)) w.heap.size 5 (bc (List.replicate k 0 ++ bigB n 0)).toArray := by
    rw [bigB, List.append_nil]; exact Blk.new w _ _
  have HB := Lib.hid B0
  have HX := Lib.hid X0
  clear B0 X0
  go_enter Try.func9, Try.ntmps9
  go_wp2
  go_loopg [0, 6] k (fun gg s0 s6 wr => ∃ (d t : Nat) (z : Int) (m : BitVec 64), d + t = k ∧ d ≤ gg ∧ s6 = .int .i64 z ∧ Hid (z = (d : Int) - 1) ∧ s0 = .int .u64 (uv m) ∧ Hid (m.toNat = n.toNat / 256 ^ t) ∧ Hid (Below w.heap.size w wr) ∧ Hid (Blk wr w.heap.size 5 (bc (List.replicate d 0 ++ bigB n t)).toArray))
  case atStart => exact ⟨k, 0, _, n, by omega, Nat.le_refl _, rfl, rfl, rfl, by show _ = _; simp, HB.out, HX.out⟩
  case round =>
    clear HB HX
    obtain ⟨d, t, z, m, hd, hg, rfl, HZ, rfl, HM, HW, HX⟩ := hrel
    by_cases hlt : 0 < d
    · obtain ⟨j, rfl⟩ : ∃ j, d = j + 1 := ⟨d - 1, by omega⟩
      obtain rfl : z = (j : Int) := by have := HZ.out; omega
      have hbv : (uv m).tmod 256 % 256 = ((byt n t).toNat : Int) := by
        rw [Int.tmod_eq_emod_of_nonneg (uv_nonneg m), byt_nat]; unfold uv; rw [HM.out]; omega
      obtain ⟨hnx, hnn⟩ := big_next n m t HM.out
      have hnw : IntKind.u64.wrap ((uv m).tdiv 256) = uv (BitVec.ofNat 64 (m.toNat / 256)) := by
        rw [Int.tdiv_eq_ediv_of_nonneg (uv_nonneg m), hnx, IntKind.wrap_u64]
        have := uv_lt (BitVec.ofNat 64 (m.toNat / 256)); have := uv_nonneg (BitVec.ofNat 64 (m.toNat / 256)); omega
      have HN := Lib.hid hnn
      have hjk : (j : Int) < (k : Int) := by omega
      have hx := HX.out
      have c0 : wr.cell? ⟨w.heap.size, j, none⟩ = some (.int .u8 0) := by
        rw [hx.cell j, List.getElem?_toArray, bc_get (b := 0)]
        · rfl
        · rw [List.getElem?_append_left (by simp), List.getElem?_replicate, if_pos (by omega)]
      have f0 := hx.free j
      have X1 := hx.set j (.int .u8 ((byt n t).toNat : Int))
      rw [big_put] at X1
      have W1 := HW.out.setCell (p := ⟨w.heap.size, j, none⟩) (Nat.le_refl _) (.int .u8 ((byt n t).toNat : Int))
      have HX1 := Lib.hid X1
      have HW1 := Lib.hid W1
      have HD := Lib.hid hd
      clear hnn hx X1 W1 HZ hmk hd hnx
      go_wp2
      go_roundg j
      case measure => omega
      case rel => exact ⟨j, t + 1, _, _, by have := HD.out; omega, Nat.le_refl _, rfl, rfl, rfl, HN.out, HW1.out, HX1.out⟩
    · obtain rfl : d = 0 := by omega
      obtain rfl : t = k := by omega
      obtain rfl : z = -1 := by have := HZ.out; omega
      have R : Rd wr (.slice (some ⟨w.heap.size, 0, none⟩) t t) (bigB n t) := by
        have := rd_blk HX.out (by rw [List.length_append, bigB_len]; simp [maxLen]; omega)
        simpa [bigB_len] using this
      have hr := run_text (P := Try.prog) wr Try.underlying34 Try.underlying5 Try.underlying9 R
      clear R hmk
      go_wp2
      go_ret
      exact ⟨rfl, HW.out⟩
set_option maxHeartbeats 400000 in
theorem rnumber_c (L : List UInt8) (s : ByteArray) (hs : str L = s) (hl : L.length ≤ maxLen) (w : World) : Calls Try.prog 30 #[.string s] w fun e w' => e = .returned (.int .u64 (uv (num L))) ∧ w = w' := by
  have hsz : s.size = L.length := by rw [← hs, str_size]
  have hlz : (s.size : Int) ≤ 9223372036854775807 := by rw [hsz]; unfold maxLen at hl; omega
  have HS := Lib.hid hs
  have HZ := Lib.hid hsz
  clear hs hl hsz
  go_enter Try.func30, Try.ntmps30
  go_wp2
  go_loop [3, 4] (fun s3 s4 => ∃ k : Nat, k ≤ s.size ∧ s4 = .int .i64 k ∧ s3 = .int .u64 (uv (num (L.take k)))) (fun _ s4 => s.size - (intOf s4).toNat)
  case atStart => exact ⟨0, Nat.zero_le _, rfl, rfl⟩
  case round =>
    obtain ⟨k, hk, rfl, rfl⟩ := hrel
    by_cases hlt : k < s.size
    · have hltz : (k : Int) < (s.size : Int) := by omega
      obtain ⟨x, hx⟩ : ∃ x, L[k]? = some x := ⟨_, List.getElem?_eq_getElem (by have := HZ.out; omega)⟩
      have hsx : s[k] = x := by
        have := HS.out
        subst this
        obtain ⟨_, e⟩ := List.getElem?_eq_some_iff.1 hx
        rw [← e]; rfl
      have HN := Lib.hid (num_step' (L.take k) x)
      have HT := Lib.hid (take_next hx)
      have hx1 : ((x.toNat : Nat) : Int) ≤ 255 := by have := byte_lt x; omega
      clear hx
      go_wp2
      go_round
      case rel => exact ⟨k + 1, by omega, by go_num, by rw [HT.out, ← HN.out]⟩
      case measure => simp [intOf]; omega
    · have hltz : ¬ (k : Int) < (s.size : Int) := by omega
      have HT : Hid (L.take k = L) := List.take_of_length_le (by have := HZ.out; omega)
      go_wp2
      go_ret
      exact ⟨by rw [HT.out]; rfl, rfl⟩
set_option maxHeartbeats 400000 in
theorem rsum_c (L : List UInt8) (s : ByteArray) (hs : str L = s) (hl : L.length ≤ maxLen) (w : World) : Calls Try.prog 26 #[.string s] w fun e w' => e = .returned (.int .u64 (uv (fnv L))) ∧ w = w' := by
  have hsz : s.size = L.length := by rw [← hs, str_size]
  have hlz : (s.size : Int) ≤ 9223372036854775807 := by rw [hsz]; unfold maxLen at hl; omega
  have HS := Lib.hid hs
  have HZ := Lib.hid hsz
  clear hs hl hsz
  go_enter Try.func26, Try.ntmps26
  go_wp2
  go_loop [3, 4] (fun s3 s4 => ∃ k : Nat, k ≤ s.size ∧ s4 = .int .i64 k ∧ s3 = .int .u64 (uv (fnv (L.take k)))) (fun _ s4 => s.size - (intOf s4).toNat)
  case atStart => exact ⟨0, Nat.zero_le _, rfl, by rw [List.take_zero, fnv_nil]⟩
  case round =>
    obtain ⟨k, hk, rfl, rfl⟩ := hrel
    by_cases hlt : k < s.size
    · have hltz : (k : Int) < (s.size : Int) := by omega
      obtain ⟨x, hx⟩ : ∃ x, L[k]? = some x := ⟨_, List.getElem?_eq_getElem (by have := HZ.out; omega)⟩
      have hsx : s[k] = x := by
        have := HS.out
        subst this
        obtain ⟨_, e⟩ := List.getElem?_eq_some_iff.1 hx
        rw [← e]; rfl
      have HN := Lib.hid (fnv_step (L.take k) x)
      have HT := Lib.hid (take_next hx)
      have hx1 : ((x.toNat : Nat) : Int) ≤ 255 := by have := byte_lt x; omega
      clear hx
      go_wp2
      go_round
      case rel => exact ⟨k + 1, by omega, by go_num, by rw [HT.out, ← HN.out]⟩
      case measure => simp [intOf]; omega
    · have hltz : ¬ (k : Int) < (s.size : Int) := by omega
      have HT : Hid (L.take k = L) := List.take_of_length_le (by have := HZ.out; omega)
      go_wp2
      go_ret
      exact ⟨by rw [HT.out]; rfl, rfl⟩
end Go.Proofs

namespace Go.Proofs.Hd
open Go.RowKit
theorem str_app (A B : List UInt8) : str A ++ str B = str (A ++ B) := by
  apply ByteArray.ext
  simp [str]
theorem numN_inj : ∀ (n : Nat) (A B : List UInt8), A.length = n → B.length = n → numN A = numN B → A = B := by
  intro n
  induction n with
  | zero => intro A B ha hb _; rw [List.eq_nil_of_length_eq_zero ha, List.eq_nil_of_length_eq_zero hb]
  | succ n ih =>
    intro A B ha hb h
    obtain ⟨A', a, rfl⟩ : ∃ A' a, A = A' ++ [a] := ⟨A.dropLast, A.getLast (by intro e; rw [e] at ha; simp at ha), (List.dropLast_concat_getLast _).symm⟩
    obtain ⟨B', b, rfl⟩ : ∃ B' b, B = B' ++ [b] := ⟨B.dropLast, B.getLast (by intro e; rw [e] at hb; simp at hb), (List.dropLast_concat_getLast _).symm⟩
    rw [numN_snoc, numN_snoc] at h
    have h1 := byte_lt a
    have h2 := byte_lt b
    have e1 : a = b := UInt8.toNat_inj.1 (by omega)
    have e2 := ih A' B' (by simpa using ha) (by simpa using hb) (by omega)
    rw [e1, e2]
theorem big_num8 (D : List UInt8) (h : D.length = 8) : bigB (num D) 8 = D := by
  refine numN_inj 8 _ _ (bigB_len _ _) h ?_
  rw [numN_big]
  have := numN_bound D
  rw [h] at this
  unfold num
  rw [BitVec.toNat_ofNat, show (256 : Nat) ^ 8 = 2 ^ 64 by decide] at *
  rw [Nat.mod_mod, Nat.mod_eq_of_lt this]
theorem sealed_iff (L : List UInt8) (m : Nat) (hm : m + 8 = L.length) : seal8 (L.take m) = L ↔ num (L.drop m) = fnv (L.take m) := by
  have hd : (L.drop m).length = 8 := by rw [List.length_drop]; omega
  constructor
  · intro h
    have h2 : L.take m ++ bigB (fnv (L.take m)) 8 = L.take m ++ L.drop m := by rw [List.take_append_drop]; exact h
    have h3 := List.append_cancel_left h2
    rw [← h3, num_big8]
  · intro h
    unfold seal8
    rw [← h, big_num8 _ hd, List.take_append_drop]
theorem str_extract (L : List UInt8) (a b : Nat) : (str L).extract a b = str ((L.take b).drop a) := by
  apply ByteArray.ext
  simp [str, List.drop_take]
/-- A Reader of the reference lies in block q. -/
def RfR (w : World) (q : Nat) (L : List UInt8) (e : Int) : Prop := Blk w q 46 #[.string (str L), .int .i64 e]
def NewF (w : World) (L : List UInt8) (e : Int) (en : Ending) (w' : World) : Prop := ∃ q, en = .returned (.pointer (some ⟨q, 0, none⟩)) ∧ w.heap.size ≤ q ∧ RfR w' q L e ∧ Below w.heap.size w w'
/-- A Reader of the reference returned a value; the rest is left. -/
def ReadF (w : World) (q : Nat) (v : Value) (L : List UInt8) (e : Int) (en : Ending) (w' : World) : Prop := en = .returned v ∧ RfR w' q L e ∧ Ch (· = q) w w'
theorem str_eq (A B : List UInt8) : ((str A).toList == (str B).toList) = decide (A = B) := by
  have e : ∀ X : List UInt8, (str X).toList = X := fun X => by rw [ByteArray.toList_eq]; simp [str]
  rw [e, e, Bool.eq_iff_iff]; simp
end Go.Proofs.Hd
namespace Go.Proofs
open Go.RowKit Go.Proofs.Hd Go.Lib
attribute [local go_sem] uv_nonneg
theorem big8_c (n : BitVec 64) (w : World) : Calls Try.prog 9 #[.int .u64 (uv n), .int .i64 8] w fun e w' => e = .returned (.string (str (bigB n 8))) ∧ Below w.heap.size w w' := big_c n 8 (by omega) (by omega) w
theorem big4_c (n : BitVec 64) (w : World) : Calls Try.prog 9 #[.int .u64 (uv n), .int .i64 4] w fun e w' => e = .returned (.string (str (bigB n 4))) ∧ Below w.heap.size w w' := big_c n 4 (by omega) (by omega) w
theorem reftext_c (s : ByteArray) (w : World) : Calls Try.prog 12 #[.string s] w fun e w' => e = .returned (.string (str (txF (cutT (sl s))))) ∧ Below w.heap.size w w' := by
  have hsl := sl_len s
  by_cases hs : s.size ≤ 16777216
  · have hcut : cutT (sl s) = sl s := by unfold cutT; rw [if_pos (by omega)]
    have hcon := big4_c (BitVec.ofNat 64 s.size) w
    rw [wrapU_nat s.size (by omega)] at hcon
    have HE : Hid (str (bigB (BitVec.ofNat 64 s.size) 4) ++ s = str (txF (cutT (sl s)))) := by
      show _ = _
      rw [hcut, txF, hsl, ← str_app, str_sl]
    have hlim : ¬ 9223372036854775807 < (str (bigB (BitVec.ofNat 64 s.size) 4)).size + s.size := by rw [str_size, bigB_len]; omega
    generalize str (txF (cutT (sl s))) = r at HE ⊢
    generalize str (bigB (BitVec.ofNat 64 s.size) 4) = q at HE hcon hlim ⊢
    have hz : (s.size : Int) ≤ 16777216 := by omega
    clear hsl hcut hs
    go_enter Try.func12, Try.ntmps12
    go_wp2_with fail
    refine hcon.mono ?_
    rintro e w1 ⟨rfl, hb⟩
    clear hcon
    go_wp2
    go_ret
    exact ⟨by rw [← HE.out]; rfl, hb⟩
  · have hcut : cutT (sl s) = [] := by unfold cutT; rw [if_neg (by omega)]
    have hcon := big4_c 0#64 w
    rw [← uv_zero] at hcon
    have HE : Hid (str (bigB 0#64 4) ++ ⟨#[]⟩ = str (txF (cutT (sl s)))) := by
      show _ = _
      rw [hcut]
      exact str_app (bigB 0#64 4) []
    have hlim : ¬ 9223372036854775807 < (str (bigB 0#64 4)).size + (⟨#[]⟩ : ByteArray).size := by rw [str_size, bigB_len]; show ¬ _ < 4 + 0; omega
    have hlim2 : ¬ 9223372036854775807 < (str (bigB 0#64 4)).size := by rw [str_size, bigB_len]; omega
    generalize str (txF (cutT (sl s))) = r at HE ⊢
    generalize str (bigB 0#64 4) = q at HE hcon hlim hlim2 ⊢
    have hz : (16777216 : Int) < (s.size : Int) := by omega
    clear hsl hcut hs
    go_enter Try.func12, Try.ntmps12
    go_wp2_with fail
    refine hcon.mono ?_
    rintro e w1 ⟨rfl, hb⟩
    clear hcon
    go_wp2
    go_ret
    exact ⟨by rw [← HE.out]; rfl, hb⟩
theorem sealed_c (L : List UInt8) (s : ByteArray) (hs : str L = s) (hl : L.length + 8 ≤ maxLen) (w : World) : Calls Try.prog 15 #[.string s] w fun e w' => e = .returned (.string (str (seal8 L))) ∧ Below w.heap.size w w' := by
  have hcon := rsum_c L s hs (by omega) w
  have hlim : ¬ 9223372036854775807 < s.size + (str (bigB (fnv L) 8)).size := by rw [str_size, bigB_len, ← hs, str_size]; unfold maxLen at hl; omega
  have hcon2 := big8_c (fnv L) w
  have HE : Hid (s ++ str (bigB (fnv L) 8) = str (seal8 L)) := by
    show _ = _
    rw [← hs, str_app]; rfl
  generalize str (seal8 L) = r at HE ⊢
  generalize str (bigB (fnv L) 8) = q at HE hcon2 hlim ⊢
  clear hs hl
  go_enter Try.func15, Try.ntmps15
  go_wp2_with fail
  refine hcon.mono ?_
  rintro e w1 ⟨rfl, rfl⟩
  go_wp2_with fail
  refine hcon2.mono ?_
  rintro e w1 ⟨rfl, hb⟩
  clear hcon hcon2
  go_wp2
  go_ret
  exact ⟨by rw [← HE.out]; rfl, hb⟩
theorem fread_short (L : List UInt8) (s : ByteArray) (hs : str L = s) (hl : L.length < 8) (w : World) : Calls Try.prog 17 #[.string s] w (NewF w [] 3) := by
  have hsz : s.size = L.length := by rw [← hs, str_size]
  have hz : (s.size : Int) < 8 := by omega
  have N : RfR (w.alloc (.cells #[.string ⟨#[]⟩, .int .i64 3] 46)) w.heap.size [] 3 := Blk.new w _ _
  have B := below1 w (.cells #[.string ⟨#[]⟩, .int .i64 3] 46)
  clear hs hl hsz
  go_enter Try.func17, Try.ntmps17
  go_wp2
  go_ret
  exact ⟨_, rfl, Nat.le_refl _, N, B⟩
set_option maxHeartbeats 400000 in
theorem fread_good (L : List UInt8) (s : ByteArray) (hs : str L = s) (hl : 8 ≤ L.length) (hm : L.length ≤ maxLen) (hq : num (L.drop (L.length - 8)) = fnv (L.take (L.length - 8))) (w : World) : Calls Try.prog 17 #[.string s] w (NewF w (L.take (L.length - 8)) 0) := by
  have hsz : s.size = L.length := by rw [← hs, str_size]
  obtain ⟨m, hmm⟩ : ∃ m, m + 8 = L.length := ⟨L.length - 8, by omega⟩
  have em : L.length - 8 = m := by omega
  rw [em] at hq ⊢
  have hz : (8 : Int) ≤ (s.size : Int) := by omega
  have hmz : (s.size : Int) - 8 = (m : Int) := by omega
  have hms : (m : Int) ≤ (s.size : Int) := by omega
  have hm0 : s.size - 8 = m := by omega
  have hsc : (s.size : Int) ≤ 9223372036854775807 := by rw [hsz]; unfold maxLen at hm; omega
  obtain ⟨t, HT⟩ : ∃ t, Hid (str (L.take m) = t) := ⟨_, rfl⟩
  have hext : s.extract 0 m = t := by rw [← HT.out, ← hs, str_extract, List.drop_zero]
  obtain ⟨r, HR⟩ : ∃ r, Hid (str (seal8 (L.take m)) = r) := ⟨_, rfl⟩
  have hcon := sealed_c (L.take m) t HT.out (by rw [List.length_take]; omega) w
  rw [HR.out] at hcon
  have hcmp : (r.toList == s.toList) = true := by
    rw [← HR.out, ← hs, str_eq]
    exact decide_eq_true ((sealed_iff L m hmm).2 hq)
  have hcmp2 : (r.toList != s.toList) = false := by simp only [bne, hcmp]; rfl
  clear hs hsz hmm em hq hl hm
  go_enter Try.func17, Try.ntmps17
  go_wp2_with fail
  refine hcon.mono ?_
  rintro e w1 ⟨rfl, hb⟩
  have N : RfR (w1.alloc (.cells #[.string t, .int .i64 0] 46)) w1.heap.size (L.take m) 0 := by
    unfold RfR; rw [HT.out]; exact Blk.new w1 _ _
  have B := hb.trans ((below1 w1 (.cells #[.string t, .int .i64 0] 46)).mono hb.size)
  have hz1 := hb.size
  clear hcon hb
  go_wp2
  go_ret
  exact ⟨_, rfl, hz1, N, B⟩
set_option maxHeartbeats 400000 in
theorem fread_bad (L : List UInt8) (s : ByteArray) (hs : str L = s) (hl : 8 ≤ L.length) (hm : L.length ≤ maxLen) (hq : num (L.drop (L.length - 8)) ≠ fnv (L.take (L.length - 8))) (w : World) : Calls Try.prog 17 #[.string s] w (NewF w [] 2) := by
  have hsz : s.size = L.length := by rw [← hs, str_size]
  obtain ⟨m, hmm⟩ : ∃ m, m + 8 = L.length := ⟨L.length - 8, by omega⟩
  have em : L.length - 8 = m := by omega
  rw [em] at hq
  have hz : (8 : Int) ≤ (s.size : Int) := by omega
  have hmz : (s.size : Int) - 8 = (m : Int) := by omega
  have hms : (m : Int) ≤ (s.size : Int) := by omega
  have hm0 : s.size - 8 = m := by omega
  have hsc : (s.size : Int) ≤ 9223372036854775807 := by rw [hsz]; unfold maxLen at hm; omega
  obtain ⟨t, HT⟩ : ∃ t, Hid (str (L.take m) = t) := ⟨_, rfl⟩
  have hext : s.extract 0 m = t := by rw [← HT.out, ← hs, str_extract, List.drop_zero]
  obtain ⟨r, HR⟩ : ∃ r, Hid (str (seal8 (L.take m)) = r) := ⟨_, rfl⟩
  have hcon := sealed_c (L.take m) t HT.out (by rw [List.length_take]; omega) w
  rw [HR.out] at hcon
  have hcmp : (r.toList == s.toList) = false := by
    rw [← HR.out, ← hs, str_eq]
    exact decide_eq_false (fun c => hq ((sealed_iff L m hmm).1 c))
  have hcmp2 : (r.toList != s.toList) = true := by simp only [bne, hcmp]; rfl
  clear hs hsz hmm em hq hl hm
  go_enter Try.func17, Try.ntmps17
  go_wp2_with fail
  refine hcon.mono ?_
  rintro e w1 ⟨rfl, hb⟩
  have N : RfR (w1.alloc (.cells #[.string ⟨#[]⟩, .int .i64 2] 46)) w1.heap.size [] 2 := Blk.new w1 _ _
  have B := hb.trans ((below1 w1 (.cells #[.string ⟨#[]⟩, .int .i64 2] 46)).mono hb.size)
  have hz1 := hb.size
  clear hcon hb
  go_wp2
  go_ret
  exact ⟨_, rfl, hz1, N, B⟩
theorem fread_c (L : List UInt8) (s : ByteArray) (hs : str L = s) (hm : L.length ≤ maxLen) (w : World) : Calls Try.prog 17 #[.string s] w (NewF w (rdL L) (rdE L)) := by
  unfold rdL rdE
  by_cases h1 : L.length < 8
  · rw [if_pos h1, if_pos h1]; exact fread_short L s hs h1 w
  · rw [if_neg h1, if_neg h1]
    by_cases h2 : num (L.drop (L.length - 8)) = fnv (L.take (L.length - 8))
    · rw [if_pos h2, if_pos h2]; exact fread_good L s hs (by omega) hm h2 w
    · rw [if_neg h2, if_neg h2]; exact fread_bad L s hs (by omega) hm h2 w
end Go.Proofs

namespace Go.Proofs.Hd
open Go.RowKit
theorem RfR.lt {w : World} {q : Nat} {L : List UInt8} {e : Int} (h : RfR w q L e) : q < w.heap.size := Blk.lt h
theorem RfR.on {w w' : World} {q : Nat} {L : List UInt8} {e : Int} (h : RfR w q L e) (hb : Below w.heap.size w w') : RfR w' q L e := Blk.on h hb
theorem RfR.cells {w : World} {q : Nat} {L : List UInt8} {e : Int} (h : RfR w q L e) {s : ByteArray} (hs : str L = s) : w.cell? ⟨q, 0, none⟩ = some (.string s) ∧ w.cell? ⟨q, 1, none⟩ = some (.int .i64 e) ∧ w.frozen? ⟨q, 0, none⟩ = false ∧ w.frozen? ⟨q, 1, none⟩ = false := by
  subst hs; exact ⟨Blk.cell h 0, Blk.cell h 1, Blk.free h 0, Blk.free h 1⟩
/-- A Reader of the program has changed. -/
theorem RfR.ch {w w' : World} {p q : Nat} {M L : List UInt8} {f e : Int} (h : RfR w q L e) (hp : Rdr w p M f) (hc : Ch (· = p) w w') : RfR w' q L e := by
  obtain ⟨v, b, -⟩ := hp
  exact hc.blk h (Blk.ne h b (by decide))
end Go.Proofs.Hd
namespace Go.Proofs
open Go.RowKit Go.Proofs.Hd Go.Lib
attribute [local go_sem] uv_nonneg
theorem ftake_err (w : World) (q : Nat) (L : List UInt8) (e : Int) (n : Int) (k : Nat) (he : e ≠ 0) (h : RfR w q L e) :
    Calls Try.prog 31 #[.pointer (some ⟨q, 0, none⟩), .int .i64 n] w (ReadF w q (.string (str (tkB L e k))) (tkL L e k) (tkE L e k)) := by
  obtain ⟨-, c1, -, -⟩ := h.cells rfl
  have hne : (e != 0) = true := by simpa using he
  have K : tkB L e k = [] ∧ tkL L e k = L ∧ tkE L e k = e := by unfold tkB tkL tkE; simp [he]
  rw [K.1, K.2.1, K.2.2]
  have HH := Lib.hid h
  clear h K
  go_enter Try.func31, Try.ntmps31
  go_wp2
  go_ret
  exact ⟨rfl, HH.out, Ch.refl _ _⟩
set_option maxHeartbeats 400000 in
theorem ftake_short (w : World) (q : Nat) (L : List UInt8) (n : Int) (k : Nat) (hn : n = (k : Int)) (hL : L.length < k) (hm : L.length ≤ maxLen) (h : RfR w q L 0) :
    Calls Try.prog 31 #[.pointer (some ⟨q, 0, none⟩), .int .i64 n] w (ReadF w q (.string (str (tkB L 0 k))) (tkL L 0 k) (tkE L 0 k)) := by
  obtain ⟨s, hs⟩ : ∃ s, str L = s := ⟨_, rfl⟩
  obtain ⟨c0, c1, f0, f1⟩ := h.cells hs
  have K : tkB L 0 k = [] ∧ tkL L 0 k = [] ∧ tkE L 0 k = 3 := by unfold tkB tkL tkE; simp; omega
  rw [K.1, K.2.1, K.2.2]
  have hsz : s.size = L.length := by rw [← hs, str_size]
  have hz : (s.size : Int) < n := by omega
  have hsc : (s.size : Int) ≤ 9223372036854775807 := by rw [hsz]; unfold maxLen at hm; omega
  have N : RfR ((w.setCell ⟨q, 1, none⟩ (.int .i64 3)).setCell ⟨q, 0, none⟩ (.string ⟨#[]⟩)) q [] 3 := (Blk.set h 1 (.int .i64 3)).set 0 (.string ⟨#[]⟩)
  have C : Ch (· = q) w ((w.setCell ⟨q, 1, none⟩ (.int .i64 3)).setCell ⟨q, 0, none⟩ (.string ⟨#[]⟩)) := (Ch.set w ⟨q, 1, none⟩ _).trans (Ch.set _ ⟨q, 0, none⟩ _)
  clear hs h K hn hL hm hsz
  go_enter Try.func31, Try.ntmps31
  go_wp2
  go_ret
  exact ⟨rfl, N, C⟩
set_option maxHeartbeats 400000 in
theorem ftake_ok (w : World) (q : Nat) (L : List UInt8) (n : Int) (k : Nat) (hn : n = (k : Int)) (hL : k ≤ L.length) (hm : L.length ≤ maxLen) (h : RfR w q L 0) :
    Calls Try.prog 31 #[.pointer (some ⟨q, 0, none⟩), .int .i64 n] w (ReadF w q (.string (str (tkB L 0 k))) (tkL L 0 k) (tkE L 0 k)) := by
  obtain ⟨s, hs⟩ : ∃ s, str L = s := ⟨_, rfl⟩
  obtain ⟨c0, c1, f0, f1⟩ := h.cells hs
  have K : tkB L 0 k = L.take k ∧ tkL L 0 k = L.drop k ∧ tkE L 0 k = 0 := by unfold tkB tkL tkE; simp [hL]
  rw [K.1, K.2.1, K.2.2]
  have hsz : s.size = L.length := by rw [← hs, str_size]
  obtain ⟨t1, h1⟩ : ∃ t, str (L.take k) = t := ⟨_, rfl⟩
  obtain ⟨t2, h2⟩ : ∃ t, str (L.drop k) = t := ⟨_, rfl⟩
  have hx1 : s.extract 0 k = t1 := by rw [← hs, str_extract, List.drop_zero, h1]
  have hx2 : s.extract k s.size = t2 := by rw [hsz, ← hs, str_extract, List.take_length, h2]
  have hsc : (s.size : Int) ≤ 9223372036854775807 := by rw [hsz]; unfold maxLen at hm; omega
  subst hn
  have hkz : (k : Int) ≤ (s.size : Int) := by omega
  have N : RfR (w.setCell ⟨q, 0, none⟩ (.string t2)) q (L.drop k) 0 := by
    unfold RfR; rw [h2]; exact Blk.set h 0 (.string t2)
  have C : Ch (· = q) w (w.setCell ⟨q, 0, none⟩ (.string t2)) := Ch.set w ⟨q, 0, none⟩ _
  rw [h1]
  clear hs h K hL hm hsz h1 h2
  go_enter Try.func31, Try.ntmps31
  go_wp2
  go_ret
  exact ⟨rfl, N, C⟩
theorem ftake_c (w : World) (q : Nat) (L : List UInt8) (e : Int) (n : Int) (k : Nat) (hn : n = (k : Int)) (hm : L.length ≤ maxLen) (h : RfR w q L e) :
    Calls Try.prog 31 #[.pointer (some ⟨q, 0, none⟩), .int .i64 n] w (ReadF w q (.string (str (tkB L e k))) (tkL L e k) (tkE L e k)) := by
  by_cases he : e = 0
  · subst he
    by_cases hL : k ≤ L.length
    · exact ftake_ok w q L n k hn hL hm h
    · exact ftake_short w q L n k hn (by omega) hm h
  · exact ftake_err w q L e n k he h
theorem fwide_c (w : World) (q : Nat) (L : List UInt8) (e : Int) (hm : L.length ≤ maxLen) (h : RfR w q L e) :
    Calls Try.prog 19 #[.pointer (some ⟨q, 0, none⟩)] w (ReadF w q (.int .u64 (uv (num (tkB L e 8)))) (tkL L e 8) (tkE L e 8)) := by
  have hcon := ftake_c w q L e 8 8 rfl hm h
  have hb := tkB_le L e 8
  generalize tkL L e 8 = M at hcon ⊢
  generalize tkE L e 8 = f at hcon ⊢
  generalize tkB L e 8 = N at hcon hb ⊢
  obtain ⟨s, HS⟩ : ∃ s, Hid (str N = s) := ⟨_, rfl⟩
  rw [HS.out] at hcon
  have hcon2 := fun W => rnumber_c N s HS.out (by unfold maxLen; omega) W
  have HC := Lib.hid hcon2
  clear h hcon2
  go_enter Try.func19, Try.ntmps19
  go_wp2_with fail
  refine hcon.mono ?_
  rintro en w1 ⟨rfl, K1, C1⟩
  go_wp2_with fail
  refine (HC.out _).mono ?_
  rintro en w2 ⟨rfl, rfl⟩
  clear hcon HC
  go_wp2
  go_ret
  exact ⟨rfl, K1, C1⟩
theorem ftext_c (w : World) (q : Nat) (L : List UInt8) (e : Int) (hm : L.length ≤ maxLen) (h : RfR w q L e) :
    Calls Try.prog 22 #[.pointer (some ⟨q, 0, none⟩)] w (ReadF w q (.string (str (txB L e))) (txL L e) (txE L e)) := by
  have hcon := ftake_c w q L e 4 4 rfl hm h
  have hb := tkB_le L e 4
  have hl := tkL_le L e 4
  unfold txB txL txE
  generalize tkL L e 4 = M at hcon hl ⊢
  generalize tkE L e 4 = f at hcon ⊢
  generalize tkB L e 4 = N at hcon hb ⊢
  obtain ⟨s, HS⟩ : ∃ s, Hid (str N = s) := ⟨_, rfl⟩
  rw [HS.out] at hcon
  have hcon2 := fun W => rnumber_c N s HS.out (by unfold maxLen; omega) W
  have HC := Lib.hid hcon2
  have hlt := num_lt4 N hb
  have hn1 : uv (num N) ≤ 4294967295 := by unfold uv; omega
  have hn0 : 0 ≤ uv (num N) := uv_nonneg _
  have hcon3 := fun W (k : RfR W q M f) => ftake_c W q M f (uv (num N)) (num N).toNat rfl (by omega) k
  have HC3 := Lib.hid hcon3
  clear h hcon2 hcon3 hlt
  go_enter Try.func22, Try.ntmps22
  go_wp2_with fail
  refine hcon.mono ?_
  rintro en w1 ⟨rfl, K1, C1⟩
  go_wp2_with fail
  refine (HC.out _).mono ?_
  rintro en w2 ⟨rfl, rfl⟩
  clear hcon HC
  go_wp2_with fail
  (with_reducible refine (HC3.out _ K1).mono ?_)
  rintro en w2 ⟨rfl, K2, C2⟩
  clear HC3
  go_wp2
  go_ret
  exact ⟨rfl, K2, C1.trans C2⟩
end Go.Proofs

namespace Go.Proofs.Hd
open Go.RowKit
theorem Wst.below {w w' : World} {p base B : Nat} {o o' : Option Nat} {L : List UInt8} (h : Wst w w' p o o') (k : Wrt w base p o L) (hp : B ≤ p) (hb : B ≤ base) : Below B w w' := by
  obtain ⟨h1, h2⟩ := k.lt
  refine h.1.below (by omega) (fun j hj c => ?_)
  rcases c with c | c
  · omega
  · have := (h2 j c).1; omega
theorem rd_seal (B : List UInt8) : rdE (seal8 B) = 0 ∧ rdL (seal8 B) = B := by
  have hl := seal8_len B
  have e : (seal8 B).length - 8 = B.length := by omega
  have h1 : ¬ (seal8 B).length < 8 := by omega
  have h2 : num ((seal8 B).drop B.length) = fnv ((seal8 B).take B.length) := by
    unfold seal8
    rw [List.drop_left, List.take_left, num_big8]
  unfold rdE rdL
  rw [if_neg h1, if_neg h1, e, if_pos h2, if_pos h2]
  exact ⟨rfl, by unfold seal8; rw [List.take_left]⟩
def aT : ByteArray := ⟨#[97, 98]⟩
def aB : List UInt8 := (([] ++ bigB (BitVec.ofInt 64 (-2)) 8) ++ bigB 7#64 8) ++ txF (cutT (sl ⟨#[97, 98]⟩))
def aB1 : List UInt8 := bigB 7#64 8 ++ txF (cutT (sl ⟨#[97, 98]⟩))
def aB2 : List UInt8 := txF (cutT (sl ⟨#[97, 98]⟩))
theorem a_num : wrap64 (uv (num (tkB aB 0 8))) = -2 := by kernel_rfl
theorem a_l1 : tkL aB 0 8 = aB1 := by kernel_rfl
theorem a_e1 : tkE aB 0 8 = 0 := by kernel_rfl
theorem a_wide : uv (num (tkB aB1 0 8)) = 7 := by kernel_rfl
theorem a_l2 : tkL aB1 0 8 = aB2 := by kernel_rfl
theorem a_e2 : tkE aB1 0 8 = 0 := by kernel_rfl
theorem a_left : (aB2.length : Int) = 6 := by kernel_rfl
theorem a_text : str (txB aB2 0) = ⟨#[97, 98]⟩ := by kernel_rfl
theorem a_l3 : txL aB2 0 = [] := by kernel_rfl
theorem a_e3 : txE aB2 0 = 0 := by kernel_rfl
theorem a_len : (seal8 aB).length = 30 := by kernel_rfl
end Go.Proofs.Hd
namespace Go.Proofs
open Go.RowKit Go.Proofs.Hd Go.Lib
attribute [local go_sem] uv_nonneg
set_option maxHeartbeats 1000000 in
set_option maxRecDepth 100000 in
theorem awake4_c (w : World) : Calls Try.prog 13 #[] w fun e w' => e = .returned (.bool true) ∧ Below w.heap.size w w' := by
  go_enter Try.func13, Try.ntmps13
  go_wp2_with fail
  refine (new_c w w.heap.size).mono ?_
  rintro e w1 ⟨rfl, K1, B1⟩
  have hz1 := B1.size
  go_wp2_with fail
  refine (wnum_c w1 w.heap.size _ _ [] (-2) hz1 (by simp) K1).mono ?_
  rintro e w2 ⟨rfl, o2, K2, S2⟩
  have B2 := B1.trans (S2.below K1 (Nat.le_refl _) (Nat.le_refl _))
  have hz2 := B2.size
  clear K1 S2 B1 hz1
  have hcon := wide_c w2 w.heap.size _ _ _ 7#64 hz2 (by rw [List.length_append, bigB_len]; simp) K2
  rw [show uv 7#64 = 7 from rfl] at hcon
  go_wp2_with fail
  refine hcon.mono ?_
  rintro e w3 ⟨rfl, o3, K3, S3⟩
  have B3 := B2.trans (S3.below K2 (Nat.le_refl _) (Nat.le_refl _))
  have hz3 := B3.size
  clear K2 S3 B2 hz2 hcon
  have hcon := text_c w3 w.heap.size _ _ _ ⟨#[97, 98]⟩ hz3 (by rw [List.length_append, List.length_append, bigB_len, bigB_len]; simp) K3
  go_wp2_with fail
  refine hcon.mono ?_
  rintro e w4 ⟨rfl, o4, K4, S4⟩
  have B4 := B3.trans (S4.below K3 (Nat.le_refl _) (Nat.le_refl _))
  clear K3 S4 B3 hz3 hcon
  change Wrt w4 w.heap.size w.heap.size o4 aB at K4
  have hcon := bytes_c w4 w.heap.size _ _ aB (by have := a_len; rw [seal8_len] at this; omega) K4
  go_wp2_with fail
  refine hcon.mono ?_
  rintro e w5 ⟨v5, rfl, O5, b5⟩
  have B5 := B4.trans (b5.mono B4.size)
  have R5 := Rd.of_own O5
  clear K4 B4 b5 hcon O5
  have hcon := read_c w5 v5 _ (by rw [a_len]; omega) R5
  rw [(rd_seal aB).1, (rd_seal aB).2] at hcon
  obtain ⟨A5, c5, rfl, -⟩ := R5.form
  rw [a_len] at hcon ⊢
  clear R5
  go_wp2_with fail
  refine hcon.mono ?_
  rintro e w6 ⟨p, rfl, hp, K6, b6⟩
  have B6 := B5.trans (b6.mono B5.size)
  have hp0 : w.heap.size ≤ p := Nat.le_trans B5.size hp
  clear B5 b6 hcon hp
  have hcon := rnum_c w6 p aB 0 K6
  rw [a_num, a_l1, a_e1] at hcon
  go_wp2_with fail
  refine hcon.mono ?_
  rintro e w7 ⟨rfl, K7, C7⟩
  have B7 := B6.trans (C7.below B6.size (fun k hk => by omega))
  clear B6 K6 C7 hcon
  have hcon := rwide_c w7 p aB1 0 K7
  rw [a_wide, a_l2, a_e2] at hcon
  go_wp2_with fail
  refine hcon.mono ?_
  rintro e w8 ⟨rfl, K8, C8⟩
  have B8 := B7.trans (C8.below B7.size (fun k hk => by omega))
  clear B7 K7 C8 hcon
  have hcon := left_c w8 p aB2 0 K8
  rw [a_left] at hcon
  go_wp2_with fail
  refine hcon.mono ?_
  rintro e w9 ⟨rfl, rfl⟩
  clear hcon
  have hcon := rtext_c w8 p aB2 0 K8
  rw [a_text, a_l3, a_e3] at hcon
  go_wp2_with fail
  refine hcon.mono ?_
  rintro e w9 ⟨rfl, K9, C9⟩
  have B9 := B8.trans (C9.below B8.size (fun k hk => by omega))
  clear B8 K8 C9 hcon
  have hcon := end_c w9 p [] 0 K9
  rw [show endE [] 0 = 0 from rfl] at hcon
  go_wp2_with fail
  refine hcon.mono ?_
  rintro e w10 ⟨rfl, rfl⟩
  clear hcon K9
  have hcon := sum_c _ [] w9 (Rd.nil w9)
  rw [fnv_nil] at hcon
  go_wp2_with fail
  refine hcon.mono ?_
  rintro e w10 ⟨rfl, rfl⟩
  clear hcon
  go_wp2
  go_ret
  exact ⟨rfl, B9⟩
end Go.Proofs
