/-
  What stays behind an append to a row of another type; a configuration that is copied piece by piece. Conditions as each theorem lists them.
  How a configuration, a policy, a pair handed in by value read; no list in a configuration is longer than memory reaches, where what came in is not. No conditions.
  Plain mathematics for a list of predicates: elements added once each, a list closed under a partial function (every element, those added too, by each element of S), and the stable order by a number, told by rows. Over any type with equality. No program in sight.
  Contract of math/bits.LeadingZeros64, out of the library's own contract, which is proved over any program: the function's bodies are compared by the kernel. No conditions.
  Contract of cube.highest: the header with the highest bit alone. No conditions.
  What memory holds at the head of the loop of cube.Less, and how it is carried on: plain facts on worlds. No conditions.
  Contract of cube.Less: the difference of two cubes as a list. Conditions as each theorem lists them.
  Contracts of cube.Field: the field's cube, or an error. Conditions as each theorem lists them.
  The function awake of the laws of layer 2 returns true. No conditions.
  The law CubeParts returns true for all cubes and headers, and changes nothing that was there. No conditions.
  Contract: Has of the reference of layer 2 tells whether a header is in the cube of a text. Conditions: the text is that of a sound cube.
  The law CubeHas returns true for all cubes and headers, and changes nothing that was there. No conditions.
  Plain facts on rows of bytes in memory and on the signs of two cubes' intersection. No program in sight. No conditions.
  Contracts: Meet and Within of the reference of layer 2, on the texts of two sound cubes. Conditions: both texts are those of sound cubes.
  Plain facts on the bits of a field. No conditions.
  Plain facts on whole arrays that are written place by place. No conditions.
  Contract: Cube of the reference of layer 2 returns the cube of a text. Conditions: the text is that of a sound cube.
  The law CubeMeets returns true for all cubes, and changes nothing that was there. No conditions.
-/
import Derived.Test.YtanliiopdhjhjaaJ4
import Derived.SizedLaws
import Derived.OpenShut
import Derived.Sort.LotA
import Derived.Shelf.Small.Bits
import Derived.Shelf.Strconv.Itoa0
import Derived.Test.YtanliiopdhjhjaaProg
import Derived.Lib.Hide
import Derived.Deep.AppendLies
import Derived.Laws.OwnMore
import Derived.OneCell
import Derived.Deep.Onto
import Derived.Deep.RegionHeld3
import Derived.Deep.LoopGhost
import Derived.Deep.DeepCutAuto
import Derived.Deep.Light
import Derived.OwnWalk
import Derived.Deep.QuietTactic
import Derived.BigQuiet
import Derived.Deep.RegionHeld
namespace Go.Proofs.Hd
open Go.RowKit
/-- The row that may have been written is of element type t3. -/
def Rw (w : World) (row : Option Nat) (t3 : TypeId) : Prop := row = none ∨ ∃ g, row = some g ∧ TB w g t3
theorem own_kept {w w' : World} {base : Nat} {e t3 : TypeId} {size : Nat} {v : Value} {n : Nat} {xs : List Value} {row : Option Nat} (hr : Rw w row t3) (hne : e ≠ t3) (hg : w.grownBy w' row) (h : w.ownsRow base e size v n xs) : w'.ownsRow base e size v n xs := by
  refine h.kept hg ?_
  rcases hr with rfl | ⟨g, rfl, hb⟩
  · cases v.ownBlock with
    | none => exact .inl rfl
    | some k => exact .inr (by simp)
  · exact .inr fun e2 => own_apartT h hb hne e2.symm
theorem OwG.kept {β : Type} {te t3 : TypeId} (hne : te ≠ t3) {R : World → Value → β → Prop} {w w' : World} {row : Option Nat} (hR : ∀ s x, R w s x → R w' s x) {B : Nat} {v : Value} {T : List β} (hr : Rw w row t3) (hg : w.grownBy w' row) (h : OwG te R w B v T) : OwG te R w' B v T := by
  obtain ⟨hs, h1, h2⟩ := h
  refine ⟨hs, own_kept hr hne hg h1, fun i x hx => ?_⟩
  obtain ⟨s, e, h3⟩ := h2 i x hx
  exact ⟨s, e, hR s x h3⟩
/-- One more header. -/
theorem OwG.snoc {β : Type} {te : TypeId} {R : World → Value → β → Prop} {w w' : World} {B : Nat} {v v' s : Value} {T : List β} {x : β} {hs : List Value} (hR : ∀ s x, R w s x → R w' s x) (h1 : w.ownsRow B te 1 v T.length hs) (h2 : ∀ (i : Nat) (x : β), T[i]? = some x → ∃ s, hs[i]? = some s ∧ R w s x) (hx : R w s x) (h3 : w'.ownsRow B te 1 v' (T.length + 1) (hs ++ [s])) : OwG te R w' B v' (T ++ [x]) := by
  have hl : hs.length = T.length := by rw [h1.1, Nat.mul_one]
  refine ⟨hs ++ [s], by rw [List.length_append]; exact h3, fun i y hy => ?_⟩
  by_cases hi : i < T.length
  · rw [List.getElem?_append_left hi] at hy
    obtain ⟨s', e, h4⟩ := h2 i y hy
    exact ⟨s', by rw [List.getElem?_append_left (by omega)]; exact e, hR _ _ h4⟩
  · rw [List.getElem?_append_right (by omega)] at hy
    obtain ⟨e, e2⟩ := List.getElem?_eq_some_iff.1 hy
    simp at e
    have e3 : i - T.length = 0 := by omega
    subst e2
    refine ⟨s, by rw [List.getElem?_append_right (by omega), hl, e3]; rfl, ?_⟩
    have e4 : [x][i - T.length] = x := by simp [e3]
    rw [e4]
    exact hR _ _ hx
theorem Cfo.start {B : Nat} {w : World} : Cfo B w (.slice none 0 0) (.slice none 0 0) (.slice none 0 0) (.slice none 0 0) [] [] [] [] :=
  ⟨⟨[], World.ownsRow_nil _ _ _ _, fun i x hx => by simp at hx⟩, World.ownsRow_nil _ _ _ _, World.ownsRow_nil _ _ _ _, ⟨[], World.ownsRow_nil _ _ _ _, fun i x hx => by simp at hx⟩⟩
/-- A store into a box of type Config. -/
theorem Cfo.box {B b i : Nat} {u : Value} {w : World} {tv pv wv bv : Value} {T : List (List Pt)} {P : List (Int × Int)} {Q : List Wa} {BB : List (List (List Rl))} (hb : TB w b 31) (h : Cfo B w tv pv wv bv T P Q BB) : Cfo B (w.setCell ⟨b, i, none⟩ u) tv pv wv bv T P Q BB :=
  ⟨O2P.far (by decide) (by decide) _ _ _ _ _ _ hb h.ports, ownsRow_setCell_other h.peers (fun e => own_apartT h.peers hb (by decide) e.symm) u, ownsRow_setCell_other h.ways (fun e => own_apartT h.ways hb (by decide) e.symm) u,
    OwG.far (by decide) (O2R.far (by decide) (by decide)) hb h.tabs⟩
end Go.Proofs.Hd

namespace Go.Proofs.Ytanliiopdhjhjaa
open Go.ChangeShapes Go.WideShapes Go.ChangeAt Go.RowKit Go.Joins Go.Deep Go.Proofs.Hd
theorem cellsPair : Try.prog.cellsOf 121 = 2 := by kernel_rfl
theorem cellsWay : Try.prog.cellsOf 123 = 3 := by kernel_rfl
theorem cellsPol : Try.prog.cellsOf 28 = 3 := by kernel_rfl
theorem cellsCfg : Try.prog.cellsOf 31 = 5 := by kernel_rfl
theorem cellsPairs : Try.prog.cellsOf 25 = 1 := by kernel_rfl
theorem cellsWays : Try.prog.cellsOf 26 = 1 := by kernel_rfl
theorem cellsRss : Try.prog.cellsOf 84 = 1 := by kernel_rfl
theorem cellsRsss : Try.prog.cellsOf 29 = 1 := by kernel_rfl
theorem bytesPt : Try.prog.bytesOf 91 = 40 := by kernel_rfl
theorem bytesPts : Try.prog.bytesOf 89 = 24 := by kernel_rfl
theorem bytesPair : Try.prog.bytesOf 121 = 16 := by kernel_rfl
theorem bytesWay : Try.prog.bytesOf 123 = 24 := by kernel_rfl
theorem bytesRule : Try.prog.bytesOf 51 = 96 := by kernel_rfl
theorem bytesRs : Try.prog.bytesOf 45 = 24 := by kernel_rfl
theorem bytesRss : Try.prog.bytesOf 84 = 24 := by kernel_rfl
instance : Inhabited Rl := ⟨⟨0, ⟨0#64, 0#64, 0#64, 0#64⟩, 0, 0, 0, ⟨0#64, 0#64, 0#64, 0#64⟩⟩⟩
instance : Inhabited Wa := ⟨⟨0, 0, 0⟩⟩
theorem weights_all {H : Type} {P : Program} {e : TypeId} : ∀ {l : List (DataW H)} {d : DataW H}, d ∈ l → ∀ n ∈ d.weights P e, n ∈ DataW.weightsAll P e l
  | d' :: r, d, hd, n, hn => by
    simp only [DataW.weightsAll, List.mem_append]
    rcases List.mem_cons.1 hd with rfl | h
    · exact Or.inl hn
    · exact Or.inr (weights_all h n hn)
/-- No weight of a datum is over memory's reach. -/
def Lite {H : Type} (t : TypeId) (d : DataW H) : Prop := ∀ m ∈ d.weights Try.prog t, m ≤ reachBytes
section
variable {H : Type} {enc : TypeId × Value → H} {W : World}
theorem read_slice {α : Type} [Inhabited α] {tS tE : TypeId} (hu : Try.prog.underlying tS = some (.slice tE)) {K : Nat} (hK : Try.prog.cellsOf tE = K) (hK0 : 0 < K) (Rd : List Value → α → Prop) (Sz : α → Prop)
    (hel : ∀ n cs (y : DataW H × List MemPlace), cs.length = K → DataW.trod enc Try.prog W 0 (fun _ => true) true n tE cs = some y → ∃ x, Rd cs x ∧ (Lite tE y.1 → Sz x))
    {n : Nat} {cs : List Value} {y : DataW H × List MemPlace} (hf : DataW.trod enc Try.prog W 0 (fun _ => true) true n tS cs = some y) :
    ∃ (A : Option Addr) (cap : Nat) (L : List α), cs = [.slice A L.length cap] ∧ L.length ≤ maxLen ∧ (L ≠ [] → ∃ b o, A = some ⟨b, o, none⟩ ∧ b < W.heap.size ∧ ∀ (k : Nat) (x : α), L[k]? = some x → ∃ cs', Rd cs' x ∧ ∀ (j : Nat) (u : Value), cs'[j]? = some u → W.cell? ⟨b, o + k * K + j, none⟩ = some u) ∧
      (Lite tS y.1 → L.length * Try.prog.bytesOf tE ≤ reachBytes ∧ ∀ x ∈ L, Sz x) := by
  rcases open_slice hu hf with ⟨h1, _⟩ | ⟨a, len, cap, m, n, D, Pl, hcs, _, hlc, hcm, hm, hx, hel2⟩
  · exact ⟨none, 0, [], h1, Nat.zero_le _, fun h => absurd rfl h, fun _ => ⟨by simp, fun x hx => absurd hx List.not_mem_nil⟩⟩
  · rw [hK] at hel2
    have hm' : m = cap := by simpa using hm
    subst hm'
    obtain ⟨f, hfr⟩ := choose_lt (α := α) (p := fun i x => (∃ cs', Rd cs' x ∧ cs'.length = K ∧ ∀ (j : Nat) (u : Value), cs'[j]? = some u → W.cell? ((a.add (i * K)).add j) = some u) ∧ (Lite tE (D i) → Sz x)) (fun i (hi : i < m) => by
      obtain ⟨cs', hc, ht⟩ := hel2 i hi
      obtain ⟨_, hl, hat⟩ := World.cells?_some hc
      obtain ⟨x, hr, hz⟩ := hel _ _ _ hl ht
      refine ⟨x, ⟨cs', hr, hl, fun j u hj => ?_⟩, hz⟩
      have hj' : j < K := by have := (List.getElem?_eq_some_iff.1 hj).1; omega
      exact (hat j hj').trans hj)
    have hlen : ((List.range len).map f).length = len := by simp
    have hd := congrArg Prod.fst hx
    refine ⟨some a, m, (List.range len).map f, by rw [hlen]; exact hcs, by rw [hlen]; exact Nat.le_trans hlc hcm, fun hne => ?_, fun hz => ?_⟩
    · have h0 : 0 < len := by
        rcases Nat.eq_zero_or_pos len with h | h
        · subst h; exact absurd (by simp) hne
        · exact h
      obtain ⟨⟨cs0, -, hl0, hc0⟩, -⟩ := hfr 0 (by omega)
      obtain ⟨u0, hu0⟩ : ∃ u, cs0[0]? = some u := ⟨_, List.getElem?_eq_getElem (by omega)⟩
      have h1 := hc0 0 u0 hu0
      obtain ⟨b, off, spot⟩ := a
      have hs : spot = none := by
        have := World.cell?_spot h1
        simpa [Addr.add] using this
      subst hs
      have hlt := World.block_lt_of_cell? W _ h1
      rw [add_plainW, add_plainW] at hlt
      refine ⟨b, off, rfl, hlt, fun k x hk => ?_⟩
      obtain ⟨hkl, rfl⟩ := List.getElem?_eq_some_iff.1 hk
      simp only [List.length_map, List.length_range] at hkl
      simp only [List.getElem_map, List.getElem_range]
      obtain ⟨⟨cs', hr, -, hc⟩, -⟩ := hfr k (by omega)
      refine ⟨cs', hr, fun j u hj => ?_⟩
      have := hc j u hj
      rw [add_plainW, add_plainW] at this
      exact this
    · rw [hd] at hz
      unfold Lite at hz
      simp only [DataW.weights, hu] at hz
      refine ⟨?_, fun x hx => ?_⟩
      · have h1 := hz _ (List.mem_cons_self ..)
        rw [hlen]
        simp only [List.length_map, List.length_range] at h1
        exact Nat.le_trans (Nat.mul_le_mul_right _ (by omega)) h1
      · obtain ⟨i, hi, rfl⟩ := List.mem_map.1 hx
        have hi2 := List.mem_range.1 hi
        refine (hfr i (by omega)).2 fun q hq => hz q (List.mem_cons_of_mem _ (List.mem_append_left _ (weights_all (List.mem_map.2 ⟨i, hi, rfl⟩) q hq)))
theorem rd_pt : ∀ n cs (y : DataW H × List MemPlace), cs.length = 5 → DataW.trod enc Try.prog W 0 (fun _ => true) true n 91 cs = some y → ∃ x : Pt, cs = x.cs ∧ (Lite 91 y.1 → True) := fun _ _ _ hl h => by
  obtain ⟨p, e⟩ := read_pt hl h
  exact ⟨p, e, fun _ => trivial⟩
theorem rd_rl : ∀ n cs (y : DataW H × List MemPlace), cs.length = 12 → DataW.trod enc Try.prog W 0 (fun _ => true) true n 51 cs = some y → ∃ x : Rl, cs = x.cs ∧ (Lite 51 y.1 → True) := fun _ _ _ hl h => by
  obtain ⟨p, e⟩ := read_rule hl h
  exact ⟨p, e, fun _ => trivial⟩
set_option maxRecDepth 100000 in
theorem rd_way : ∀ n cs (y : DataW H × List MemPlace), cs.length = 3 → DataW.trod enc Try.prog W 0 (fun _ => true) true n 123 cs = some y → ∃ x : Wa, cs = x.cs ∧ (Lite 123 y.1 → True) := fun _ cs _ hl h0 => by
  obtain ⟨xs, m, _, _, _, hxs, hf⟩ := DataW.trod_struct Try.underlying123 h0
  have hx3 : xs.length = 3 := hxs
  match cs, hl with
  | [c0, c1, c2], _ =>
    match xs, hx3 with
    | [x0, x1, x2], _ =>
      have q0 := hf 0 _ rfl
      have q1 := hf 1 _ rfl
      have q2 := hf 2 _ rfl
      simp [cellsI] at q0 q1 q2
      obtain ⟨k0, rfl⟩ := int_of q0
      obtain ⟨k1, rfl⟩ := int_of q1
      obtain ⟨k2, rfl⟩ := int_of q2
      exact ⟨⟨k0, k1, k2⟩, rfl, fun _ => trivial⟩
set_option maxRecDepth 100000 in
theorem rd_pair : ∀ n cs (y : DataW H × List MemPlace), cs.length = 2 → DataW.trod enc Try.prog W 0 (fun _ => true) true n 121 cs = some y → ∃ x : Int × Int, cs = encA x ∧ (Lite 121 y.1 → True) := fun _ cs _ hl h0 => by
  obtain ⟨xs, m, _, _, _, hxs, hf⟩ := DataW.trod_array Try.underlying121 h0
  match cs, hl with
  | [c0, c1], _ =>
    match xs, hxs with
    | [x0, x1], _ =>
      have q0 := hf 0 (by decide)
      have q1 := hf 1 (by decide)
      simp [cellsI] at q0 q1
      obtain ⟨k0, rfl⟩ := int_of q0
      obtain ⟨k1, rfl⟩ := int_of q1
      exact ⟨(k0, k1), rfl, fun _ => trivial⟩
theorem rd_ps : ∀ n cs (y : DataW H × List MemPlace), cs.length = 1 → DataW.trod enc Try.prog W 0 (fun _ => true) true n 89 cs = some y → ∃ L : List Pt, (∃ s, cs = [s] ∧ Ps W s L) ∧ (Lite 89 y.1 → L.length ≤ 3518437208780) := fun _ _ _ _ h => by
  obtain ⟨A, cap, L, rfl, hm, hc, hz⟩ := read_slice Try.underlying89 cellsPt (by decide) (fun cs (x : Pt) => cs = x.cs) (fun _ => True) rd_pt h
  refine ⟨L, ⟨_, rfl, RdE.ps ⟨A, cap, rfl, fun hne => ?_⟩ hm⟩, fun hl => ?_⟩
  · obtain ⟨b, o, e, hb, hk⟩ := hc hne
    refine ⟨b, o, e, hb, fun i x hx j u hu => ?_⟩
    obtain ⟨cs', rfl, h2⟩ := hk i x hx
    exact h2 j u hu
  · have := (hz hl).1
    rw [bytesPt] at this
    unfold reachBytes at this
    omega
theorem rd_ru : ∀ n cs (y : DataW H × List MemPlace), cs.length = 1 → DataW.trod enc Try.prog W 0 (fun _ => true) true n 45 cs = some y → ∃ L : List Rl, (∃ s, cs = [s] ∧ Ru W s L ∧ L.length ≤ maxLen) ∧ (Lite 45 y.1 → L.length ≤ 1466015503658) := fun _ _ _ _ h => by
  obtain ⟨A, cap, L, rfl, hm, hc, hz⟩ := read_slice Try.underlying45 cellsRule (by decide) (fun cs (x : Rl) => cs = x.cs) (fun _ => True) rd_rl h
  refine ⟨L, ⟨_, rfl, RdE.ru ⟨A, cap, rfl, fun hne => ?_⟩, hm⟩, fun hl => ?_⟩
  · obtain ⟨b, o, e, hb, hk⟩ := hc hne
    refine ⟨b, o, e, hb, fun i x hx j u hu => ?_⟩
    obtain ⟨cs', rfl, h2⟩ := hk i x hx
    exact h2 j u hu
  · have := (hz hl).1
    rw [bytesRule] at this
    unfold reachBytes at this
    omega
theorem rd_rut : ∀ n cs (y : DataW H × List MemPlace), cs.length = 1 → DataW.trod enc Try.prog W 0 (fun _ => true) true n 84 cs = some y → ∃ X : List (List Rl), (∃ s, cs = [s] ∧ RuT W s X) ∧ (Lite 84 y.1 → X.length ≤ 5864062014634 ∧ ∀ L ∈ X, L.length ≤ 1466015503658) := fun _ _ _ _ h => by
  obtain ⟨A, cap, X, rfl, hm, hc, hz⟩ := read_slice Try.underlying84 cellsRules (by decide) _ _ rd_ru h
  refine ⟨X, ⟨_, rfl, A, cap, rfl, hm, fun L hL => ?_, fun hne => ?_⟩, fun hl => ?_⟩
  · obtain ⟨i, hi⟩ := List.getElem?_of_mem hL
    obtain ⟨b, o, e, hb, hk⟩ := hc (by rintro rfl; simp at hi)
    obtain ⟨cs', ⟨s, rfl, h2, h3⟩, h4⟩ := hk i L hi
    exact h3
  · obtain ⟨b, o, e, hb, hk⟩ := hc hne
    refine ⟨b, o, e, hb, fun i x hx => ?_⟩
    obtain ⟨cs', ⟨s, rfl, h2, h3⟩, h4⟩ := hk i x hx
    have h5 := h4 0 s rfl
    rw [Nat.mul_one, Nat.add_zero] at h5
    exact ⟨s, h5, h2⟩
  · have h1 := (hz hl).1
    rw [bytesRs] at h1
    unfold reachBytes at h1
    exact ⟨by omega, (hz hl).2⟩
theorem rd_pst {n : Nat} {c : Value} {y : DataW H × List MemPlace} (h : DataW.trod enc Try.prog W 0 (fun _ => true) true n 22 [c] = some y) : ∃ T : List (List Pt), PsT W c T ∧ (Lite 22 y.1 → T.length ≤ 5864062014634 ∧ ∀ L ∈ T, L.length ≤ 3518437208780) := by
  obtain ⟨A, cap, T, e, hm, hc, hz⟩ := read_slice Try.underlying22 cellsPts (by decide) _ _ rd_ps h
  injection e with e
  subst e
  refine ⟨T, ⟨A, cap, rfl, hm, fun hne => ?_⟩, fun hl => ?_⟩
  · obtain ⟨b, o, e, hb, hk⟩ := hc hne
    refine ⟨b, o, e, hb, fun i x hx => ?_⟩
    obtain ⟨cs', ⟨s, rfl, h2⟩, h4⟩ := hk i x hx
    have h5 := h4 0 s rfl
    rw [Nat.mul_one, Nat.add_zero] at h5
    exact ⟨s, h5, h2⟩
  · have h1 := (hz hl).1
    rw [bytesPts] at h1
    unfold reachBytes at h1
    exact ⟨by omega, (hz hl).2⟩
theorem rd_ruq {n : Nat} {c : Value} {y : DataW H × List MemPlace} (h : DataW.trod enc Try.prog W 0 (fun _ => true) true n 29 [c] = some y) : ∃ B : List (List (List Rl)), RuQ W c B ∧ (Lite 29 y.1 → B.length ≤ 5864062014634 ∧ ∀ X ∈ B, X.length ≤ 5864062014634 ∧ ∀ L ∈ X, L.length ≤ 1466015503658) := by
  obtain ⟨A, cap, B, e, hm, hc, hz⟩ := read_slice Try.underlying29 cellsRss (by decide) _ _ rd_rut h
  injection e with e
  subst e
  refine ⟨B, ⟨A, cap, rfl, hm, fun hne => ?_⟩, fun hl => ?_⟩
  · obtain ⟨b, o, e, hb, hk⟩ := hc hne
    refine ⟨b, o, e, hb, fun i x hx => ?_⟩
    obtain ⟨cs', ⟨s, rfl, h2⟩, h4⟩ := hk i x hx
    have h5 := h4 0 s rfl
    rw [Nat.mul_one, Nat.add_zero] at h5
    exact ⟨s, h5, h2⟩
  · have h1 := (hz hl).1
    rw [bytesRss] at h1
    unfold reachBytes at h1
    exact ⟨by omega, (hz hl).2⟩
theorem rd_pe {n : Nat} {c : Value} {y : DataW H × List MemPlace} (h : DataW.trod enc Try.prog W 0 (fun _ => true) true n 25 [c] = some y) : ∃ P : List (Int × Int), Pe W c P ∧ (Lite 25 y.1 → P.length ≤ 8796093021952) := by
  obtain ⟨A, cap, P, e, hm, hc, hz⟩ := read_slice Try.underlying25 cellsPair (by decide) (fun cs x => cs = encA x) (fun _ => True) rd_pair h
  injection e with e
  subst e
  refine ⟨P, RdE.pe ⟨A, cap, rfl, fun hne => ?_⟩ hm, fun hl => ?_⟩
  · obtain ⟨b, o, e, hb, hk⟩ := hc hne
    refine ⟨b, o, e, hb, fun i x hx j u hu => ?_⟩
    obtain ⟨cs', rfl, h2⟩ := hk i x hx
    exact h2 j u hu
  · have := (hz hl).1
    rw [bytesPair] at this
    unfold reachBytes at this
    omega
theorem rd_wy {n : Nat} {c : Value} {y : DataW H × List MemPlace} (h : DataW.trod enc Try.prog W 0 (fun _ => true) true n 26 [c] = some y) : ∃ Q : List Wa, Wy W c Q ∧ (Lite 26 y.1 → Q.length ≤ 5864062014634) := by
  obtain ⟨A, cap, Q, e, hm, hc, hz⟩ := read_slice Try.underlying26 cellsWay (by decide) (fun cs (x : Wa) => cs = x.cs) (fun _ => True) rd_way h
  injection e with e
  subst e
  refine ⟨Q, RdE.wy ⟨A, cap, rfl, fun hne => ?_⟩ hm, fun hl => ?_⟩
  · obtain ⟨b, o, e, hb, hk⟩ := hc hne
    refine ⟨b, o, e, hb, fun i x hx j u hu => ?_⟩
    obtain ⟨cs', rfl, h2⟩ := hk i x hx
    exact h2 j u hu
  · have := (hz hl).1
    rw [bytesWay] at this
    unfold reachBytes at this
    omega
set_option maxRecDepth 100000 in
theorem rd_pol {n : Nat} {c0 c1 c2 : Value} {y : DataW H × List MemPlace} (h : DataW.trod enc Try.prog W 0 (fun _ => true) true n 28 [c0, c1, c2] = some y) : ∃ (ten : Int) (P : List (Int × Int)) (Q : List Wa), c0 = .int .i64 ten ∧ Pe W c1 P ∧ Wy W c2 Q ∧ (Lite 28 y.1 → P.length ≤ 8796093021952 ∧ Q.length ≤ 5864062014634) := by
  obtain ⟨xs, m, _, hx, _, hxs, hf⟩ := DataW.trod_struct Try.underlying28 h
  have hx3 : xs.length = 3 := hxs
  match xs, hx3 with
  | [x0, x1, x2], _ =>
    have q0 := hf 0 _ rfl
    have q1 := hf 1 _ rfl
    have q2 := hf 2 _ rfl
    simp [cellsI, cellsPairs, cellsWays] at q0 q1 q2
    obtain ⟨ten, rfl⟩ := int_of q0
    obtain ⟨P, hP, zP⟩ := rd_pe q1
    obtain ⟨Q, hQ, zQ⟩ := rd_wy q2
    refine ⟨ten, P, Q, rfl, hP, hQ, fun hl => ?_⟩
    have hd := congrArg Prod.fst hx
    rw [hd] at hl
    unfold Lite at hl
    simp [DataW.weights, DataW.weightsEach, Try.underlying28] at hl
    exact ⟨zP fun m hm => hl m (.inr (.inl hm)), zQ fun m hm => hl m (.inr (.inr hm))⟩
set_option maxRecDepth 100000 in
/-- A configuration by value. -/
theorem open_cfg {base : Nat} {v : Value} {d : DataW H} {p : List MemPlace} (hok : Value.okWide Try.prog W .any base 31 v) (h0 : DataW.Trod enc Try.prog W 0 (fun _ => true) true 31 v d p) :
    ∃ (tv : Value) (T : List (List Pt)) (ten : Int) (pv : Value) (P : List (Int × Int)) (wv : Value) (Q : List Wa) (bv : Value) (B : List (List (List Rl))), v = .agg #[tv, .int .i64 ten, pv, wv, bv] ∧ PsT W tv T ∧ Pe W pv P ∧ Wy W wv Q ∧ RuQ W bv B ∧ (Lite 31 d → Szd T P Q B) := by
  obtain ⟨cs, rfl, hsz⟩ := okWide_struct Try.underlying31 hok
  obtain ⟨fuel, hf0⟩ := h0
  have hf : DataW.trod enc Try.prog W 0 (fun _ => true) true fuel 31 cs.toList = some (d, p) := by simpa [Value.cells] using hf0
  have hc5 : cs.toList.length = 5 := by simpa using hsz.trans cellsCfg
  obtain ⟨l, hl⟩ : ∃ l, cs.toList = l := ⟨_, rfl⟩
  rw [hl] at hf hc5
  match l, hc5 with
  | [c0, c1, c2, c3, c4], _ =>
    obtain ⟨xs, m, _, hx, _, hxs, hff⟩ := DataW.trod_struct Try.underlying31 hf
    have hx3 : xs.length = 3 := hxs
    match xs, hx3 with
    | [x0, x1, x2], _ =>
      have q0 := hff 0 _ rfl
      have q1 := hff 1 _ rfl
      have q2 := hff 2 _ rfl
      simp [cellsTopo, cellsPol, cellsRsss] at q0 q1 q2
      obtain ⟨ys, m2, _, hy, _, hys, hfy⟩ := DataW.trod_struct Try.underlying24 q0
      have hy1 : ys.length = 1 := hys
      match ys, hy1 with
      | [y0], _ =>
        have r0 := hfy 0 _ rfl
        simp [cellsPtt] at r0
        obtain ⟨T, hT, zT⟩ := rd_pst r0
        obtain ⟨ten, P, Q, rfl, hP, hQ, zP⟩ := rd_pol q1
        obtain ⟨B, hB, zB⟩ := rd_ruq q2
        refine ⟨c0, T, ten, c2, P, c3, Q, c4, B, by congr 1; apply Array.toList_inj.1; rw [hl], hT, hP, hQ, hB, fun hz => ?_⟩
        have hd := congrArg Prod.fst hx
        simp only at hd
        have hd0 := congrArg Prod.fst hy
        rw [hd] at hz
        unfold Lite at hz
        simp [DataW.weights, DataW.weightsEach, Try.underlying31] at hz
        have z0 := zT fun m hm => hz m (.inl (by rw [hd0]; simp [DataW.weights, DataW.weightsEach, Try.underlying24]; exact hm))
        have z1 := zP fun m hm => hz m (.inr (.inl hm))
        have z2 := zB fun m hm => hz m (.inr (.inr hm))
        exact ⟨z0.1, z0.2, z1.1, z1.2, z2.1, fun X hX => (z2.2 X hX).1, fun X hX => (z2.2 X hX).2⟩
end
end Go.Proofs.Ytanliiopdhjhjaa

namespace Go.Proofs.Hd
variable {α : Type}

/-! ### added once each -/
/-- x behind l, if it is not there. -/
def addC [DecidableEq α] (l : List α) (x : α) : List α := if x ∈ l then l else l ++ [x]
theorem addC_in [DecidableEq α] {l : List α} {x : α} (h : x ∈ l) : addC l x = l := by unfold addC; rw [if_pos h]
theorem addC_new [DecidableEq α] {l : List α} {x : α} (h : x ∉ l) : addC l x = l ++ [x] := by unfold addC; rw [if_neg h]
theorem addC_pre [DecidableEq α] (l : List α) (x : α) : l <+: addC l x := by
  by_cases h : x ∈ l
  · rw [addC_in h]; exact List.prefix_refl l
  · rw [addC_new h]; exact List.prefix_append l [x]
theorem addC_mem [DecidableEq α] {l : List α} {x y : α} : y ∈ addC l x ↔ y ∈ l ∨ y = x := by
  by_cases h : x ∈ l
  · rw [addC_in h]
    constructor
    · exact .inl
    · rintro (h' | rfl)
      · exact h'
      · exact h
  · rw [addC_new h]; simp
theorem addC_nodup [DecidableEq α] {l : List α} {x : α} (hl : l.Nodup) : (addC l x).Nodup := by
  by_cases h : x ∈ l
  · rw [addC_in h]; exact hl
  · rw [addC_new h, List.nodup_append]
    refine ⟨hl, by simp, ?_⟩
    intro a ha b hb e
    rw [List.mem_singleton] at hb
    rw [← hb, ← e] at h
    exact h ha
theorem addC_len [DecidableEq α] (l : List α) (x : α) : (addC l x).length ≤ l.length + 1 := by
  by_cases h : x ∈ l
  · rw [addC_in h]; omega
  · rw [addC_new h]; simp
/-- All of xs behind l, each once. -/
def addsC [DecidableEq α] (l xs : List α) : List α := xs.foldl addC l
theorem addsC_snoc [DecidableEq α] (l xs : List α) (x : α) : addsC l (xs ++ [x]) = addC (addsC l xs) x := by unfold addsC; rw [List.foldl_append]; rfl
theorem addsC_mem [DecidableEq α] {xs : List α} {y : α} : ∀ {l : List α}, y ∈ addsC l xs ↔ y ∈ l ∨ y ∈ xs := by
  induction xs with
  | nil => intro l; simp [addsC]
  | cons x xs ih =>
    intro l
    have : addsC l (x :: xs) = addsC (addC l x) xs := rfl
    rw [this, ih, addC_mem, List.mem_cons, or_assoc]
theorem addsC_nodup [DecidableEq α] {xs : List α} : ∀ {l : List α}, l.Nodup → (addsC l xs).Nodup := by
  induction xs with
  | nil => intro l h; exact h
  | cons x xs ih => intro l h; exact ih (addC_nodup h)
theorem addsC_len [DecidableEq α] (xs : List α) : ∀ l : List α, (addsC l xs).length ≤ l.length + xs.length := by
  induction xs with
  | nil => intro l; simp [addsC]
  | cons x xs ih =>
    intro l
    have h1 := ih (addC l x)
    have h2 := addC_len l x
    have : addsC l (x :: xs) = addsC (addC l x) xs := rfl
    rw [this, List.length_cons]
    omega

/-! ### closed under a partial function -/
/-- What one element asks for, added. -/
def askC [DecidableEq α] (l : List α) (o : Option α) : List α := match o with
  | some p => addC l p
  | none => l
theorem askC_pre [DecidableEq α] (l : List α) (o : Option α) : l <+: askC l o := by
  cases o with
  | none => exact List.prefix_refl l
  | some p => exact addC_pre l p
theorem askC_nodup [DecidableEq α] {l : List α} (o : Option α) (h : l.Nodup) : (askC l o).Nodup := by
  cases o with
  | none => exact h
  | some p => exact addC_nodup h
theorem askC_len [DecidableEq α] (l : List α) (o : Option α) : (askC l o).length ≤ l.length + 1 := by
  cases o with
  | none => exact Nat.le_add_right _ _
  | some p => exact addC_len l p
/-- All that c asks for, by each of S in order. -/
def askS [DecidableEq α] (bf : α → α → Option α) (S : List α) (c : α) (l : List α) : List α := S.foldl (fun l s => askC l (bf c s)) l
theorem askS_take [DecidableEq α] {bf : α → α → Option α} {S : List α} {c s : α} {l : List α} {k : Nat} (h : S[k]? = some s) : askS bf (S.take (k + 1)) c l = askC (askS bf (S.take k) c l) (bf c s) := by
  rw [List.take_add_one, h, Option.toList_some]
  unfold askS
  rw [List.foldl_append]
  rfl
theorem askS_pre [DecidableEq α] (bf : α → α → Option α) (S : List α) (c : α) : ∀ l : List α, l <+: askS bf S c l := by
  induction S with
  | nil => intro l; exact List.prefix_refl l
  | cons s S ih => intro l; exact (askC_pre l (bf c s)).trans (ih _)
theorem askS_nodup [DecidableEq α] (bf : α → α → Option α) (S : List α) (c : α) : ∀ {l : List α}, l.Nodup → (askS bf S c l).Nodup := by
  induction S with
  | nil => intro l h; exact h
  | cons s S ih => intro l h; exact ih (askC_nodup _ h)
theorem askS_len [DecidableEq α] (bf : α → α → Option α) (S : List α) (c : α) : ∀ l : List α, (askS bf S c l).length ≤ l.length + S.length := by
  induction S with
  | nil => intro l; simp [askS]
  | cons s S ih =>
    intro l
    have h1 := ih (askC l (bf c s))
    have h2 := askC_len l (bf c s)
    have : askS bf (s :: S) c l = askS bf S c (askC l (bf c s)) := rfl
    rw [this, List.length_cons]
    omega
theorem askS_all [DecidableEq α] (bf : α → α → Option α) (S : List α) (c : α) : ∀ (l : List α) (s p : α), s ∈ S → bf c s = some p → p ∈ askS bf S c l := by
  induction S with
  | nil => intro l s p h; cases h
  | cons t S ih =>
    intro l s p h hp
    have e : askS bf (t :: S) c l = askS bf S c (askC l (bf c t)) := rfl
    rw [e]
    rcases List.mem_cons.1 h with rfl | h
    · refine (askS_pre bf S c _).subset ?_
      rw [hp]
      exact addC_mem.2 (.inr rfl)
    · exact ih _ s p h hp
/-- What holds of the list and of all that is asked for holds of all. -/
theorem askS_ok [DecidableEq α] {Q : α → Prop} (bf : α → α → Option α) (S : List α) (c : α) (hb : ∀ s p, s ∈ S → bf c s = some p → Q p) : ∀ l : List α, (∀ x, x ∈ l → Q x) → ∀ x, x ∈ askS bf S c l → Q x := by
  induction S with
  | nil => intro l h; exact h
  | cons t S ih =>
    intro l h
    refine ih (fun s p hs => hb s p (List.mem_cons_of_mem _ hs)) (askC l (bf c t)) ?_
    intro x hx
    cases e : bf c t with
    | none => rw [e] at hx; exact h x hx
    | some p =>
      rw [e] at hx
      rcases addC_mem.1 hx with hx | rfl
      · exact h x hx
      · exact hb t x List.mem_cons_self e

/-- From element i on, as long as there is one and they are not more than M; k bounds the rounds. -/
def cloC [DecidableEq α] (bf : α → α → Option α) (S : List α) (M : Nat) : Nat → Nat → List α → List α
  | 0, _, l => l
  | k + 1, i, l => match l[i]? with
    | some c => if l.length ≤ M then cloC bf S M k (i + 1) (askS bf S c l) else l
    | none => l
theorem cloC_end [DecidableEq α] (bf : α → α → Option α) (S : List α) (M k i : Nat) (l : List α) (h : l.length ≤ i) : cloC bf S M k i l = l := by
  cases k with
  | zero => rfl
  | succ k => unfold cloC; rw [List.getElem?_eq_none h]
theorem cloC_big [DecidableEq α] (bf : α → α → Option α) (S : List α) (M k i : Nat) (l : List α) (h : M < l.length) : cloC bf S M k i l = l := by
  cases k with
  | zero => rfl
  | succ k =>
    unfold cloC
    cases l[i]? with
    | none => rfl
    | some c => show (if l.length ≤ M then _ else l) = l; rw [if_neg (by omega)]
theorem cloC_step [DecidableEq α] {bf : α → α → Option α} {S : List α} {M k i : Nat} {l : List α} {c : α} (hc : l[i]? = some c) (h : l.length ≤ M) : cloC bf S M (k + 1) i l = cloC bf S M k (i + 1) (askS bf S c l) := by
  rw [cloC, hc]
  show (if l.length ≤ M then _ else l) = _
  rw [if_pos h]
theorem cloC_pre [DecidableEq α] (bf : α → α → Option α) (S : List α) (M : Nat) : ∀ (k i : Nat) (l : List α), l <+: cloC bf S M k i l := by
  intro k
  induction k with
  | zero => intro i l; exact List.prefix_refl l
  | succ k ih =>
    intro i l
    by_cases h : l.length ≤ M
    · cases hc : l[i]? with
      | none => rw [cloC_end bf S M _ i l (List.getElem?_eq_none_iff.1 hc)]; exact List.prefix_refl l
      | some c => rw [cloC_step hc h]; exact (askS_pre bf S c l).trans (ih _ _)
    · rw [cloC_big bf S M _ i l (by omega)]; exact List.prefix_refl l
theorem cloC_nodup [DecidableEq α] (bf : α → α → Option α) (S : List α) (M : Nat) : ∀ (k i : Nat) (l : List α), l.Nodup → (cloC bf S M k i l).Nodup := by
  intro k
  induction k with
  | zero => intro i l h; exact h
  | succ k ih =>
    intro i l hn
    by_cases h : l.length ≤ M
    · cases hc : l[i]? with
      | none => rw [cloC_end bf S M _ i l (List.getElem?_eq_none_iff.1 hc)]; exact hn
      | some c => rw [cloC_step hc h]; exact ih _ _ (askS_nodup bf S c hn)
    · rw [cloC_big bf S M _ i l (by omega)]; exact hn
theorem cloC_ok [DecidableEq α] {Q : α → Prop} (bf : α → α → Option α) (S : List α) (M : Nat) (hb : ∀ c s p, Q c → s ∈ S → bf c s = some p → Q p) : ∀ (k i : Nat) (l : List α), (∀ x, x ∈ l → Q x) → ∀ x, x ∈ cloC bf S M k i l → Q x := by
  intro k
  induction k with
  | zero => intro i l h; exact h
  | succ k ih =>
    intro i l hn
    by_cases h : l.length ≤ M
    · cases hc : l[i]? with
      | none => rw [cloC_end bf S M _ i l (List.getElem?_eq_none_iff.1 hc)]; exact hn
      | some c => rw [cloC_step hc h]; exact ih _ _ (askS_ok bf S c (fun s p hs hp => hb c s p (hn c (List.mem_of_getElem? hc)) hs hp) l hn)
    · rw [cloC_big bf S M _ i l (by omega)]; exact hn
/-- With rounds enough, what is no more than M is closed. -/
theorem cloC_closed [DecidableEq α] (bf : α → α → Option α) (S : List α) (M : Nat) : ∀ (k i : Nat) (l : List α), M + 1 ≤ k + i → (∀ (j : Nat) (c s p : α), j < i → l[j]? = some c → s ∈ S → bf c s = some p → p ∈ l) →
    (cloC bf S M k i l).length ≤ M → ∀ c s p, c ∈ cloC bf S M k i l → s ∈ S → bf c s = some p → p ∈ cloC bf S M k i l := by
  intro k
  induction k with
  | zero =>
    intro i l hk hi hM c s p hc hs hp
    have e : cloC bf S M 0 i l = l := rfl
    rw [e] at hM hc ⊢
    obtain ⟨j, hj⟩ := List.mem_iff_getElem?.1 hc
    have hlt : j < l.length := by
      rcases Nat.lt_or_ge j l.length with h | h
      · exact h
      · rw [List.getElem?_eq_none h] at hj; cases hj
    exact hi j c s p (by omega) hj hs hp
  | succ k ih =>
    intro i l hk hi hM c s p hc hs hp
    by_cases h : l.length ≤ M
    · cases hd : l[i]? with
      | none =>
        have hn := List.getElem?_eq_none_iff.1 hd
        rw [cloC_end bf S M _ i l hn] at hc ⊢
        obtain ⟨j, hj⟩ := List.mem_iff_getElem?.1 hc
        have hlt : j < l.length := by
          rcases Nat.lt_or_ge j l.length with h | h
          · exact h
          · rw [List.getElem?_eq_none h] at hj; cases hj
        exact hi j c s p (by omega) hj hs hp
      | some d =>
        rw [cloC_step hd h] at hM hc ⊢
        refine ih (i + 1) (askS bf S d l) (by omega) ?_ hM c s p hc hs hp
        intro j c' s' p' hj hc' hs' hp'
        have hpre := askS_pre bf S d l
        have hi' : i < l.length := by
          rcases Nat.lt_or_ge i l.length with h | h
          · exact h
          · rw [List.getElem?_eq_none h] at hd; cases hd
        have hl : j < l.length := by omega
        have he : l[j]? = some c' := by
          obtain ⟨t, ht⟩ := hpre
          rw [← ht, List.getElem?_append_left hl] at hc'
          exact hc'
        rcases Nat.lt_or_ge j i with hlt | hge
        · exact hpre.subset (hi j c' s' p' hlt he hs' hp')
        · have : j = i := by omega
          subst this
          rw [hd] at he
          cases he
          exact askS_all bf S d l s' p' hs' hp'
    · rw [cloC_big bf S M _ i l (by omega)] at hM
      omega
/-! ### the stable order by a number, told by rows -/
/-- Those of number 0 in their order, then those of 1, .. below N. -/
def toldL (key : α → Nat) (N : Nat) (l : List α) : List α := (List.range N).flatMap fun n => l.filter fun x => decide (key x = n)
theorem toldL_snoc (key : α → Nat) (n : Nat) (l : List α) : toldL key (n + 1) l = toldL key n l ++ l.filter fun x => decide (key x = n) := by
  unfold toldL
  rw [List.range_succ, List.flatMap_append, List.flatMap_cons, List.flatMap_nil, List.append_nil]
theorem toldL_mem {key : α → Nat} {N : Nat} {l : List α} (hk : ∀ x, x ∈ l → key x < N) {x : α} : x ∈ toldL key N l ↔ x ∈ l := by
  unfold toldL
  rw [List.mem_flatMap]
  constructor
  · rintro ⟨n, _, h⟩
    exact (List.mem_filter.1 h).1
  · intro h
    exact ⟨key x, List.mem_range.2 (hk x h), List.mem_filter.2 ⟨h, by simp⟩⟩
/-- By the number, then by the place. -/
def ltK (key : α → Nat) (a b : α × Nat) : Prop := key a.1 < key b.1 ∨ (key a.1 = key b.1 ∧ a.2 < b.2)
theorem zip_inc (l : List α) (s : Nat) : (l.zipIdx s).Pairwise (fun a b => a.2 < b.2) := by
  rw [List.pairwise_iff_getElem]
  intro i j hi hj hij
  rw [List.getElem_zipIdx, List.getElem_zipIdx]
  show s + i < s + j
  omega
theorem tagged_inc (key : α → Nat) (N : Nat) (l : List α) : ((List.range N).flatMap fun n => l.zipIdx.filter fun x => decide (key x.1 = n)).Pairwise (ltK key) := by
  rw [List.pairwise_flatMap]
  constructor
  · intro n _
    refine List.Pairwise.imp_of_mem ?_ ((zip_inc l 0).filter _)
    intro a b ha hb h
    have h1 := of_decide_eq_true (List.mem_filter.1 ha).2
    have h2 := of_decide_eq_true (List.mem_filter.1 hb).2
    exact .inr ⟨h1.trans h2.symm, h⟩
  · refine List.Pairwise.imp ?_ List.pairwise_lt_range
    intro n m hnm a ha b hb
    have h1 := of_decide_eq_true (List.mem_filter.1 ha).2
    have h2 := of_decide_eq_true (List.mem_filter.1 hb).2
    left
    omega
theorem ltK_nodup {key : α → Nat} {q : List (α × Nat)} (h : q.Pairwise (ltK key)) : q.Nodup := by
  refine h.imp ?_
  rintro a b hab rfl
  rcases hab with h | ⟨_, h⟩ <;> omega
/-- A stable sort is the one told by rows: a permutation of the elements with their places, in order by number, then by place. -/
theorem told_unique {key : α → Nat} {N : Nat} {l : List α} (hk : ∀ x, x ∈ l → key x < N) {q : List (α × Nat)} (hp : q.Perm l.zipIdx) (hs : q.Pairwise (ltK key)) : q.map Prod.fst = toldL key N l := by
  have hq := tagged_inc key N l
  have hperm : q.Perm ((List.range N).flatMap fun n => l.zipIdx.filter fun x => decide (key x.1 = n)) := by
    rw [List.perm_ext_iff_of_nodup (ltK_nodup hs) (ltK_nodup hq)]
    intro a
    rw [hp.mem_iff, List.mem_flatMap]
    constructor
    · intro h
      have hm : a.1 ∈ l := by
        have := List.mem_map_of_mem (f := Prod.fst) h
        rw [List.zipIdx_map_fst] at this
        exact this
      exact ⟨key a.1, List.mem_range.2 (hk _ hm), List.mem_filter.2 ⟨h, by simp⟩⟩
    · rintro ⟨n, _, h⟩
      exact (List.mem_filter.1 h).1
  have he := List.Perm.eq_of_pairwise (le := ltK key) (fun a b _ _ h1 h2 => by
    rcases h1 with h1 | ⟨h1, k1⟩ <;> rcases h2 with h2 | ⟨h2, k2⟩ <;> omega) hs hq hperm
  rw [he, List.map_flatMap]
  unfold toldL
  congr 1
  funext n
  have : (l.zipIdx.filter fun x => decide (key x.1 = n)) = l.zipIdx.filter ((fun x => decide (key x = n)) ∘ Prod.fst) := rfl
  rw [this, ← List.filter_map, List.zipIdx_map_fst]
end Go.Proofs.Hd

namespace Go.Proofs
open Go.Shelf Go.RowKit Go.Proofs.Hd
end Go.Proofs

namespace Go.Proofs
open Go.RowKit Go.Proofs.Hd
attribute [local go_sem] uv_nonneg
end Go.Proofs

namespace Go.Proofs.Hd
open Go.RowKit
def hArr (h l : BitVec 64) : Array Value := #[.int .u64 (uv h), .int .u64 (uv l)]
theorem Blk.two {w : World} {g : Nat} {t : TypeId} {p q : BitVec 64} (h : Blk w g t (hArr p q)) : w.cell? ⟨g, 0, none⟩ = some (.int .u64 (uv p)) ∧ w.cell? ⟨g, 1, none⟩ = some (.int .u64 (uv q)) := ⟨h.cell 0, h.cell 1⟩
end Go.Proofs.Hd

namespace Go.Proofs
open Go.RowKit Go.Proofs.Hd
attribute [local go_sem] uv_and uv_or uv_xor uv_andNot uv_shr uv_shl uv_add uv_sub uv_nonneg
attribute [local go_sem high] run_eq2 run_eq4
end Go.Proofs

namespace Go.Proofs
open Go.RowKit Go.Proofs.Hd
attribute [local go_sem] uv_nonneg
theorem put_z (a n : Nat) (v : BitVec 64) (w : World) (hn : a + n ≤ 128) (h64 : n ≤ 64) (hv : ¬ uv (low n) < uv v) :
    Calls Try.prog 76 #[.agg #[.int .u64 0, .int .u64 0], .int .i64 a, .int .i64 n, .int .u64 (uv v)] w fun e w' => e = .returned (.tuple #[.agg #[.int .u64 (uv (putH 0#64 a n v)), .int .u64 (uv (putL 0#64 a n v))], .int .i64 0]) ∧ Below w.heap.size w w' :=
  put_c 0#64 0#64 a n v w hn h64 hv
theorem mask_i (x : Int) (a n : Nat) (w : World) (hx : x = (a : Int)) (h : a + n ≤ 128) : Calls Try.prog 77 #[.int .i64 x, .int .i64 n] w fun e w' => e = .returned (.tuple #[.agg #[.int .u64 (uv (maskH a n)), .int .u64 (uv (maskL a n))], .int .i64 0]) ∧ Below w.heap.size w w' := by
  subst hx; exact mask_c a n w h

set_option maxHeartbeats 1000000 in
theorem cfield_yes (a n len : Nat) (v : BitVec 64) (w : World) (hn : a + n ≤ 128) (h64 : n ≤ 64) (hv : ¬ uv (low n) < uv v) (hl : len ≤ n) :
    Calls Try.prog 61 #[.int .i64 a, .int .i64 n, .int .u64 (uv v), .int .i64 len] w fun e w' => e = .returned (.tuple #[.agg #[.int .u64 (uv (putH 0#64 a n v &&& maskH (a + n - len) len)), .int .u64 (uv (putL 0#64 a n v &&& maskL (a + n - len) len)), .int .u64 (uv (maskH (a + n - len) len)), .int .u64 (uv (maskL (a + n - len) len))], .int .i64 0]) ∧ Below w.heap.size w w' := by
  have HV := Lib.hid hv
  clear hv
  have b0 := below1 w (.cells #[.int .u64 0, .int .u64 0, .int .u64 0, .int .u64 0] 43)
  have Z0 := zero4_new w
  go_enter Try.func61, Try.ntmps61
  go_wp2_with fail
  (with_reducible refine (put_z a n v _ hn h64 (by have := HV.out; omega)).mono ?_)
  rintro e w1 ⟨rfl, hb1⟩
  have B1 := b0.trans (hb1.mono b0.size)
  have Z1 := Zero4.on hb1 Z0
  have bl1 := below1 w1 (.cells #[.int .u64 (uv (putH 0#64 a n v)), .int .u64 (uv (putL 0#64 a n v))] 41)
  have X1 : Blk (w1.alloc (.cells #[.int .u64 (uv (putH 0#64 a n v)), .int .u64 (uv (putL 0#64 a n v))] 41)) w1.heap.size 41 (hArr (putH 0#64 a n v) (putL 0#64 a n v)) := Blk.new w1 _ _
  have B2 := B1.trans (bl1.mono B1.size)
  have Z2 := Zero4.on bl1 Z1
  clear hb1 Z0 b0 B1 Z1 bl1
  have hl' : (len : Int) ≤ n := by omega
  go_wp2_with fail
  (with_reducible refine (mask_i _ (a + n - len) len _ (by omega) (by omega)).mono ?_)
  rintro e w3 ⟨rfl, hb3⟩
  have B3 := B2.trans (hb3.mono B2.size)
  have Z3 := Zero4.on hb3 Z2
  have X3 := X1.on hb3
  have x3 := X3.two
  have l3 : w1.heap.size < w3.heap.size := X3.lt
  clear hb3 Z2 X1 B2
  have bl3 := below1 w3 (.cells #[.int .u64 (uv (maskH (a + n - len) len)), .int .u64 (uv (maskL (a + n - len) len))] 41)
  have B4 := B3.trans (bl3.mono B3.size)
  have Z4 := Zero4.on bl3 Z3
  clear Z3 B3 bl3
  go_wp2_with fail
  (with_reducible refine (make_c _ _ _ _ _).mono ?_)
  rintro e w5 ⟨rfl, hb5⟩
  have B5 := B4.trans (hb5.mono B4.size)
  have Z5 := Zero4.on hb5 Z4
  have Y5 := Z5.out
  clear Z4 B4 hb5 x3 X3
  go_wp2
  exact bodyPost_ret (v := .tuple #[.agg #[.int .u64 (uv (putH 0#64 a n v &&& maskH (a + n - len) len)), .int .u64 (uv (putL 0#64 a n v &&& maskL (a + n - len) len)), .int .u64 (uv (maskH (a + n - len) len)), .int .u64 (uv (maskL (a + n - len) len))], .int .i64 0]) (by simp [results, Try.results61, go_sem, Y5]) rfl ⟨rfl, B5.trans ((sets4 _ _ _ _ _ _).mono (Nat.le_refl _))⟩

end Go.Proofs

namespace Go.Proofs
open Go.RowKit Go.Proofs.Hd
attribute [local go_sem] uv_nonneg eq4_self
attribute [local go_sem high] run_eq2 run_eq4
end Go.Proofs

namespace Go.Proofs
open Go.RowKit Go.Proofs.Hd
attribute [local go_sem] uv_nonneg eq4_self eq2_self
attribute [local go_sem high] run_eq2 run_eq4
theorem flat_get (L : List Cb) (k : Nat) (hk : k < L.length) (j : Nat) (hj : j < 4) : (flat L)[k * 4 + j]? = (L[k]).cells[j]? := by
  induction L generalizing k with
  | nil => simp at hk
  | cons c L ih =>
    have e : flat (c :: L) = c.cells ++ flat L := by simp [flat]
    rw [e]
    cases k with
    | zero => rw [Nat.zero_mul, Nat.zero_add, List.getElem?_append_left (by simp [Cb.cells]; omega)]; rfl
    | succ k =>
      rw [List.getElem?_append_right (by simp [Cb.cells]; omega), show (k + 1) * 4 + j - c.cells.length = k * 4 + j by simp [Cb.cells]; omega]
      exact ih k (by simpa using hk)
theorem own_get {w : World} {base g cap : Nat} {t : TypeId} {L : List Cb} (h : w.ownsRow base t 4 (.slice (some ⟨g, 0, none⟩) L.length cap) L.length (flat L)) (k : Nat) (hk : k < L.length) (j : Nat) (hj : j < 4) : w.cell? ⟨g, k * 4 + j, none⟩ = (L[k]).cells[j]? :=
  (h.cellAt (k * 4 + j) (by omega)).trans (flat_get L k hk j hj)
theorem own_at {w : World} {base g cap : Nat} {t : TypeId} {L : List Cb} {c : Cb} (h : w.ownsRow base t 4 (.slice (some ⟨g, 0, none⟩) L.length cap) L.length (flat L)) (k : Nat) (hc : L[k]? = some c) (j : Nat) (hj : j < 4) : w.cell? ⟨g, k * 4 + j, none⟩ = c.cells[j]? := by
  obtain ⟨hk, rfl⟩ := List.getElem?_eq_some_iff.1 hc
  exact own_get h k hk j hj
theorem own_form {w : World} {base : Nat} {t : TypeId} {size n : Nat} {v : Value} {xs : List Value} (h : w.ownsRow base t size v n xs) : ∃ A cap, v = .slice A n cap ∧ (0 < n → ∃ g, A = some ⟨g, 0, none⟩) := by
  rcases h.2 with ⟨rfl, rfl⟩ | ⟨g, cap, cur, rfl, _⟩
  · exact ⟨none, 0, rfl, fun h => by omega⟩
  · exact ⟨_, cap, rfl, fun _ => ⟨g, rfl⟩⟩
end Go.Proofs

namespace Go.Proofs
open Go.RowKit Go.Proofs.Hd
attribute [local go_sem] uv_nonneg
theorem has_match (c : Cb) (h l : BitVec 64) (hs : c.snd = true) : c.has h l = true ↔ ∀ j, j < 128 → c.K j = true → hbit h l j = c.V j := by
  rw [Cb.has_iff]
  rw [Cb.snd_iff] at hs
  constructor
  · intro H j hj hk
    have := H j hj
    rw [hk, Bool.and_true] at this
    exact this
  · intro H j hj
    cases hk : c.K j with
    | true => rw [H j hj hk, Bool.and_true]
    | false =>
      cases hv : c.V j with
      | false => simp
      | true => rw [hs j hj hv] at hk; cases hk
/-- Sign k of a text. -/
theorem sign_x {c : Cb} {s : ByteArray} (hs : txt c = s) (k m : Nat) (hm : m + k = 127) (hk : k < s.size) (h : c.K m = false) : ((s[k]'hk).toNat : Int) = 120 := by
  subst hs; rw [txt_get, show 127 - k = m by omega]; unfold sgn; rw [h]; rfl
theorem sign_1 {c : Cb} {s : ByteArray} (hs : txt c = s) (k m : Nat) (hm : m + k = 127) (hk : k < s.size) (h : c.K m = true) (hv : c.V m = true) : ((s[k]'hk).toNat : Int) = 49 := by
  subst hs; rw [txt_get, show 127 - k = m by omega]; unfold sgn; rw [h, hv]; rfl
theorem sign_0 {c : Cb} {s : ByteArray} (hs : txt c = s) (k m : Nat) (hm : m + k = 127) (hk : k < s.size) (h : c.K m = true) (hv : c.V m = false) : ((s[k]'hk).toNat : Int) = 48 := by
  subst hs; rw [txt_get, show 127 - k = m by omega]; unfold sgn; rw [h, hv]; rfl
theorem has_fails {c : Cb} {h l : BitVec 64} {j : Nat} (hs : c.snd = true) (hj : j < 128) (hk : c.K j = true) (hne : ¬ hbit h l j = c.V j) : c.has h l = false := by
  cases e : c.has h l with
  | false => rfl
  | true => exact absurd ((has_match c h l hs).1 e j hj hk) hne
theorem step_ok {P : Nat → Prop} {k m : Nat} (hm : m + k = 127) (h : ∀ j, j < 128 → 128 ≤ j + k → P j) (hp : P m) : ∀ j, j < 128 → 128 ≤ j + (k + 1) → P j := fun j hj hk => by
  by_cases e : j = m
  · subst e; exact hp
  · exact h j hj (by omega)
theorem text_len {c : Cb} {s : ByteArray} (hs : txt c = s) : s.size = 128 := by subst hs; exact txt_size c

set_option maxRecDepth 100000 in
set_option maxHeartbeats 4000000 in
set_option maxRecDepth 100000 in
theorem rhas_s (s : ByteArray) (c : Cb) (hh hl : BitVec 64) (w : World) (hc : c.snd = true) (hs : txt c = s) :
    Calls Try.prog 18 #[.string s, .agg #[.int .u64 (uv hh), .int .u64 (uv hl)]] w fun e w' => e = .returned (.bool (c.has hh hl)) ∧ Below w.heap.size w w' := by
  have hz := zero25
  have l1 : s.size ≤ 128 := by rw [text_len hs]; omega
  have l2 : 128 ≤ s.size := by rw [text_len hs]; omega
  have HS := Lib.hid hs
  have HC := Lib.hid hc
  clear hs hc
  obtain ⟨x, hx⟩ : ∃ x, c.has hh hl = x := ⟨_, rfl⟩
  rw [hx]
  have HX := Lib.hid hx
  clear hx
  have b0 := below1 w (.cells #[.int .u64 (uv hh), .int .u64 (uv hl)] 41)
  go_enter Try.func18, Try.ntmps18
  go_wp2_with fail
  (with_reducible refine (bits_c _ _ _).mono ?_)
  rintro e w1 ⟨rfl, hb1⟩
  have B1 := b0.trans (hb1.mono b0.size)
  clear hb1 b0
  go_wp2_with (refine put_new rfl _ _ rfl (fun _ => false) (hbit hh hl) _ (by simp) rfl rfl ?_)
  go_loopg [6] 128 (fun g i wr => ∃ k : Nat, k ≤ 128 ∧ g = 128 - k ∧ i = .int .i64 k ∧ (∀ j, j < 128 → 128 ≤ j + k → c.K j = true → hbit hh hl j = c.V j) ∧ wr = w1.alloc (.cells (bl (hbit hh hl)).toArray 92))
  case atStart => exact ⟨0, by omega, rfl, rfl, fun j hj h => by omega, rfl⟩
  case round =>
    obtain ⟨k, hk, rfl, rfl, hok, rfl⟩ := hrel
    have HOK := Lib.hid hok
    clear hok
    by_cases hlt : k < 128
    · have hlt' : (k : Int) < 128 := by omega
      have hks : k < s.size := by omega
      have hks' : (k : Int) < (s.size : Int) := by omega
      obtain ⟨m, hm⟩ : ∃ m, m + k = 127 := ⟨127 - k, by omega⟩
      have hi : (127 : Int) - (k : Int) = (m : Int) := by omega
      have hm1 : m < 128 := by omega
      have hm2 : (m : Int) < 128 := by omega
      have hg := bl_get (hbit hh hl) m hm1
      have HM := Lib.hid hm
      clear hm
      cases hK : c.K m
      · have sg := sign_x HS.out k m HM.out hks hK
        have HK := Lib.hid hK
        clear hK hg
        go_wp2
        go_roundg (128 - (k + 1))
        case measure => omega
        case rel => exact ⟨k + 1, by omega, rfl, by go_num, step_ok HM.out HOK.out (fun h => by rw [HK.out] at h; cases h), rfl⟩
      · cases hV : c.V m <;> cases hB : hbit hh hl m
        · have sg := sign_0 HS.out k m HM.out hks hK hV
          rw [hB] at hg
          have HV := Lib.hid (hB.trans hV.symm)
          clear hK hV hB
          go_wp2
          go_roundg (128 - (k + 1))
          case measure => omega
          case rel => exact ⟨k + 1, by omega, rfl, by go_num, step_ok HM.out HOK.out (fun _ => HV.out), rfl⟩
        · have sg := sign_0 HS.out k m HM.out hks hK hV
          rw [hB] at hg
          have HF : c.has hh hl = false := has_fails HC.out hm1 hK (by rw [hB, hV]; simp)
          have e := HX.out
          rw [HF] at e
          subst e
          clear hK hV hB HF
          go_wp2
          go_ret
          exact ⟨rfl, B1.alloc B1.size _⟩
        · have sg := sign_1 HS.out k m HM.out hks hK hV
          rw [hB] at hg
          have HF : c.has hh hl = false := has_fails HC.out hm1 hK (by rw [hB, hV]; simp)
          have e := HX.out
          rw [HF] at e
          subst e
          clear hK hV hB HF
          go_wp2
          go_ret
          exact ⟨rfl, B1.alloc B1.size _⟩
        · have sg := sign_1 HS.out k m HM.out hks hK hV
          rw [hB] at hg
          have HV := Lib.hid (hB.trans hV.symm)
          clear hK hV hB
          go_wp2
          go_roundg (128 - (k + 1))
          case measure => omega
          case rel => exact ⟨k + 1, by omega, rfl, by go_num, step_ok HM.out HOK.out (fun _ => HV.out), rfl⟩
    · obtain rfl : k = 128 := by omega
      have HT : c.has hh hl = true := (has_match c hh hl HC.out).2 (fun j hj => HOK.out j hj (by omega))
      have e := HX.out
      rw [HT] at e
      subst e
      clear HT
      go_wp2
      go_ret
      exact ⟨rfl, B1.alloc B1.size _⟩
end Go.Proofs

namespace Go.Proofs
open Go.RowKit Go.Proofs.Hd
attribute [local go_sem] uv_nonneg eq4_self eq2_self
attribute [local go_sem high] run_eq2 run_eq4
theorem text_s (s : ByteArray) (c : Cb) (w : World) (hs : c.snd = true) (h : txt c = s) : Calls Try.prog 17 #[.agg #[.int .u64 (uv c.vh), .int .u64 (uv c.vl), .int .u64 (uv c.ch), .int .u64 (uv c.cl)]] w fun e w' => e = .returned (.tuple #[.string s, .bool true]) ∧ Below w.heap.size w w' := by
  subst h; exact text_yes c w hs
theorem rhas_is (x : Bool) (s : ByteArray) (c : Cb) (hh hl : BitVec 64) (w : World) (hc : c.snd = true) (hs : txt c = s) (hx : c.has hh hl = x) :
    Calls Try.prog 18 #[.string s, .agg #[.int .u64 (uv hh), .int .u64 (uv hl)]] w fun e w' => e = .returned (.bool x) ∧ Below w.heap.size w w' := by
  subst hx; exact rhas_s s c hh hl w hc hs
theorem has_none {c : Cb} (h l : BitVec 64) (hs : c.snd = false) : c.has h l = false := by
  cases e : c.has h l with
  | false => rfl
  | true =>
    have hh := (Cb.has_iff c h l).1 e
    have := (Cb.snd_iff c).2 (fun j hj hv => by have := hh j hj; rw [hv] at this; revert this; cases c.K j <;> simp)
    rw [hs] at this; cases this
end Go.Proofs

namespace Go.Proofs.Hd
open Go.RowKit
end Go.Proofs.Hd

namespace Go.Proofs
open Go.RowKit Go.Proofs.Hd
attribute [local go_sem] uv_nonneg
end Go.Proofs

namespace Go.Proofs.Hd
open Go.RowKit
/-- The bits a .. a + k - 1. -/
def mk (a k : Nat) : Nat → Bool := fun j => decide (a ≤ j) && decide (j < a + k)
end Go.Proofs.Hd

namespace Go.Proofs.Hd
open Go.RowKit
/-- The array f lies in block b, whole, and may be written. -/
def Row (w : World) (b : Nat) (f : Nat → Bool) : Prop := w.rangeAt b 0 (bl f) ∧ w.there b 0 128
theorem Row.cell {w : World} {b k : Nat} {f : Nat → Bool} (h : Row w b f) (hk : k < 128) : w.cell? ⟨b, k, none⟩ = some (.bool (f k)) := range_cell h.1 hk
theorem Row.froz {w : World} {b k : Nat} {f : Nat → Bool} (h : Row w b f) (hk : k < 128) : w.frozen? ⟨b, k, none⟩ = false := by
  have := (h.2 k hk).2; rwa [Nat.zero_add] at this
theorem Row.lt {w : World} {b : Nat} {f : Nat → Bool} (h : Row w b f) : b < w.heap.size := World.block_lt_of_cell? w ⟨b, 0, none⟩ (h.cell (by omega))
theorem Row.drew {w : World} {b : Nat} {f : Nat → Bool} (h : Row w b f) : Row w.drew b f := h
theorem Row.far {w : World} {b : Nat} {f : Nat → Bool} {p : Addr} {v : Value} (h : Row w b f) (hp : p.block ≠ b) : Row (w.setCell p v) b f := by
  refine ⟨fun j x hj => ?_, fun j hj => ?_⟩
  · rw [World.cell?_setCell_far w p ⟨b, 0 + j, none⟩ v hp]; exact h.1 j x hj
  · rw [World.cell?_setCell_far w p ⟨b, 0 + j, none⟩ v hp, World.frozen?_setCell]; exact h.2 j hj
theorem Row.set {w : World} {b k : Nat} {f g : Nat → Bool} {x : Bool} (h : Row w b f) (hk : k < 128) (e : (bl f).set k (.bool x) = bl g) : Row (w.setCell ⟨b, k, none⟩ (.bool x)) b g := by
  have hc : ∀ j, j < 128 → (w.setCell ⟨b, k, none⟩ (.bool x)).cell? ⟨b, j, none⟩ = some (if j = k then .bool x else .bool (f j)) := by
    intro j hj
    by_cases ej : j = k
    · subst ej; rw [if_pos rfl]; exact World.cell?_setCell_same w ⟨b, j, none⟩ (.bool x) (h.cell hj)
    · rw [if_neg ej, World.cell?_setCell_other w ⟨b, k, none⟩ ⟨b, j, none⟩ (.bool x) (fun e2 => ej (by injection e2 with _ e3; exact e3.symm)), h.cell hj]
  refine ⟨fun j y hj => ?_, fun j hj => ?_⟩
  · have hj' : j < 128 := by
      have := (List.getElem?_eq_some_iff.1 hj).1; rwa [bl_len] at this
    rw [Nat.zero_add, hc j hj', ← hj, ← e, bl_set, bl_get _ _ hj']
    by_cases ej : j = k <;> simp [ej]
  · rw [Nat.zero_add, hc j hj, World.frozen?_setCell]
    exact ⟨rfl, h.froz hj⟩
theorem Row.below {B b : Nat} {w w' : World} {f : Nat → Bool} (h : Row w b f) (hb : Below B w w') (hl : b < B) : Row w' b f := ⟨range_below hb h.1 hl, there_below hb h.2 hl⟩
theorem Row.of_set {w : World} {b : Nat} (f : Nat → Bool) (h : w.there b 0 128) : Row (w.setCells b 0 (bl f)) b f :=
  ⟨World.rangeAt_setCells_same w b 0 (bl f) (by rw [bl_len]; exact h), World.there_setCells h b 0 (bl f)⟩
theorem Row.apart {w : World} {b c : Nat} {f : Nat → Bool} {vs : List Value} (h : Row w b f) (hne : b ≠ c) : Row (w.setCells c 0 vs) b f :=
  ⟨World.rangeAt_setCells_apart h.1 c 0 vs (Or.inl hne), World.there_setCells h.2 c 0 vs⟩
theorem Row.congr {w : World} {b : Nat} {f g : Nat → Bool} (h : Row w b f) (e : bl f = bl g) : Row w b g := ⟨e ▸ h.1, h.2⟩
/-- g below k, f from k on. -/
def mix (f g : Nat → Bool) (k : Nat) : Nat → Bool := fun j => if j < k then g j else f j
theorem mix_zero (f g : Nat → Bool) : mix f g 0 = f := by funext j; simp [mix]
theorem mix_all (f g : Nat → Bool) : bl (mix f g 128) = bl g := bl_congr fun j hj => by simp [mix, hj]
theorem mix_set (f g : Nat → Bool) (k : Nat) (b : Bool) (h : b = g k) : (bl (mix f g k)).set k (.bool b) = bl (mix f g (k + 1)) := by
  subst h
  rw [bl_set]
  apply bl_congr
  intro j _
  unfold mix
  by_cases e : j = k
  · subst e; simp
  · rw [if_neg e]
    have : (j < k + 1) ↔ (j < k) := by omega
    simp [this]
end Go.Proofs.Hd

namespace Go.Proofs
open Go.RowKit Go.Proofs.Hd
attribute [local go_sem] uv_nonneg
theorem rhead_is (f : Nat → Bool) (h l : BitVec 64) (w : World) (hn : num f 64 64 = h ∧ num f 0 64 = l) : Calls Try.prog 54 #[.agg (bl f).toArray] w fun e w' => e = .returned (.agg #[.int .u64 (uv h), .int .u64 (uv l)]) ∧ Below w.heap.size w w' := by
  obtain ⟨rfl, rfl⟩ := hn; exact refhead_c f w
end Go.Proofs

namespace Go.Proofs
open Go.RowKit Go.Proofs.Hd
attribute [local go_sem] uv_nonneg eq4_self eq2_self
attribute [local go_sem high] run_eq2 run_eq4
end Go.Proofs
