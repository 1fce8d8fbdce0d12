/-
  How a configuration, a policy, a pair handed in by value read; no list in a configuration is longer than memory reaches, where what came in is not. No conditions.
  Contracts of package config: sized. Conditions as the theorem lists them.
  Contract of package config: formed. Conditions as the theorem lists them.
  Contract of package config: Sound. Conditions as the theorem lists them.
  What memory holds at the head of the loop of cube.Less, and how it is carried on: plain facts on worlds. No conditions.
  Contracts of cube.Field: the field's cube, or an error. Conditions as each theorem lists them.
  Plain facts on the bits of a field. No conditions.
  Stamps as bits; contract of package config: stamped. Conditions as each theorem lists them.
  The configuration that the law's awake of layer 8 looks at; contract of the law's small. No conditions.
-/
import Derived.Test.YtfmfbkfppfohbaaJ8
import Derived.SizedLaws
import Derived.OpenShut
import Derived.Deep.AppendLies
import Derived.Laws.OwnMore
import Derived.OneCell
import Derived.Deep.Onto
import Derived.Lib.Hide
import Derived.Deep.LoopGhost
import Derived.Deep.RegionHeld3
import Derived.Deep.DeepCutAuto
namespace Go.Proofs.Ytfmfbkfppfohbaa
open Go.ChangeShapes Go.WideShapes Go.ChangeAt Go.RowKit Go.Joins Go.Deep Go.Proofs.Hd
theorem cellsPair : Try.prog.cellsOf 66 = 2 := by kernel_rfl
theorem cellsWay : Try.prog.cellsOf 68 = 3 := by kernel_rfl
theorem cellsPol : Try.prog.cellsOf 28 = 3 := by kernel_rfl
theorem cellsCfg : Try.prog.cellsOf 31 = 5 := by kernel_rfl
theorem cellsPairs : Try.prog.cellsOf 25 = 1 := by kernel_rfl
theorem cellsWays : Try.prog.cellsOf 26 = 1 := by kernel_rfl
theorem cellsRss : Try.prog.cellsOf 57 = 1 := by kernel_rfl
theorem cellsRsss : Try.prog.cellsOf 29 = 1 := by kernel_rfl
theorem bytesPt : Try.prog.bytesOf 65 = 40 := by kernel_rfl
theorem bytesPts : Try.prog.bytesOf 63 = 24 := by kernel_rfl
theorem bytesPair : Try.prog.bytesOf 66 = 16 := by kernel_rfl
theorem bytesWay : Try.prog.bytesOf 68 = 24 := by kernel_rfl
theorem bytesRule : Try.prog.bytesOf 62 = 96 := by kernel_rfl
theorem bytesRs : Try.prog.bytesOf 58 = 24 := by kernel_rfl
theorem bytesRss : Try.prog.bytesOf 57 = 24 := by kernel_rfl
instance : Inhabited Rl := ⟨⟨0, ⟨0#64, 0#64, 0#64, 0#64⟩, 0, 0, 0, ⟨0#64, 0#64, 0#64, 0#64⟩⟩⟩
instance : Inhabited Wa := ⟨⟨0, 0, 0⟩⟩
theorem weights_all {H : Type} {P : Program} {e : TypeId} : ∀ {l : List (DataW H)} {d : DataW H}, d ∈ l → ∀ n ∈ d.weights P e, n ∈ DataW.weightsAll P e l
  | d' :: r, d, hd, n, hn => by
    simp only [DataW.weightsAll, List.mem_append]
    rcases List.mem_cons.1 hd with rfl | h
    · exact Or.inl hn
    · exact Or.inr (weights_all h n hn)
/-- No weight of a datum is over memory's reach. -/
def Lite {H : Type} (t : TypeId) (d : DataW H) : Prop := ∀ m ∈ d.weights Try.prog t, m ≤ reachBytes
section
variable {H : Type} {enc : TypeId × Value → H} {W : World}
theorem read_slice {α : Type} [Inhabited α] {tS tE : TypeId} (hu : Try.prog.underlying tS = some (.slice tE)) {K : Nat} (hK : Try.prog.cellsOf tE = K) (hK0 : 0 < K) (Rd : List Value → α → Prop) (Sz : α → Prop)
    (hel : ∀ n cs (y : DataW H × List MemPlace), cs.length = K → DataW.trod enc Try.prog W 0 (fun _ => true) true n tE cs = some y → ∃ x, Rd cs x ∧ (Lite tE y.1 → Sz x))
    {n : Nat} {cs : List Value} {y : DataW H × List MemPlace} (hf : DataW.trod enc Try.prog W 0 (fun _ => true) true n tS cs = some y) :
    ∃ (A : Option Addr) (cap : Nat) (L : List α), cs = [.slice A L.length cap] ∧ L.length ≤ maxLen ∧ (L ≠ [] → ∃ b o, A = some ⟨b, o, none⟩ ∧ b < W.heap.size ∧ ∀ (k : Nat) (x : α), L[k]? = some x → ∃ cs', Rd cs' x ∧ ∀ (j : Nat) (u : Value), cs'[j]? = some u → W.cell? ⟨b, o + k * K + j, none⟩ = some u) ∧
      (Lite tS y.1 → L.length * Try.prog.bytesOf tE ≤ reachBytes ∧ ∀ x ∈ L, Sz x) := by
  rcases open_slice hu hf with ⟨h1, _⟩ | ⟨a, len, cap, m, n, D, Pl, hcs, _, hlc, hcm, hm, hx, hel2⟩
  · exact ⟨none, 0, [], h1, Nat.zero_le _, fun h => absurd rfl h, fun _ => ⟨by simp, fun x hx => absurd hx List.not_mem_nil⟩⟩
  · rw [hK] at hel2
    have hm' : m = cap := by simpa using hm
    subst hm'
    obtain ⟨f, hfr⟩ := choose_lt (α := α) (p := fun i x => (∃ cs', Rd cs' x ∧ cs'.length = K ∧ ∀ (j : Nat) (u : Value), cs'[j]? = some u → W.cell? ((a.add (i * K)).add j) = some u) ∧ (Lite tE (D i) → Sz x)) (fun i (hi : i < m) => by
      obtain ⟨cs', hc, ht⟩ := hel2 i hi
      obtain ⟨_, hl, hat⟩ := World.cells?_some hc
      obtain ⟨x, hr, hz⟩ := hel _ _ _ hl ht
      refine ⟨x, ⟨cs', hr, hl, fun j u hj => ?_⟩, hz⟩
      have hj' : j < K := by have := (List.getElem?_eq_some_iff.1 hj).1; omega
      exact (hat j hj').trans hj)
    have hlen : ((List.range len).map f).length = len := by simp
    have hd := congrArg Prod.fst hx
    refine ⟨some a, m, (List.range len).map f, by rw [hlen]; exact hcs, by rw [hlen]; exact Nat.le_trans hlc hcm, fun hne => ?_, fun hz => ?_⟩
    · have h0 : 0 < len := by
        rcases Nat.eq_zero_or_pos len with h | h
        · subst h; exact absurd (by simp) hne
        · exact h
      obtain ⟨⟨cs0, -, hl0, hc0⟩, -⟩ := hfr 0 (by omega)
      obtain ⟨u0, hu0⟩ : ∃ u, cs0[0]? = some u := ⟨_, List.getElem?_eq_getElem (by omega)⟩
      have h1 := hc0 0 u0 hu0
      obtain ⟨b, off, spot⟩ := a
      have hs : spot = none := by
        have := World.cell?_spot h1
        simpa [Addr.add] using this
      subst hs
      have hlt := World.block_lt_of_cell? W _ h1
      rw [add_plainW, add_plainW] at hlt
      refine ⟨b, off, rfl, hlt, fun k x hk => ?_⟩
      obtain ⟨hkl, rfl⟩ := List.getElem?_eq_some_iff.1 hk
      simp only [List.length_map, List.length_range] at hkl
      simp only [List.getElem_map, List.getElem_range]
      obtain ⟨⟨cs', hr, -, hc⟩, -⟩ := hfr k (by omega)
      refine ⟨cs', hr, fun j u hj => ?_⟩
      have := hc j u hj
      rw [add_plainW, add_plainW] at this
      exact this
    · rw [hd] at hz
      unfold Lite at hz
      simp only [DataW.weights, hu] at hz
      refine ⟨?_, fun x hx => ?_⟩
      · have h1 := hz _ (List.mem_cons_self ..)
        rw [hlen]
        simp only [List.length_map, List.length_range] at h1
        exact Nat.le_trans (Nat.mul_le_mul_right _ (by omega)) h1
      · obtain ⟨i, hi, rfl⟩ := List.mem_map.1 hx
        have hi2 := List.mem_range.1 hi
        refine (hfr i (by omega)).2 fun q hq => hz q (List.mem_cons_of_mem _ (List.mem_append_left _ (weights_all (List.mem_map.2 ⟨i, hi, rfl⟩) q hq)))
theorem rd_pt : ∀ n cs (y : DataW H × List MemPlace), cs.length = 5 → DataW.trod enc Try.prog W 0 (fun _ => true) true n 65 cs = some y → ∃ x : Pt, cs = x.cs ∧ (Lite 65 y.1 → True) := fun _ _ _ hl h => by
  obtain ⟨p, e⟩ := read_pt hl h
  exact ⟨p, e, fun _ => trivial⟩
theorem rd_rl : ∀ n cs (y : DataW H × List MemPlace), cs.length = 12 → DataW.trod enc Try.prog W 0 (fun _ => true) true n 62 cs = some y → ∃ x : Rl, cs = x.cs ∧ (Lite 62 y.1 → True) := fun _ _ _ hl h => by
  obtain ⟨p, e⟩ := read_rule hl h
  exact ⟨p, e, fun _ => trivial⟩
set_option maxRecDepth 100000 in
theorem rd_way : ∀ n cs (y : DataW H × List MemPlace), cs.length = 3 → DataW.trod enc Try.prog W 0 (fun _ => true) true n 68 cs = some y → ∃ x : Wa, cs = x.cs ∧ (Lite 68 y.1 → True) := fun _ cs _ hl h0 => by
  obtain ⟨xs, m, _, _, _, hxs, hf⟩ := DataW.trod_struct Try.underlying68 h0
  have hx3 : xs.length = 3 := hxs
  match cs, hl with
  | [c0, c1, c2], _ =>
    match xs, hx3 with
    | [x0, x1, x2], _ =>
      have q0 := hf 0 _ rfl
      have q1 := hf 1 _ rfl
      have q2 := hf 2 _ rfl
      simp [cellsI] at q0 q1 q2
      obtain ⟨k0, rfl⟩ := int_of q0
      obtain ⟨k1, rfl⟩ := int_of q1
      obtain ⟨k2, rfl⟩ := int_of q2
      exact ⟨⟨k0, k1, k2⟩, rfl, fun _ => trivial⟩
set_option maxRecDepth 100000 in
theorem rd_pair : ∀ n cs (y : DataW H × List MemPlace), cs.length = 2 → DataW.trod enc Try.prog W 0 (fun _ => true) true n 66 cs = some y → ∃ x : Int × Int, cs = encA x ∧ (Lite 66 y.1 → True) := fun _ cs _ hl h0 => by
  obtain ⟨xs, m, _, _, _, hxs, hf⟩ := DataW.trod_array Try.underlying66 h0
  match cs, hl with
  | [c0, c1], _ =>
    match xs, hxs with
    | [x0, x1], _ =>
      have q0 := hf 0 (by decide)
      have q1 := hf 1 (by decide)
      simp [cellsI] at q0 q1
      obtain ⟨k0, rfl⟩ := int_of q0
      obtain ⟨k1, rfl⟩ := int_of q1
      exact ⟨(k0, k1), rfl, fun _ => trivial⟩
theorem rd_ps : ∀ n cs (y : DataW H × List MemPlace), cs.length = 1 → DataW.trod enc Try.prog W 0 (fun _ => true) true n 63 cs = some y → ∃ L : List Pt, (∃ s, cs = [s] ∧ Ps W s L) ∧ (Lite 63 y.1 → L.length ≤ 3518437208780) := fun _ _ _ _ h => by
  obtain ⟨A, cap, L, rfl, hm, hc, hz⟩ := read_slice Try.underlying63 cellsPt (by decide) (fun cs (x : Pt) => cs = x.cs) (fun _ => True) rd_pt h
  refine ⟨L, ⟨_, rfl, RdE.ps ⟨A, cap, rfl, fun hne => ?_⟩ hm⟩, fun hl => ?_⟩
  · obtain ⟨b, o, e, hb, hk⟩ := hc hne
    refine ⟨b, o, e, hb, fun i x hx j u hu => ?_⟩
    obtain ⟨cs', rfl, h2⟩ := hk i x hx
    exact h2 j u hu
  · have := (hz hl).1
    rw [bytesPt] at this
    unfold reachBytes at this
    omega
theorem rd_ru : ∀ n cs (y : DataW H × List MemPlace), cs.length = 1 → DataW.trod enc Try.prog W 0 (fun _ => true) true n 58 cs = some y → ∃ L : List Rl, (∃ s, cs = [s] ∧ Ru W s L ∧ L.length ≤ maxLen) ∧ (Lite 58 y.1 → L.length ≤ 1466015503658) := fun _ _ _ _ h => by
  obtain ⟨A, cap, L, rfl, hm, hc, hz⟩ := read_slice Try.underlying58 cellsRule (by decide) (fun cs (x : Rl) => cs = x.cs) (fun _ => True) rd_rl h
  refine ⟨L, ⟨_, rfl, RdE.ru ⟨A, cap, rfl, fun hne => ?_⟩, hm⟩, fun hl => ?_⟩
  · obtain ⟨b, o, e, hb, hk⟩ := hc hne
    refine ⟨b, o, e, hb, fun i x hx j u hu => ?_⟩
    obtain ⟨cs', rfl, h2⟩ := hk i x hx
    exact h2 j u hu
  · have := (hz hl).1
    rw [bytesRule] at this
    unfold reachBytes at this
    omega
theorem rd_rut : ∀ n cs (y : DataW H × List MemPlace), cs.length = 1 → DataW.trod enc Try.prog W 0 (fun _ => true) true n 57 cs = some y → ∃ X : List (List Rl), (∃ s, cs = [s] ∧ RuT W s X) ∧ (Lite 57 y.1 → X.length ≤ 5864062014634 ∧ ∀ L ∈ X, L.length ≤ 1466015503658) := fun _ _ _ _ h => by
  obtain ⟨A, cap, X, rfl, hm, hc, hz⟩ := read_slice Try.underlying57 cellsRules (by decide) _ _ rd_ru h
  refine ⟨X, ⟨_, rfl, A, cap, rfl, hm, fun L hL => ?_, fun hne => ?_⟩, fun hl => ?_⟩
  · obtain ⟨i, hi⟩ := List.getElem?_of_mem hL
    obtain ⟨b, o, e, hb, hk⟩ := hc (by rintro rfl; simp at hi)
    obtain ⟨cs', ⟨s, rfl, h2, h3⟩, h4⟩ := hk i L hi
    exact h3
  · obtain ⟨b, o, e, hb, hk⟩ := hc hne
    refine ⟨b, o, e, hb, fun i x hx => ?_⟩
    obtain ⟨cs', ⟨s, rfl, h2, h3⟩, h4⟩ := hk i x hx
    have h5 := h4 0 s rfl
    rw [Nat.mul_one, Nat.add_zero] at h5
    exact ⟨s, h5, h2⟩
  · have h1 := (hz hl).1
    rw [bytesRs] at h1
    unfold reachBytes at h1
    exact ⟨by omega, (hz hl).2⟩
theorem rd_pst {n : Nat} {c : Value} {y : DataW H × List MemPlace} (h : DataW.trod enc Try.prog W 0 (fun _ => true) true n 22 [c] = some y) : ∃ T : List (List Pt), PsT W c T ∧ (Lite 22 y.1 → T.length ≤ 5864062014634 ∧ ∀ L ∈ T, L.length ≤ 3518437208780) := by
  obtain ⟨A, cap, T, e, hm, hc, hz⟩ := read_slice Try.underlying22 cellsPts (by decide) _ _ rd_ps h
  injection e with e
  subst e
  refine ⟨T, ⟨A, cap, rfl, hm, fun hne => ?_⟩, fun hl => ?_⟩
  · obtain ⟨b, o, e, hb, hk⟩ := hc hne
    refine ⟨b, o, e, hb, fun i x hx => ?_⟩
    obtain ⟨cs', ⟨s, rfl, h2⟩, h4⟩ := hk i x hx
    have h5 := h4 0 s rfl
    rw [Nat.mul_one, Nat.add_zero] at h5
    exact ⟨s, h5, h2⟩
  · have h1 := (hz hl).1
    rw [bytesPts] at h1
    unfold reachBytes at h1
    exact ⟨by omega, (hz hl).2⟩
theorem rd_ruq {n : Nat} {c : Value} {y : DataW H × List MemPlace} (h : DataW.trod enc Try.prog W 0 (fun _ => true) true n 29 [c] = some y) : ∃ B : List (List (List Rl)), RuQ W c B ∧ (Lite 29 y.1 → B.length ≤ 5864062014634 ∧ ∀ X ∈ B, X.length ≤ 5864062014634 ∧ ∀ L ∈ X, L.length ≤ 1466015503658) := by
  obtain ⟨A, cap, B, e, hm, hc, hz⟩ := read_slice Try.underlying29 cellsRss (by decide) _ _ rd_rut h
  injection e with e
  subst e
  refine ⟨B, ⟨A, cap, rfl, hm, fun hne => ?_⟩, fun hl => ?_⟩
  · obtain ⟨b, o, e, hb, hk⟩ := hc hne
    refine ⟨b, o, e, hb, fun i x hx => ?_⟩
    obtain ⟨cs', ⟨s, rfl, h2⟩, h4⟩ := hk i x hx
    have h5 := h4 0 s rfl
    rw [Nat.mul_one, Nat.add_zero] at h5
    exact ⟨s, h5, h2⟩
  · have h1 := (hz hl).1
    rw [bytesRss] at h1
    unfold reachBytes at h1
    exact ⟨by omega, (hz hl).2⟩
theorem rd_pe {n : Nat} {c : Value} {y : DataW H × List MemPlace} (h : DataW.trod enc Try.prog W 0 (fun _ => true) true n 25 [c] = some y) : ∃ P : List (Int × Int), Pe W c P ∧ (Lite 25 y.1 → P.length ≤ 8796093021952) := by
  obtain ⟨A, cap, P, e, hm, hc, hz⟩ := read_slice Try.underlying25 cellsPair (by decide) (fun cs x => cs = encA x) (fun _ => True) rd_pair h
  injection e with e
  subst e
  refine ⟨P, RdE.pe ⟨A, cap, rfl, fun hne => ?_⟩ hm, fun hl => ?_⟩
  · obtain ⟨b, o, e, hb, hk⟩ := hc hne
    refine ⟨b, o, e, hb, fun i x hx j u hu => ?_⟩
    obtain ⟨cs', rfl, h2⟩ := hk i x hx
    exact h2 j u hu
  · have := (hz hl).1
    rw [bytesPair] at this
    unfold reachBytes at this
    omega
theorem rd_wy {n : Nat} {c : Value} {y : DataW H × List MemPlace} (h : DataW.trod enc Try.prog W 0 (fun _ => true) true n 26 [c] = some y) : ∃ Q : List Wa, Wy W c Q ∧ (Lite 26 y.1 → Q.length ≤ 5864062014634) := by
  obtain ⟨A, cap, Q, e, hm, hc, hz⟩ := read_slice Try.underlying26 cellsWay (by decide) (fun cs (x : Wa) => cs = x.cs) (fun _ => True) rd_way h
  injection e with e
  subst e
  refine ⟨Q, RdE.wy ⟨A, cap, rfl, fun hne => ?_⟩ hm, fun hl => ?_⟩
  · obtain ⟨b, o, e, hb, hk⟩ := hc hne
    refine ⟨b, o, e, hb, fun i x hx j u hu => ?_⟩
    obtain ⟨cs', rfl, h2⟩ := hk i x hx
    exact h2 j u hu
  · have := (hz hl).1
    rw [bytesWay] at this
    unfold reachBytes at this
    omega
set_option maxRecDepth 100000 in
theorem rd_pol {n : Nat} {c0 c1 c2 : Value} {y : DataW H × List MemPlace} (h : DataW.trod enc Try.prog W 0 (fun _ => true) true n 28 [c0, c1, c2] = some y) : ∃ (ten : Int) (P : List (Int × Int)) (Q : List Wa), c0 = .int .i64 ten ∧ Pe W c1 P ∧ Wy W c2 Q ∧ (Lite 28 y.1 → P.length ≤ 8796093021952 ∧ Q.length ≤ 5864062014634) := by
  obtain ⟨xs, m, _, hx, _, hxs, hf⟩ := DataW.trod_struct Try.underlying28 h
  have hx3 : xs.length = 3 := hxs
  match xs, hx3 with
  | [x0, x1, x2], _ =>
    have q0 := hf 0 _ rfl
    have q1 := hf 1 _ rfl
    have q2 := hf 2 _ rfl
    simp [cellsI, cellsPairs, cellsWays] at q0 q1 q2
    obtain ⟨ten, rfl⟩ := int_of q0
    obtain ⟨P, hP, zP⟩ := rd_pe q1
    obtain ⟨Q, hQ, zQ⟩ := rd_wy q2
    refine ⟨ten, P, Q, rfl, hP, hQ, fun hl => ?_⟩
    have hd := congrArg Prod.fst hx
    rw [hd] at hl
    unfold Lite at hl
    simp [DataW.weights, DataW.weightsEach, Try.underlying28] at hl
    exact ⟨zP fun m hm => hl m (.inr (.inl hm)), zQ fun m hm => hl m (.inr (.inr hm))⟩
set_option maxRecDepth 100000 in
/-- A policy by value. -/
theorem open_pol {base : Nat} {v : Value} {d : DataW H} {p : List MemPlace} (hok : Value.okWide Try.prog W .any base 28 v) (h0 : DataW.Trod enc Try.prog W 0 (fun _ => true) true 28 v d p) :
    ∃ (ten : Int) (pv : Value) (P : List (Int × Int)) (wv : Value) (Q : List Wa), v = .agg #[.int .i64 ten, pv, wv] ∧ Pe W pv P ∧ Wy W wv Q ∧ (Lite 28 d → P.length ≤ 8796093021952 ∧ Q.length ≤ 5864062014634) := by
  obtain ⟨cs, rfl, hsz⟩ := okWide_struct Try.underlying28 hok
  obtain ⟨fuel, hf0⟩ := h0
  have hf : DataW.trod enc Try.prog W 0 (fun _ => true) true fuel 28 cs.toList = some (d, p) := by simpa [Value.cells] using hf0
  have hc3 : cs.toList.length = 3 := by simpa using hsz.trans cellsPol
  obtain ⟨l, hl⟩ : ∃ l, cs.toList = l := ⟨_, rfl⟩
  rw [hl] at hf hc3
  match l, hc3 with
  | [c0, c1, c2], _ =>
    obtain ⟨ten, P, Q, rfl, hP, hQ, hz⟩ := rd_pol hf
    exact ⟨ten, c1, P, c2, Q, by congr 1; apply Array.toList_inj.1; rw [hl], hP, hQ, hz⟩
set_option maxRecDepth 100000 in
/-- A configuration by value. -/
theorem open_cfg {base : Nat} {v : Value} {d : DataW H} {p : List MemPlace} (hok : Value.okWide Try.prog W .any base 31 v) (h0 : DataW.Trod enc Try.prog W 0 (fun _ => true) true 31 v d p) :
    ∃ (tv : Value) (T : List (List Pt)) (ten : Int) (pv : Value) (P : List (Int × Int)) (wv : Value) (Q : List Wa) (bv : Value) (B : List (List (List Rl))), v = .agg #[tv, .int .i64 ten, pv, wv, bv] ∧ PsT W tv T ∧ Pe W pv P ∧ Wy W wv Q ∧ RuQ W bv B ∧ (Lite 31 d → Szd T P Q B) := by
  obtain ⟨cs, rfl, hsz⟩ := okWide_struct Try.underlying31 hok
  obtain ⟨fuel, hf0⟩ := h0
  have hf : DataW.trod enc Try.prog W 0 (fun _ => true) true fuel 31 cs.toList = some (d, p) := by simpa [Value.cells] using hf0
  have hc5 : cs.toList.length = 5 := by simpa using hsz.trans cellsCfg
  obtain ⟨l, hl⟩ : ∃ l, cs.toList = l := ⟨_, rfl⟩
  rw [hl] at hf hc5
  match l, hc5 with
  | [c0, c1, c2, c3, c4], _ =>
    obtain ⟨xs, m, _, hx, _, hxs, hff⟩ := DataW.trod_struct Try.underlying31 hf
    have hx3 : xs.length = 3 := hxs
    match xs, hx3 with
    | [x0, x1, x2], _ =>
      have q0 := hff 0 _ rfl
      have q1 := hff 1 _ rfl
      have q2 := hff 2 _ rfl
      simp [cellsTopo, cellsPol, cellsRsss] at q0 q1 q2
      obtain ⟨ys, m2, _, hy, _, hys, hfy⟩ := DataW.trod_struct Try.underlying24 q0
      have hy1 : ys.length = 1 := hys
      match ys, hy1 with
      | [y0], _ =>
        have r0 := hfy 0 _ rfl
        simp [cellsPtt] at r0
        obtain ⟨T, hT, zT⟩ := rd_pst r0
        obtain ⟨ten, P, Q, rfl, hP, hQ, zP⟩ := rd_pol q1
        obtain ⟨B, hB, zB⟩ := rd_ruq q2
        refine ⟨c0, T, ten, c2, P, c3, Q, c4, B, by congr 1; apply Array.toList_inj.1; rw [hl], hT, hP, hQ, hB, fun hz => ?_⟩
        have hd := congrArg Prod.fst hx
        simp only at hd
        have hd0 := congrArg Prod.fst hy
        rw [hd] at hz
        unfold Lite at hz
        simp [DataW.weights, DataW.weightsEach, Try.underlying31] at hz
        have z0 := zT fun m hm => hz m (.inl (by rw [hd0]; simp [DataW.weights, DataW.weightsEach, Try.underlying24]; exact hm))
        have z1 := zP fun m hm => hz m (.inr (.inl hm))
        have z2 := zB fun m hm => hz m (.inr (.inr hm))
        exact ⟨z0.1, z0.2, z1.1, z1.2, z2.1, fun X hX => (z2.2 X hX).1, fun X hX => (z2.2 X hX).2⟩
set_option maxRecDepth 100000 in
/-- A pair by value. -/
theorem open_pair {base : Nat} {v : Value} {d : DataW H} {p : List MemPlace} (hok : Value.okWide Try.prog W .any base 66 v) (h0 : DataW.Trod enc Try.prog W 0 (fun _ => true) true 66 v d p) : ∃ a b : Int, v = .agg #[.int .i64 a, .int .i64 b] := by
  simp only [Value.okWide, Try.underlying66] at hok
  obtain ⟨cs, rfl, hsz, _⟩ := hok
  obtain ⟨fuel, hf0⟩ := h0
  have hf : DataW.trod enc Try.prog W 0 (fun _ => true) true fuel 66 cs.toList = some (d, p) := by simpa [Value.cells] using hf0
  have hc2 : cs.toList.length = 2 := by simpa using hsz.trans cellsPair
  obtain ⟨x, hx, _⟩ := rd_pair _ _ _ hc2 hf
  refine ⟨x.1, x.2, ?_⟩
  congr 1
  apply Array.toList_inj.1
  rw [hx]
  rfl
end
end Go.Proofs.Ytfmfbkfppfohbaa

namespace Go.Proofs.Hd
open Go.RowKit
theorem eTo_mem {T : List (List Pt)} {x : Rc} : x ∈ eTo T T.length ↔ ∃ L p, T[x.1]? = some L ∧ L[x.2]? = some p ∧ p.kind = 1 := by
  unfold eTo
  rw [List.mem_flatMap]
  constructor
  · rintro ⟨n, hn, hx⟩
    cases hT : T[n]? with
    | none => rw [hT] at hx; simp at hx
    | some L =>
      rw [hT] at hx
      simp only at hx
      unfold eUp at hx
      obtain ⟨i, hi, he⟩ := List.mem_filterMap.1 hx
      cases hp : L[i]? with
      | none => rw [hp] at he; cases he
      | some p =>
        rw [hp] at he
        simp only at he
        by_cases hk : p.kind = 1
        · rw [if_pos hk] at he
          injection he with he
          subst he
          exact ⟨L, p, hT, hp, hk⟩
        · rw [if_neg hk] at he; cases he
  · rintro ⟨L, p, hT, hp, hk⟩
    have h1 := (List.getElem?_eq_some_iff.1 hT).1
    have h2 := (List.getElem?_eq_some_iff.1 hp).1
    refine ⟨x.1, List.mem_range.2 h1, ?_⟩
    rw [hT]
    simp only
    unfold eUp
    refine List.mem_filterMap.2 ⟨x.2, List.mem_range.2 h2, ?_⟩
    rw [hp]
    simp only
    rw [if_pos hk]
theorem edgT_edge {T : List (List Pt)} {n i : Nat} {L : List Pt} {p : Pt} (hL : T[n]? = some L) (hp : L[i]? = some p) (hk : p.kind = 1) : edgT T n i = p.ten := by
  unfold edgT
  rw [ptAt_nat hL hp]
  simp only
  rw [if_pos hk]
/-- Is a policy of the right size, and are the edges' tenants there? -/
def szP (T : List (List Pt)) (ten : Int) (P : List (Int × Int)) (Q : List Wa) : Prop := ¬ (ten < 1 ∨ 4 < ten ∨ 16 < P.length ∨ 4 < Q.length ∨ ¬ okE T ten (eTo T T.length).length)
end Go.Proofs.Hd
namespace Go.Proofs
open Go.RowKit Go.Proofs.Hd Go.Lib
set_option maxRecDepth 100000 in
set_option maxHeartbeats 2000000 in
theorem csized_c (x : Bool) (pv wv tv : Value) (T : List (List Pt)) (ten : Int) (P : List (Int × Int)) (Q : List Wa) (w : World) (hT : PsT w tv T) (hP : Pe w pv P) (hQ : Wy w wv Q) (hn : ports T ≤ 2000000) (hx : x = true ↔ szP T ten P Q) : Calls Try.prog 27 #[.agg #[.int .i64 ten, pv, wv], .agg #[tv]] w fun e w' => e = .returned (.bool x) ∧ Below w.heap.size w w' := by
  have HT := Lib.hid hT
  obtain ⟨A, cap, rfl, htm, hTA⟩ := hT
  obtain ⟨pA, pc, rfl, hpm, -⟩ := hP
  obtain ⟨wA, wc, rfl, hwm, -⟩ := hQ
  have HTA := Lib.hid hTA
  have hpz : (P.length : Int) ≤ 9223372036854775807 := by unfold maxLen at hpm; omega
  have hwz : (Q.length : Int) ≤ 9223372036854775807 := by unfold maxLen at hwm; omega
  have B0 : Below w.heap.size w ((w.alloc (.cells #[.int .i64 ten, .slice pA P.length pc, .slice wA Q.length wc] 28)).alloc (.cells #[.slice A T.length cap] 24)) := below2 w _ _
  have M0 : Hid (Blk ((w.alloc (.cells #[.int .i64 ten, .slice pA P.length pc, .slice wA Q.length wc] 28)).alloc (.cells #[.slice A T.length cap] 24)) w.heap.size 28 #[.int .i64 ten, .slice pA P.length pc, .slice wA Q.length wc]) := (Blk.new w _ _).on (below1 _ _)
  have N0 : Hid (Blk ((w.alloc (.cells #[.int .i64 ten, .slice pA P.length pc, .slice wA Q.length wc] 28)).alloc (.cells #[.slice A T.length cap] 24)) (w.heap.size + 1) 24 #[.slice A T.length cap]) := Blk.new2 w _ _ _
  have bad : (ten < 1 ∨ 4 < ten ∨ 16 < P.length ∨ 4 < Q.length ∨ ¬ okE T ten (eTo T T.length).length) → x = false := fun h => by
    cases hxx : x with
    | false => rfl
    | true => exact absurd h (hx.1 hxx)
  have good : szP T ten P Q → x = true := hx.2
  clear hx hTA hpm hwm
  by_cases h1 : ten < 1
  · have HE := Lib.hid (bad (.inl h1))
    clear bad good M0 N0
    go_enter Try.func27, Try.ntmps27
    go_wp2
    go_ret
    exact ⟨by rw [HE.out]; rfl, B0⟩
  by_cases h2 : 4 < ten
  · have HE := Lib.hid (bad (.inr (.inl h2)))
    clear bad good M0 N0
    go_enter Try.func27, Try.ntmps27
    go_wp2
    go_ret
    exact ⟨by rw [HE.out]; rfl, B0⟩
  by_cases h3 : 16 < P.length
  · have HE := Lib.hid (bad (.inr (.inr (.inl h3))))
    have h3z : (16 : Int) < (P.length : Int) := by omega
    clear bad good M0 N0
    go_enter Try.func27, Try.ntmps27
    go_wp2
    go_ret
    exact ⟨by rw [HE.out]; rfl, B0⟩
  have h3z : ¬ (16 : Int) < (P.length : Int) := by omega
  by_cases h4 : 4 < Q.length
  · have HE := Lib.hid (bad (.inr (.inr (.inr (.inl h4)))))
    have h4z : (4 : Int) < (Q.length : Int) := by omega
    clear bad good M0 N0
    go_enter Try.func27, Try.ntmps27
    go_wp2
    go_ret
    exact ⟨by rw [HE.out]; rfl, B0⟩
  have h4z : ¬ (4 : Int) < (Q.length : Int) := by omega
  have BAD := Lib.hid bad
  have GOOD := Lib.hid good
  clear bad good
  go_enter Try.func27, Try.ntmps27
  go_wp2_with fail
  (with_reducible refine (edges_c _ T _ (HT.out.on B0) hn).mono ?_)
  rintro e w1 ⟨ev, rfl, OE, hb1⟩
  obtain ⟨EE, hEE⟩ : ∃ EE, Hid (eTo T T.length = EE) := ⟨_, rfl⟩
  have hEl : (eTo T T.length).length ≤ 2000000 := Nat.le_trans (eTo_len T T.length (Nat.le_refl _)) (Nat.le_trans (take_le T _) hn)
  rw [hEE.out] at OE hEl
  obtain ⟨eA, ec, rfl, hE⟩ := Spt.of OE
  have HES := Lib.hid hE
  have HB1 := Lib.hid (B0.trans (hb1.mono B0.size))
  have N1 := Lib.hid (N0.out.on hb1)
  have M1 := Lib.hid (M0.out.on hb1)
  have hEz : (EE.length : Int) ≤ 2000000 := by omega
  clear hb1 B0 N0 M0 OE hE
  go_wp2
  go_loopg [6, 30] EE.length (fun gk _ s30 wr => ∃ k : Nat, k ≤ EE.length ∧ gk = EE.length - k ∧ s30 = .int .i64 k ∧ Hid (okE T ten k) ∧ Hid (Below w1.heap.size w1 wr))
  case atStart => exact ⟨0, Nat.zero_le _, rfl, rfl, fun j x hj => absurd hj (Nat.not_lt_zero _), Below.refl _ _⟩
  case round =>
    obtain ⟨k, hk, rfl, rfl, HO, HW⟩ := hrel
    by_cases hlt : k < EE.length
    · have hltz : (k : Int) < (EE.length : Int) := by omega
      obtain ⟨y, hy⟩ : ∃ y, EE[k]? = some y := ⟨_, List.getElem?_eq_getElem hlt⟩
      obtain ⟨eb, rfl, hec⟩ := HES.out (by rintro rfl; simp at hlt)
      have x0 := on_some HW.out (hec k y hy).1
      have x1 := on_some HW.out (hec k y hy).2
      obtain ⟨L, p, hL, hp, hkd⟩ := eTo_mem.1 (by rw [hEE.out]; exact List.mem_of_getElem? hy)
      obtain ⟨xa, xb⟩ := y
      simp only at x0 x1 hL hp
      have HED := Lib.hid (edgT_edge hL hp hkd)
      have hxa := (List.getElem?_eq_some_iff.1 hL).1
      have hxb := (List.getElem?_eq_some_iff.1 hp).1
      obtain ⟨tb, tof, rfl, _, htc⟩ := HTA.out (by rintro rfl; simp at hxa)
      obtain ⟨s, hs, A3, c3, rfl, hLm, hA3⟩ := htc xa L hL
      obtain ⟨b3, o3, rfl, _, hpc⟩ := hA3 (by rintro rfl; simp at hxb)
      have hap := (hpc xb p hp).2.1
      have HBW := Lib.hid (HB1.out.trans (HW.out.mono HB1.out.size))
      have cs := on_some HBW.out hs
      have cp := on_some HBW.out hap
      obtain ⟨d0, d1, d2⟩ := (M1.out.on HW.out).three
      have t2 := (N1.out.on HW.out).single
      have HXX := Lib.hid hy
      have hxaz : (xa : Int) < (T.length : Int) := by omega
      have hxbz : (xb : Int) < (L.length : Int) := by omega
      clear hec hy hL hp htc hA3 hpc hs hap hkd
      have bS := below1 wr (.cells #[.int .i64 xa, .int .i64 xb] 41)
      have nS := Blk.new wr 41 #[.int .i64 xa, .int .i64 xb]
      obtain ⟨ten3, hten3⟩ : ∃ ten3, p.ten = ten3 := ⟨_, rfl⟩
      rw [hten3] at HED cp
      clear hten3
      go_upto_region 6 with (fail)
      generalize wr.alloc (.cells #[.int .i64 xa, .int .i64 xb] 41) = w5 at bS nS ⊢
      obtain ⟨s0, s1⟩ := nS.both
      have HB5 := Lib.hid (HW.out.trans (bS.mono HW.out.size))
      have cs := on_some bS cs
      have cp := on_some bS cp
      have d0 := on_some bS d0
      have t2 := on_some bS t2
      clear bS nS x0 x1 d1 d2
      cases hin : Hd.inB ten3 ten with
      | true =>
        have HO2 : Hid (okE T ten (k + 1)) := fun j z hj hz => by
          by_cases e : j = k
          · subst e
            rw [hEE.out, HXX.out] at hz
            injection hz with hz
            subst hz
            simp only
            rw [HED.out]
            exact hin
          · exact HO.out j z (by omega) hz
        go_wp2_with fail
        go_quiet ((go_at_call 33; with_reducible exact Calls.quiet_of_same (cwin_c true ten3 ten _ hin)))
        have HB6 := Lib.hid (bldrewN HB5.out nq)
        go_wp2
        go_roundg (EE.length - (k + 1))
        case measure => omega
        case rel => exact ⟨k + 1, by omega, rfl, by go_num, HO2, HB6⟩
      | false =>
        have HE : Hid (x = false) := BAD.out (.inr (.inr (.inr (.inr fun h => by
          rw [hEE.out] at h
          have := h k (xa, xb) hlt (by rw [hEE.out]; exact HXX.out)
          simp only at this
          rw [HED.out, hin] at this
          cases this))))
        go_wp2_with fail
        go_quiet ((go_at_call 33; with_reducible exact Calls.quiet_of_same (cwin_c false ten3 ten _ hin)))
        have HB6 := Lib.hid (bldrewN HB5.out nq)
        go_wp2
        go_ret
        exact ⟨by rw [HE.out]; rfl, HB1.out.trans (HB6.out.mono HB1.out.size)⟩
    · have hltz : ¬ (k : Int) < (EE.length : Int) := by omega
      obtain rfl : k = EE.length := by omega
      have HE : Hid (x = true) := GOOD.out (by
        rintro (h | h | h | h | h)
        · omega
        · omega
        · exact h3 h
        · exact h4 h
        · exact h (by rw [hEE.out]; exact HO.out))
      go_wp2
      go_ret
      exact ⟨by rw [HE.out]; rfl, HB1.out.trans (HW.out.mono HB1.out.size)⟩
end Go.Proofs

namespace Go.Proofs
open Go.RowKit Go.Proofs.Hd Go.Lib
set_option maxRecDepth 100000 in
set_option maxHeartbeats 2000000 in
theorem cformed_c (x : Bool) (pv wv : Value) (N : Nat) (ten : Int) (P : List (Int × Int)) (Q : List Wa) (w : World) (hP : Pe w pv P) (hQ : Wy w wv Q) (hx : x = true ↔ okPe P ten P.length ∧ okWy Q ten N Q.length) : Calls Try.prog 28 #[.agg #[.int .i64 ten, pv, wv], .int .i64 (N : Int)] w fun e w' => e = .returned (.bool x) ∧ Below w.heap.size w w' := by
  obtain ⟨pA, pc, rfl, hpm, hPA⟩ := hP
  obtain ⟨wA, wc, rfl, hwm, hWA⟩ := hQ
  have HPA := Lib.hid hPA
  have HWA := Lib.hid hWA
  have hpz : (P.length : Int) ≤ 9223372036854775807 := by unfold maxLen at hpm; omega
  have hwz : (Q.length : Int) ≤ 9223372036854775807 := by unfold maxLen at hwm; omega
  have B0 : Hid (Below w.heap.size w (w.alloc (.cells #[.int .i64 ten, .slice pA P.length pc, .slice wA Q.length wc] 28))) := below1 w _
  have M0 : Hid (Blk (w.alloc (.cells #[.int .i64 ten, .slice pA P.length pc, .slice wA Q.length wc] 28)) w.heap.size 28 #[.int .i64 ten, .slice pA P.length pc, .slice wA Q.length wc]) := Blk.new w _ _
  have bad : ¬ (okPe P ten P.length ∧ okWy Q ten N Q.length) → x = false := fun h => by
    cases hxx : x with
    | false => rfl
    | true => exact absurd (hx.1 hxx) h
  have BAD := Lib.hid bad
  have GOOD := Lib.hid hx.2
  clear hx bad hPA hWA hpm hwm
  obtain ⟨d0, d1, d2⟩ := M0.out.three
  go_enter Try.func28, Try.ntmps28
  go_wp2
  clear d0 d1 d2
  generalize w.alloc (.cells #[.int .i64 ten, .slice pA P.length pc, .slice wA Q.length wc] 28) = w1 at B0 M0
  go_loopg [6, 12] P.length (fun gk _ s12 wr => ∃ k : Nat, k ≤ P.length ∧ gk = P.length - k ∧ s12 = .int .i64 k ∧ Hid (okPe P ten k) ∧ Hid (Below w1.heap.size w1 wr))
  case atStart => exact ⟨0, Nat.zero_le _, rfl, rfl, fun j x hj => absurd hj (Nat.not_lt_zero _), Below.refl _ _⟩
  case round =>
    obtain ⟨k, hk, rfl, rfl, HO, HW⟩ := hrel
    by_cases hlt : k < P.length
    · have hltz : (k : Int) < (P.length : Int) := by omega
      obtain ⟨y, hy⟩ : ∃ y, P[k]? = some y := ⟨_, List.getElem?_eq_getElem hlt⟩
      obtain ⟨pb, po, rfl, _, hc⟩ := HPA.out (by rintro rfl; simp at hlt)
      have HBW := Lib.hid (B0.out.trans (HW.out.mono B0.out.size))
      have x0 := on_some HBW.out (hc k y hy).1
      have x1 := on_some HBW.out (hc k y hy).2
      have HXX := Lib.hid hy
      obtain ⟨ya, yb⟩ := y
      simp only at x0 x1
      obtain ⟨d0, d1, d2⟩ := (M0.out.on HW.out).three
      have bS := below1 wr (.cells #[.int .i64 ya, .int .i64 yb] 66)
      have nS := Blk.new wr 66 #[.int .i64 ya, .int .i64 yb]
      clear hc hy
      go_upto_region 4 with (fail)
      generalize wr.alloc (.cells #[.int .i64 ya, .int .i64 yb] 66) = w5 at bS nS ⊢
      obtain ⟨s0, s1⟩ := nS.duo
      have HB5 := Lib.hid (HW.out.trans (bS.mono HW.out.size))
      have d0 := on_some bS d0
      clear bS nS x0 x1 d1 d2
      cases h1 : Hd.inB ya ten with
      | false =>
        have HE : Hid (x = false) := BAD.out fun h => by
          have := (h.1 k _ hlt HXX.out).1
          simp only at this
          rw [h1] at this
          cases this
        go_wp2_with fail
        (with_reducible refine (cwin_c false ya ten _ h1).mono ?_)
        rintro e w6 ⟨rfl, rfl⟩
        go_wp2
        go_ret
        exact ⟨by rw [HE.out]; rfl, B0.out.trans (HB5.out.mono B0.out.size)⟩
      | true =>
        cases h2 : Hd.inB yb ten with
        | false =>
          have HE : Hid (x = false) := BAD.out fun h => by
            have := (h.1 k _ hlt HXX.out).2
            simp only at this
            rw [h2] at this
            cases this
          go_wp2_with fail
          (with_reducible refine (cwin_c true ya ten _ h1).mono ?_)
          rintro e w6 ⟨rfl, rfl⟩
          go_wp2_with fail
          (with_reducible refine (cwin_c false yb ten _ h2).mono ?_)
          rintro e w7 ⟨rfl, rfl⟩
          go_wp2
          go_ret
          exact ⟨by rw [HE.out]; rfl, B0.out.trans (HB5.out.mono B0.out.size)⟩
        | true =>
          have HO2 : Hid (okPe P ten (k + 1)) := fun j z hj hz => by
            by_cases e : j = k
            · subst e
              rw [HXX.out] at hz
              injection hz with hz
              subst hz
              exact ⟨h1, h2⟩
            · exact HO.out j z (by omega) hz
          go_wp2_with fail
          (with_reducible refine (cwin_c true ya ten _ h1).mono ?_)
          rintro e w6 ⟨rfl, rfl⟩
          go_wp2_with fail
          (with_reducible refine (cwin_c true yb ten _ h2).mono ?_)
          rintro e w7 ⟨rfl, rfl⟩
          go_wp2
          go_roundg (P.length - (k + 1))
          case measure => omega
          case rel => exact ⟨k + 1, by omega, rfl, by go_num, HO2, HB5⟩
    · have hltz : ¬ (k : Int) < (P.length : Int) := by omega
      obtain rfl : k = P.length := by omega
      obtain ⟨d0, d1, d2⟩ := (M0.out.on HW.out).three
      have HOP := HO
      go_wp2
      clear d0 d1 d2
      go_loopg [8, 34] Q.length (fun gk _ s34 wq => ∃ k : Nat, k ≤ Q.length ∧ gk = Q.length - k ∧ s34 = .int .i64 k ∧ Hid (okWy Q ten N k) ∧ Hid (Below w1.heap.size w1 wq))
      case atStart => exact ⟨0, Nat.zero_le _, rfl, rfl, fun j x hj => absurd hj (Nat.not_lt_zero _), HW⟩
      case round =>
        clear HW
        rename_i wr0
        obtain ⟨k, hk, rfl, rfl, HO, HW⟩ := hrel
        by_cases hlt : k < Q.length
        · have hltz : (k : Int) < (Q.length : Int) := by omega
          obtain ⟨y, hy⟩ : ∃ y, Q[k]? = some y := ⟨_, List.getElem?_eq_getElem hlt⟩
          obtain ⟨qb, qo, rfl, _, hc⟩ := HWA.out (by rintro rfl; simp at hlt)
          have HBW := Lib.hid (B0.out.trans (HW.out.mono B0.out.size))
          have x0 := on_some HBW.out (hc k y hy).1
          have x1 := on_some HBW.out (hc k y hy).2.1
          have x2 := on_some HBW.out (hc k y hy).2.2
          have HXX := Lib.hid hy
          obtain ⟨ya, yb, yc⟩ := y
          simp only at x0 x1 x2
          obtain ⟨d0, d1, d2⟩ := (M0.out.on HW.out).three
          have bS := below1 wr (.cells #[.int .i64 ya, .int .i64 yb, .int .i64 yc] 68)
          have nS := Blk.new wr 68 #[.int .i64 ya, .int .i64 yb, .int .i64 yc]
          clear hc hy
          go_upto_region 10 with (fail)
          generalize wr.alloc (.cells #[.int .i64 ya, .int .i64 yb, .int .i64 yc] 68) = w5 at bS nS ⊢
          obtain ⟨s0, s1, s2⟩ := nS.three
          have HB5 := Lib.hid (HW.out.trans (bS.mono HW.out.size))
          have d0 := on_some bS d0
          clear bS nS x0 x1 x2 d1 d2
          cases h1 : Hd.inB ya ten with
          | false =>
            have HE : Hid (x = false) := BAD.out fun h => by
              have := (h.2 k _ hlt HXX.out).1
              simp only at this
              rw [h1] at this
              cases this
            go_wp2_with fail
            (with_reducible refine (cwin_c false ya ten _ h1).mono ?_)
            rintro e w6 ⟨rfl, rfl⟩
            go_wp2
            go_ret
            exact ⟨by rw [HE.out]; rfl, B0.out.trans (HB5.out.mono B0.out.size)⟩
          | true =>
            cases h2 : Hd.inB yb ten with
            | false =>
              have HE : Hid (x = false) := BAD.out fun h => by
                have := (h.2 k _ hlt HXX.out).2.1
                simp only at this
                rw [h2] at this
                cases this
              go_wp2_with fail
              (with_reducible refine (cwin_c true ya ten _ h1).mono ?_)
              rintro e w6 ⟨rfl, rfl⟩
              go_wp2_with fail
              (with_reducible refine (cwin_c false yb ten _ h2).mono ?_)
              rintro e w7 ⟨rfl, rfl⟩
              go_wp2
              go_ret
              exact ⟨by rw [HE.out]; rfl, B0.out.trans (HB5.out.mono B0.out.size)⟩
            | true =>
              cases h3 : Hd.inB yc N with
              | false =>
                have HE : Hid (x = false) := BAD.out fun h => by
                  have := (h.2 k _ hlt HXX.out).2.2
                  simp only at this
                  rw [h3] at this
                  cases this
                go_wp2_with fail
                (with_reducible refine (cwin_c true ya ten _ h1).mono ?_)
                rintro e w6 ⟨rfl, rfl⟩
                go_wp2_with fail
                (with_reducible refine (cwin_c true yb ten _ h2).mono ?_)
                rintro e w7 ⟨rfl, rfl⟩
                go_wp2_with fail
                (with_reducible refine (cwin_c false yc N _ h3).mono ?_)
                rintro e w8 ⟨rfl, rfl⟩
                go_wp2
                go_ret
                exact ⟨by rw [HE.out]; rfl, B0.out.trans (HB5.out.mono B0.out.size)⟩
              | true =>
                have HO2 : Hid (okWy Q ten N (k + 1)) := fun j z hj hz => by
                  by_cases e : j = k
                  · subst e
                    rw [HXX.out] at hz
                    injection hz with hz
                    subst hz
                    exact ⟨h1, h2, h3⟩
                  · exact HO.out j z (by omega) hz
                go_wp2_with fail
                (with_reducible refine (cwin_c true ya ten _ h1).mono ?_)
                rintro e w6 ⟨rfl, rfl⟩
                go_wp2_with fail
                (with_reducible refine (cwin_c true yb ten _ h2).mono ?_)
                rintro e w7 ⟨rfl, rfl⟩
                go_wp2_with fail
                (with_reducible refine (cwin_c true yc N _ h3).mono ?_)
                rintro e w8 ⟨rfl, rfl⟩
                go_wp2
                go_roundg (Q.length - (k + 1))
                case measure => omega
                case rel => exact ⟨k + 1, by omega, rfl, by go_num, HO2, HB5⟩
        · have hltz : ¬ (k : Int) < (Q.length : Int) := by omega
          obtain rfl : k = Q.length := by omega
          have HE : Hid (x = true) := GOOD.out ⟨HOP.out, HO.out⟩
          go_wp2
          go_ret
          exact ⟨by rw [HE.out]; rfl, B0.out.trans (HW.out.mono B0.out.size)⟩
end Go.Proofs

namespace Go.Proofs.Hd
open Go.RowKit
theorem polT_size {T : List (List Pt)} {ten : Int} {P : List (Int × Int)} {Q : List Wa} (h : ¬ szP T ten P Q) : polT T ten P Q = 4 := by
  unfold polT
  rw [if_pos (Classical.not_not.1 h)]
theorem polT_form {T : List (List Pt)} {ten : Int} {P : List (Int × Int)} {Q : List Wa} (h : szP T ten P Q) (h2 : ¬ (okPe P ten P.length ∧ okWy Q ten T.length Q.length)) : polT T ten P Q = 2 := by
  unfold polT
  rw [if_neg h, if_pos]
  by_cases h3 : okPe P ten P.length
  · exact .inr fun h4 => h2 ⟨h3, h4⟩
  · exact .inl h3
theorem polT_ok {T : List (List Pt)} {ten : Int} {P : List (Int × Int)} {Q : List Wa} (h : szP T ten P Q) (h2 : okPe P ten P.length ∧ okWy Q ten T.length Q.length) : polT T ten P Q = 0 := by
  unfold polT
  rw [if_neg h, if_neg]
  rintro (h3 | h3)
  · exact h3 h2.1
  · exact h3 h2.2
theorem yes_no (p : Prop) : ∃ x : Bool, x = true ↔ p := by
  by_cases h : p
  · exact ⟨true, fun _ => h, fun _ => rfl⟩
  · exact ⟨false, fun h2 => (by cases h2), fun h2 => absurd h2 h⟩
end Go.Proofs.Hd
namespace Go.Proofs
open Go.RowKit Go.Proofs.Hd Go.Lib
set_option maxRecDepth 100000 in
set_option maxHeartbeats 4000000 in
theorem csound_c (tv pv wv bv : Value) (T : List (List Pt)) (ten : Int) (P : List (Int × Int)) (Q : List Wa) (BB : List (List (List Rl))) (w : World) (hT : PsT w tv T) (hP : Pe w pv P) (hQ : Wy w wv Q) (hB : RuQ w bv BB) : Calls Try.prog 9 #[.agg #[tv, .int .i64 ten, pv, wv, bv]] w fun e w' => e = .returned (.int .i64 (cfgT T ten P Q BB)) ∧ Below w.heap.size w w' := by
  have HT := Lib.hid hT
  have HP := Lib.hid hP
  have HQ := Lib.hid hQ
  obtain ⟨A, cap, rfl, htm, hA⟩ := hT
  obtain ⟨pA, pc, rfl, -, -⟩ := hP
  obtain ⟨wA, wc, rfl, -, -⟩ := hQ
  obtain ⟨bA, bc, rfl, hbm, hBA⟩ := hB
  have hbz : (BB.length : Int) ≤ 9223372036854775807 := by unfold maxLen at hbm; omega
  have B0 : Below w.heap.size w (w.alloc (.cells #[.slice A T.length cap, .int .i64 ten, .slice pA P.length pc, .slice wA Q.length wc, .slice bA BB.length bc] 31)) := below1 w _
  have N0 : Hid (Blk (w.alloc (.cells #[.slice A T.length cap, .int .i64 ten, .slice pA P.length pc, .slice wA Q.length wc, .slice bA BB.length bc] 31)) w.heap.size 31 #[.slice A T.length cap, .int .i64 ten, .slice pA P.length pc, .slice wA Q.length wc, .slice bA BB.length bc]) := Blk.new w _ _
  have HA := Lib.hid hA
  have HBA := Lib.hid hBA
  clear hA hBA
  go_enter Try.func9, Try.ntmps9
  go_wp2_with fail
  (with_reducible refine (tpsound_c _ T _ (HT.out.on B0)).mono ?_)
  rintro e w1 ⟨rfl, hb1⟩
  have HB1 := Lib.hid (B0.trans (hb1.mono B0.size))
  have N1 := Lib.hid (N0.out.on hb1)
  clear hb1 B0 N0
  by_cases hs : sTp T = 0
  · obtain ⟨d0, d1, d2, d3, d4⟩ := N1.out.five
    have hn := ports_sound hs
    have h6 := (szT_iff.1 (sTp_zero hs).1).2.1
    have HC : Hid (cfgT T ten P Q BB = if polT T ten P Q = 0 then (if BB.length = T.length then firT BB T else 4) else polT T ten P Q) := by show _ = _; unfold cfgT; rw [if_pos hs]
    rw [hs]
    clear hs
    obtain ⟨x, hx⟩ := yes_no (szP T ten P Q)
    go_wp2_with fail
    (with_reducible refine (csized_c x _ _ _ T ten P Q _ (HT.out.on HB1.out) (HP.out.on HB1.out) (HQ.out.on HB1.out) hn hx).mono ?_)
    rintro e w2 ⟨rfl, hb2⟩
    have HB2 := Lib.hid (HB1.out.trans (hb2.mono HB1.out.size))
    have N2 := Lib.hid (N1.out.on hb2)
    clear hb2 HB1 N1 d0 d1 d2 d3 d4
    have HXZ := Lib.hid hx
    clear hx
    cases x with
    | false =>
      have HE : Hid (cfgT T ten P Q BB = 4) := by
        show _ = _
        rw [HC.out, polT_size fun h => by have := HXZ.out.2 h; cases this]
        rfl
      go_wp2
      go_ret
      exact ⟨by rw [HE.out]; rfl, HB2.out⟩
    | true =>
      have HS1 : Hid (szP T ten P Q) := HXZ.out.1 rfl
      clear HXZ
      obtain ⟨d0, d1, d2, d3, d4⟩ := N2.out.five
      obtain ⟨y, hy⟩ := yes_no (okPe P ten P.length ∧ okWy Q ten T.length Q.length)
      go_wp2_with fail
      (with_reducible refine (cformed_c y _ _ T.length ten P Q _ (HP.out.on HB2.out) (HQ.out.on HB2.out) hy).mono ?_)
      rintro e w3 ⟨rfl, hb3⟩
      have HB3 := Lib.hid (HB2.out.trans (hb3.mono HB2.out.size))
      have N3 := Lib.hid (N2.out.on hb3)
      clear hb3 HB2 N2 d0 d1 d2 d3 d4
      have HYZ := Lib.hid hy
      clear hy
      cases y with
      | false =>
        have HE : Hid (cfgT T ten P Q BB = 2) := by
          show _ = _
          rw [HC.out, polT_form HS1.out fun h => by have := HYZ.out.2 h; cases this]
          rfl
        go_wp2
        go_ret
        exact ⟨by rw [HE.out]; rfl, HB3.out⟩
      | true =>
        have HC2 : Hid (cfgT T ten P Q BB = if BB.length = T.length then firT BB T else 4) := by
          show _ = _
          rw [HC.out, polT_ok HS1.out (HYZ.out.1 rfl), if_pos rfl]
        clear HC HYZ
        obtain ⟨d0, d1, d2, d3, d4⟩ := N3.out.five
        by_cases hl : BB.length = T.length
        · have HC : Hid (cfgT T ten P Q BB = firT BB T) := by show _ = _; rw [HC2.out, if_pos hl]
          have hbl : (BB.length : Int) ≤ 6 := by omega
          have HL := Lib.hid hl
          have hne1 : ((BB.length : Int) != (T.length : Int)) = false := by simp [hl]
          clear hl HC2
          go_wp2
          clear d0 d1 d2 d3 d4
          go_loopg [4, 5, 6, 38] BB.length (fun gk _ _ _ s38 wr => ∃ k : Nat, k ≤ BB.length ∧ gk = BB.length - k ∧ s38 = .int .i64 k ∧ Hid (firT BB T = firT (BB.drop k) (T.drop k)) ∧ Hid (Below w3.heap.size w3 wr))
          case atStart => exact ⟨0, Nat.zero_le _, rfl, rfl, rfl, Below.refl _ _⟩
          case round =>
            obtain ⟨k, hk, rfl, rfl, HF, HW⟩ := hrel
            have HB4 := Lib.hid (HB3.out.trans (HW.out.mono HB3.out.size))
            obtain ⟨d0, d1, d2, d3, d4⟩ := (N3.out.on HW.out).five
            by_cases hlt : k < BB.length
            · have hltz : (k : Int) < (BB.length : Int) := by omega
              have hkT : k < T.length := by have := HL.out; omega
              have hkTz : (k : Int) < (T.length : Int) := by omega
              obtain ⟨B, hBk⟩ : ∃ B, BB[k]? = some B := ⟨_, List.getElem?_eq_getElem hlt⟩
              obtain ⟨L, hLk⟩ : ∃ L, T[k]? = some L := ⟨_, List.getElem?_eq_getElem hkT⟩
              obtain ⟨bb, bo, rfl, _, hbc⟩ := HBA.out (by rintro rfl; simp at hlt)
              obtain ⟨tb, tof, rfl, _, htc⟩ := HA.out (by rintro rfl; simp at hkT)
              obtain ⟨s1, hs1, hR⟩ := hbc k B hBk
              obtain ⟨s2, hs2, hPs⟩ := htc k L hLk
              have hPo := hPs.po
              obtain ⟨A1, c1, rfl, -⟩ := id hR
              obtain ⟨A2, c2, rfl, -⟩ := id hPs
              have x1 := on_some HB4.out hs1
              have x2 := on_some HB4.out hs2
              have HR := Lib.hid hR
              have HPo := Lib.hid hPo
              have HN := Lib.hid (firT_at hBk hLk)
              obtain ⟨z, hz⟩ : ∃ z, sT B (L.map Pt.kind) = z := ⟨_, rfl⟩
              rw [hz] at HN
              have HZ := Lib.hid hz
              clear hbc htc hs1 hs2 hR hPs hPo hBk hLk hz
              go_wp2_with fail
              (with_reducible refine (tabs_c _ _ B (L.map Pt.kind) _ (HR.out.on HB4.out) (HPo.out.on HB4.out)).mono ?_)
              rintro e w5 ⟨rfl, hb⟩
              rw [HZ.out]
              have HBE := Lib.hid (HB4.out.trans (hb.mono HB4.out.size))
              have HWE := Lib.hid (HW.out.trans (hb.mono HW.out.size))
              clear HB4 HW d0 d1 d2 d3 d4 hb x1 x2
              by_cases hz0 : z = 0
              · subst hz0
                rw [if_pos rfl] at HN
                have HF2 : Hid (firT BB T = firT (BB.drop (k + 1)) (T.drop (k + 1))) := HF.out.trans HN.out
                go_wp2
                go_roundg (BB.length - (k + 1))
                case measure => omega
                case rel => exact ⟨k + 1, by omega, rfl, by go_num, HF2, HWE⟩
              · rw [if_neg hz0] at HN
                have HE : Hid (cfgT T ten P Q BB = z) := HC.out.trans (HF.out.trans HN.out)
                go_wp2
                go_ret
                exact ⟨by rw [HE.out]; rfl, HBE.out⟩
            · have hltz : ¬ (k : Int) < (BB.length : Int) := by omega
              have HE : Hid (cfgT T ten P Q BB = 0) := HC.out.trans (HF.out.trans (firT_end T (by omega)))
              go_wp2
              go_ret
              exact ⟨by rw [HE.out]; rfl, HB4.out⟩
        · have HE : Hid (cfgT T ten P Q BB = 4) := by show _ = _; rw [HC2.out, if_neg hl]
          have hlz : ¬ (BB.length : Int) = (T.length : Int) := by omega
          have hne1 : ((BB.length : Int) != (T.length : Int)) = true := bne_iff_ne.2 hlz
          clear HC2
          go_wp2
          go_ret
          exact ⟨by rw [HE.out]; rfl, HB3.out⟩
  · have HE : Hid (cfgT T ten P Q BB = sTp T) := by show _ = _; unfold cfgT; rw [if_neg hs]
    obtain ⟨q, hq⟩ : ∃ q, sTp T = q := ⟨_, rfl⟩
    rw [hq] at hs HE ⊢
    clear hq
    go_wp2
    go_ret
    exact ⟨by rw [HE.out]; rfl, HB1.out⟩
end Go.Proofs

namespace Go.Proofs.Hd
open Go.RowKit
def Cb.arr (c : Cb) : Array Value := #[.int .u64 (uv c.vh), .int .u64 (uv c.vl), .int .u64 (uv c.ch), .int .u64 (uv c.cl)]
def hArr (h l : BitVec 64) : Array Value := #[.int .u64 (uv h), .int .u64 (uv l)]
structure Lw (w wr : World) (a b : Cb) (g : Nat) (lh ll : BitVec 64) (v : Value) (L : List Cb) : Prop where
  bel : Below w.heap.size w wr
  ba : Blk wr w.heap.size 46 a.arr
  bb : Blk wr (w.heap.size + 1) 46 b.arr
  bg : Blk wr g 44 (hArr lh ll)
  gb : w.heap.size + 2 ≤ g
  own : wr.ownsRow (w.heap.size + 2) 46 4 v L.length (flat L)
theorem Lw.on {w wr w2 : World} {a b : Cb} {g : Nat} {lh ll : BitVec 64} {v : Value} {L : List Cb} (h : Lw w wr a b g lh ll v L) (hb : Below wr.heap.size wr w2) : Lw w w2 a b g lh ll v L :=
  ⟨h.bel.trans (hb.mono h.bel.size), h.ba.on hb, h.bb.on hb, h.bg.on hb, h.gb, own_on h.own hb⟩
theorem Lw.setL {w wr : World} {a b : Cb} {g : Nat} {lh ll : BitVec 64} {v : Value} {L : List Cb} (h : Lw w wr a b g lh ll v L) (p q : BitVec 64) :
    Lw w ((wr.setCell ⟨g, 0, none⟩ (.int .u64 (uv p))).setCell ⟨g, 1, none⟩ (.int .u64 (uv q))) a b g p q v L := by
  have hg := h.gb
  have n0 : v.ownBlock ≠ some g := fun e => own_apart h.own h.bg (by decide) e.symm
  refine ⟨(h.bel.setCell (by show _ ≤ g; omega) _).setCell (by show _ ≤ g; omega) _, (h.ba.far (by show _ ≠ g; omega) _).far (by show _ ≠ g; omega) _, (h.bb.far (by show _ ≠ g; omega) _).far (by show _ ≠ g; omega) _, ?_, h.gb, ownsRow_setCell_other (ownsRow_setCell_other h.own n0 _) n0 _⟩
  exact ((h.bg.set 0 (.int .u64 (uv p))).set 1 (.int .u64 (uv q)))
theorem Lw.setA {w wr : World} {a b : Cb} {g : Nat} {lh ll : BitVec 64} {v : Value} {L : List Cb} (h : Lw w wr a b g lh ll v L) (c : Cb) :
    Lw w ((((wr.setCell ⟨w.heap.size, 0, none⟩ (.int .u64 (uv c.vh))).setCell ⟨w.heap.size, 1, none⟩ (.int .u64 (uv c.vl))).setCell ⟨w.heap.size, 2, none⟩ (.int .u64 (uv c.ch))).setCell ⟨w.heap.size, 3, none⟩ (.int .u64 (uv c.cl))) c b g lh ll v L := by
  have hg := h.gb
  refine ⟨h.bel.trans ((sets4 _ _ _ _ _ _).mono (Nat.le_refl _)), ?_, ?_, ?_, h.gb, ?_⟩
  · exact (((h.ba.set 0 (.int .u64 (uv c.vh))).set 1 (.int .u64 (uv c.vl))).set 2 (.int .u64 (uv c.ch))).set 3 (.int .u64 (uv c.cl))
  · exact (((h.bb.far (by show _ ≠ w.heap.size; omega) _).far (by show _ ≠ w.heap.size; omega) _).far (by show _ ≠ w.heap.size; omega) _).far (by show _ ≠ w.heap.size; omega) _
  · exact (((h.bg.far (by show _ ≠ w.heap.size; omega) _).far (by show _ ≠ w.heap.size; omega) _).far (by show _ ≠ w.heap.size; omega) _).far (by show _ ≠ w.heap.size; omega) _
  · exact ownsRow_setCell_below (ownsRow_setCell_below (ownsRow_setCell_below (ownsRow_setCell_below h.own (by show w.heap.size < _; omega) _) (by show w.heap.size < _; omega) _) (by show w.heap.size < _; omega) _) (by show w.heap.size < _; omega) _
theorem Lw.newL {w wr : World} {a b : Cb} {g : Nat} {lh ll : BitVec 64} {v : Value} {L : List Cb} (h : Lw w wr a b g lh ll v L) (p q : BitVec 64) (hz : w.heap.size + 2 ≤ wr.heap.size) :
    Lw w (wr.alloc (.cells #[.int .u64 (uv p), .int .u64 (uv q)] 44)) a b wr.heap.size p q v L := by
  have hb : Below wr.heap.size wr (wr.alloc (.cells #[.int .u64 (uv p), .int .u64 (uv q)] 44)) := (Below.refl _ _).alloc (Nat.le_refl _) _
  have h2 := h.on hb
  exact ⟨h2.bel, h2.ba, h2.bb, Blk.new _ _ _, hz, h2.own⟩
theorem Lw.append {w wr w2 : World} {a b : Cb} {g : Nat} {lh ll : BitVec 64} {v v' : Value} {L : List Cb} {c : Cb} (h : Lw w wr a b g lh ll v L) (hg : wr.grownBy w2 v.ownBlock)
    (hown : w2.ownsRow (w.heap.size + 2) 46 4 v' (L.length + 1) (flat L ++ c.cells)) : Lw w w2 a b g lh ll v' (L ++ [c]) := by
  have hz := h.bel.size
  refine ⟨h.bel.grown hg hz (fun k hk => by have := (h.own.lt k hk).1; omega), h.ba.grown hg (own_base h.own (by omega)), h.bb.grown hg (own_base h.own (by omega)), h.bg.grown hg (own_apart h.own h.bg (by decide)), h.gb, ?_⟩
  rw [flat_snoc]
  simpa using hown
/-- Two cubes that were handed in lie in the first two blocks. -/
structure Tw (w wr : World) (a b : Cb) : Prop where
  bel : Below w.heap.size w wr
  ba : Blk wr w.heap.size 46 a.arr
  bb : Blk wr (w.heap.size + 1) 46 b.arr
theorem Tw.start (w : World) (a b : Cb) : Tw w ((w.alloc (.cells #[.int .u64 (uv a.vh), .int .u64 (uv a.vl), .int .u64 (uv a.ch), .int .u64 (uv a.cl)] 46)).alloc (.cells #[.int .u64 (uv b.vh), .int .u64 (uv b.vl), .int .u64 (uv b.ch), .int .u64 (uv b.cl)] 46)) a b := by
  have b1 : Below w.heap.size w (w.alloc (.cells #[.int .u64 (uv a.vh), .int .u64 (uv a.vl), .int .u64 (uv a.ch), .int .u64 (uv a.cl)] 46)) := (Below.refl _ _).alloc (Nat.le_refl _) _
  have k1 : Blk (w.alloc (.cells #[.int .u64 (uv a.vh), .int .u64 (uv a.vl), .int .u64 (uv a.ch), .int .u64 (uv a.cl)] 46)) w.heap.size 46 a.arr := Blk.new w _ _
  have k2 := Blk.new (w.alloc (.cells #[.int .u64 (uv a.vh), .int .u64 (uv a.vl), .int .u64 (uv a.ch), .int .u64 (uv a.cl)] 46)) 46 b.arr
  rw [World.size_alloc] at k2
  exact ⟨b1.alloc (by simp) _, k1.on ((Below.refl _ _).alloc (Nat.le_refl _) _), k2⟩
theorem Tw.on {w wr w2 : World} {a b : Cb} (h : Tw w wr a b) (hb : Below wr.heap.size wr w2) : Tw w w2 a b :=
  ⟨h.bel.trans (hb.mono h.bel.size), h.ba.on hb, h.bb.on hb⟩
theorem Tw.loop {w wr : World} {a b : Cb} (h : Tw w wr a b) (p q : BitVec 64) : Lw w (wr.alloc (.cells #[.int .u64 (uv p), .int .u64 (uv q)] 44)) a b wr.heap.size p q (.slice none 0 0) [] := by
  have h2 := h.on ((Below.refl wr.heap.size wr).alloc (Nat.le_refl _) (.cells #[.int .u64 (uv p), .int .u64 (uv q)] 44))
  exact ⟨h2.bel, h2.ba, h2.bb, Blk.new _ _ _, h.bb.lt, World.ownsRow_nil _ _ _ _⟩
theorem Tw.eqs {w wr : World} {a b : Cb} (h : Tw w wr a b) :
    (wr.cell? ⟨w.heap.size, 0, none⟩ = some (.int .u64 (uv a.vh)) ∧ wr.cell? ⟨w.heap.size, 1, none⟩ = some (.int .u64 (uv a.vl)) ∧ wr.cell? ⟨w.heap.size, 2, none⟩ = some (.int .u64 (uv a.ch)) ∧ wr.cell? ⟨w.heap.size, 3, none⟩ = some (.int .u64 (uv a.cl))) ∧
    (wr.cell? ⟨w.heap.size + 1, 0, none⟩ = some (.int .u64 (uv b.vh)) ∧ wr.cell? ⟨w.heap.size + 1, 1, none⟩ = some (.int .u64 (uv b.vl)) ∧ wr.cell? ⟨w.heap.size + 1, 2, none⟩ = some (.int .u64 (uv b.ch)) ∧ wr.cell? ⟨w.heap.size + 1, 3, none⟩ = some (.int .u64 (uv b.cl))) :=
  ⟨⟨h.ba.cell 0, h.ba.cell 1, h.ba.cell 2, h.ba.cell 3⟩, ⟨h.bb.cell 0, h.bb.cell 1, h.bb.cell 2, h.bb.cell 3⟩⟩
theorem pair_zero {lh ll : BitVec 64} (h : bitsDown (hbit lh ll) 128 = []) : eq2 (uv lh) (uv ll) 0 0 = true := by
  have hb := bitsDown_nil h
  obtain ⟨e1, e2⟩ := head_ext (h := lh) (l := ll) (h' := 0#64) (l' := 0#64) (fun j hj => by rw [hb j hj]; simp [hbit])
  rw [e1, e2]; exact eq2_self 0 0
theorem pair_some {lh ll : BitVec 64} {k : Nat} {ks : List Nat} (h : bitsDown (hbit lh ll) 128 = k :: ks) : eq2 (uv lh) (uv ll) 0 0 = false := by
  obtain ⟨h1, h2, _, _⟩ := bitsDown_cons h
  cases c : eq2 (uv lh) (uv ll) 0 0 with
  | false => rfl
  | true =>
    rw [uv_zero, eq2_uv] at c
    simp only [Bool.and_eq_true, beq_iff_eq] at c
    rw [c.1, c.2] at h2
    simp [hbit] at h2
theorem next_bits {lh ll : BitVec 64} {k : Nat} {ks : List Nat} (h : bitsDown (hbit lh ll) 128 = k :: ks) : bitsDown (hbit (lh &&& ~~~oneH k) (ll &&& ~~~oneL k)) 128 = ks := by
  obtain ⟨h1, h2, _, h4⟩ := bitsDown_cons h
  rw [← h4]
  exact bitsDown_congr 128 fun j hj => by rw [hbit_andNot _ _ _ _ _ hj, hbit_one _ _ h1 hj]
/-- What the walk reads. -/
theorem Lw.eqs {w wr : World} {a b : Cb} {g : Nat} {lh ll : BitVec 64} {v : Value} {L : List Cb} (h : Lw w wr a b g lh ll v L) :
    (wr.cell? ⟨w.heap.size, 0, none⟩ = some (.int .u64 (uv a.vh)) ∧ wr.cell? ⟨w.heap.size, 1, none⟩ = some (.int .u64 (uv a.vl)) ∧ wr.cell? ⟨w.heap.size, 2, none⟩ = some (.int .u64 (uv a.ch)) ∧ wr.cell? ⟨w.heap.size, 3, none⟩ = some (.int .u64 (uv a.cl))) ∧
    (wr.cell? ⟨w.heap.size + 1, 0, none⟩ = some (.int .u64 (uv b.vh)) ∧ wr.cell? ⟨w.heap.size + 1, 1, none⟩ = some (.int .u64 (uv b.vl)) ∧ wr.cell? ⟨w.heap.size + 1, 2, none⟩ = some (.int .u64 (uv b.ch)) ∧ wr.cell? ⟨w.heap.size + 1, 3, none⟩ = some (.int .u64 (uv b.cl))) ∧
    (wr.cell? ⟨g, 0, none⟩ = some (.int .u64 (uv lh)) ∧ wr.cell? ⟨g, 1, none⟩ = some (.int .u64 (uv ll))) ∧
    (wr.frozen? ⟨w.heap.size, 0, none⟩ = false ∧ wr.frozen? ⟨w.heap.size, 1, none⟩ = false ∧ wr.frozen? ⟨w.heap.size, 2, none⟩ = false ∧ wr.frozen? ⟨w.heap.size, 3, none⟩ = false) ∧
    (wr.frozen? ⟨g, 0, none⟩ = false ∧ wr.frozen? ⟨g, 1, none⟩ = false) :=
  ⟨⟨h.ba.cell 0, h.ba.cell 1, h.ba.cell 2, h.ba.cell 3⟩, ⟨h.bb.cell 0, h.bb.cell 1, h.bb.cell 2, h.bb.cell 3⟩, ⟨h.bg.cell 0, h.bg.cell 1⟩, ⟨h.ba.free 0, h.ba.free 1, h.ba.free 2, h.ba.free 3⟩, ⟨h.bg.free 0, h.bg.free 1⟩⟩
theorem Blk.two {w : World} {g : Nat} {t : TypeId} {p q : BitVec 64} (h : Blk w g t (hArr p q)) : w.cell? ⟨g, 0, none⟩ = some (.int .u64 (uv p)) ∧ w.cell? ⟨g, 1, none⟩ = some (.int .u64 (uv q)) := ⟨h.cell 0, h.cell 1⟩
theorem Blk.pair {w : World} {g : Nat} {t : TypeId} {x0 x1 : Value} (h : Blk w g t #[x0, x1]) : w.cell? ⟨g, 0, none⟩ = some x0 ∧ w.cell? ⟨g, 1, none⟩ = some x1 := ⟨h.cell 0, h.cell 1⟩
theorem Blk.four {w : World} {g : Nat} {t : TypeId} {x0 x1 x2 x3 : Value} (h : Blk w g t #[x0, x1, x2, x3]) : w.cell? ⟨g, 0, none⟩ = some x0 ∧ w.cell? ⟨g, 1, none⟩ = some x1 ∧ w.cell? ⟨g, 2, none⟩ = some x2 ∧ w.cell? ⟨g, 3, none⟩ = some x3 := ⟨h.cell 0, h.cell 1, h.cell 2, h.cell 3⟩
theorem Blk.fr2 {w : World} {g : Nat} {t : TypeId} {cs : Array Value} (h : Blk w g t cs) : w.frozen? ⟨g, 0, none⟩ = false ∧ w.frozen? ⟨g, 1, none⟩ = false := ⟨h.free 0, h.free 1⟩
theorem Blk.fr4 {w : World} {g : Nat} {t : TypeId} {cs : Array Value} (h : Blk w g t cs) : w.frozen? ⟨g, 0, none⟩ = false ∧ w.frozen? ⟨g, 1, none⟩ = false ∧ w.frozen? ⟨g, 2, none⟩ = false ∧ w.frozen? ⟨g, 3, none⟩ = false := ⟨h.free 0, h.free 1, h.free 2, h.free 3⟩
theorem Blk.set4 {w : World} {g : Nat} {t : TypeId} {x0 x1 x2 x3 : Value} (h : Blk w g t #[x0, x1, x2, x3]) (y0 y1 y2 y3 : Value) : Blk ((((w.setCell ⟨g, 0, none⟩ y0).setCell ⟨g, 1, none⟩ y1).setCell ⟨g, 2, none⟩ y2).setCell ⟨g, 3, none⟩ y3) g t #[y0, y1, y2, y3] := (((h.set 0 y0).set 1 y1).set 2 y2).set 3 y3
theorem Blk.far4 {w : World} {g r : Nat} {t : TypeId} {cs : Array Value} (h : Blk w g t cs) (hp : g ≠ r) (y0 y1 y2 y3 : Value) : Blk ((((w.setCell ⟨r, 0, none⟩ y0).setCell ⟨r, 1, none⟩ y1).setCell ⟨r, 2, none⟩ y2).setCell ⟨r, 3, none⟩ y3) g t cs := (((h.far hp y0).far hp y1).far hp y2).far hp y3
/-- A list of cubes was returned, in memory of the call's own; nothing that was there has changed. -/
def Got (w : World) (L : List Cb) (e : Ending) (w' : World) : Prop := ∃ v, e = .returned v ∧ w'.ownsRow w.heap.size 46 4 v L.length (flat L) ∧ Below w.heap.size w w'
end Go.Proofs.Hd

namespace Go.Proofs
open Go.RowKit Go.Proofs.Hd
attribute [local go_sem] uv_nonneg

theorem put_z (a n : Nat) (v : BitVec 64) (w : World) (hn : a + n ≤ 128) (h64 : n ≤ 64) (hv : ¬ uv (low n) < uv v) :
    Calls Try.prog 74 #[.agg #[.int .u64 0, .int .u64 0], .int .i64 a, .int .i64 n, .int .u64 (uv v)] w fun e w' => e = .returned (.tuple #[.agg #[.int .u64 (uv (putH 0#64 a n v)), .int .u64 (uv (putL 0#64 a n v))], .int .i64 0]) ∧ Below w.heap.size w w' :=
  put_c 0#64 0#64 a n v w hn h64 hv
theorem mask_i (x : Int) (a n : Nat) (w : World) (hx : x = (a : Int)) (h : a + n ≤ 128) : Calls Try.prog 75 #[.int .i64 x, .int .i64 n] w fun e w' => e = .returned (.tuple #[.agg #[.int .u64 (uv (maskH a n)), .int .u64 (uv (maskL a n))], .int .i64 0]) ∧ Below w.heap.size w w' := by
  subst hx; exact mask_c a n w h

set_option maxHeartbeats 1000000 in
theorem cfield_yes (a n len : Nat) (v : BitVec 64) (w : World) (hn : a + n ≤ 128) (h64 : n ≤ 64) (hv : ¬ uv (low n) < uv v) (hl : len ≤ n) :
    Calls Try.prog 60 #[.int .i64 a, .int .i64 n, .int .u64 (uv v), .int .i64 len] w fun e w' => e = .returned (.tuple #[.agg #[.int .u64 (uv (putH 0#64 a n v &&& maskH (a + n - len) len)), .int .u64 (uv (putL 0#64 a n v &&& maskL (a + n - len) len)), .int .u64 (uv (maskH (a + n - len) len)), .int .u64 (uv (maskL (a + n - len) len))], .int .i64 0]) ∧ Below w.heap.size w w' := by
  have HV := Lib.hid hv
  clear hv
  have b0 := below1 w (.cells #[.int .u64 0, .int .u64 0, .int .u64 0, .int .u64 0] 46)
  have Z0 := zero4_new w
  go_enter Try.func60, Try.ntmps60
  go_wp2_with fail
  (with_reducible refine (put_z a n v _ hn h64 (by have := HV.out; omega)).mono ?_)
  rintro e w1 ⟨rfl, hb1⟩
  have B1 := b0.trans (hb1.mono b0.size)
  have Z1 := Zero4.on hb1 Z0
  have bl1 := below1 w1 (.cells #[.int .u64 (uv (putH 0#64 a n v)), .int .u64 (uv (putL 0#64 a n v))] 44)
  have X1 : Blk (w1.alloc (.cells #[.int .u64 (uv (putH 0#64 a n v)), .int .u64 (uv (putL 0#64 a n v))] 44)) w1.heap.size 44 (hArr (putH 0#64 a n v) (putL 0#64 a n v)) := Blk.new w1 _ _
  have B2 := B1.trans (bl1.mono B1.size)
  have Z2 := Zero4.on bl1 Z1
  clear hb1 Z0 b0 B1 Z1 bl1
  have hl' : (len : Int) ≤ n := by omega
  go_wp2_with fail
  (with_reducible refine (mask_i _ (a + n - len) len _ (by omega) (by omega)).mono ?_)
  rintro e w3 ⟨rfl, hb3⟩
  have B3 := B2.trans (hb3.mono B2.size)
  have Z3 := Zero4.on hb3 Z2
  have X3 := X1.on hb3
  have x3 := X3.two
  have l3 : w1.heap.size < w3.heap.size := X3.lt
  clear hb3 Z2 X1 B2
  have bl3 := below1 w3 (.cells #[.int .u64 (uv (maskH (a + n - len) len)), .int .u64 (uv (maskL (a + n - len) len))] 44)
  have B4 := B3.trans (bl3.mono B3.size)
  have Z4 := Zero4.on bl3 Z3
  clear Z3 B3 bl3
  go_wp2_with fail
  (with_reducible refine (make_c _ _ _ _ _).mono ?_)
  rintro e w5 ⟨rfl, hb5⟩
  have B5 := B4.trans (hb5.mono B4.size)
  have Z5 := Zero4.on hb5 Z4
  have Y5 := Z5.out
  clear Z4 B4 hb5 x3 X3
  go_wp2
  exact bodyPost_ret (v := .tuple #[.agg #[.int .u64 (uv (putH 0#64 a n v &&& maskH (a + n - len) len)), .int .u64 (uv (putL 0#64 a n v &&& maskL (a + n - len) len)), .int .u64 (uv (maskH (a + n - len) len)), .int .u64 (uv (maskL (a + n - len) len))], .int .i64 0]) (by simp [results, Try.results60, go_sem, Y5]) rfl ⟨rfl, B5.trans ((sets4 _ _ _ _ _ _).mono (Nat.le_refl _))⟩

set_option maxHeartbeats 1000000 in
theorem cfield_bad (a n : Int) (len : Int) (v : BitVec 64) (er : Int) (w : World) (her : (er != 0) = true)
    (hp : ∀ w, Calls Try.prog 74 #[.agg #[.int .u64 0, .int .u64 0], .int .i64 a, .int .i64 n, .int .u64 (uv v)] w fun e w' => e = .returned (.tuple #[.agg #[.int .u64 (uv 0#64), .int .u64 (uv 0#64)], .int .i64 er]) ∧ Below w.heap.size w w') :
    Calls Try.prog 60 #[.int .i64 a, .int .i64 n, .int .u64 (uv v), .int .i64 len] w fun e w' => e = .returned (.tuple #[.agg #[.int .u64 0, .int .u64 0, .int .u64 0, .int .u64 0], .int .i64 er]) ∧ Below w.heap.size w w' := by
  have HP := Lib.hid hp
  clear hp
  have b0 := below1 w (.cells #[.int .u64 0, .int .u64 0, .int .u64 0, .int .u64 0] 46)
  have Z0 := zero4_new w
  go_enter Try.func60, Try.ntmps60
  go_wp2_with fail
  (with_reducible refine (HP.out _).mono ?_)
  rintro e w1 ⟨rfl, hb1⟩
  have B1 := b0.trans (hb1.mono b0.size)
  have Z1 := Zero4.on hb1 Z0
  have bl1 := below1 w1 (.cells #[.int .u64 (uv 0#64), .int .u64 (uv 0#64)] 44)
  have B2 := B1.trans (bl1.mono B1.size)
  have Z2 := Zero4.on bl1 Z1
  have Y2 := Z2.out
  clear hb1 Z0 b0 B1 Z1 bl1
  go_wp2
  exact bodyPost_ret (v := .tuple #[.agg #[.int .u64 0, .int .u64 0, .int .u64 0, .int .u64 0], .int .i64 er]) (by simp [results, Try.results60, go_sem, Y2]) rfl ⟨rfl, B2.trans ((sets4 _ _ _ _ _ _).mono (Nat.le_refl _))⟩

set_option maxHeartbeats 1000000 in
theorem cfield_len (a n : Nat) (len : Int) (v : BitVec 64) (w : World) (hn : a + n ≤ 128) (h64 : n ≤ 64) (hv : ¬ uv (low n) < uv v) (hl : len < 0 ∨ (n : Int) < len) :
    Calls Try.prog 60 #[.int .i64 a, .int .i64 n, .int .u64 (uv v), .int .i64 len] w fun e w' => e = .returned (.tuple #[.agg #[.int .u64 0, .int .u64 0, .int .u64 0, .int .u64 0], .int .i64 4]) ∧ Below w.heap.size w w' := by
  have HV := Lib.hid hv
  clear hv
  rcases hl with hl | hl
  all_goals (
    have b0 := below1 w (.cells #[.int .u64 0, .int .u64 0, .int .u64 0, .int .u64 0] 46)
    have Z0 := zero4_new w
    go_enter Try.func60, Try.ntmps60
    go_wp2_with fail
    (with_reducible refine (put_z a n v _ hn h64 (by have := HV.out; omega)).mono ?_)
    rintro e w1 ⟨rfl, hb1⟩
    have B1 := b0.trans (hb1.mono b0.size)
    have Z1 := Zero4.on hb1 Z0
    have bl1 := below1 w1 (.cells #[.int .u64 (uv (putH 0#64 a n v)), .int .u64 (uv (putL 0#64 a n v))] 44)
    have B2 := B1.trans (bl1.mono B1.size)
    have Z2 := Zero4.on bl1 Z1
    have Y2 := Z2.out
    clear hb1 Z0 b0 B1 Z1 bl1
    go_wp2
    exact bodyPost_ret (v := .tuple #[.agg #[.int .u64 0, .int .u64 0, .int .u64 0, .int .u64 0], .int .i64 4]) (by simp [results, Try.results60, go_sem, Y2]) rfl ⟨rfl, B2.trans ((sets4 _ _ _ _ _ _).mono (Nat.le_refl _))⟩)
end Go.Proofs

namespace Go.Proofs.Hd
open Go.RowKit
/-- The bits a .. a + k - 1. -/
def mk (a k : Nat) : Nat → Bool := fun j => decide (a ≤ j) && decide (j < a + k)
theorem mk_zero (a : Nat) : bl (mk a 0) = bl (fun _ => false) := bl_congr fun j _ => by
  unfold mk; by_cases h : a ≤ j
  · simp [h, show ¬ j < a by omega]
  · simp [h]
theorem mk_succ (a k : Nat) : (bl (mk a k)).set (a + k) (.bool true) = bl (mk a (k + 1)) := by
  rw [bl_set]
  apply bl_congr
  intro j _
  unfold mk
  by_cases e : j = a + k
  · subst e; simp
  · by_cases h : a ≤ j
    · have : (j < a + (k + 1)) ↔ (j < a + k) := by omega
      simp [e, h, this]
    · simp [e, h]
theorem mk_num (a n : Nat) (h : a + n ≤ 128) : num (mk a n) 64 64 = maskH a n ∧ num (mk a n) 0 64 = maskL a n :=
  num_of_bits fun j hj => by rw [mask_bit a n j h hj]; rfl
/-- A header's bits, of which k from a on are those of v. -/
def pt (h l v : BitVec 64) (a k : Nat) : Nat → Bool := fun j => if a ≤ j ∧ j < a + k then v.getLsbD (j - a) else hbit h l j
theorem pt_zero (h l v : BitVec 64) (a : Nat) : pt h l v a 0 = hbit h l := by
  funext j; unfold pt; rw [if_neg (by omega)]
theorem pt_succ (h l v : BitVec 64) (a k : Nat) (b : Bool) (hb : b = v.getLsbD k) : (bl (pt h l v a k)).set (a + k) (.bool b) = bl (pt h l v a (k + 1)) := by
  subst hb
  rw [bl_set]
  apply bl_congr
  intro j _
  unfold pt
  by_cases e : j = a + k
  · subst e; rw [if_pos rfl, if_pos (by omega), Nat.add_sub_cancel_left]
  · rw [if_neg e]
    by_cases c : a ≤ j ∧ j < a + k
    · rw [if_pos c, if_pos (by omega)]
    · rw [if_neg c, if_neg (by omega)]
theorem fit_bits (v : BitVec 64) (n i : Nat) (hn : n ≤ 64) (h : ¬ uv (low n) < uv v) (hi : n ≤ i) : v.getLsbD i = false := by
  unfold uv at h
  rw [low_nat n hn] at h
  have h2 : v.toNat < 2 ^ n := by have := Nat.two_pow_pos n; omega
  rw [BitVec.getLsbD, Nat.testBit_lt_two_pow]
  exact Nat.lt_of_lt_of_le h2 (Nat.pow_le_pow_right (by omega) hi)
theorem pt_num (h l v : BitVec 64) (a n : Nat) (hn : n ≤ 64) (hv : ¬ uv (low n) < uv v) : num (pt h l v a n) 64 64 = putH h a n v ∧ num (pt h l v a n) 0 64 = putL l a n v :=
  num_of_bits fun j hj => by
    rw [put_bit h l a n v j hn hj]
    unfold pt
    by_cases c : a ≤ j ∧ j < a + n
    · rw [if_pos c]; simp [c.1, c.2]
    · rw [if_neg c]
      by_cases c1 : a ≤ j
      · have c2 : ¬ j < a + n := fun h2 => c ⟨c1, h2⟩
        simp [c1, c2, fit_bits v n (j - a) hn hv (by omega)]
      · simp [c1]
theorem over_small (v : BitVec 64) (n : Nat) (hn : n ≤ 64) (hv : uv (low n) < uv v) : n < 64 ∧ (uv (v >>> n) != 0) = true := by
  unfold uv at *
  rw [low_nat n hn] at hv
  have hl := v.isLt
  have hp := Nat.two_pow_pos n
  have h1 : n < 64 := by
    rcases Nat.lt_or_ge n 64 with h | h
    · exact h
    · have : n = 64 := by omega
      subst this; omega
  refine ⟨h1, ?_⟩
  rw [BitVec.toNat_ushiftRight, Nat.shiftRight_eq_div_pow]
  have : 0 < v.toNat / 2 ^ n := Nat.div_pos (by omega) hp
  simp only [bne_iff_ne, ne_eq]; omega
theorem fit_small (v : BitVec 64) (n : Nat) (hn : n ≤ 64) (hv : ¬ uv (low n) < uv v) : (uv (v >>> n) != 0) = false := by
  unfold uv at *
  rw [low_nat n hn] at hv
  have hp := Nat.two_pow_pos n
  rw [BitVec.toNat_ushiftRight, Nat.shiftRight_eq_div_pow, Nat.div_eq_of_lt (by omega)]
  rfl
theorem v_bit (v : BitVec 64) (k : Nat) : ((uv (v >>> k)).tmod 2 == 1) = v.getLsbD k := by
  rw [uv_odd, BitVec.getLsbD_ushiftRight, Nat.add_zero]
end Go.Proofs.Hd

namespace Go.Proofs
open Go.RowKit Go.Proofs.Hd
/-- Where the fields of a stamp end. -/
def stE (k : Nat) : Nat := if k = 0 then 88 else if k = 1 then 112 else if k = 2 then 120 else 128
/-- The bits of a stamp. -/
def stF (n m : Nat) (j : Nat) : Bool := if j < 112 then (n + 1).testBit (j - 88) else if j < 120 then m.testBit (j - 112) else false
/-- What is known behind k fields of a stamp. -/
def StB (n m k : Nat) (vh vl ch cl : BitVec 64) : Prop := ∀ j, j < 128 → hbit ch cl j = (decide (88 ≤ j) && decide (j < stE k)) ∧ hbit vh vl j = ((decide (88 ≤ j) && decide (j < stE k)) && stF n m j)
/-- The cube of a field. -/
def FldB (a n q : Nat) (vh vl ch cl : BitVec 64) : Prop := ∀ j, j < 128 → hbit ch cl j = (decide (a ≤ j) && decide (j < a + n)) ∧ hbit vh vl j = ((decide (a ≤ j) && decide (j < a + n)) && q.testBit (j - a))
theorem fld_bits (a n q : Nat) (hn : a + n ≤ 128) (h64 : n ≤ 64) : FldB a n q (putH 0#64 a n (BitVec.ofNat 64 q) &&& maskH a n) (putL 0#64 a n (BitVec.ofNat 64 q) &&& maskL a n) (maskH a n) (maskL a n) := fun j hj => by
  refine ⟨mask_bit a n j hn hj, ?_⟩
  rw [hbit_and, put_bit _ _ _ _ _ _ h64 hj, mask_bit a n j hn hj]
  have hz : hbit 0#64 0#64 j = false := by unfold hbit; split <;> simp
  rw [hz, BitVec.getLsbD_ofNat]
  by_cases h1 : a ≤ j
  · by_cases h2 : j < a + n
    · have h3 : j - a < 64 := by omega
      simp [h1, h2, h3]
    · simp [h1, h2]
  · simp [h1]
theorem st_step {n m k q len : Nat} {avh avl ach acl bvh bvl bch bcl : BitVec 64} (hs : StB n m k avh avl ach acl) (hf : FldB (stE k) len q bvh bvl bch bcl) (he : stE k + len = stE (k + 1)) (h88 : 88 ≤ stE k) (hq : ∀ i, i < len → q.testBit i = stF n m (stE k + i)) :
    metB avh avl ach acl bvh bvl bch bcl = true ∧ StB n m (k + 1) (avh ||| bvh) (avl ||| bvl) (ach ||| bch) (acl ||| bcl) := by
  refine ⟨?_, fun j hj => ?_⟩
  · unfold metB
    rw [Bool.and_eq_true, Bool.and_eq_true]
    refine ⟨(snd_bits _ _ _ _).2 fun j hj h => ?_, (snd_bits _ _ _ _).2 fun j hj h => ?_, (agr_bits _ _ _ _ _ _ _ _).2 fun j hj h1 h2 => ?_⟩
    · rw [(hs j hj).2] at h
      rw [(hs j hj).1]
      exact (Bool.and_eq_true _ _ ▸ h : _ ∧ _).1
    · rw [(hf j hj).2] at h
      rw [(hf j hj).1]
      exact (Bool.and_eq_true _ _ ▸ h : _ ∧ _).1
    · rw [(hs j hj).1] at h1
      rw [(hf j hj).1] at h2
      simp at h1 h2
      omega
  · rw [hbit_or, hbit_or, (hs j hj).1, (hs j hj).2, (hf j hj).1, (hf j hj).2]
    by_cases h1 : 88 ≤ j
    · by_cases h2 : j < stE k
      · have h3 : j < stE (k + 1) := by omega
        have h4 : ¬ stE k ≤ j := by omega
        simp [h1, h2, h3, h4]
      · have h4 : stE k ≤ j := by omega
        by_cases h3 : j < stE (k + 1)
        · have h5 : j < stE k + len := by omega
          have h6 := hq (j - stE k) (by omega)
          rw [show stE k + (j - stE k) = j by omega] at h6
          simp [h1, h2, h3, h4, h5, h6]
        · have h5 : ¬ j < stE k + len := by omega
          simp [h2, h3, h5]
    · have h2 : ¬ stE k ≤ j := by omega
      simp [h1, h2]
theorem st_zero (n m : Nat) : StB n m 0 0#64 0#64 0#64 0#64 := fun j _ => by
  have hz : hbit 0#64 0#64 j = false := by unfold hbit; split <;> simp
  rw [hz]
  have h : (decide (88 ≤ j) && decide (j < stE 0)) = false := by
    have e : stE 0 = 88 := rfl
    rw [e]
    by_cases h1 : 88 ≤ j
    · have h2 : ¬ j < 88 := by omega
      simp [h2]
    · simp [h1]
  rw [h]
  exact ⟨rfl, rfl⟩
theorem quad {w : World} {g : Nat} {t : TypeId} {x0 x1 x2 x3 : Value} (h : Blk w g t #[x0, x1, x2, x3]) : w.cell? ⟨g, 0, none⟩ = some x0 ∧ w.cell? ⟨g, 1, none⟩ = some x1 ∧ w.cell? ⟨g, 2, none⟩ = some x2 ∧ w.cell? ⟨g, 3, none⟩ = some x3 :=
  ⟨(h.cell 0).trans rfl, (h.cell 1).trans rfl, (h.cell 2).trans rfl, (h.cell 3).trans rfl⟩
theorem trio {w : World} {g : Nat} {t : TypeId} {x0 x1 x2 : Value} (h : Blk w g t #[x0, x1, x2]) : w.cell? ⟨g, 0, none⟩ = some x0 ∧ w.cell? ⟨g, 1, none⟩ = some x1 ∧ w.cell? ⟨g, 2, none⟩ = some x2 :=
  ⟨(h.cell 0).trans rfl, (h.cell 1).trans rfl, (h.cell 2).trans rfl⟩
theorem put4 {w : World} {g : Nat} {t : TypeId} {x0 x1 x2 x3 : Value} (h : Blk w g t #[x0, x1, x2, x3]) (a0 a1 a2 a3 : Value) : Blk ((((w.setCell ⟨g, 0, none⟩ a0).setCell ⟨g, 1, none⟩ a1).setCell ⟨g, 2, none⟩ a2).setCell ⟨g, 3, none⟩ a3) g t #[a0, a1, a2, a3] := by
  have h1 := (((h.set 0 a0).set 1 a1).set 2 a2).set 3 a3
  simpa using h1
theorem free4 {w : World} {g : Nat} {t : TypeId} {cs : Array Value} (h : Blk w g t cs) : w.frozen? ⟨g, 0, none⟩ = false ∧ w.frozen? ⟨g, 1, none⟩ = false ∧ w.frozen? ⟨g, 2, none⟩ = false ∧ w.frozen? ⟨g, 3, none⟩ = false := ⟨h.free 0, h.free 1, h.free 2, h.free 3⟩
attribute [local go_sem] uv_nonneg
theorem field_f (a n q : Nat) (w : World) (hn : a + n ≤ 128) (h64 : n ≤ 63) (hq : q < 2 ^ n) : Calls Try.prog 60 #[.int .i64 a, .int .i64 n, .int .u64 (q : Int), .int .i64 n] w fun e w' => ∃ vh vl ch cl : BitVec 64, e = .returned (.tuple #[.agg #[.int .u64 (uv vh), .int .u64 (uv vl), .int .u64 (uv ch), .int .u64 (uv cl)], .int .i64 0]) ∧ FldB a n q vh vl ch cl ∧ Below w.heap.size w w' := by
  have h2 : 2 ^ n < 2 ^ 64 := Nat.pow_lt_pow_right (by decide) (by omega)
  have e : uv (BitVec.ofNat 64 q) = (q : Int) := by unfold uv; rw [BitVec.toNat_ofNat, Nat.mod_eq_of_lt (by omega)]
  have hv : ¬ uv (low n) < uv (BitVec.ofNat 64 q) := by rw [e]; unfold uv; rw [low_nat n (by omega)]; omega
  have h := cfield_yes a n n (BitVec.ofNat 64 q) w hn (by omega) hv (Nat.le_refl _)
  rw [e, Nat.add_sub_cancel] at h
  exact h.mono fun _ _ h => ⟨_, _, _, _, h.1, fld_bits a n q hn (by omega), h.2⟩
theorem meet_f {n m k q len : Nat} {avh avl ach acl bvh bvl bch bcl : BitVec 64} (hs : StB n m k avh avl ach acl) (hf : FldB (stE k) len q bvh bvl bch bcl) (he : stE k + len = stE (k + 1)) (h88 : 88 ≤ stE k) (hq : ∀ i, i < len → q.testBit i = stF n m (stE k + i)) (w : World) :
    Calls Try.prog 61 #[.agg #[.int .u64 (uv avh), .int .u64 (uv avl), .int .u64 (uv ach), .int .u64 (uv acl)], .agg #[.int .u64 (uv bvh), .int .u64 (uv bvl), .int .u64 (uv bch), .int .u64 (uv bcl)]] w fun e w' => ∃ cvh cvl cch ccl : BitVec 64, e = .returned (.tuple #[.agg #[.int .u64 (uv cvh), .int .u64 (uv cvl), .int .u64 (uv cch), .int .u64 (uv ccl)], .bool true]) ∧ StB n m (k + 1) cvh cvl cch ccl ∧ Below w.heap.size w w' := by
  obtain ⟨h1, h2⟩ := st_step hs hf he h88 hq
  have h := meet_c avh avl ach acl bvh bvl bch bcl w
  rw [h1] at h
  simp only [sel_t] at h
  exact h.mono fun _ _ h => ⟨_, _, _, _, h.1, h2, h.2⟩
theorem fld0 (n : Nat) (hn : n ≤ 3) (w : World) : Calls Try.prog 60 #[.int .i64 88, .int .i64 24, .int .u64 ((n : Int) + 1), .int .i64 24] w fun e w' => ∃ vh vl ch cl : BitVec 64, e = .returned (.tuple #[.agg #[.int .u64 (uv vh), .int .u64 (uv vl), .int .u64 (uv ch), .int .u64 (uv cl)], .int .i64 0]) ∧ FldB (stE 0) 24 (n + 1) vh vl ch cl ∧ Below w.heap.size w w' := field_f 88 24 (n + 1) w (by omega) (by omega) (by omega)
theorem st0q (n m : Nat) : ∀ i, i < 24 → Nat.testBit (n + 1) i = stF n m (stE 0 + i) := fun i hi => by
  unfold stF
  have e : stE 0 = 88 := rfl
  rw [e]
  rw [if_pos (by omega), show 88 + i - 88 = i by omega]
theorem fld1 (m : Nat) (hm : m ≤ 255) (w : World) : Calls Try.prog 60 #[.int .i64 112, .int .i64 8, .int .u64 (m : Int), .int .i64 8] w fun e w' => ∃ vh vl ch cl : BitVec 64, e = .returned (.tuple #[.agg #[.int .u64 (uv vh), .int .u64 (uv vl), .int .u64 (uv ch), .int .u64 (uv cl)], .int .i64 0]) ∧ FldB (stE 1) 8 m vh vl ch cl ∧ Below w.heap.size w w' := field_f 112 8 m w (by omega) (by omega) (by omega)
theorem st1q (n m : Nat) : ∀ i, i < 8 → Nat.testBit m i = stF n m (stE 1 + i) := fun i hi => by
  unfold stF
  have e : stE 1 = 112 := rfl
  rw [e]
  rw [if_neg (by omega), if_pos (by omega), show 112 + i - 112 = i by omega]
theorem fld2 (w : World) : Calls Try.prog 60 #[.int .i64 120, .int .i64 8, .int .u64 0, .int .i64 8] w fun e w' => ∃ vh vl ch cl : BitVec 64, e = .returned (.tuple #[.agg #[.int .u64 (uv vh), .int .u64 (uv vl), .int .u64 (uv ch), .int .u64 (uv cl)], .int .i64 0]) ∧ FldB (stE 2) 8 0 vh vl ch cl ∧ Below w.heap.size w w' := field_f 120 8 0 w (by omega) (by omega) (by omega)
theorem st2q (n m : Nat) : ∀ i, i < 8 → Nat.testBit 0 i = stF n m (stE 2 + i) := fun i hi => by
  unfold stF
  have e : stE 2 = 120 := rfl
  rw [e]
  rw [if_neg (by omega), if_neg (by omega), Nat.zero_testBit]
set_option maxRecDepth 100000 in
set_option maxHeartbeats 4000000 in
theorem stamped_c (n m : Nat) (hn : n ≤ 3) (hm : m ≤ 255) (w : World) : Calls Try.prog 37 #[.int .i64 (n : Int), .int .i64 (m : Int)] w fun e w' => ∃ cvh cvl cch ccl : BitVec 64, e = .returned (.tuple #[.agg #[.int .u64 (uv cvh), .int .u64 (uv cvl), .int .u64 (uv cch), .int .u64 (uv ccl)], .int .i64 0]) ∧ StB n m 3 cvh cvl cch ccl ∧ Below w.heap.size w w' := by
  have hnz : (n : Int) ≤ 3 := by omega
  have hmz : (m : Int) ≤ 255 := by omega
  have b0 := below1 w (.cells #[.int .u64 0, .int .u64 0, .int .u64 0, .int .u64 0] 46)
  have Z0 := Blk.new w 46 #[.int .u64 0, .int .u64 0, .int .u64 0, .int .u64 0]
  go_enter Try.func37, Try.ntmps37
  go_wp2_with fail
  (with_reducible refine (all_c _).mono ?_)
  rintro e w1 ⟨rfl, hb1⟩
  have B1 := Lib.hid (b0.trans (hb1.mono b0.size))
  have Z1 := Lib.hid (Z0.on hb1)
  clear hb1 Z0 b0
  go_wp2
  have N6 : Hid (Blk ((w1.alloc (.cells #[.int .u64 0, .int .u64 0, .int .u64 0, .int .u64 0] 46)).alloc (.cells #[.int .i64 88, .int .i64 24, .int .i64 ((n : Int) + 1), .int .i64 112, .int .i64 8, .int .i64 (m : Int), .int .i64 120, .int .i64 8, .int .i64 0] 102)) w1.heap.size 46 #[.int .u64 (uv 0#64), .int .u64 (uv 0#64), .int .u64 (uv 0#64), .int .u64 (uv 0#64)]) := (Blk.new w1 _ _).on (below1 _ _)
  have N9 : Hid (Blk ((w1.alloc (.cells #[.int .u64 0, .int .u64 0, .int .u64 0, .int .u64 0] 46)).alloc (.cells #[.int .i64 88, .int .i64 24, .int .i64 ((n : Int) + 1), .int .i64 112, .int .i64 8, .int .i64 (m : Int), .int .i64 120, .int .i64 8, .int .i64 0] 102)) (w1.heap.size + 1) 102 #[.int .i64 88, .int .i64 24, .int .i64 ((n : Int) + 1), .int .i64 112, .int .i64 8, .int .i64 (m : Int), .int .i64 120, .int .i64 8, .int .i64 0]) := by
    have h := Blk.new (w1.alloc (.cells #[.int .u64 0, .int .u64 0, .int .u64 0, .int .u64 0] 46)) 102 #[.int .i64 88, .int .i64 24, .int .i64 ((n : Int) + 1), .int .i64 112, .int .i64 8, .int .i64 (m : Int), .int .i64 120, .int .i64 8, .int .i64 0]
    have e : (w1.alloc (.cells #[.int .u64 0, .int .u64 0, .int .u64 0, .int .u64 0] 46)).heap.size = w1.heap.size + 1 := by simp
    rw [e] at h
    exact h
  have B2 : Hid (Below w1.heap.size w1 ((w1.alloc (.cells #[.int .u64 0, .int .u64 0, .int .u64 0, .int .u64 0] 46)).alloc (.cells #[.int .i64 88, .int .i64 24, .int .i64 ((n : Int) + 1), .int .i64 112, .int .i64 8, .int .i64 (m : Int), .int .i64 120, .int .i64 8, .int .i64 0] 102))) := below2 w1 _ _
  generalize ((w1.alloc (.cells #[.int .u64 0, .int .u64 0, .int .u64 0, .int .u64 0] 46)).alloc (.cells #[.int .i64 88, .int .i64 24, .int .i64 ((n : Int) + 1), .int .i64 112, .int .i64 8, .int .i64 (m : Int), .int .i64 120, .int .i64 8, .int .i64 0] 102)) = w2 at N6 N9 B2 ⊢
  go_loopg [8, 9, 10, 20] 3 (fun gk _ _ _ s20 wr => ∃ (k : Nat) (kz : Int) (avh avl ach acl : BitVec 64), k ≤ 3 ∧ gk = 3 - k ∧ s20 = .int .i64 kz ∧ Hid (kz = (k : Int)) ∧ Hid (StB n m k avh avl ach acl) ∧ Hid (Blk wr w1.heap.size 46 #[.int .u64 (uv avh), .int .u64 (uv avl), .int .u64 (uv ach), .int .u64 (uv acl)]) ∧ Hid (Blk wr (w1.heap.size + 1) 102 #[.int .i64 88, .int .i64 24, .int .i64 ((n : Int) + 1), .int .i64 112, .int .i64 8, .int .i64 (m : Int), .int .i64 120, .int .i64 8, .int .i64 0]) ∧ Hid (Below w1.heap.size w1 wr))
  case atStart => exact ⟨0, 0, _, _, _, _, Nat.zero_le _, rfl, rfl, rfl, st_zero n m, N6, N9, B2⟩
  case round =>
    clear N6 N9 B2
    obtain ⟨k, kz, avh, avl, ach, acl, hk, rfl, rfl, HKZ, HS, N6, N9, HB⟩ := hrel
    have hl9 : w1.heap.size < wr.heap.size := N6.out.lt
    have hk4 : k = 0 ∨ k = 1 ∨ k = 2 ∨ k = 3 := by omega
    rcases hk4 with rfl | rfl | rfl | rfl
    · obtain rfl : kz = 0 := HKZ.out
      have c0 := (N9.out.cell 0).trans rfl
      have c1 := (N9.out.cell 1).trans rfl
      have c2 := (N9.out.cell 2).trans rfl
      have bS := below1 wr (.cells #[.int .i64 88, .int .i64 24, .int .i64 ((n : Int) + 1)] 102)
      have nS := Blk.new wr 102 #[.int .i64 88, .int .i64 24, .int .i64 ((n : Int) + 1)]
      have hlt : wr.heap.size < (wr.alloc (.cells #[.int .i64 88, .int .i64 24, .int .i64 ((n : Int) + 1)] 102)).heap.size := by simp
      go_upto_region 5 with (fail)
      generalize wr.alloc (.cells #[.int .i64 88, .int .i64 24, .int .i64 ((n : Int) + 1)] 102) = w5 at bS nS hlt ⊢
      obtain ⟨s0, s1, s2⟩ := trio nS
      have HBS := Lib.hid bS
      clear bS nS c0 c1 c2
      go_wp2_with fail
      (with_reducible refine (fld0 n hn _).mono ?_)
      rintro e w6 ⟨bvh, bvl, bch, bcl, rfl, hF, hb6⟩
      have HF := Lib.hid hF
      have HB6 := Lib.hid (HBS.out.trans (hb6.mono HBS.out.size))
      clear hF hb6 HBS s0 s1 s2
      have bO := below1 w6 (.cells #[.int .u64 (uv bvh), .int .u64 (uv bvl), .int .u64 (uv bch), .int .u64 (uv bcl)] 46)
      have nO := Blk.new w6 46 #[.int .u64 (uv bvh), .int .u64 (uv bvl), .int .u64 (uv bch), .int .u64 (uv bcl)]
      have HB7 := Lib.hid (HB6.out.trans (bO.mono HB6.out.size))
      have M6 := N6.out.on HB7.out
      have M9 := N9.out.on HB7.out
      have HBB := Lib.hid (HB.out.trans (HB7.out.mono HB.out.size))
      go_upto_region 6 with (fail)
      generalize w6.alloc (.cells #[.int .u64 (uv bvh), .int .u64 (uv bvl), .int .u64 (uv bch), .int .u64 (uv bcl)] 46) = w7 at bO nO M6 M9 HBB ⊢
      obtain ⟨t0, t1, t2, t3⟩ := quad nO
      obtain ⟨u0, u1, u2, u3⟩ := quad M6
      have HM6 := Lib.hid M6
      have HM9 := Lib.hid M9
      clear bO nO M6 M9 HB6 HB7
      go_wp2_with fail
      (with_reducible refine (meet_f HS.out HF.out rfl (by decide) (st0q n m) _).mono ?_)
      rintro e w8 ⟨cvh, cvl, cch, ccl, rfl, hS, hb8⟩
      have HS2 := Lib.hid hS
      have M6 := HM6.out.on hb8
      have M9 := Lib.hid (HM9.out.on hb8)
      have HB8 := Lib.hid (HBB.out.trans (hb8.mono HBB.out.size))
      obtain ⟨f0, f1, f2, f3⟩ := free4 M6
      obtain ⟨z0, z1, z2, z3⟩ := quad M6
      have N62 := Lib.hid (put4 M6 (.int .u64 (uv cvh)) (.int .u64 (uv cvl)) (.int .u64 (uv cch)) (.int .u64 (uv ccl)))
      have B9 := Lib.hid (HB8.out.trans (sets4 w8 w1.heap.size (.int .u64 (uv cvh)) (.int .u64 (uv cvl)) (.int .u64 (uv cch)) (.int .u64 (uv ccl))))
      have N92 : Hid (Blk ((((w8.setCell ⟨w1.heap.size, 0, none⟩ (.int .u64 (uv cvh))).setCell ⟨w1.heap.size, 1, none⟩ (.int .u64 (uv cvl))).setCell ⟨w1.heap.size, 2, none⟩ (.int .u64 (uv cch))).setCell ⟨w1.heap.size, 3, none⟩ (.int .u64 (uv ccl))) (w1.heap.size + 1) 102 #[.int .i64 88, .int .i64 24, .int .i64 ((n : Int) + 1), .int .i64 112, .int .i64 8, .int .i64 (m : Int), .int .i64 120, .int .i64 8, .int .i64 0]) := (((M9.out.far (Nat.succ_ne_self _) _).far (Nat.succ_ne_self _) _).far (Nat.succ_ne_self _) _).far (Nat.succ_ne_self _) _
      clear hS hb8 M6 t0 t1 t2 t3 u0 u1 u2 u3 HF HS
      go_wp2
      go_roundg (3 - (0 + 1))
      case measure => omega
      case rel => exact ⟨0 + 1, 0 + 1, cvh, cvl, cch, ccl, by omega, rfl, by go_num, (by show (0 : Int) + 1 = ((0 + 1 : Nat) : Int); rfl), HS2, N62, N92, B9⟩
    · obtain rfl : kz = 1 := HKZ.out
      have c0 := (N9.out.cell 3).trans rfl
      have c1 := (N9.out.cell 4).trans rfl
      have c2 := (N9.out.cell 5).trans rfl
      have bS := below1 wr (.cells #[.int .i64 112, .int .i64 8, .int .i64 (m : Int)] 102)
      have nS := Blk.new wr 102 #[.int .i64 112, .int .i64 8, .int .i64 (m : Int)]
      have hlt : wr.heap.size < (wr.alloc (.cells #[.int .i64 112, .int .i64 8, .int .i64 (m : Int)] 102)).heap.size := by simp
      go_upto_region 5 with (fail)
      generalize wr.alloc (.cells #[.int .i64 112, .int .i64 8, .int .i64 (m : Int)] 102) = w5 at bS nS hlt ⊢
      obtain ⟨s0, s1, s2⟩ := trio nS
      have HBS := Lib.hid bS
      clear bS nS c0 c1 c2
      go_wp2_with fail
      (with_reducible refine (fld1 m hm _).mono ?_)
      rintro e w6 ⟨bvh, bvl, bch, bcl, rfl, hF, hb6⟩
      have HF := Lib.hid hF
      have HB6 := Lib.hid (HBS.out.trans (hb6.mono HBS.out.size))
      clear hF hb6 HBS s0 s1 s2
      have bO := below1 w6 (.cells #[.int .u64 (uv bvh), .int .u64 (uv bvl), .int .u64 (uv bch), .int .u64 (uv bcl)] 46)
      have nO := Blk.new w6 46 #[.int .u64 (uv bvh), .int .u64 (uv bvl), .int .u64 (uv bch), .int .u64 (uv bcl)]
      have HB7 := Lib.hid (HB6.out.trans (bO.mono HB6.out.size))
      have M6 := N6.out.on HB7.out
      have M9 := N9.out.on HB7.out
      have HBB := Lib.hid (HB.out.trans (HB7.out.mono HB.out.size))
      go_upto_region 6 with (fail)
      generalize w6.alloc (.cells #[.int .u64 (uv bvh), .int .u64 (uv bvl), .int .u64 (uv bch), .int .u64 (uv bcl)] 46) = w7 at bO nO M6 M9 HBB ⊢
      obtain ⟨t0, t1, t2, t3⟩ := quad nO
      obtain ⟨u0, u1, u2, u3⟩ := quad M6
      have HM6 := Lib.hid M6
      have HM9 := Lib.hid M9
      clear bO nO M6 M9 HB6 HB7
      go_wp2_with fail
      (with_reducible refine (meet_f HS.out HF.out rfl (by decide) (st1q n m) _).mono ?_)
      rintro e w8 ⟨cvh, cvl, cch, ccl, rfl, hS, hb8⟩
      have HS2 := Lib.hid hS
      have M6 := HM6.out.on hb8
      have M9 := Lib.hid (HM9.out.on hb8)
      have HB8 := Lib.hid (HBB.out.trans (hb8.mono HBB.out.size))
      obtain ⟨f0, f1, f2, f3⟩ := free4 M6
      obtain ⟨z0, z1, z2, z3⟩ := quad M6
      have N62 := Lib.hid (put4 M6 (.int .u64 (uv cvh)) (.int .u64 (uv cvl)) (.int .u64 (uv cch)) (.int .u64 (uv ccl)))
      have B9 := Lib.hid (HB8.out.trans (sets4 w8 w1.heap.size (.int .u64 (uv cvh)) (.int .u64 (uv cvl)) (.int .u64 (uv cch)) (.int .u64 (uv ccl))))
      have N92 : Hid (Blk ((((w8.setCell ⟨w1.heap.size, 0, none⟩ (.int .u64 (uv cvh))).setCell ⟨w1.heap.size, 1, none⟩ (.int .u64 (uv cvl))).setCell ⟨w1.heap.size, 2, none⟩ (.int .u64 (uv cch))).setCell ⟨w1.heap.size, 3, none⟩ (.int .u64 (uv ccl))) (w1.heap.size + 1) 102 #[.int .i64 88, .int .i64 24, .int .i64 ((n : Int) + 1), .int .i64 112, .int .i64 8, .int .i64 (m : Int), .int .i64 120, .int .i64 8, .int .i64 0]) := (((M9.out.far (Nat.succ_ne_self _) _).far (Nat.succ_ne_self _) _).far (Nat.succ_ne_self _) _).far (Nat.succ_ne_self _) _
      clear hS hb8 M6 t0 t1 t2 t3 u0 u1 u2 u3 HF HS
      go_wp2
      go_roundg (3 - (1 + 1))
      case measure => omega
      case rel => exact ⟨1 + 1, 1 + 1, cvh, cvl, cch, ccl, by omega, rfl, by go_num, (by show (1 : Int) + 1 = ((1 + 1 : Nat) : Int); rfl), HS2, N62, N92, B9⟩
    · obtain rfl : kz = 2 := HKZ.out
      have c0 := (N9.out.cell 6).trans rfl
      have c1 := (N9.out.cell 7).trans rfl
      have c2 := (N9.out.cell 8).trans rfl
      have bS := below1 wr (.cells #[.int .i64 120, .int .i64 8, .int .i64 0] 102)
      have nS := Blk.new wr 102 #[.int .i64 120, .int .i64 8, .int .i64 0]
      have hlt : wr.heap.size < (wr.alloc (.cells #[.int .i64 120, .int .i64 8, .int .i64 0] 102)).heap.size := by simp
      go_upto_region 5 with (fail)
      generalize wr.alloc (.cells #[.int .i64 120, .int .i64 8, .int .i64 0] 102) = w5 at bS nS hlt ⊢
      obtain ⟨s0, s1, s2⟩ := trio nS
      have HBS := Lib.hid bS
      clear bS nS c0 c1 c2
      go_wp2_with fail
      (with_reducible refine (fld2 _).mono ?_)
      rintro e w6 ⟨bvh, bvl, bch, bcl, rfl, hF, hb6⟩
      have HF := Lib.hid hF
      have HB6 := Lib.hid (HBS.out.trans (hb6.mono HBS.out.size))
      clear hF hb6 HBS s0 s1 s2
      have bO := below1 w6 (.cells #[.int .u64 (uv bvh), .int .u64 (uv bvl), .int .u64 (uv bch), .int .u64 (uv bcl)] 46)
      have nO := Blk.new w6 46 #[.int .u64 (uv bvh), .int .u64 (uv bvl), .int .u64 (uv bch), .int .u64 (uv bcl)]
      have HB7 := Lib.hid (HB6.out.trans (bO.mono HB6.out.size))
      have M6 := N6.out.on HB7.out
      have M9 := N9.out.on HB7.out
      have HBB := Lib.hid (HB.out.trans (HB7.out.mono HB.out.size))
      go_upto_region 6 with (fail)
      generalize w6.alloc (.cells #[.int .u64 (uv bvh), .int .u64 (uv bvl), .int .u64 (uv bch), .int .u64 (uv bcl)] 46) = w7 at bO nO M6 M9 HBB ⊢
      obtain ⟨t0, t1, t2, t3⟩ := quad nO
      obtain ⟨u0, u1, u2, u3⟩ := quad M6
      have HM6 := Lib.hid M6
      have HM9 := Lib.hid M9
      clear bO nO M6 M9 HB6 HB7
      go_wp2_with fail
      (with_reducible refine (meet_f HS.out HF.out rfl (by decide) (st2q n m) _).mono ?_)
      rintro e w8 ⟨cvh, cvl, cch, ccl, rfl, hS, hb8⟩
      have HS2 := Lib.hid hS
      have M6 := HM6.out.on hb8
      have M9 := Lib.hid (HM9.out.on hb8)
      have HB8 := Lib.hid (HBB.out.trans (hb8.mono HBB.out.size))
      obtain ⟨f0, f1, f2, f3⟩ := free4 M6
      obtain ⟨z0, z1, z2, z3⟩ := quad M6
      have N62 := Lib.hid (put4 M6 (.int .u64 (uv cvh)) (.int .u64 (uv cvl)) (.int .u64 (uv cch)) (.int .u64 (uv ccl)))
      have B9 := Lib.hid (HB8.out.trans (sets4 w8 w1.heap.size (.int .u64 (uv cvh)) (.int .u64 (uv cvl)) (.int .u64 (uv cch)) (.int .u64 (uv ccl))))
      have N92 : Hid (Blk ((((w8.setCell ⟨w1.heap.size, 0, none⟩ (.int .u64 (uv cvh))).setCell ⟨w1.heap.size, 1, none⟩ (.int .u64 (uv cvl))).setCell ⟨w1.heap.size, 2, none⟩ (.int .u64 (uv cch))).setCell ⟨w1.heap.size, 3, none⟩ (.int .u64 (uv ccl))) (w1.heap.size + 1) 102 #[.int .i64 88, .int .i64 24, .int .i64 ((n : Int) + 1), .int .i64 112, .int .i64 8, .int .i64 (m : Int), .int .i64 120, .int .i64 8, .int .i64 0]) := (((M9.out.far (Nat.succ_ne_self _) _).far (Nat.succ_ne_self _) _).far (Nat.succ_ne_self _) _).far (Nat.succ_ne_self _) _
      clear hS hb8 M6 t0 t1 t2 t3 u0 u1 u2 u3 HF HS
      go_wp2
      go_roundg (3 - (2 + 1))
      case measure => omega
      case rel => exact ⟨2 + 1, 2 + 1, cvh, cvl, cch, ccl, by omega, rfl, by go_num, (by show (2 : Int) + 1 = ((2 + 1 : Nat) : Int); rfl), HS2, N62, N92, B9⟩
    · obtain rfl : kz = 3 := HKZ.out
      obtain ⟨y0, y1, y2, y3⟩ := quad N6.out
      have Z4 := Z1.out.on HB.out
      obtain ⟨f0, f1, f2, f3⟩ := free4 Z4
      obtain ⟨z0, z1, z2, z3⟩ := quad Z4
      obtain ⟨q0, q1, q2, q3⟩ := quad (put4 Z4 (.int .u64 (uv avh)) (.int .u64 (uv avl)) (.int .u64 (uv ach)) (.int .u64 (uv acl)))
      have B5 := Lib.hid (B1.out.trans (HB.out.mono B1.out.size))
      have B6 := Lib.hid (B5.out.trans (sets4 wr w.heap.size (.int .u64 (uv avh)) (.int .u64 (uv avl)) (.int .u64 (uv ach)) (.int .u64 (uv acl))))
      clear Z4
      go_wp2
      exact bodyPost_ret (v := .tuple #[.agg #[.int .u64 (uv avh), .int .u64 (uv avl), .int .u64 (uv ach), .int .u64 (uv acl)], .int .i64 0]) (by simp [results, Try.results37, go_sem, q0, q1, q2, q3]) rfl ⟨avh, avl, ach, acl, rfl, HS.out, B6.out⟩
end Go.Proofs

namespace Go.Proofs.Hd
open Go.RowKit
/-- What awake looks at: ports, peers, tables. -/
def T8 : List (List Pt) := [[⟨1, 0, 0, 0, 0⟩]]
def P8 : List (Int × Int) := [(1, 0)]
def R8 : Rl := ⟨0, ⟨0#64, 0#64, 0#64, 0#64⟩, 1, 0, 0, ⟨0#64, 0#64, 0#64, 0#64⟩⟩
def B8 : List (List (List Rl)) := [[[R8]]]
theorem T8_sound : sTp T8 = 0 := by
  refine sTp_ok (by decide) fun n i L p hn hL hp => ?_
  have hn2 : n < 1 := hn
  obtain rfl : n = 0 := by omega
  injection hL with hL
  subst hL
  have hi : i < 1 := (List.getElem?_eq_some_iff.1 hp).1
  obtain rfl : i = 0 := by omega
  injection hp with hp; subst hp; decide
theorem T8_edges : eTo T8 T8.length = [(0, 0)] := by decide
theorem T8_edge : edgT T8 0 0 = 0 := rfl
theorem P8_ok : szP T8 3 P8 [] := by
  rintro (h | h | h | h | h)
  · omega
  · omega
  · simp [P8] at h
  · simp at h
  · refine h fun j x hj hx => ?_
    rw [T8_edges] at hj hx
    have hj1 : j < 1 := hj
    obtain rfl : j = 0 := by omega
    injection hx with hx
    subst hx
    rfl
theorem P8_form : okPe P8 3 P8.length ∧ okWy [] 3 T8.length 0 := by
  refine ⟨fun j x hj hx => ?_, fun j x hj => absurd hj (Nat.not_lt_zero _)⟩
  have hj1 : j < 1 := hj
  obtain rfl : j = 0 := by omega
  injection hx with hx
  subst hx
  exact ⟨rfl, rfl⟩
theorem C8 : cfgT T8 3 P8 [] B8 = 0 := by
  unfold cfgT
  rw [if_pos T8_sound, polT_ok P8_ok P8_form, if_pos rfl]
  have h : B8.length = T8.length := rfl
  rw [if_pos h]
  decide
theorem A8_yes : alwB 3 P8 0 1 = true := by decide
theorem A8_no : alwB 3 P8 0 2 = false := by decide
/-- The stamp that awake asks for. -/
theorem st8 {vh vl ch cl : BitVec 64} (h : Go.Proofs.StB 0 3 3 vh vl ch cl) : uv vh = 844424946909184 := by
  have e := (head_ext (h := vh) (l := vl) (h' := 844424946909184#64) (l' := 0#64) fun j hj => by
    rw [(h j hj).2]
    revert j
    decide +kernel).1
  rw [e]
  rfl
end Go.Proofs.Hd
namespace Go.Proofs
open Go.RowKit Go.Proofs.Hd Go.Lib
set_option maxRecDepth 100000 in
set_option maxHeartbeats 4000000 in
theorem small_c (w : World) : Calls Try.prog 25 #[] w fun e w' => ∃ tv pv bv, e = .returned (.agg #[tv, .int .i64 3, pv, .slice none 0 0, bv]) ∧ Cfo w.heap.size w' tv pv (.slice none 0 0) bv T8 P8 [] B8 ∧ Below w.heap.size w w' := by
  have B1 := Lib.hid (below1 w (.cells #[.slice none 0 0, .int .i64 0, .slice none 0 0, .slice none 0 0, .slice none 0 0] 31))
  have R1 : Hid (Blk (w.alloc (.cells #[.slice none 0 0, .int .i64 0, .slice none 0 0, .slice none 0 0, .slice none 0 0] 31)) w.heap.size 31 #[.slice none 0 0, .int .i64 0, .slice none 0 0, .slice none 0 0, .slice none 0 0]) := Blk.new w _ _
  go_enter Try.func25, Try.ntmps25
  go_upto_region 1 with (fail)
  generalize w.alloc (.cells #[.slice none 0 0, .int .i64 0, .slice none 0 0, .slice none 0 0, .slice none 0 0] 31) = w1 at B1 R1 ⊢
  have b2 := below2 w1 (.cells #[.int .i64 1, .int .i64 0] 66) (.cells #[.slice none 0 0, .int .i64 3, .slice (some ⟨w1.heap.size, 0, none⟩) 1 1, .slice none 0 0, .slice none 0 0] 31)
  have hsz1 := B1.out.size
  have C2 : Hid (Cfo w1.heap.size ((w1.alloc (.cells #[.int .i64 1, .int .i64 0] 66)).alloc (.cells #[.slice none 0 0, .int .i64 3, .slice (some ⟨w1.heap.size, 0, none⟩) 1 1, .slice none 0 0, .slice none 0 0] 31)) (.slice none 0 0) (.slice (some ⟨w1.heap.size, 0, none⟩) 1 1) (.slice none 0 0) (.slice none 0 0) [] P8 [] []) := ⟨Cfo.start.ports, own_on (World.ownsRow_lit w1 #[.int .i64 1, .int .i64 0] 1 (Nat.le_refl _) (by decide) rfl) (below1 _ _), World.ownsRow_nil _ _ _ _, Cfo.start.tabs⟩
  have X2 : Hid (Blk ((w1.alloc (.cells #[.int .i64 1, .int .i64 0] 66)).alloc (.cells #[.slice none 0 0, .int .i64 3, .slice (some ⟨w1.heap.size, 0, none⟩) 1 1, .slice none 0 0, .slice none 0 0] 31)) (w1.heap.size + 1) 31 #[.slice none 0 0, .int .i64 3, .slice (some ⟨w1.heap.size, 0, none⟩) 1 1, .slice none 0 0, .slice none 0 0]) := Blk.new2 w1 _ _ _
  have B2 := Lib.hid (B1.out.trans (b2.mono hsz1))
  have R2 := Lib.hid (R1.out.on b2)
  have hb1 : w.heap.size < w1.heap.size := R1.out.lt
  clear b2 B1 R1
  go_upto_region 2 with (fail)
  generalize ((w1.alloc (.cells #[.int .i64 1, .int .i64 0] 66)).alloc (.cells #[.slice none 0 0, .int .i64 3, .slice (some ⟨w1.heap.size, 0, none⟩) 1 1, .slice none 0 0, .slice none 0 0] 31)) = w2 at C2 X2 B2 R2 ⊢
  have hx2 : w1.heap.size + 1 < w2.heap.size := X2.out.lt
  have b3 := below2 w2 (.cells #[.int .i64 1, .int .i64 0, .int .i64 0, .int .i64 0, .int .i64 0] 65) (.cells #[.slice (some ⟨w2.heap.size, 0, none⟩) 1 1] 63)
  have X3 := X2.out.on b3
  have hf := X3.free 0
  obtain ⟨d0, d1, d2, d3, d4⟩ := X3.five
  have hO : O2P w1.heap.size ((w2.alloc (.cells #[.int .i64 1, .int .i64 0, .int .i64 0, .int .i64 0, .int .i64 0] 65)).alloc (.cells #[.slice (some ⟨w2.heap.size, 0, none⟩) 1 1] 63)) (.slice (some ⟨w2.heap.size + 1, 0, none⟩) 1 1) T8 := by
    have h1 : O1P w1.heap.size (w2.alloc (.cells #[.int .i64 1, .int .i64 0, .int .i64 0, .int .i64 0, .int .i64 0] 65)) (.slice (some ⟨w2.heap.size, 0, none⟩) 1 1) [⟨1, 0, 0, 0, 0⟩] := World.ownsRow_lit w2 #[.int .i64 1, .int .i64 0, .int .i64 0, .int .i64 0, .int .i64 0] 1 (by omega) (by decide) rfl
    have h2 := World.ownsRow_lit (base := w1.heap.size) (e := 63) (size := 1) (w2.alloc (.cells #[.int .i64 1, .int .i64 0, .int .i64 0, .int .i64 0, .int .i64 0] 65)) #[.slice (some ⟨w2.heap.size, 0, none⟩) 1 1] 1 (by simp; omega) (by decide) rfl
    have e : (w2.alloc (.cells #[.int .i64 1, .int .i64 0, .int .i64 0, .int .i64 0, .int .i64 0] 65)).heap.size = w2.heap.size + 1 := by simp
    rw [e] at h2
    refine ⟨[.slice (some ⟨w2.heap.size, 0, none⟩) 1 1], h2, fun i x hx => ?_⟩
    cases i with
    | zero => injection hx with hx; subst hx; exact ⟨_, rfl, O1P.on _ _ _ _ _ (below1 _ _) h1⟩
    | succ i => simp [T8] at hx
  have c3 : Cfo w1.heap.size ((w2.alloc (.cells #[.int .i64 1, .int .i64 0, .int .i64 0, .int .i64 0, .int .i64 0] 65)).alloc (.cells #[.slice (some ⟨w2.heap.size, 0, none⟩) 1 1] 63)) (.slice (some ⟨w2.heap.size + 1, 0, none⟩) 1 1) (.slice (some ⟨w1.heap.size, 0, none⟩) 1 1) (.slice none 0 0) (.slice none 0 0) T8 P8 [] [] := ⟨hO, own_on C2.out.peers b3, own_on C2.out.ways b3, O3R.on _ _ _ _ _ b3 C2.out.tabs⟩
  have C3 := Lib.hid (Cfo.box (i := 0) (u := .slice (some ⟨w2.heap.size + 1, 0, none⟩) 1 1) ⟨_, _, X3⟩ c3)
  have HX3 : Hid (Blk (((w2.alloc (.cells #[.int .i64 1, .int .i64 0, .int .i64 0, .int .i64 0, .int .i64 0] 65)).alloc (.cells #[.slice (some ⟨w2.heap.size, 0, none⟩) 1 1] 63)).setCell ⟨w1.heap.size + 1, 0, none⟩ (.slice (some ⟨w2.heap.size + 1, 0, none⟩) 1 1)) (w1.heap.size + 1) 31 #[.slice (some ⟨w2.heap.size + 1, 0, none⟩) 1 1, .int .i64 3, .slice (some ⟨w1.heap.size, 0, none⟩) 1 1, .slice none 0 0, .slice none 0 0]) := by have h := X3.set 0 (.slice (some ⟨w2.heap.size + 1, 0, none⟩) 1 1); show Blk _ _ _ _; simpa using h
  have HB3 := Lib.hid ((B2.out.trans (b3.mono B2.out.size)).setCell (p := ⟨w1.heap.size + 1, 0, none⟩) (show w.heap.size ≤ w1.heap.size + 1 by omega) (.slice (some ⟨w2.heap.size + 1, 0, none⟩) 1 1))
  have HR3 : Hid (Blk (((w2.alloc (.cells #[.int .i64 1, .int .i64 0, .int .i64 0, .int .i64 0, .int .i64 0] 65)).alloc (.cells #[.slice (some ⟨w2.heap.size, 0, none⟩) 1 1] 63)).setCell ⟨w1.heap.size + 1, 0, none⟩ (.slice (some ⟨w2.heap.size + 1, 0, none⟩) 1 1)) w.heap.size 31 #[.slice none 0 0, .int .i64 0, .slice none 0 0, .slice none 0 0, .slice none 0 0]) := (R2.out.on b3).far (p := ⟨w1.heap.size + 1, 0, none⟩) (show w.heap.size ≠ w1.heap.size + 1 by omega) _
  clear X3 hO c3 b3 X2 C2 B2 R2
  go_upto_region 3 with (fail)
  clear hf d0 d1 d2 d3 d4
  generalize (((w2.alloc (.cells #[.int .i64 1, .int .i64 0, .int .i64 0, .int .i64 0, .int .i64 0] 65)).alloc (.cells #[.slice (some ⟨w2.heap.size, 0, none⟩) 1 1] 63)).setCell ⟨w1.heap.size + 1, 0, none⟩ (.slice (some ⟨w2.heap.size + 1, 0, none⟩) 1 1)) = w3 at C3 HX3 HB3 HR3 ⊢
  obtain ⟨TV, hTV⟩ : ∃ TV : Value, TV = .slice (some ⟨w2.heap.size + 1, 0, none⟩) 1 1 := ⟨_, rfl⟩
  rw [← hTV] at C3 HX3
  clear hTV
  have hx3 : w1.heap.size + 1 < w3.heap.size := HX3.out.lt
  have b4 := below3 w3 (.cells #[.int .i64 0, .int .u64 0, .int .u64 0, .int .u64 0, .int .u64 0, .int .i64 1, .int .i64 0, .int .i64 0, .int .u64 0, .int .u64 0, .int .u64 0, .int .u64 0] 62) (.cells #[.slice (some ⟨w3.heap.size, 0, none⟩) 1 1] 58) (.cells #[.slice (some ⟨w3.heap.size + 1, 0, none⟩) 1 1] 57)
  have X4 := HX3.out.on b4
  have hf := X4.free 4
  obtain ⟨d0, d1, d2, d3, d4⟩ := X4.five
  have hO : O3R w1.heap.size (((w3.alloc (.cells #[.int .i64 0, .int .u64 0, .int .u64 0, .int .u64 0, .int .u64 0, .int .i64 1, .int .i64 0, .int .i64 0, .int .u64 0, .int .u64 0, .int .u64 0, .int .u64 0] 62)).alloc (.cells #[.slice (some ⟨w3.heap.size, 0, none⟩) 1 1] 58)).alloc (.cells #[.slice (some ⟨w3.heap.size + 1, 0, none⟩) 1 1] 57)) (.slice (some ⟨w3.heap.size + 1 + 1, 0, none⟩) 1 1) B8 := by
    have h1 : O1R w1.heap.size (w3.alloc (.cells #[.int .i64 0, .int .u64 0, .int .u64 0, .int .u64 0, .int .u64 0, .int .i64 1, .int .i64 0, .int .i64 0, .int .u64 0, .int .u64 0, .int .u64 0, .int .u64 0] 62)) (.slice (some ⟨w3.heap.size, 0, none⟩) 1 1) [R8] := World.ownsRow_lit w3 #[.int .i64 0, .int .u64 0, .int .u64 0, .int .u64 0, .int .u64 0, .int .i64 1, .int .i64 0, .int .i64 0, .int .u64 0, .int .u64 0, .int .u64 0, .int .u64 0] 1 (by omega) (by decide) rfl
    have h2 := World.ownsRow_lit (base := w1.heap.size) (e := 58) (size := 1) (w3.alloc (.cells #[.int .i64 0, .int .u64 0, .int .u64 0, .int .u64 0, .int .u64 0, .int .i64 1, .int .i64 0, .int .i64 0, .int .u64 0, .int .u64 0, .int .u64 0, .int .u64 0] 62)) #[.slice (some ⟨w3.heap.size, 0, none⟩) 1 1] 1 (by simp; omega) (by decide) rfl
    have e : (w3.alloc (.cells #[.int .i64 0, .int .u64 0, .int .u64 0, .int .u64 0, .int .u64 0, .int .i64 1, .int .i64 0, .int .i64 0, .int .u64 0, .int .u64 0, .int .u64 0, .int .u64 0] 62)).heap.size = w3.heap.size + 1 := by simp
    rw [e] at h2
    have h3 : O2R w1.heap.size ((w3.alloc (.cells #[.int .i64 0, .int .u64 0, .int .u64 0, .int .u64 0, .int .u64 0, .int .i64 1, .int .i64 0, .int .i64 0, .int .u64 0, .int .u64 0, .int .u64 0, .int .u64 0] 62)).alloc (.cells #[.slice (some ⟨w3.heap.size, 0, none⟩) 1 1] 58)) (.slice (some ⟨w3.heap.size + 1, 0, none⟩) 1 1) [[R8]] := by
      refine ⟨[.slice (some ⟨w3.heap.size, 0, none⟩) 1 1], h2, fun i x hx => ?_⟩
      cases i with
      | zero => injection hx with hx; subst hx; exact ⟨_, rfl, O1R.on _ _ _ _ _ (below1 _ _) h1⟩
      | succ i => simp at hx
    have h4 := World.ownsRow_lit (base := w1.heap.size) (e := 57) (size := 1) ((w3.alloc (.cells #[.int .i64 0, .int .u64 0, .int .u64 0, .int .u64 0, .int .u64 0, .int .i64 1, .int .i64 0, .int .i64 0, .int .u64 0, .int .u64 0, .int .u64 0, .int .u64 0] 62)).alloc (.cells #[.slice (some ⟨w3.heap.size, 0, none⟩) 1 1] 58)) #[.slice (some ⟨w3.heap.size + 1, 0, none⟩) 1 1] 1 (by simp; omega) (by decide) rfl
    have e2 : ((w3.alloc (.cells #[.int .i64 0, .int .u64 0, .int .u64 0, .int .u64 0, .int .u64 0, .int .i64 1, .int .i64 0, .int .i64 0, .int .u64 0, .int .u64 0, .int .u64 0, .int .u64 0] 62)).alloc (.cells #[.slice (some ⟨w3.heap.size, 0, none⟩) 1 1] 58)).heap.size = w3.heap.size + 1 + 1 := by simp
    rw [e2] at h4
    refine ⟨[.slice (some ⟨w3.heap.size + 1, 0, none⟩) 1 1], h4, fun i x hx => ?_⟩
    cases i with
    | zero => injection hx with hx; subst hx; exact ⟨_, rfl, O2R.on _ _ _ _ _ (below1 _ _) h3⟩
    | succ i => simp [B8] at hx
  have c4 : Cfo w1.heap.size (((w3.alloc (.cells #[.int .i64 0, .int .u64 0, .int .u64 0, .int .u64 0, .int .u64 0, .int .i64 1, .int .i64 0, .int .i64 0, .int .u64 0, .int .u64 0, .int .u64 0, .int .u64 0] 62)).alloc (.cells #[.slice (some ⟨w3.heap.size, 0, none⟩) 1 1] 58)).alloc (.cells #[.slice (some ⟨w3.heap.size + 1, 0, none⟩) 1 1] 57)) TV (.slice (some ⟨w1.heap.size, 0, none⟩) 1 1) (.slice none 0 0) (.slice (some ⟨w3.heap.size + 1 + 1, 0, none⟩) 1 1) T8 P8 [] B8 := ⟨O2P.on _ _ _ _ _ b4 C3.out.ports, own_on C3.out.peers b4, own_on C3.out.ways b4, hO⟩
  have C4 := Lib.hid (Cfo.box (i := 4) (u := .slice (some ⟨w3.heap.size + 1 + 1, 0, none⟩) 1 1) ⟨_, _, X4⟩ c4)
  have HX4 : Hid (Blk ((((w3.alloc (.cells #[.int .i64 0, .int .u64 0, .int .u64 0, .int .u64 0, .int .u64 0, .int .i64 1, .int .i64 0, .int .i64 0, .int .u64 0, .int .u64 0, .int .u64 0, .int .u64 0] 62)).alloc (.cells #[.slice (some ⟨w3.heap.size, 0, none⟩) 1 1] 58)).alloc (.cells #[.slice (some ⟨w3.heap.size + 1, 0, none⟩) 1 1] 57)).setCell ⟨w1.heap.size + 1, 4, none⟩ (.slice (some ⟨w3.heap.size + 1 + 1, 0, none⟩) 1 1)) (w1.heap.size + 1) 31 #[TV, .int .i64 3, .slice (some ⟨w1.heap.size, 0, none⟩) 1 1, .slice none 0 0, .slice (some ⟨w3.heap.size + 1 + 1, 0, none⟩) 1 1]) := by have h := X4.set 4 (.slice (some ⟨w3.heap.size + 1 + 1, 0, none⟩) 1 1); show Blk _ _ _ _; simpa using h
  have HB4 := Lib.hid ((HB3.out.trans (b4.mono HB3.out.size)).setCell (p := ⟨w1.heap.size + 1, 4, none⟩) (show w.heap.size ≤ w1.heap.size + 1 by omega) (.slice (some ⟨w3.heap.size + 1 + 1, 0, none⟩) 1 1))
  have HR4 : Hid (Blk ((((w3.alloc (.cells #[.int .i64 0, .int .u64 0, .int .u64 0, .int .u64 0, .int .u64 0, .int .i64 1, .int .i64 0, .int .i64 0, .int .u64 0, .int .u64 0, .int .u64 0, .int .u64 0] 62)).alloc (.cells #[.slice (some ⟨w3.heap.size, 0, none⟩) 1 1] 58)).alloc (.cells #[.slice (some ⟨w3.heap.size + 1, 0, none⟩) 1 1] 57)).setCell ⟨w1.heap.size + 1, 4, none⟩ (.slice (some ⟨w3.heap.size + 1 + 1, 0, none⟩) 1 1)) w.heap.size 31 #[.slice none 0 0, .int .i64 0, .slice none 0 0, .slice none 0 0, .slice none 0 0]) := (HR3.out.on b4).far (p := ⟨w1.heap.size + 1, 4, none⟩) (show w.heap.size ≠ w1.heap.size + 1 by omega) _
  clear X4 hO c4 b4 HX3 C3 HB3 HR3
  go_upto_region 4 with (fail)
  clear hf d0 d1 d2 d3 d4
  generalize ((((w3.alloc (.cells #[.int .i64 0, .int .u64 0, .int .u64 0, .int .u64 0, .int .u64 0, .int .i64 1, .int .i64 0, .int .i64 0, .int .u64 0, .int .u64 0, .int .u64 0, .int .u64 0] 62)).alloc (.cells #[.slice (some ⟨w3.heap.size, 0, none⟩) 1 1] 58)).alloc (.cells #[.slice (some ⟨w3.heap.size + 1, 0, none⟩) 1 1] 57)).setCell ⟨w1.heap.size + 1, 4, none⟩ (.slice (some ⟨w3.heap.size + 1 + 1, 0, none⟩) 1 1)) = w4 at C4 HX4 HB4 HR4 ⊢
  obtain ⟨BV, hBV⟩ : ∃ BV : Value, BV = .slice (some ⟨w3.heap.size + 1 + 1, 0, none⟩) 1 1 := ⟨_, rfl⟩
  rw [← hBV] at C4 HX4
  clear hBV
  obtain ⟨tA, tc, rfl, -⟩ := OwG.rd C4.out.ports
  obtain ⟨xA, xc, rfl, -⟩ := OwG.rd C4.out.tabs
  obtain ⟨d0, d1, d2, d3, d4⟩ := HX4.out.five
  have K5 := HR4.out.put5 (.slice tA T8.length tc) (.int .i64 3) (.slice (some ⟨w1.heap.size, 0, none⟩) 1 1) (.slice none 0 0) (.slice xA B8.length xc)
  obtain ⟨q0, q1, q2, q3, q4⟩ := K5.five
  obtain ⟨z0, z1, z2, z3, z4⟩ := HR4.out.five
  have f0 := HR4.out.free 0
  have f1 := HR4.out.free 1
  have f2 := HR4.out.free 2
  have f3 := HR4.out.free 3
  have f4 := HR4.out.free 4
  have HCE := Lib.hid (Cfo.put5 hb1 C4.out (.slice tA T8.length tc) (.int .i64 3) (.slice (some ⟨w1.heap.size, 0, none⟩) 1 1) (.slice none 0 0) (.slice xA B8.length xc))
  have HBE := Lib.hid (HB4.out.trans (below_put5 (w := w4) (B := w.heap.size) (g := w.heap.size) (Nat.le_refl _) (.slice tA T8.length tc) (.int .i64 3) (.slice (some ⟨w1.heap.size, 0, none⟩) 1 1) (.slice none 0 0) (.slice xA B8.length xc)))
  clear K5 HR4 HX4 C4 HB4
  go_wp2
  exact bodyPost_ret (v := .agg #[.slice tA T8.length tc, .int .i64 3, .slice (some ⟨w1.heap.size, 0, none⟩) 1 1, .slice none 0 0, .slice xA B8.length xc]) (by simp [results, Try.results25, go_sem, q0, q1, q2, q3, q4]) rfl ⟨_, _, _, rfl, Cfo.mono hsz1 HCE.out, HBE.out⟩
end Go.Proofs
