/-
  How a cube that is handed in by value reads, and that it reads so again. No conditions.
-/
import Derived.Test.YtlhbkiobgppciaaOpen
namespace Go.Proofs.Ytlhbkiobgppciaa
open Go.ChangeShapes Go.WideShapes Go.ChangeAt Go.RowKit Go.Joins Go.Proofs.Hd

theorem cellsCube : Try.prog.cellsOf 26 = 4 := by kernel_rfl
theorem cellsWord : Try.prog.cellsOf 22 = 1 := by kernel_rfl
theorem wf_uv (x : BitVec 64) : (Lit.int .u64 (uv x)).wf = true := by
  have h1 := uv_nonneg x
  have h2 := uv_lt x
  simp [Lit.wf, IntKind.min, IntKind.max, IntKind.signed, IntKind.bits]; omega

theorem read_head {H : Type} {enc : TypeId × Value → H} {W : World} {base : Nat} {sp : Nat → Bool} {n : Nat} {c0 c1 : Value} {y : DataW H × List MemPlace} (h0 : DataW.trod enc Try.prog W base sp true n 24 [c0, c1] = some y) :
    ∃ h l : BitVec 64, c0 = .int .u64 (uv h) ∧ c1 = .int .u64 (uv l) ∧ y = (.agg [.lit (.int .u64 (uv h)), .lit (.int .u64 (uv l))], []) := by
  obtain ⟨y0, y1, m, hx, _, q0, q1⟩ := trod_struct2 Try.underlying24 h0
  have q0' : DataW.trod enc Try.prog W base sp true m 22 [c0] = some y0 := by simpa [cellsWord] using q0
  have q1' : DataW.trod enc Try.prog W base sp true m 22 [c1] = some y1 := by simpa [cellsWord] using q1
  obtain ⟨ah, e0, rfl, wa⟩ := DataW.trod_int Try.underlying22 q0'
  obtain ⟨al, e1, rfl, wb⟩ := DataW.trod_int Try.underlying22 q1'
  simp at e0 e1
  subst e0 e1
  obtain ⟨h, rfl⟩ := uv_of ah wa
  obtain ⟨l, rfl⟩ := uv_of al wb
  exact ⟨h, l, rfl, rfl, by rw [hx]; rfl⟩
theorem write_head {H : Type} {enc : TypeId × Value → H} {W : World} {base : Nat} {sp : Nat → Bool} (m : Nat) (h l : BitVec 64) :
    DataW.trod enc Try.prog W base sp true (m + 2) 24 [.int .u64 (uv h), .int .u64 (uv l)] = some (.agg [.lit (.int .u64 (uv h)), .lit (.int .u64 (uv l))], []) :=
  trod_struct2_mk (y0 := (.lit (.int .u64 (uv h)), [])) (y1 := (.lit (.int .u64 (uv l)), [])) Try.underlying24 (by simp [cellsHead])
    (by simpa [cellsWord] using trod_int_mk m Try.underlying22 (wf_uv h)) (by simpa [cellsWord] using trod_int_mk m Try.underlying22 (wf_uv l))

theorem open_cube {H : Type} {enc : TypeId × Value → H} {W : World} {base : Nat} {v : Value} {d : DataW H} {p : List MemPlace} (hok : Value.okWide Try.prog W .any base 26 v)
    (h0 : DataW.Trod enc Try.prog W 0 (fun _ => true) true 26 v d p) :
    ∃ vh vl ch cl : BitVec 64, v = .agg #[.int .u64 (uv vh), .int .u64 (uv vl), .int .u64 (uv ch), .int .u64 (uv cl)] ∧ d = .agg [.agg [.lit (.int .u64 (uv vh)), .lit (.int .u64 (uv vl))], .agg [.lit (.int .u64 (uv ch)), .lit (.int .u64 (uv cl))]] ∧ p = [] ∧
      (∀ (W' : World) (sp : Nat → Bool), DataW.Trod enc Try.prog W' 0 sp true 26 (.agg #[.int .u64 (uv vh), .int .u64 (uv vl), .int .u64 (uv ch), .int .u64 (uv cl)]) (.agg [.agg [.lit (.int .u64 (uv vh)), .lit (.int .u64 (uv vl))], .agg [.lit (.int .u64 (uv ch)), .lit (.int .u64 (uv cl))]]) []) := by
  obtain ⟨cs, rfl, hsz⟩ := okWide_struct Try.underlying26 hok
  obtain ⟨l⟩ := cs
  match l, hsz.trans cellsCube with
  | [c0, c1, c2, c3], _ =>
    obtain ⟨fuel, hf⟩ := h0
    obtain ⟨y0, y1, n, hx, _, q0, q1⟩ := trod_struct2 Try.underlying26 hf
    have q0' : DataW.trod enc Try.prog W 0 (fun _ => true) true n 24 [c0, c1] = some y0 := by simpa [Value.cells, cellsHead] using q0
    have q1' : DataW.trod enc Try.prog W 0 (fun _ => true) true n 24 [c2, c3] = some y1 := by simpa [Value.cells, cellsHead] using q1
    obtain ⟨vh, vl, rfl, rfl, rfl⟩ := read_head q0'
    obtain ⟨ch, cl, rfl, rfl, rfl⟩ := read_head q1'
    simp only [Prod.mk.injEq, List.append_nil] at hx
    refine ⟨vh, vl, ch, cl, rfl, hx.1, hx.2, fun W' sp => ⟨3, ?_⟩⟩
    have ts := trod_struct2_mk (enc := enc) (w := W') (base := 0) (spare := sp) (held := true) (n := 2) (cs := [.int .u64 (uv vh), .int .u64 (uv vl), .int .u64 (uv ch), .int .u64 (uv cl)]) Try.underlying26 (by simp [cellsCube])
      (by simpa [cellsHead] using write_head 0 vh vl) (by simpa [cellsHead] using write_head 0 ch cl)
    simpa [Value.cells] using ts
end Go.Proofs.Ytlhbkiobgppciaa
