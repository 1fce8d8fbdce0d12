/-
  How a header that is handed in by value reads, and that it reads so again. No conditions.
-/
import Derived.Test.YtlhbkiobgppciaaProg
import Derived.Test.YtlhbkiobgppciaaChecked
import Derived.Test.YtlhbkiobgppciaaMath
import Derived.ProofKit
import Derived.OpenShut
import Derived.Lib.SmallJoins
import Derived.KernelRfl
namespace Go.Proofs.Ytlhbkiobgppciaa
open Go.ChangeShapes Go.WideShapes Go.ChangeAt Go.RowKit Go.Joins Go.Proofs.Hd

theorem own : ownKnob Try.prog.godebug = none := by kernel_rfl
theorem cellsHead : Try.prog.cellsOf 24 = 2 := by kernel_rfl

theorem uv_of (a : Int) (h : (Lit.int .u64 a).wf = true) : ∃ x : BitVec 64, a = uv x := by
  obtain ⟨h1, h2⟩ := bounds_u64 h
  refine ⟨BitVec.ofInt 64 a, ?_⟩
  unfold uv
  rw [BitVec.toNat_ofInt, big]
  omega

theorem open_head {H : Type} {enc : TypeId × Value → H} {W : World} {base : Nat} {v : Value} {d : DataW H} {p : List MemPlace} (hok : Value.okWide Try.prog W .any base 24 v)
    (h0 : DataW.Trod enc Try.prog W 0 (fun _ => true) true 24 v d p) :
    ∃ h l : BitVec 64, v = .agg #[.int .u64 (uv h), .int .u64 (uv l)] ∧ d = .agg [.lit (.int .u64 (uv h)), .lit (.int .u64 (uv l))] ∧ p = [] ∧
      (∀ (W' : World) (sp : Nat → Bool), DataW.Trod enc Try.prog W' 0 sp true 24 (.agg #[.int .u64 (uv h), .int .u64 (uv l)]) (.agg [.lit (.int .u64 (uv h)), .lit (.int .u64 (uv l))]) []) := by
  obtain ⟨c0, c1, y0, y1, m, rfl, rfl, rfl, hy0, hy1⟩ := open_agg2 Try.underlying24 (by kernel_rfl) cellsHead hok h0
  obtain ⟨ah, e0, rfl, wa⟩ := DataW.trod_int Try.underlying22 hy0
  obtain ⟨al, e1, rfl, wb⟩ := DataW.trod_int Try.underlying22 hy1
  simp at e0 e1
  subst e0 e1
  obtain ⟨h, rfl⟩ := uv_of ah wa
  obtain ⟨l, rfl⟩ := uv_of al wb
  exact ⟨h, l, rfl, rfl, rfl, fun W' sp =>
    shut_agg2 (y0 := (.lit (.int .u64 (uv h)), [])) (y1 := (.lit (.int .u64 (uv l)), [])) Try.underlying24 (by kernel_rfl) cellsHead ⟨1, by simp [DataW.trod, Try.underlying22, wa]⟩ ⟨1, by simp [DataW.trod, Try.underlying22, wb]⟩⟩
end Go.Proofs.Ytlhbkiobgppciaa
