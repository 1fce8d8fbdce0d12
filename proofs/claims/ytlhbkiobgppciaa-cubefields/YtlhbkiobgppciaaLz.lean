/-
  Contract of math/bits.LeadingZeros64, out of the library's own contract, which is proved over any program: the function's bodies are compared by the kernel. No conditions.
-/
import Derived.Shelf.Small.Bits
import Derived.Shelf.Strconv.Itoa0
import Derived.Test.YtlhbkiobgppciaaProg
import Derived.Test.YtlhbkiobgppciaaLen
namespace Go.Proofs
open Go.Shelf Go.RowKit Go.Proofs.Hd
def lzRen : Go.Shelf.Ren := ⟨fun | 134 => 45 | 129 => 52 | n => n, fun | 53 => 22 | 3 => 3 | 4 => 4 | 46 => 52 | 5 => 5 | 9 => 9 | n => n, fun | n => n⟩
theorem lzLays : Go.Proofs.Lays.n134 Try.prog lzRen where
  mixed := by kernel_rfl
  f129 := Try.func52.trans (congrArg some (by kernel_rfl))
  f134 := Try.func45.trans (congrArg some (by kernel_rfl))
  t3 := Try.underlying3
  a3 := Try.isAgg3
  z3 := Try.sizeOf3
  v3 := Try.zeroValue3
  t4 := Try.underlying4
  a4 := Try.isAgg4
  z4 := Try.sizeOf4
  v4 := Try.zeroValue4
  t5 := Try.underlying5
  a5 := Try.isAgg5
  z5 := Try.sizeOf5
  v5 := Try.zeroValue5
  t9 := Try.underlying9
  a9 := Try.isAgg9
  z9 := Try.sizeOf9
  v9 := Try.zeroValue9
  t46 := Try.underlying52
  a46 := Try.isAgg52
  z46 := Try.sizeOf52
  v46 := Try.zeroValue52
  t53 := Try.underlying22
  a53 := Try.isAgg22
  z53 := Try.sizeOf22
  v53 := Try.zeroValue22
theorem lz_c (a : BitVec 64) (w : World) : Calls Try.prog 45 #[.int .u64 (uv a)] w fun e w' => e = .returned (.int .i64 ((64 - Lib.bitLen a.toNat : Nat) : Int)) ∧ w = w' := by
  have h := Any.bits_LeadingZeros64 lzLays (uv a) w (uv_nonneg a) (by have := uv_lt a; omega)
  have l := Lib.bitLen_le a.toNat 64 (Nat.le_refl _) a.isLt
  have e1 : (uv a).toNat = a.toNat := by unfold uv; omega
  rw [e1] at h
  have e2 : ((64 - Lib.bitLen a.toNat : Nat) : Int) = 64 - (Lib.bitLen a.toNat : Int) := by omega
  rw [e2]
  exact h.mono fun e w' h => ⟨h.1, h.2.symm⟩
end Go.Proofs
