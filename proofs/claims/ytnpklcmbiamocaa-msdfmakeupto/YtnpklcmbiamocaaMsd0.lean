/-
  What the law's channel of layer 12 does to any world: a contract (no claim is made here).
-/
import Derived.Test.YtnpklcmbiamocaaNrow
import Derived.Test.YtnpklcmbiamocaaMsdf
import Derived.Test.YtnpklcmbiamocaaMnum
namespace Go.Proofs.Ytnpklcmbiamocaa
open Go.RowKit

/-- The bit of a colour. -/
theorem and_bit : ∀ x : Fin 16, ∀ c : Fin 3, (bits BinOp.and IntKind.i64 ((x : Nat) : Int) ((2 ^ (c : Nat) : Nat) : Int) != 0) = (x : Nat).testBit c := of_decide_eq_true (by kernel_rfl)
theorem pow_w (c : Nat) (hc : c < 3) : IntKind.i64.wrap ((2 : Int) ^ c) = ((2 ^ c : Nat) : Int) ∧ 2 ^ c ≤ 4 := by
  obtain rfl | rfl | rfl : c = 0 ∨ c = 1 ∨ c = 2 := by omega
  · exact ⟨by decide, by decide⟩
  · exact ⟨by decide, by decide⟩
  · exact ⟨by decide, by decide⟩

end Go.Proofs.Ytnpklcmbiamocaa
