/-
  The numbers of layer 9 (no claim is made here).
-/
import Derived.IntWalk
namespace Go.Proofs.Ytlhngelifmjefaa

/-- P9.1: what is wrong of a grid. -/
def checkG (x y p u v s : Int) : Int :=
  if u < 1 ∨ v < 1 ∨ 24 < u ∨ 24 < v then 6
  else if 255 < x ∨ 255 < y ∨ x < -255 ∨ y < -255 ∨ p < 1 ∨ 16 < p ∨ s < 1 ∨ 64 < s then 4 else 0
/-- The middle of a texel, in one direction. -/
def midG (x p i : Int) : Int := x * 32 + i * p * 32 + p * 16
/-- P9.3. -/
def stepG (s e : Int) : Int := if e < 256 * s then e * 127 / (256 * s) else 127
theorem stepG_in (s e : Int) (hs : 1 ≤ s) (he : 0 ≤ e) : 0 ≤ stepG s e ∧ stepG s e ≤ 127 := by
  unfold stepG
  split
  · exact ⟨Int.ediv_nonneg (by omega) (by omega), Int.ediv_le_of_le_mul (by omega) (by omega)⟩
  · omega
theorem stepG_le (s e : Int) (hs : 1 ≤ s) (he : 0 ≤ e) : stepG s e ≤ stepG s (e + 1) := by
  by_cases h : e + 1 < 256 * s
  · unfold stepG
    rw [if_pos (by omega), if_pos h]
    exact Int.ediv_le_ediv (by omega) (by omega)
  · have := (stepG_in s e hs he).2
    rw [show stepG s (e + 1) = 127 by unfold stepG; rw [if_neg h]]
    exact this

end Go.Proofs.Ytlhngelifmjefaa
