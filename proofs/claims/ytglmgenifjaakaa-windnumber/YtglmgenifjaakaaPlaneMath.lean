/-
  Distances from straight pieces, as numbers: lemmas without a program (no claim is made here).
-/
import Derived.Laws.Bits64b
namespace Go.Proofs.Ytglmgenifjaakaa

/-- A fraction in its least form. -/
def frI (n d : Int) : Int × Int := ((n.toNat / Nat.gcd n.toNat d.toNat : Nat), (d.toNat / Nat.gcd n.toNat d.toNat : Nat))
/-- Of the ways u (from A to B) and v (from A to the point): the line's distance, the edge's, the side. -/
def lineV (u0 u1 v0 v1 : Int) : Int × Int := if u0 = 0 ∧ u1 = 0 then (v0 * v0 + v1 * v1, 1) else frI ((u0 * v1 - u1 * v0) * (u0 * v1 - u1 * v0)) (u0 * u0 + u1 * u1)
def squareV (u0 u1 v0 v1 : Int) : Int × Int :=
  if u0 * v0 + u1 * v1 ≤ 0 then (v0 * v0 + v1 * v1, 1)
  else if u0 * u0 + u1 * u1 ≤ u0 * v0 + u1 * v1 then ((v0 - u0) * (v0 - u0) + (v1 - u1) * (v1 - u1), 1)
  else lineV u0 u1 v0 v1
def sideV (u0 u1 v0 v1 : Int) : Int := if 0 < u0 * v1 - u1 * v0 then 1 else if u0 * v1 - u1 * v0 < 0 then -1 else 0

theorem mulB {a b : Int} {M N : Nat} (ha : a.natAbs ≤ M) (hb : b.natAbs ≤ N) : (a * b).natAbs ≤ M * N := by
  rw [Int.natAbs_mul]; exact Nat.mul_le_mul ha hb
theorem sqNN (a : Int) : 0 ≤ a * a := by
  rcases Int.le_total 0 a with h | h
  · exact Int.mul_nonneg h h
  · have := Int.mul_nonneg (show 0 ≤ -a by omega) (show 0 ≤ -a by omega); rwa [Int.neg_mul_neg] at this
theorem sq0 {a : Int} (h : a * a = 0) : a = 0 := by rcases Int.mul_eq_zero.1 h with h | h <;> exact h
theorem long_pos {u0 u1 : Int} (h : ¬ (u0 = 0 ∧ u1 = 0)) : 0 < u0 * u0 + u1 * u1 := by
  have h0 := sqNN u0
  have h1 := sqNN u1
  rcases Int.lt_or_le 0 (u0 * u0 + u1 * u1) with g | g
  · exact g
  · exact absurd ⟨sq0 (by omega), sq0 (by omega)⟩ h

/-- From the other end. -/
theorem squareV_back (u0 u1 v0 v1 : Int) : squareV (-u0) (-u1) (v0 - u0) (v1 - u1) = squareV u0 u1 v0 v1 := by
  have e1 : -u0 * (v0 - u0) + -u1 * (v1 - u1) = (u0 * u0 + u1 * u1) - (u0 * v0 + u1 * v1) := by simp only [Int.mul_sub, Int.neg_mul]; omega
  have e2 : -u0 * -u0 + -u1 * -u1 = u0 * u0 + u1 * u1 := by rw [Int.neg_mul_neg, Int.neg_mul_neg]
  have e3 : v0 - u0 - -u0 = v0 := by omega
  have e4 : v1 - u1 - -u1 = v1 := by omega
  have e5 : -u0 * (v1 - u1) - -u1 * (v0 - u0) = -(u0 * v1 - u1 * v0) := by
    have := Int.mul_comm u0 u1
    simp only [Int.mul_sub, Int.neg_mul]; omega
  have h0 := sqNN u0
  have h1 := sqNN u1
  unfold squareV lineV
  rw [e1, e2, e3, e4, e5, Int.neg_mul_neg]
  by_cases hf : u0 * v0 + u1 * v1 ≤ 0
  · rw [if_pos hf]
    by_cases hL : u0 * u0 + u1 * u1 - (u0 * v0 + u1 * v1) ≤ 0
    · rw [if_pos hL]
      have z0 : u0 = 0 := sq0 (by omega)
      have z1 : u1 = 0 := sq0 (by omega)
      rw [z0, z1, Int.sub_zero, Int.sub_zero]
    · rw [if_neg hL, if_pos (by omega)]
  · rw [if_neg hf]
    by_cases hL : u0 * u0 + u1 * u1 ≤ u0 * v0 + u1 * v1
    · rw [if_pos hL, if_pos (by omega)]
    · rw [if_neg hL, if_neg (by omega), if_neg (by omega)]
      have c : (-u0 = 0 ∧ -u1 = 0) ↔ (u0 = 0 ∧ u1 = 0) := by omega
      by_cases hu : u0 = 0 ∧ u1 = 0
      · exfalso; rw [hu.1, hu.2] at hf; simp at hf
      · rw [if_neg hu, if_neg (fun k => hu (c.1 k))]

/-- Turned by a quarter. -/
theorem squareV_turn (u0 u1 v0 v1 : Int) : squareV (-u1) u0 (-v1) v0 = squareV u0 u1 v0 v1 := by
  have e1 : -u1 * -v1 + u0 * v0 = u0 * v0 + u1 * v1 := by rw [Int.neg_mul_neg]; omega
  have e2 : -u1 * -u1 + u0 * u0 = u0 * u0 + u1 * u1 := by rw [Int.neg_mul_neg]; omega
  have e3 : -v1 * -v1 + v0 * v0 = v0 * v0 + v1 * v1 := by rw [Int.neg_mul_neg]; omega
  have e4 : (-v1 - -u1) * (-v1 - -u1) + (v0 - u0) * (v0 - u0) = (v0 - u0) * (v0 - u0) + (v1 - u1) * (v1 - u1) := by
    have : -v1 - -u1 = -(v1 - u1) := by omega
    rw [this, Int.neg_mul_neg]; omega
  have e5 : -u1 * v0 - u0 * -v1 = u0 * v1 - u1 * v0 := by rw [Int.neg_mul, Int.mul_neg]; omega
  have c : (-u1 = 0 ∧ u0 = 0) ↔ (u0 = 0 ∧ u1 = 0) := by omega
  unfold squareV lineV
  rw [e1, e2, e3, e4, e5]
  by_cases hu : u0 = 0 ∧ u1 = 0
  · rw [if_pos hu, if_pos (c.2 hu)]
  · rw [if_neg hu, if_neg (fun k => hu (c.1 k))]

theorem squareV_first (u0 u1 : Int) : squareV u0 u1 0 0 = (0, 1) := by unfold squareV; simp
theorem squareV_last (u0 u1 : Int) : squareV u0 u1 u0 u1 = (0, 1) := by
  unfold squareV
  have h0 := sqNN u0
  have h1 := sqNN u1
  by_cases h : u0 * u0 + u1 * u1 ≤ 0
  · rw [if_pos h]
    have : u0 * u0 + u1 * u1 = 0 := by omega
    rw [this]
  · rw [if_neg h, if_pos (Int.le_refl _)]; simp

end Go.Proofs.Ytglmgenifjaakaa
