/-
  How near a point of an edge is when its coordinates are cut: numbers, without a program (no claim is made here).
-/
import Derived.Test.YtglmgenifjaakaaPlaneMath
namespace Go.Proofs.Ytglmgenifjaakaa

theorem trunc_facts (u k : Int) (hk : 0 ≤ k) (hk2 : k ≤ 255) : ∃ r : Int, u * k = 255 * (u * k).tdiv 255 + r ∧ (-254 ≤ r ∧ r ≤ 254) ∧ (0 ≤ u → 0 ≤ (u * k).tdiv 255 ∧ (u * k).tdiv 255 ≤ u) ∧ (u ≤ 0 → u ≤ (u * k).tdiv 255 ∧ (u * k).tdiv 255 ≤ 0) := by
  rcases Int.le_total 0 u with h | h
  · have h1 : 0 ≤ u * k := Int.mul_nonneg h hk
    have h2 : u * k ≤ u * 255 := Int.mul_le_mul_of_nonneg_left hk2 h
    rw [Int.tdiv_eq_ediv_of_nonneg h1]
    refine ⟨u * k - 255 * (u * k / 255), by omega, by omega, fun _ => by omega, fun h' => ?_⟩
    have : u = 0 := by omega
    subst this
    simp
  · have h1 : 0 ≤ -u * k := Int.mul_nonneg (by omega) hk
    have h2 : -u * k ≤ -u * 255 := Int.mul_le_mul_of_nonneg_left hk2 (by omega)
    have e : u * k = -(-u * k) := by rw [Int.neg_mul, Int.neg_neg]
    have e2 : (u * k).tdiv 255 = -(-u * k / 255) := by rw [e, Int.neg_tdiv, Int.tdiv_eq_ediv_of_nonneg h1]
    rw [e2]
    refine ⟨u * k + 255 * (-u * k / 255), by omega, by omega, fun h' => ?_, fun _ => by omega⟩
    have : u = 0 := by omega
    subst this
    simp

theorem same_sign {u t : Int} (h1 : 0 ≤ u → 0 ≤ t ∧ t ≤ u) (h2 : u ≤ 0 → u ≤ t ∧ t ≤ 0) : 0 ≤ u * t ∧ 0 ≤ u * (u - t) ∧ (u * t = 0 → t = 0) ∧ (u * (u - t) = 0 → t = u) := by
  rcases Int.le_total 0 u with h | h
  · obtain ⟨a, b⟩ := h1 h
    refine ⟨Int.mul_nonneg h a, Int.mul_nonneg h (by omega), fun k => ?_, fun k => ?_⟩
    · rcases Int.mul_eq_zero.1 k with k | k <;> omega
    · rcases Int.mul_eq_zero.1 k with k | k <;> omega
  · obtain ⟨a, b⟩ := h2 h
    have p := Int.mul_nonneg (show 0 ≤ -u by omega) (show 0 ≤ -t by omega)
    have q := Int.mul_nonneg (show 0 ≤ -u by omega) (show 0 ≤ -(u - t) by omega)
    rw [Int.neg_mul_neg] at p q
    refine ⟨p, q, fun k => ?_, fun k => ?_⟩
    · rcases Int.mul_eq_zero.1 k with k | k <;> omega
    · rcases Int.mul_eq_zero.1 k with k | k <;> omega

theorem cross_small {u0 u1 t0 t1 k r0 r1 : Int} (e0 : u0 * k = 255 * t0 + r0) (e1 : u1 * k = 255 * t1 + r1) (h0 : -254 ≤ r0 ∧ r0 ≤ 254) (h1 : -254 ≤ r1 ∧ r1 ≤ 254) :
    (u0 * t1 - u1 * t0) * (u0 * t1 - u1 * t0) ≤ 2 * (u0 * u0 + u1 * u1) := by
  have c : 255 * (u0 * t1 - u1 * t0) = u1 * r0 - u0 * r1 := by
    have a0 : u1 * (u0 * k) = 255 * (u1 * t0) + u1 * r0 := by rw [e0, Int.mul_add, Int.mul_left_comm]
    have a1 : u0 * (u1 * k) = 255 * (u0 * t1) + u0 * r1 := by rw [e1, Int.mul_add, Int.mul_left_comm]
    have : u1 * (u0 * k) = u0 * (u1 * k) := Int.mul_left_comm _ _ _
    omega
  have m0 := mulB (show u1.natAbs ≤ u1.natAbs by omega) (show r0.natAbs ≤ 254 by omega)
  have m1 := mulB (show u0.natAbs ≤ u0.natAbs by omega) (show r1.natAbs ≤ 254 by omega)
  have b : (u0 * t1 - u1 * t0).natAbs ≤ u0.natAbs + u1.natAbs := by omega
  have s := mulB b b
  have e : (u0 * t1 - u1 * t0) * (u0 * t1 - u1 * t0) = (((u0 * t1 - u1 * t0) * (u0 * t1 - u1 * t0)).natAbs : Int) := (Int.natAbs_of_nonneg (sqNN _)).symm
  have f0 : u0 * u0 = ((u0.natAbs * u0.natAbs : Nat) : Int) := Int.natAbs_mul_self.symm
  have f1 : u1 * u1 = ((u1.natAbs * u1.natAbs : Nat) : Int) := Int.natAbs_mul_self.symm
  rw [e, f0, f1]
  generalize u0.natAbs = A at *
  generalize u1.natAbs = B at *
  have d := sqNN ((A : Int) - B)
  have d2 : ((A : Int) - B) * ((A : Int) - B) = (A * A : Nat) + (B * B : Nat) - 2 * (A * B : Nat) := by
    simp only [Int.sub_mul, Int.mul_sub, Int.natCast_mul]
    have := Int.mul_comm (A : Int) B
    omega
  have d3 : (A + B) * (A + B) = A * A + 2 * (A * B) + B * B := by
    simp only [Nat.add_mul, Nat.mul_add]
    have := Nat.mul_comm A B
    omega
  rw [d3] at s
  omega

theorem zero_near (u0 u1 k : Int) (hk : 0 ≤ k) (hk2 : k ≤ 255) (hu0 : u0.natAbs ≤ 16384) (hu1 : u1.natAbs ≤ 16384) :
    ∃ n d : Nat, squareV u0 u1 ((u0 * k).tdiv 255) ((u1 * k).tdiv 255) = ((n : Int), (d : Int)) ∧ n ≤ 2 * d ∧ d < 1073741824 := by
  obtain ⟨r0, e0, h0, p0, q0⟩ := trunc_facts u0 k hk hk2
  obtain ⟨r1, e1, h1, p1, q1⟩ := trunc_facts u1 k hk hk2
  obtain ⟨a0, b0, c0, d0⟩ := same_sign p0 q0
  obtain ⟨a1, b1, c1, d1⟩ := same_sign p1 q1
  have cs := cross_small e0 e1 h0 h1
  generalize (u0 * k).tdiv 255 = t0 at *
  generalize (u1 * k).tdiv 255 = t1 at *
  have g0 := mulB hu0 hu0
  have g1 := mulB hu1 hu1
  unfold squareV
  by_cases hf : u0 * t0 + u1 * t1 ≤ 0
  · rw [if_pos hf]
    have z0 := c0 (by omega)
    have z1 := c1 (by omega)
    subst z0 z1
    exact ⟨0, 1, rfl, by omega, by omega⟩
  · rw [if_neg hf]
    by_cases hL : u0 * u0 + u1 * u1 ≤ u0 * t0 + u1 * t1
    · rw [if_pos hL]
      rw [Int.mul_sub] at b0 b1 d0 d1
      have z0 := d0 (by omega)
      have z1 := d1 (by omega)
      subst z0 z1
      exact ⟨0, 1, by simp, by omega, by omega⟩
    · rw [if_neg hL]
      unfold lineV
      have hu : ¬ (u0 = 0 ∧ u1 = 0) := fun h => by rw [h.1, h.2] at hf; simp at hf
      rw [if_neg hu]
      refine ⟨_, _, rfl, ?_, ?_⟩
      · have n1 := sqNN (u0 * t1 - u1 * t0)
        generalize (u0 * t1 - u1 * t0) * (u0 * t1 - u1 * t0) = N at *
        have n2 := long_pos hu
        generalize u0 * u0 + u1 * u1 = D at *
        have hd := Nat.gcd_dvd_right N.toNat D.toNat
        rw [← Nat.mul_div_assoc 2 hd]
        exact Nat.div_le_div_right (by omega)
      · refine Nat.lt_of_le_of_lt (Nat.div_le_self _ _) ?_
        omega

end Go.Proofs.Ytglmgenifjaakaa
