/-
  Square roots that are rounded down, and common divisors, as numbers: lemmas without a program (no claim is made here).
-/
import Derived.Laws.Bits64b
namespace Go.Proofs.Ytglmgenifjaakaa

/-- The root, bit by bit from the highest one down. -/
def sqTo (n : Nat) : Nat → Nat → Nat
  | 0, r => r
  | k + 1, r => if (r + 2 ^ k) * (r + 2 ^ k) ≤ n then sqTo n k (r + 2 ^ k) else sqTo n k r
def isqrt (n : Nat) : Nat := sqTo n 32 0

theorem sqTo_spec (n : Nat) : ∀ k r, r * r ≤ n → n < (r + 2 ^ k) * (r + 2 ^ k) → sqTo n k r * sqTo n k r ≤ n ∧ n < (sqTo n k r + 1) * (sqTo n k r + 1)
  | 0, r, h1, h2 => ⟨h1, by simpa [sqTo] using h2⟩
  | k + 1, r, h1, h2 => by
    unfold sqTo
    have e : r + 2 ^ k + 2 ^ k = r + 2 ^ (k + 1) := by rw [Nat.pow_succ]; omega
    split
    · next h => exact sqTo_spec n k _ h (by rw [e]; exact h2)
    · next h => exact sqTo_spec n k _ h1 (by omega)

theorem isqrt_spec (n : Nat) (h : n < 18446744073709551616) : isqrt n * isqrt n ≤ n ∧ n < (isqrt n + 1) * (isqrt n + 1) :=
  sqTo_spec n 32 0 (Nat.zero_le _) (by simp; exact h)

theorem sq_lt {a b : Nat} (h : a * a < b * b) : a < b := by
  by_cases hab : a < b
  · exact hab
  · have := Nat.mul_le_mul (Nat.le_of_not_lt hab) (Nat.le_of_not_lt hab)
    omega
theorem sq_le {a b : Nat} (h : a ≤ b) : a * a ≤ b * b := Nat.mul_le_mul h h

theorem isqrt_unique (n r : Nat) (h : n < 18446744073709551616) (h1 : r * r ≤ n) (h2 : n < (r + 1) * (r + 1)) : isqrt n = r := by
  obtain ⟨a, b⟩ := isqrt_spec n h
  have h3 := sq_lt (Nat.lt_of_le_of_lt a h2)
  have h4 := sq_lt (Nat.lt_of_le_of_lt h1 b)
  omega
theorem isqrt_sq (m : Nat) (h : m < 4294967296) : isqrt (m * m) = m := by
  have := sq_le (a := m) (b := 4294967295) (by omega)
  exact isqrt_unique _ _ (by omega) (Nat.le_refl _) (Nat.mul_lt_mul_of_lt_of_lt (Nat.lt_succ_self m) (Nat.lt_succ_self m))
theorem isqrt_mono {a b : Nat} (h : a ≤ b) (hb : b < 18446744073709551616) : isqrt a ≤ isqrt b := by
  obtain ⟨x, _⟩ := isqrt_spec a (by omega)
  obtain ⟨_, y⟩ := isqrt_spec b hb
  have := sq_lt (Nat.lt_of_le_of_lt (Nat.le_trans x h) y)
  omega
theorem sq_step (s k : Nat) (hs : 0 < s) : s * s + k ≤ (s + k) * (s + k) := by
  have h0 : (s + k) * (s + k) = s * (s + k) + k * (s + k) := Nat.add_mul _ _ _
  have h1 : s * s ≤ s * (s + k) := Nat.mul_le_mul_left _ (Nat.le_add_right _ _)
  have h2 : k ≤ k * (s + k) := Nat.le_mul_of_pos_right k (by omega)
  omega
theorem isqrt_step (a k : Nat) (hb : a + k < 18446744073709551616) : isqrt (a + k) ≤ isqrt a + k := by
  obtain ⟨x, _⟩ := isqrt_spec (a + k) hb
  obtain ⟨_, y⟩ := isqrt_spec a (by omega)
  have h := sq_step (isqrt a + 1) k (by omega)
  have := sq_lt (show isqrt (a + k) * isqrt (a + k) < (isqrt a + 1 + k) * (isqrt a + 1 + k) by omega)
  omega
theorem isqrt_lt (n : Nat) (h : n < 9223372036854775808) : isqrt n < 3037000500 := by
  obtain ⟨x, _⟩ := isqrt_spec n (by omega)
  exact sq_lt (b := 3037000500) (by omega)

/-- A common divisor by remainders, and that it is one. -/
theorem gcd_round (a b : Nat) : Nat.gcd (b % a) a = Nat.gcd a b := (Nat.gcd_rec a b).symm

theorem div_gcd_coprime (a b : Nat) (hb : 0 < b) : Nat.gcd (a / Nat.gcd a b) (b / Nat.gcd a b) = 1 := by
  have h : 0 < Nat.gcd a b := Nat.gcd_pos_of_pos_right a hb
  rw [Nat.gcd_div (Nat.gcd_dvd_left a b) (Nat.gcd_dvd_right a b), Nat.div_self h]
theorem div_gcd_same (a b : Nat) : a / Nat.gcd a b * b = a * (b / Nat.gcd a b) := by
  obtain ⟨x, hx⟩ := Nat.gcd_dvd_left a b
  obtain ⟨y, hy⟩ := Nat.gcd_dvd_right a b
  rcases Nat.eq_zero_or_pos (Nat.gcd a b) with h | h
  · rw [h] at hx hy; simp at hx hy; rw [hx, hy]; simp
  · generalize Nat.gcd a b = g at hx hy h
    subst hx hy
    rw [Nat.mul_div_cancel_left _ h, Nat.mul_div_cancel_left _ h, ← Nat.mul_assoc, Nat.mul_comm x g]
theorem div_gcd_pos (a b : Nat) (hb : 0 < b) : 0 < b / Nat.gcd a b :=
  Nat.div_pos (Nat.le_of_dvd hb (Nat.gcd_dvd_right a b)) (Nat.gcd_pos_of_pos_right a hb)

end Go.Proofs.Ytglmgenifjaakaa
