/-
  Plain numbers: what one digit of a long division is, by the two loops of math/bits.Div64 (no Go text here, no claim).
-/
import Derived.Laws.Bits64b
import Derived.Laws.BitsAllLaws
import Derived.Lib.BitFns
namespace Go.Proofs.Ytnejdngeeppphaa
namespace K

theorem split (q yn1 yn0 : Nat) : q * (yn1 * 4294967296 + yn0) = q * yn1 * 4294967296 + q * yn0 := by
  rw [Nat.mul_add, Nat.mul_assoc]

theorem dec {yn1 yn0 u v q r : Nat} (hv : v < 4294967296) (hu : u < yn1 * 4294967296 + yn0) (hq : q * yn1 + r = u)
    (h : 4294967296 ≤ q ∨ 4294967296 * r + v < q * yn0) :
    1 ≤ q ∧ (u * 4294967296 + v) / (yn1 * 4294967296 + yn0) ≤ q - 1 := by
  have hY : 0 < yn1 * 4294967296 + yn0 := by omega
  have hlt : (u * 4294967296 + v) / (yn1 * 4294967296 + yn0) < q := by
    rw [Nat.div_lt_iff_lt_mul hY]
    rcases h with h | h
    · have h1 : 4294967296 * (yn1 * 4294967296 + yn0) ≤ q * (yn1 * 4294967296 + yn0) := Nat.mul_le_mul_right _ h
      omega
    · rw [split]
      omega
  exact ⟨Nat.lt_of_le_of_lt (Nat.zero_le _) hlt, Nat.le_sub_one_of_lt hlt⟩

theorem stop {yn1 yn0 u v q r : Nat} (hY : 0 < yn1) (hq : q * yn1 + r = u)
    (hge : (u * 4294967296 + v) / (yn1 * 4294967296 + yn0) ≤ q) (h : q * yn0 ≤ 4294967296 * r + v) :
    (u * 4294967296 + v) / (yn1 * 4294967296 + yn0) = q := by
  have hle : q ≤ (u * 4294967296 + v) / (yn1 * 4294967296 + yn0) := by
    rw [Nat.le_div_iff_mul_le (by omega), split]
    omega
  exact Nat.le_antisymm hge hle

theorem brk {yn1 yn0 u v q r : Nat} (hY : 0 < yn1) (h0 : yn0 < 4294967296) (hu : u < yn1 * 4294967296 + yn0) (hq : q * yn1 + r = u) (hr : 4294967296 ≤ r)
    (hge : (u * 4294967296 + v) / (yn1 * 4294967296 + yn0) ≤ q) :
    (u * 4294967296 + v) / (yn1 * 4294967296 + yn0) = q := by
  refine stop hY hq hge ?_
  have hk : q < 4294967296 := by
    rcases Nat.lt_or_ge q 4294967296 with g | g
    · exact g
    · have := Nat.mul_le_mul_right yn1 g
      have e : 4294967296 * yn1 = yn1 * 4294967296 := Nat.mul_comm _ _
      omega
  have hb : q * yn0 ≤ 4294967295 * 4294967295 := Nat.mul_le_mul (by omega) (by omega)
  omega

theorem first_ge (yn1 yn0 u v : Nat) (hY : 0 < yn1) (hv : v < 4294967296) : (u * 4294967296 + v) / (yn1 * 4294967296 + yn0) ≤ u / yn1 := by
  have e : (u * 4294967296 + v) / (yn1 * 4294967296) = u / yn1 := by
    rw [Nat.mul_comm yn1, ← Nat.div_div_eq_div_mul]
    congr 1
    omega
  rw [← e]
  exact Nat.div_le_div_left (by omega) (Nat.mul_pos hY (by omega))

/-- What is left behind a digit. -/
theorem rest (u v Y q : Nat) (hY : 0 < Y) (hq : (u * 4294967296 + v) / Y = q) : ∃ m, u * 4294967296 + v = q * Y + m ∧ m < Y := by
  refine ⟨(u * 4294967296 + v) % Y, ?_, Nat.mod_lt _ hY⟩
  have := Nat.div_add_mod' (u * 4294967296 + v) Y
  rw [hq] at this
  omega

theorem digit_lt (u v Y : Nat) (hu : u < Y) (hv : v < 4294967296) : (u * 4294967296 + v) / Y < 4294967296 := by
  rw [Nat.div_lt_iff_lt_mul (by omega)]
  have : (u + 1) * 4294967296 ≤ Y * 4294967296 := Nat.mul_le_mul_right _ hu
  rw [Nat.mul_comm 4294967296]
  omega

/-- Two digits, put together; the shift taken back. -/
theorem whole (N y S Y u u10 un1 un0 q1 q0 m1 m0 : Nat) (hS : 0 < S) (hy : 0 < y) (hYe : Y = y * S) (hN : u * 18446744073709551616 + u10 = N * S) (h10 : u10 = un1 * 4294967296 + un0)
    (e1 : u * 4294967296 + un1 = q1 * Y + m1) (e0 : m1 * 4294967296 + un0 = q0 * Y + m0) (hm : m0 < Y) :
    N / y = q1 * 4294967296 + q0 ∧ N % y = m0 / S := by
  have h : N * S = (q1 * 4294967296 + q0) * Y + m0 := by
    have a : (q1 * 4294967296 + q0) * Y = q1 * Y * 4294967296 + q0 * Y := by
      rw [Nat.add_mul, Nat.mul_right_comm]
    have b : N * S = (u * 4294967296 + un1) * 4294967296 + un0 := by omega
    have c : (q1 * Y + m1) * 4294967296 + un0 = q1 * Y * 4294967296 + (m1 * 4294967296 + un0) := by rw [Nat.add_mul, Nat.add_assoc]
    rw [b, e1, c, e0, a, Nat.add_assoc]
  have hd : N * S = (q1 * 4294967296 + q0) * y * S + m0 := by rw [h, hYe, Nat.mul_assoc]
  have hmS : m0 % S = 0 := by
    have := congrArg (· % S) hd
    simp only [Nat.mul_mod_left, Nat.mul_add_mod_self_right] at this
    exact this.symm
  obtain ⟨t, rfl⟩ : ∃ t, m0 = t * S := ⟨m0 / S, (Nat.div_mul_cancel (Nat.dvd_of_mod_eq_zero hmS)).symm⟩
  have ht : t < y := by
    rw [hYe] at hm
    exact Nat.lt_of_mul_lt_mul_right hm
  have hN2 : N = (q1 * 4294967296 + q0) * y + t := by
    rw [← Nat.add_mul] at hd
    exact Nat.eq_of_mul_eq_mul_right hS hd
  rw [Nat.mul_div_cancel _ hS]
  constructor
  · rw [hN2, Nat.mul_comm, Nat.mul_add_div hy, Nat.div_eq_of_lt ht, Nat.add_zero]
  · rw [hN2, Nat.mul_comm, Nat.mul_add_mod, Nat.mod_eq_of_lt ht]

theorem sub_mul1 {q yn1 r u : Nat} (h1 : 1 ≤ q) (hq : q * yn1 + r = u) : (q - 1) * yn1 + (r + yn1) = u := by
  obtain ⟨p, rfl⟩ : ∃ p, q = p + 1 := ⟨q - 1, by omega⟩
  rw [Nat.add_mul, Nat.one_mul] at hq
  rw [Nat.add_sub_cancel]
  omega

/-- The shift that brings a number's highest bit to the top. -/
theorem bitLen_bounds (y : Nat) (h0 : 0 < y) (h : y < 18446744073709551616) : Lib.bitLen y ≤ 64 ∧ 1 ≤ Lib.bitLen y ∧ y < 2 ^ Lib.bitLen y ∧ 2 ^ Lib.bitLen y ≤ 2 * y := by
  have key : ∀ n y, y < n → 0 < y → y < 18446744073709551616 → 1 ≤ Lib.bitLen y ∧ y < 2 ^ Lib.bitLen y ∧ 2 ^ Lib.bitLen y ≤ 2 * y := by
    intro n
    induction n with
    | zero => intro y h; omega
    | succ n ih =>
      intro y hn h0 h
      have hh := Lib.bitLen_half y (by omega) h
      by_cases h1 : y = 1
      · subst h1; decide +kernel
      · obtain ⟨a, b, c⟩ := ih (y / 2) (by omega) (by omega) (by omega)
        rw [hh, Nat.pow_add]
        omega
  exact ⟨Lib.bitLen_le y 64 (by omega) (by omega), key (y + 1) y (by omega) h0 h⟩

theorem shift_top (y : Nat) (h0 : 0 < y) (h : y < 18446744073709551616) : 64 - Lib.bitLen y < 64 ∧ y * 2 ^ (64 - Lib.bitLen y) < 18446744073709551616 ∧ 9223372036854775808 ≤ y * 2 ^ (64 - Lib.bitLen y) := by
  obtain ⟨a, b, c, d⟩ := bitLen_bounds y h0 h
  have e : 2 ^ Lib.bitLen y * 2 ^ (64 - Lib.bitLen y) = 18446744073709551616 := by
    rw [← Nat.pow_add, Nat.add_sub_cancel' a]
  have hp : 0 < 2 ^ (64 - Lib.bitLen y) := Nat.two_pow_pos _
  have c' := Nat.mul_lt_mul_of_pos_right c hp
  have d' := Nat.mul_le_mul_right (2 ^ (64 - Lib.bitLen y)) d
  rw [Nat.mul_assoc] at d'
  omega

end K
end Go.Proofs.Ytnejdngeeppphaa
