/-
  RootMath DivMath PlaneMath ZeroMath GlyfMath GlyfMath2 GlyfMath3 PathMath FlatMath WindMath Flt13 in one text (no claim is made here).
-/
import Derived.Laws.Bits64b
import Derived.Laws.BitsAllLaws
import Derived.Lib.BitFns
namespace Go.Proofs.Ytklajpadnbeplaa

/-- The root, bit by bit from the highest one down. -/
def sqTo (n : Nat) : Nat → Nat → Nat
  | 0, r => r
  | k + 1, r => if (r + 2 ^ k) * (r + 2 ^ k) ≤ n then sqTo n k (r + 2 ^ k) else sqTo n k r
def isqrt (n : Nat) : Nat := sqTo n 32 0

theorem sqTo_spec (n : Nat) : ∀ k r, r * r ≤ n → n < (r + 2 ^ k) * (r + 2 ^ k) → sqTo n k r * sqTo n k r ≤ n ∧ n < (sqTo n k r + 1) * (sqTo n k r + 1)
  | 0, r, h1, h2 => ⟨h1, by simpa [sqTo] using h2⟩
  | k + 1, r, h1, h2 => by
    unfold sqTo
    have e : r + 2 ^ k + 2 ^ k = r + 2 ^ (k + 1) := by rw [Nat.pow_succ]; omega
    split
    · next h => exact sqTo_spec n k _ h (by rw [e]; exact h2)
    · next h => exact sqTo_spec n k _ h1 (by omega)

theorem isqrt_spec (n : Nat) (h : n < 18446744073709551616) : isqrt n * isqrt n ≤ n ∧ n < (isqrt n + 1) * (isqrt n + 1) :=
  sqTo_spec n 32 0 (Nat.zero_le _) (by simp; exact h)

theorem sq_lt {a b : Nat} (h : a * a < b * b) : a < b := by
  by_cases hab : a < b
  · exact hab
  · have := Nat.mul_le_mul (Nat.le_of_not_lt hab) (Nat.le_of_not_lt hab)
    omega
theorem sq_le {a b : Nat} (h : a ≤ b) : a * a ≤ b * b := Nat.mul_le_mul h h

theorem isqrt_unique (n r : Nat) (h : n < 18446744073709551616) (h1 : r * r ≤ n) (h2 : n < (r + 1) * (r + 1)) : isqrt n = r := by
  obtain ⟨a, b⟩ := isqrt_spec n h
  have h3 := sq_lt (Nat.lt_of_le_of_lt a h2)
  have h4 := sq_lt (Nat.lt_of_le_of_lt h1 b)
  omega
theorem isqrt_sq (m : Nat) (h : m < 4294967296) : isqrt (m * m) = m := by
  have := sq_le (a := m) (b := 4294967295) (by omega)
  exact isqrt_unique _ _ (by omega) (Nat.le_refl _) (Nat.mul_lt_mul_of_lt_of_lt (Nat.lt_succ_self m) (Nat.lt_succ_self m))
theorem isqrt_mono {a b : Nat} (h : a ≤ b) (hb : b < 18446744073709551616) : isqrt a ≤ isqrt b := by
  obtain ⟨x, _⟩ := isqrt_spec a (by omega)
  obtain ⟨_, y⟩ := isqrt_spec b hb
  have := sq_lt (Nat.lt_of_le_of_lt (Nat.le_trans x h) y)
  omega
theorem sq_step (s k : Nat) (hs : 0 < s) : s * s + k ≤ (s + k) * (s + k) := by
  have h0 : (s + k) * (s + k) = s * (s + k) + k * (s + k) := Nat.add_mul _ _ _
  have h1 : s * s ≤ s * (s + k) := Nat.mul_le_mul_left _ (Nat.le_add_right _ _)
  have h2 : k ≤ k * (s + k) := Nat.le_mul_of_pos_right k (by omega)
  omega
theorem isqrt_step (a k : Nat) (hb : a + k < 18446744073709551616) : isqrt (a + k) ≤ isqrt a + k := by
  obtain ⟨x, _⟩ := isqrt_spec (a + k) hb
  obtain ⟨_, y⟩ := isqrt_spec a (by omega)
  have h := sq_step (isqrt a + 1) k (by omega)
  have := sq_lt (show isqrt (a + k) * isqrt (a + k) < (isqrt a + 1 + k) * (isqrt a + 1 + k) by omega)
  omega
theorem isqrt_lt (n : Nat) (h : n < 9223372036854775808) : isqrt n < 3037000500 := by
  obtain ⟨x, _⟩ := isqrt_spec n (by omega)
  exact sq_lt (b := 3037000500) (by omega)

/-- A common divisor by remainders, and that it is one. -/
theorem gcd_round (a b : Nat) : Nat.gcd (b % a) a = Nat.gcd a b := (Nat.gcd_rec a b).symm

theorem div_gcd_coprime (a b : Nat) (hb : 0 < b) : Nat.gcd (a / Nat.gcd a b) (b / Nat.gcd a b) = 1 := by
  have h : 0 < Nat.gcd a b := Nat.gcd_pos_of_pos_right a hb
  rw [Nat.gcd_div (Nat.gcd_dvd_left a b) (Nat.gcd_dvd_right a b), Nat.div_self h]
theorem div_gcd_same (a b : Nat) : a / Nat.gcd a b * b = a * (b / Nat.gcd a b) := by
  obtain ⟨x, hx⟩ := Nat.gcd_dvd_left a b
  obtain ⟨y, hy⟩ := Nat.gcd_dvd_right a b
  rcases Nat.eq_zero_or_pos (Nat.gcd a b) with h | h
  · rw [h] at hx hy; simp at hx hy; rw [hx, hy]; simp
  · generalize Nat.gcd a b = g at hx hy h
    subst hx hy
    rw [Nat.mul_div_cancel_left _ h, Nat.mul_div_cancel_left _ h, ← Nat.mul_assoc, Nat.mul_comm x g]
theorem div_gcd_pos (a b : Nat) (hb : 0 < b) : 0 < b / Nat.gcd a b :=
  Nat.div_pos (Nat.le_of_dvd hb (Nat.gcd_dvd_right a b)) (Nat.gcd_pos_of_pos_right a hb)

end Go.Proofs.Ytklajpadnbeplaa

namespace Go.Proofs.Ytklajpadnbeplaa
namespace K

theorem split (q yn1 yn0 : Nat) : q * (yn1 * 4294967296 + yn0) = q * yn1 * 4294967296 + q * yn0 := by
  rw [Nat.mul_add, Nat.mul_assoc]

theorem dec {yn1 yn0 u v q r : Nat} (hv : v < 4294967296) (hu : u < yn1 * 4294967296 + yn0) (hq : q * yn1 + r = u)
    (h : 4294967296 ≤ q ∨ 4294967296 * r + v < q * yn0) :
    1 ≤ q ∧ (u * 4294967296 + v) / (yn1 * 4294967296 + yn0) ≤ q - 1 := by
  have hY : 0 < yn1 * 4294967296 + yn0 := by omega
  have hlt : (u * 4294967296 + v) / (yn1 * 4294967296 + yn0) < q := by
    rw [Nat.div_lt_iff_lt_mul hY]
    rcases h with h | h
    · have h1 : 4294967296 * (yn1 * 4294967296 + yn0) ≤ q * (yn1 * 4294967296 + yn0) := Nat.mul_le_mul_right _ h
      omega
    · rw [split]
      omega
  exact ⟨Nat.lt_of_le_of_lt (Nat.zero_le _) hlt, Nat.le_sub_one_of_lt hlt⟩

theorem stop {yn1 yn0 u v q r : Nat} (hY : 0 < yn1) (hq : q * yn1 + r = u)
    (hge : (u * 4294967296 + v) / (yn1 * 4294967296 + yn0) ≤ q) (h : q * yn0 ≤ 4294967296 * r + v) :
    (u * 4294967296 + v) / (yn1 * 4294967296 + yn0) = q := by
  have hle : q ≤ (u * 4294967296 + v) / (yn1 * 4294967296 + yn0) := by
    rw [Nat.le_div_iff_mul_le (by omega), split]
    omega
  exact Nat.le_antisymm hge hle

theorem brk {yn1 yn0 u v q r : Nat} (hY : 0 < yn1) (h0 : yn0 < 4294967296) (hu : u < yn1 * 4294967296 + yn0) (hq : q * yn1 + r = u) (hr : 4294967296 ≤ r)
    (hge : (u * 4294967296 + v) / (yn1 * 4294967296 + yn0) ≤ q) :
    (u * 4294967296 + v) / (yn1 * 4294967296 + yn0) = q := by
  refine stop hY hq hge ?_
  have hk : q < 4294967296 := by
    rcases Nat.lt_or_ge q 4294967296 with g | g
    · exact g
    · have := Nat.mul_le_mul_right yn1 g
      have e : 4294967296 * yn1 = yn1 * 4294967296 := Nat.mul_comm _ _
      omega
  have hb : q * yn0 ≤ 4294967295 * 4294967295 := Nat.mul_le_mul (by omega) (by omega)
  omega

theorem first_ge (yn1 yn0 u v : Nat) (hY : 0 < yn1) (hv : v < 4294967296) : (u * 4294967296 + v) / (yn1 * 4294967296 + yn0) ≤ u / yn1 := by
  have e : (u * 4294967296 + v) / (yn1 * 4294967296) = u / yn1 := by
    rw [Nat.mul_comm yn1, ← Nat.div_div_eq_div_mul]
    congr 1
    omega
  rw [← e]
  exact Nat.div_le_div_left (by omega) (Nat.mul_pos hY (by omega))

/-- What is left behind a digit. -/
theorem rest (u v Y q : Nat) (hY : 0 < Y) (hq : (u * 4294967296 + v) / Y = q) : ∃ m, u * 4294967296 + v = q * Y + m ∧ m < Y := by
  refine ⟨(u * 4294967296 + v) % Y, ?_, Nat.mod_lt _ hY⟩
  have := Nat.div_add_mod' (u * 4294967296 + v) Y
  rw [hq] at this
  omega

theorem digit_lt (u v Y : Nat) (hu : u < Y) (hv : v < 4294967296) : (u * 4294967296 + v) / Y < 4294967296 := by
  rw [Nat.div_lt_iff_lt_mul (by omega)]
  have : (u + 1) * 4294967296 ≤ Y * 4294967296 := Nat.mul_le_mul_right _ hu
  rw [Nat.mul_comm 4294967296]
  omega

/-- Two digits, put together; the shift taken back. -/
theorem whole (N y S Y u u10 un1 un0 q1 q0 m1 m0 : Nat) (hS : 0 < S) (hy : 0 < y) (hYe : Y = y * S) (hN : u * 18446744073709551616 + u10 = N * S) (h10 : u10 = un1 * 4294967296 + un0)
    (e1 : u * 4294967296 + un1 = q1 * Y + m1) (e0 : m1 * 4294967296 + un0 = q0 * Y + m0) (hm : m0 < Y) :
    N / y = q1 * 4294967296 + q0 ∧ N % y = m0 / S := by
  have h : N * S = (q1 * 4294967296 + q0) * Y + m0 := by
    have a : (q1 * 4294967296 + q0) * Y = q1 * Y * 4294967296 + q0 * Y := by
      rw [Nat.add_mul, Nat.mul_right_comm]
    have b : N * S = (u * 4294967296 + un1) * 4294967296 + un0 := by omega
    have c : (q1 * Y + m1) * 4294967296 + un0 = q1 * Y * 4294967296 + (m1 * 4294967296 + un0) := by rw [Nat.add_mul, Nat.add_assoc]
    rw [b, e1, c, e0, a, Nat.add_assoc]
  have hd : N * S = (q1 * 4294967296 + q0) * y * S + m0 := by rw [h, hYe, Nat.mul_assoc]
  have hmS : m0 % S = 0 := by
    have := congrArg (· % S) hd
    simp only [Nat.mul_mod_left, Nat.mul_add_mod_self_right] at this
    exact this.symm
  obtain ⟨t, rfl⟩ : ∃ t, m0 = t * S := ⟨m0 / S, (Nat.div_mul_cancel (Nat.dvd_of_mod_eq_zero hmS)).symm⟩
  have ht : t < y := by
    rw [hYe] at hm
    exact Nat.lt_of_mul_lt_mul_right hm
  have hN2 : N = (q1 * 4294967296 + q0) * y + t := by
    rw [← Nat.add_mul] at hd
    exact Nat.eq_of_mul_eq_mul_right hS hd
  rw [Nat.mul_div_cancel _ hS]
  constructor
  · rw [hN2, Nat.mul_comm, Nat.mul_add_div hy, Nat.div_eq_of_lt ht, Nat.add_zero]
  · rw [hN2, Nat.mul_comm, Nat.mul_add_mod, Nat.mod_eq_of_lt ht]

theorem sub_mul1 {q yn1 r u : Nat} (h1 : 1 ≤ q) (hq : q * yn1 + r = u) : (q - 1) * yn1 + (r + yn1) = u := by
  obtain ⟨p, rfl⟩ : ∃ p, q = p + 1 := ⟨q - 1, by omega⟩
  rw [Nat.add_mul, Nat.one_mul] at hq
  rw [Nat.add_sub_cancel]
  omega

/-- The shift that brings a number's highest bit to the top. -/
theorem bitLen_bounds (y : Nat) (h0 : 0 < y) (h : y < 18446744073709551616) : Lib.bitLen y ≤ 64 ∧ 1 ≤ Lib.bitLen y ∧ y < 2 ^ Lib.bitLen y ∧ 2 ^ Lib.bitLen y ≤ 2 * y := by
  have key : ∀ n y, y < n → 0 < y → y < 18446744073709551616 → 1 ≤ Lib.bitLen y ∧ y < 2 ^ Lib.bitLen y ∧ 2 ^ Lib.bitLen y ≤ 2 * y := by
    intro n
    induction n with
    | zero => intro y h; omega
    | succ n ih =>
      intro y hn h0 h
      have hh := Lib.bitLen_half y (by omega) h
      by_cases h1 : y = 1
      · subst h1; decide +kernel
      · obtain ⟨a, b, c⟩ := ih (y / 2) (by omega) (by omega) (by omega)
        rw [hh, Nat.pow_add]
        omega
  exact ⟨Lib.bitLen_le y 64 (by omega) (by omega), key (y + 1) y (by omega) h0 h⟩

theorem shift_top (y : Nat) (h0 : 0 < y) (h : y < 18446744073709551616) : 64 - Lib.bitLen y < 64 ∧ y * 2 ^ (64 - Lib.bitLen y) < 18446744073709551616 ∧ 9223372036854775808 ≤ y * 2 ^ (64 - Lib.bitLen y) := by
  obtain ⟨a, b, c, d⟩ := bitLen_bounds y h0 h
  have e : 2 ^ Lib.bitLen y * 2 ^ (64 - Lib.bitLen y) = 18446744073709551616 := by
    rw [← Nat.pow_add, Nat.add_sub_cancel' a]
  have hp : 0 < 2 ^ (64 - Lib.bitLen y) := Nat.two_pow_pos _
  have c' := Nat.mul_lt_mul_of_pos_right c hp
  have d' := Nat.mul_le_mul_right (2 ^ (64 - Lib.bitLen y)) d
  rw [Nat.mul_assoc] at d'
  omega

end K
end Go.Proofs.Ytklajpadnbeplaa

namespace Go.Proofs.Ytklajpadnbeplaa

/-- A fraction in its least form. -/
def frI (n d : Int) : Int × Int := ((n.toNat / Nat.gcd n.toNat d.toNat : Nat), (d.toNat / Nat.gcd n.toNat d.toNat : Nat))
/-- Of the ways u (from A to B) and v (from A to the point): the line's distance, the edge's, the side. -/
def lineV (u0 u1 v0 v1 : Int) : Int × Int := if u0 = 0 ∧ u1 = 0 then (v0 * v0 + v1 * v1, 1) else frI ((u0 * v1 - u1 * v0) * (u0 * v1 - u1 * v0)) (u0 * u0 + u1 * u1)
def squareV (u0 u1 v0 v1 : Int) : Int × Int :=
  if u0 * v0 + u1 * v1 ≤ 0 then (v0 * v0 + v1 * v1, 1)
  else if u0 * u0 + u1 * u1 ≤ u0 * v0 + u1 * v1 then ((v0 - u0) * (v0 - u0) + (v1 - u1) * (v1 - u1), 1)
  else lineV u0 u1 v0 v1
def sideV (u0 u1 v0 v1 : Int) : Int := if 0 < u0 * v1 - u1 * v0 then 1 else if u0 * v1 - u1 * v0 < 0 then -1 else 0

theorem mulB {a b : Int} {M N : Nat} (ha : a.natAbs ≤ M) (hb : b.natAbs ≤ N) : (a * b).natAbs ≤ M * N := by
  rw [Int.natAbs_mul]; exact Nat.mul_le_mul ha hb
theorem sqNN (a : Int) : 0 ≤ a * a := by
  rcases Int.le_total 0 a with h | h
  · exact Int.mul_nonneg h h
  · have := Int.mul_nonneg (show 0 ≤ -a by omega) (show 0 ≤ -a by omega); rwa [Int.neg_mul_neg] at this
theorem sq0 {a : Int} (h : a * a = 0) : a = 0 := by rcases Int.mul_eq_zero.1 h with h | h <;> exact h
theorem long_pos {u0 u1 : Int} (h : ¬ (u0 = 0 ∧ u1 = 0)) : 0 < u0 * u0 + u1 * u1 := by
  have h0 := sqNN u0
  have h1 := sqNN u1
  rcases Int.lt_or_le 0 (u0 * u0 + u1 * u1) with g | g
  · exact g
  · exact absurd ⟨sq0 (by omega), sq0 (by omega)⟩ h

/-- From the other end. -/
theorem squareV_back (u0 u1 v0 v1 : Int) : squareV (-u0) (-u1) (v0 - u0) (v1 - u1) = squareV u0 u1 v0 v1 := by
  have e1 : -u0 * (v0 - u0) + -u1 * (v1 - u1) = (u0 * u0 + u1 * u1) - (u0 * v0 + u1 * v1) := by simp only [Int.mul_sub, Int.neg_mul]; omega
  have e2 : -u0 * -u0 + -u1 * -u1 = u0 * u0 + u1 * u1 := by rw [Int.neg_mul_neg, Int.neg_mul_neg]
  have e3 : v0 - u0 - -u0 = v0 := by omega
  have e4 : v1 - u1 - -u1 = v1 := by omega
  have e5 : -u0 * (v1 - u1) - -u1 * (v0 - u0) = -(u0 * v1 - u1 * v0) := by
    have := Int.mul_comm u0 u1
    simp only [Int.mul_sub, Int.neg_mul]; omega
  have h0 := sqNN u0
  have h1 := sqNN u1
  unfold squareV lineV
  rw [e1, e2, e3, e4, e5, Int.neg_mul_neg]
  by_cases hf : u0 * v0 + u1 * v1 ≤ 0
  · rw [if_pos hf]
    by_cases hL : u0 * u0 + u1 * u1 - (u0 * v0 + u1 * v1) ≤ 0
    · rw [if_pos hL]
      have z0 : u0 = 0 := sq0 (by omega)
      have z1 : u1 = 0 := sq0 (by omega)
      rw [z0, z1, Int.sub_zero, Int.sub_zero]
    · rw [if_neg hL, if_pos (by omega)]
  · rw [if_neg hf]
    by_cases hL : u0 * u0 + u1 * u1 ≤ u0 * v0 + u1 * v1
    · rw [if_pos hL, if_pos (by omega)]
    · rw [if_neg hL, if_neg (by omega), if_neg (by omega)]
      have c : (-u0 = 0 ∧ -u1 = 0) ↔ (u0 = 0 ∧ u1 = 0) := by omega
      by_cases hu : u0 = 0 ∧ u1 = 0
      · exfalso; rw [hu.1, hu.2] at hf; simp at hf
      · rw [if_neg hu, if_neg (fun k => hu (c.1 k))]

/-- Turned by a quarter. -/
theorem squareV_turn (u0 u1 v0 v1 : Int) : squareV (-u1) u0 (-v1) v0 = squareV u0 u1 v0 v1 := by
  have e1 : -u1 * -v1 + u0 * v0 = u0 * v0 + u1 * v1 := by rw [Int.neg_mul_neg]; omega
  have e2 : -u1 * -u1 + u0 * u0 = u0 * u0 + u1 * u1 := by rw [Int.neg_mul_neg]; omega
  have e3 : -v1 * -v1 + v0 * v0 = v0 * v0 + v1 * v1 := by rw [Int.neg_mul_neg]; omega
  have e4 : (-v1 - -u1) * (-v1 - -u1) + (v0 - u0) * (v0 - u0) = (v0 - u0) * (v0 - u0) + (v1 - u1) * (v1 - u1) := by
    have : -v1 - -u1 = -(v1 - u1) := by omega
    rw [this, Int.neg_mul_neg]; omega
  have e5 : -u1 * v0 - u0 * -v1 = u0 * v1 - u1 * v0 := by rw [Int.neg_mul, Int.mul_neg]; omega
  have c : (-u1 = 0 ∧ u0 = 0) ↔ (u0 = 0 ∧ u1 = 0) := by omega
  unfold squareV lineV
  rw [e1, e2, e3, e4, e5]
  by_cases hu : u0 = 0 ∧ u1 = 0
  · rw [if_pos hu, if_pos (c.2 hu)]
  · rw [if_neg hu, if_neg (fun k => hu (c.1 k))]

theorem squareV_first (u0 u1 : Int) : squareV u0 u1 0 0 = (0, 1) := by unfold squareV; simp
theorem squareV_last (u0 u1 : Int) : squareV u0 u1 u0 u1 = (0, 1) := by
  unfold squareV
  have h0 := sqNN u0
  have h1 := sqNN u1
  by_cases h : u0 * u0 + u1 * u1 ≤ 0
  · rw [if_pos h]
    have : u0 * u0 + u1 * u1 = 0 := by omega
    rw [this]
  · rw [if_neg h, if_pos (Int.le_refl _)]; simp

end Go.Proofs.Ytklajpadnbeplaa

namespace Go.Proofs.Ytklajpadnbeplaa

theorem trunc_facts (u k : Int) (hk : 0 ≤ k) (hk2 : k ≤ 255) : ∃ r : Int, u * k = 255 * (u * k).tdiv 255 + r ∧ (-254 ≤ r ∧ r ≤ 254) ∧ (0 ≤ u → 0 ≤ (u * k).tdiv 255 ∧ (u * k).tdiv 255 ≤ u) ∧ (u ≤ 0 → u ≤ (u * k).tdiv 255 ∧ (u * k).tdiv 255 ≤ 0) := by
  rcases Int.le_total 0 u with h | h
  · have h1 : 0 ≤ u * k := Int.mul_nonneg h hk
    have h2 : u * k ≤ u * 255 := Int.mul_le_mul_of_nonneg_left hk2 h
    rw [Int.tdiv_eq_ediv_of_nonneg h1]
    refine ⟨u * k - 255 * (u * k / 255), by omega, by omega, fun _ => by omega, fun h' => ?_⟩
    have : u = 0 := by omega
    subst this
    simp
  · have h1 : 0 ≤ -u * k := Int.mul_nonneg (by omega) hk
    have h2 : -u * k ≤ -u * 255 := Int.mul_le_mul_of_nonneg_left hk2 (by omega)
    have e : u * k = -(-u * k) := by rw [Int.neg_mul, Int.neg_neg]
    have e2 : (u * k).tdiv 255 = -(-u * k / 255) := by rw [e, Int.neg_tdiv, Int.tdiv_eq_ediv_of_nonneg h1]
    rw [e2]
    refine ⟨u * k + 255 * (-u * k / 255), by omega, by omega, fun h' => ?_, fun _ => by omega⟩
    have : u = 0 := by omega
    subst this
    simp

theorem same_sign {u t : Int} (h1 : 0 ≤ u → 0 ≤ t ∧ t ≤ u) (h2 : u ≤ 0 → u ≤ t ∧ t ≤ 0) : 0 ≤ u * t ∧ 0 ≤ u * (u - t) ∧ (u * t = 0 → t = 0) ∧ (u * (u - t) = 0 → t = u) := by
  rcases Int.le_total 0 u with h | h
  · obtain ⟨a, b⟩ := h1 h
    refine ⟨Int.mul_nonneg h a, Int.mul_nonneg h (by omega), fun k => ?_, fun k => ?_⟩
    · rcases Int.mul_eq_zero.1 k with k | k <;> omega
    · rcases Int.mul_eq_zero.1 k with k | k <;> omega
  · obtain ⟨a, b⟩ := h2 h
    have p := Int.mul_nonneg (show 0 ≤ -u by omega) (show 0 ≤ -t by omega)
    have q := Int.mul_nonneg (show 0 ≤ -u by omega) (show 0 ≤ -(u - t) by omega)
    rw [Int.neg_mul_neg] at p q
    refine ⟨p, q, fun k => ?_, fun k => ?_⟩
    · rcases Int.mul_eq_zero.1 k with k | k <;> omega
    · rcases Int.mul_eq_zero.1 k with k | k <;> omega

theorem cross_small {u0 u1 t0 t1 k r0 r1 : Int} (e0 : u0 * k = 255 * t0 + r0) (e1 : u1 * k = 255 * t1 + r1) (h0 : -254 ≤ r0 ∧ r0 ≤ 254) (h1 : -254 ≤ r1 ∧ r1 ≤ 254) :
    (u0 * t1 - u1 * t0) * (u0 * t1 - u1 * t0) ≤ 2 * (u0 * u0 + u1 * u1) := by
  have c : 255 * (u0 * t1 - u1 * t0) = u1 * r0 - u0 * r1 := by
    have a0 : u1 * (u0 * k) = 255 * (u1 * t0) + u1 * r0 := by rw [e0, Int.mul_add, Int.mul_left_comm]
    have a1 : u0 * (u1 * k) = 255 * (u0 * t1) + u0 * r1 := by rw [e1, Int.mul_add, Int.mul_left_comm]
    have : u1 * (u0 * k) = u0 * (u1 * k) := Int.mul_left_comm _ _ _
    omega
  have m0 := mulB (show u1.natAbs ≤ u1.natAbs by omega) (show r0.natAbs ≤ 254 by omega)
  have m1 := mulB (show u0.natAbs ≤ u0.natAbs by omega) (show r1.natAbs ≤ 254 by omega)
  have b : (u0 * t1 - u1 * t0).natAbs ≤ u0.natAbs + u1.natAbs := by omega
  have s := mulB b b
  have e : (u0 * t1 - u1 * t0) * (u0 * t1 - u1 * t0) = (((u0 * t1 - u1 * t0) * (u0 * t1 - u1 * t0)).natAbs : Int) := (Int.natAbs_of_nonneg (sqNN _)).symm
  have f0 : u0 * u0 = ((u0.natAbs * u0.natAbs : Nat) : Int) := Int.natAbs_mul_self.symm
  have f1 : u1 * u1 = ((u1.natAbs * u1.natAbs : Nat) : Int) := Int.natAbs_mul_self.symm
  rw [e, f0, f1]
  generalize u0.natAbs = A at *
  generalize u1.natAbs = B at *
  have d := sqNN ((A : Int) - B)
  have d2 : ((A : Int) - B) * ((A : Int) - B) = (A * A : Nat) + (B * B : Nat) - 2 * (A * B : Nat) := by
    simp only [Int.sub_mul, Int.mul_sub, Int.natCast_mul]
    have := Int.mul_comm (A : Int) B
    omega
  have d3 : (A + B) * (A + B) = A * A + 2 * (A * B) + B * B := by
    simp only [Nat.add_mul, Nat.mul_add]
    have := Nat.mul_comm A B
    omega
  rw [d3] at s
  omega

theorem zero_near (u0 u1 k : Int) (hk : 0 ≤ k) (hk2 : k ≤ 255) (hu0 : u0.natAbs ≤ 16384) (hu1 : u1.natAbs ≤ 16384) :
    ∃ n d : Nat, squareV u0 u1 ((u0 * k).tdiv 255) ((u1 * k).tdiv 255) = ((n : Int), (d : Int)) ∧ n ≤ 2 * d ∧ d < 1073741824 := by
  obtain ⟨r0, e0, h0, p0, q0⟩ := trunc_facts u0 k hk hk2
  obtain ⟨r1, e1, h1, p1, q1⟩ := trunc_facts u1 k hk hk2
  obtain ⟨a0, b0, c0, d0⟩ := same_sign p0 q0
  obtain ⟨a1, b1, c1, d1⟩ := same_sign p1 q1
  have cs := cross_small e0 e1 h0 h1
  generalize (u0 * k).tdiv 255 = t0 at *
  generalize (u1 * k).tdiv 255 = t1 at *
  have g0 := mulB hu0 hu0
  have g1 := mulB hu1 hu1
  unfold squareV
  by_cases hf : u0 * t0 + u1 * t1 ≤ 0
  · rw [if_pos hf]
    have z0 := c0 (by omega)
    have z1 := c1 (by omega)
    subst z0 z1
    exact ⟨0, 1, rfl, by omega, by omega⟩
  · rw [if_neg hf]
    by_cases hL : u0 * u0 + u1 * u1 ≤ u0 * t0 + u1 * t1
    · rw [if_pos hL]
      rw [Int.mul_sub] at b0 b1 d0 d1
      have z0 := d0 (by omega)
      have z1 := d1 (by omega)
      subst z0 z1
      exact ⟨0, 1, by simp, by omega, by omega⟩
    · rw [if_neg hL]
      unfold lineV
      have hu : ¬ (u0 = 0 ∧ u1 = 0) := fun h => by rw [h.1, h.2] at hf; simp at hf
      rw [if_neg hu]
      refine ⟨_, _, rfl, ?_, ?_⟩
      · have n1 := sqNN (u0 * t1 - u1 * t0)
        generalize (u0 * t1 - u1 * t0) * (u0 * t1 - u1 * t0) = N at *
        have n2 := long_pos hu
        generalize u0 * u0 + u1 * u1 = D at *
        have hd := Nat.gcd_dvd_right N.toNat D.toNat
        rw [← Nat.mul_div_assoc 2 hd]
        exact Nat.div_le_div_right (by omega)
      · refine Nat.lt_of_le_of_lt (Nat.div_le_self _ _) ?_
        omega

end Go.Proofs.Ytklajpadnbeplaa

namespace Go.Proofs.Ytklajpadnbeplaa

/-- A point of an outline. -/
structure Vtx where
  x : Int
  y : Int
  on : Bool

/-- P4.1. -/
def badV (v : Vtx) : Bool := decide (255 < v.x ∨ 255 < v.y ∨ v.x < -255 ∨ v.y < -255)
def checkC : Nat → List (List Vtx) → Nat
  | _, [] => 0
  | n, c :: cs => if 64 < n + c.length then 3 else if c = [] then 2 else if c.any badV = true then 4 else checkC (n + c.length) cs
def checkS (o : List (List Vtx)) : Nat := if 8 < o.length then 3 else checkC 0 o

/-- P4.2. -/
def far (d : Int) : Bool := decide (d < -128 ∨ 127 < d)
def flagV (dx dy : Int) (on : Bool) : Nat := (if on = true then 1 else 0) + (if far dx = true then 2 else 0) + (if far dy = true then 4 else 0)
def loB (d : Int) : Nat := (d % 256).toNat
def hiB (d : Int) : Nat := (d / 256 % 256).toNat
def stepB (d : Int) : List Nat := if far d = true then [hiB d, loB d] else [loB d]
def flagsV : Int → Int → List Vtx → List Nat
  | _, _, [] => []
  | x, y, v :: vs => flagV (v.x - x) (v.y - y) v.on :: flagsV v.x v.y vs
def stepsV : Int → Int → List Vtx → List Nat
  | _, _, [] => []
  | x, y, v :: vs => stepB (v.x - x) ++ (stepB (v.y - y) ++ stepsV v.x v.y vs)
/-- How many more of the same stand ahead. -/
def runLen (f : Nat) : List Nat → Nat
  | [] => 0
  | g :: l => if g = f then runLen f l + 1 else 0
def rleN : Nat → List Nat → List Nat
  | 0, _ => []
  | _ + 1, [] => []
  | k + 1, f :: l => if runLen f l < 2 then f :: rleN k l else (f + 8) :: runLen f l :: rleN k (l.drop (runLen f l))
def rle (l : List Nat) : List Nat := rleN l.length l
def encodeS (o : List (List Vtx)) : List Nat := o.length :: (o.map List.length ++ (rle (flagsV 0 0 o.flatten) ++ stepsV 0 0 o.flatten))

/-- P4.3. -/
def int8 (b : Nat) : Int := if b < 128 then b else (b : Int) - 256
def stepS : Bool → List Nat → Option (Int × List Nat)
  | false, a :: r => some (int8 a, r)
  | true, a :: b :: r => some (256 * int8 a + b, r)
  | _, _ => none
def flagsS (n : Nat) : Nat → List Nat → Except Nat (List Nat × List Nat)
  | c, [] => if n ≤ c then .ok ([], []) else .error 1
  | c, [f] => if n ≤ c then .ok ([], [f]) else if f / 8 % 2 = 1 then .error 1 else if 15 < f ∨ n < c + 1 then .error 2 else (flagsS n (c + 1) []).map fun p => (f % 8 :: p.1, p.2)
  | c, f :: t :: r =>
    if n ≤ c then .ok ([], f :: t :: r)
    else if f / 8 % 2 = 1 then if 15 < f ∨ n < c + (t + 1) then .error 2 else (flagsS n (c + (t + 1)) r).map fun p => (List.replicate (t + 1) (f % 8) ++ p.1, p.2)
    else if 15 < f ∨ n < c + 1 then .error 2 else (flagsS n (c + 1) (t :: r)).map fun p => (f % 8 :: p.1, p.2)
def pointsS : Int → Int → List Nat → List Nat → Option (List Vtx × List Nat)
  | _, _, [], b => some ([], b)
  | x, y, f :: fs, b =>
    match stepS (decide (f / 2 % 2 = 1)) b with
    | none => none
    | some (dx, b1) =>
      match stepS (decide (f / 4 % 2 = 1)) b1 with
      | none => none
      | some (dy, b2) =>
        match pointsS (x + dx) (y + dy) fs b2 with
        | none => none
        | some (vs, b3) => some (⟨x + dx, y + dy, decide (f % 2 = 1)⟩ :: vs, b3)
def splitS : List Nat → List Vtx → List (List Vtx)
  | [], _ => []
  | s :: ss, vs => vs.take s :: splitS ss (vs.drop s)
def parseT (ss X : List Nat) : List (List Vtx) × Nat :=
  match flagsS ss.sum 0 X with
  | .error e => ([], e)
  | .ok (fs, b) =>
    match pointsS 0 0 fs b with
    | none => ([], 1)
    | some (vs, b2) => if b2 ≠ [] then ([], 2) else if checkS (splitS ss vs) ≠ 0 then ([], checkS (splitS ss vs)) else (splitS ss vs, 0)
def parseS : List Nat → List (List Vtx) × Nat
  | [] => ([], 1)
  | k :: r => if r.length < k then ([], 1) else if 64 < (r.take k).sum ∨ 8 < (r.take k).length then ([], 3) else parseT (r.take k) (r.drop k)
theorem parseS_cons (k : Nat) (r : List Nat) : parseS (k :: r) = if r.length < k then ([], 1) else if 64 < (r.take k).sum ∨ 8 < (r.take k).length then ([], 3) else parseT (r.take k) (r.drop k) := rfl

theorem loB_lt (d : Int) : loB d < 256 := by unfold loB; omega
theorem hiB_lt (d : Int) : hiB d < 256 := by unfold hiB; omega
theorem step_round (d : Int) (h : -32768 ≤ d ∧ d ≤ 32767) (r : List Nat) : stepS (far d) (stepB d ++ r) = some (d, r) := by
  unfold stepB
  cases hf : far d
  · have hf' : ¬ (d < -128 ∨ 127 < d) := by simpa [far] using hf
    simp only [Bool.false_eq_true, if_false, List.cons_append, List.nil_append, stepS]
    congr 2
    unfold int8 loB
    split <;> omega
  · simp only [if_true, List.cons_append, List.nil_append, stepS]
    congr 2
    unfold int8 hiB loB
    split <;> omega

theorem flagV_lt (dx dy : Int) (on : Bool) : flagV dx dy on < 8 := by
  unfold flagV
  split <;> split <;> split <;> omega
theorem flagV_x (dx dy : Int) (on : Bool) : decide (flagV dx dy on / 2 % 2 = 1) = far dx := by
  unfold flagV
  cases on <;> cases far dx <;> cases far dy <;> rfl
theorem flagV_y (dx dy : Int) (on : Bool) : decide (flagV dx dy on / 4 % 2 = 1) = far dy := by
  unfold flagV
  cases on <;> cases far dx <;> cases far dy <;> rfl
theorem flagV_on (dx dy : Int) (on : Bool) : decide (flagV dx dy on % 2 = 1) = on := by
  unfold flagV
  cases on <;> cases far dx <;> cases far dy <;> rfl
theorem flagsV_length : ∀ (vs : List Vtx) (x y : Int), (flagsV x y vs).length = vs.length
  | [], _, _ => rfl
  | v :: vs, _, _ => by simp [flagsV, flagsV_length vs]
theorem flagsV_lt : ∀ (vs : List Vtx) (x y : Int), ∀ f ∈ flagsV x y vs, f < 8
  | [], _, _, f, h => by cases h
  | v :: vs, x, y, f, h => by
    rcases List.mem_cons.1 h with rfl | h
    · exact flagV_lt _ _ _
    · exact flagsV_lt vs _ _ f h

/-- Points within the bounds, and the bounds of the steps between them. -/
def inV (v : Vtx) : Prop := (-255 ≤ v.x ∧ v.x ≤ 255) ∧ -255 ≤ v.y ∧ v.y ≤ 255
theorem badV_in {v : Vtx} (h : badV v = false) : inV v := by
  have : ¬ (255 < v.x ∨ 255 < v.y ∨ v.x < -255 ∨ v.y < -255) := by simpa [badV] using h
  exact ⟨⟨by omega, by omega⟩, by omega, by omega⟩

theorem points_round : ∀ (vs : List Vtx) (x y : Int) (_ : -255 ≤ x ∧ x ≤ 255) (_ : -255 ≤ y ∧ y ≤ 255) (_ : ∀ v ∈ vs, inV v) (r : List Nat), pointsS x y (flagsV x y vs) (stepsV x y vs ++ r) = some (vs, r)
  | [], _, _, _, _, _, _ => rfl
  | v :: vs, x, y, hx, hy, hv, r => by
    have h0 := hv v (List.mem_cons_self ..)
    have ih := points_round vs v.x v.y h0.1 h0.2 (fun u hu => hv u (List.mem_cons_of_mem _ hu)) r
    have e1 : x + (v.x - x) = v.x := by omega
    have e2 : y + (v.y - y) = v.y := by omega
    obtain ⟨⟨a, b⟩, c, d⟩ := h0
    simp only [flagsV, stepsV, pointsS, flagV_x, flagV_y, flagV_on, List.append_assoc]
    rw [step_round _ (by omega)]
    simp only []
    rw [step_round _ (by omega)]
    simp only [e1, e2, ih]

theorem runLen_le (f : Nat) : ∀ l, runLen f l ≤ l.length
  | [] => Nat.le_refl _
  | g :: l => by
    unfold runLen
    split
    · have := runLen_le f l; simp; omega
    · simp
theorem runLen_take (f : Nat) : ∀ l, l = List.replicate (runLen f l) f ++ l.drop (runLen f l)
  | [] => rfl
  | g :: l => by
    unfold runLen
    split
    · next h =>
      subst h
      have := runLen_take g l
      rw [List.replicate_succ, List.drop_succ_cons, List.cons_append, ← this]
    · simp

theorem flagsS_done (n c : Nat) (h : n ≤ c) (b : List Nat) : flagsS n c b = .ok ([], b) := by
  rcases b with _ | ⟨f, _ | ⟨t, r⟩⟩ <;> simp [flagsS, h]
theorem flagsS_one (n c f : Nat) (h : c < n) (hf : f < 8) (b : List Nat) : flagsS n c (f :: b) = (flagsS n (c + 1) b).map fun p => (f :: p.1, p.2) := by
  have h1 : ¬ n ≤ c := by omega
  have h2 : ¬ f / 8 % 2 = 1 := by omega
  have h3 : ¬ (15 < f ∨ n < c + 1) := by omega
  have h4 : f % 8 = f := by omega
  rcases b with _ | ⟨t, r⟩ <;> simp only [flagsS, if_neg h1, if_neg h2, if_neg h3, h4]
theorem flagsS_many (n c f t : Nat) (h : c < n) (hf : f < 8) (hn : c + (t + 1) ≤ n) (b : List Nat) : flagsS n c ((f + 8) :: t :: b) = (flagsS n (c + (t + 1)) b).map fun p => (List.replicate (t + 1) f ++ p.1, p.2) := by
  have h1 : ¬ n ≤ c := by omega
  have h2 : (f + 8) / 8 % 2 = 1 := by omega
  have h3 : ¬ (15 < f + 8 ∨ n < c + (t + 1)) := by omega
  have h4 : (f + 8) % 8 = f := by omega
  simp only [flagsS, if_neg h1, if_pos h2, if_neg h3, h4]

theorem flags_round : ∀ (k : Nat) (fs : List Nat) (c n : Nat) (_ : fs.length ≤ k) (_ : c + fs.length = n) (_ : ∀ f ∈ fs, f < 8) (r : List Nat), flagsS n c (rleN k fs ++ r) = .ok (fs, r)
  | 0, fs, c, n, hk, hn, _, r => by
    have : fs = [] := List.eq_nil_of_length_eq_zero (by omega)
    subst this
    exact flagsS_done n c (by simp at hn; omega) r
  | k + 1, [], c, n, _, hn, _, r => flagsS_done n c (by simp at hn; omega) r
  | k + 1, f :: l, c, n, hk, hn, hf, r => by
    simp only [List.length_cons] at hk hn
    have h0 := hf f (List.mem_cons_self ..)
    have hl : ∀ g ∈ l, g < 8 := fun g hg => hf g (List.mem_cons_of_mem _ hg)
    unfold rleN
    split
    · rw [List.cons_append, flagsS_one n c f (by omega) h0, flags_round k l (c + 1) n (by omega) (by omega) hl r]
      rfl
    · have h1 := runLen_le f l
      have h2 := runLen_take f l
      have h3 : (l.drop (runLen f l)).length = l.length - runLen f l := List.length_drop ..
      rw [List.cons_append, List.cons_append, flagsS_many n c f _ (by omega) h0 (by omega), flags_round k _ _ n (by omega) (by omega) (fun g hg => hl g (List.mem_of_mem_drop hg)) r]
      show Except.ok (List.replicate (runLen f l + 1) f ++ l.drop (runLen f l), r) = _
      rw [List.replicate_succ, List.cons_append, ← h2]

end Go.Proofs.Ytklajpadnbeplaa

namespace Go.Proofs.Ytklajpadnbeplaa

theorem checkC_zero : ∀ (cs : List (List Vtx)) (n : Nat), checkC n cs = 0 → n ≤ 64 → n + cs.flatten.length ≤ 64 ∧ (∀ c ∈ cs, c ≠ []) ∧ ∀ v ∈ cs.flatten, inV v
  | [], n, _, hn => ⟨by simpa using hn, (fun _ h => nomatch h), (fun _ h => nomatch h)⟩
  | c :: cs, n, h, _ => by
    unfold checkC at h
    split at h
    · cases h
    · split at h
      · cases h
      · split at h
        · cases h
        · next h1 h2 h3 =>
          obtain ⟨a, b, d⟩ := checkC_zero cs (n + c.length) h (by omega)
          refine ⟨by simp only [List.flatten_cons, List.length_append]; omega, fun e he => ?_, fun v hv => ?_⟩
          · rcases List.mem_cons.1 he with rfl | he
            · exact h2
            · exact b e he
          · rw [List.flatten_cons] at hv
            rcases List.mem_append.1 hv with hv | hv
            · refine badV_in ?_
              rw [Bool.not_eq_true] at h3
              exact Bool.eq_false_iff.2 fun k => absurd (List.any_eq_true.2 ⟨v, hv, k⟩) (by rw [h3]; decide)
            · exact d v hv
theorem checkS_zero {o : List (List Vtx)} (h : checkS o = 0) : o.length ≤ 8 ∧ o.flatten.length ≤ 64 ∧ (∀ c ∈ o, c ≠ []) ∧ ∀ v ∈ o.flatten, inV v := by
  unfold checkS at h
  split at h
  · cases h
  · next h1 =>
    obtain ⟨a, b, c⟩ := checkC_zero o 0 h (by omega)
    exact ⟨by omega, by omega, b, c⟩

theorem split_flatten : ∀ o : List (List Vtx), splitS (o.map List.length) o.flatten = o
  | [] => rfl
  | c :: cs => by
    simp only [List.map_cons, List.flatten_cons, splitS]
    rw [List.take_left, List.drop_left, split_flatten cs]

theorem flags_all (fs : List Nat) (h : ∀ f ∈ fs, f < 8) (r : List Nat) : flagsS fs.length 0 (rle fs ++ r) = .ok (fs, r) :=
  flags_round fs.length fs 0 fs.length (Nat.le_refl _) (by omega) h r

theorem parse_sizes (o : List (List Vtx)) (X : List Nat) (h1 : o.length ≤ 8) (h2 : o.flatten.length ≤ 64) :
    parseS (o.length :: (o.map List.length ++ X)) = parseT (o.map List.length) X := by
  have e1 : (o.map List.length ++ X).take o.length = o.map List.length := by rw [← List.length_map (as := o) List.length, List.take_left]
  have e2 : (o.map List.length ++ X).drop o.length = X := by rw [← List.length_map (as := o) List.length, List.drop_left]
  have e3 : (o.map List.length).sum = o.flatten.length := List.length_flatten.symm
  have e4 : ¬ (o.map List.length ++ X).length < o.length := by simp
  have e5 : ¬ (64 < o.flatten.length ∨ 8 < (o.map List.length).length) := by simp only [List.length_map]; omega
  rw [parseS_cons, e1, e2, e3, if_neg e4, if_neg e5]

theorem parse_encode (o : List (List Vtx)) (h : checkS o = 0) : parseS (encodeS o) = (o, 0) := by
  obtain ⟨h1, h2, _, h4⟩ := checkS_zero h
  have f := flags_all (flagsV 0 0 o.flatten) (flagsV_lt _ _ _) (stepsV 0 0 o.flatten)
  rw [flagsV_length] at f
  have p := points_round o.flatten 0 0 (by omega) (by omega) h4 []
  rw [List.append_nil] at p
  have e3 : (o.map List.length).sum = o.flatten.length := List.length_flatten.symm
  unfold encodeS
  rw [parse_sizes o _ h1 h2]
  unfold parseT
  rw [e3, f]
  simp only [p, split_flatten, h]
  simp

theorem flagsS_nil (n c : Nat) (h : c < n) : flagsS n c [] = .error 1 := by simp [flagsS]; omega
theorem flags_cut : ∀ (k : Nat) (fs : List Nat) (c n : Nat) (_ : fs.length ≤ k) (_ : c + fs.length = n) (_ : ∀ f ∈ fs, f < 8) (m : Nat) (_ : m < (rleN k fs).length), flagsS n c ((rleN k fs).take m) = .error 1
  | 0, _, _, _, _, _, _, m, hm => by simp [rleN] at hm
  | _ + 1, [], _, _, _, _, _, m, hm => by simp [rleN] at hm
  | k + 1, f :: l, c, n, hk, hn, hf, m, hm => by
    simp only [List.length_cons] at hk hn
    have h0 := hf f (List.mem_cons_self ..)
    have hl : ∀ g ∈ l, g < 8 := fun g hg => hf g (List.mem_cons_of_mem _ hg)
    unfold rleN at hm ⊢
    split at hm
    · next hr =>
      rw [if_pos hr]
      rcases m with _ | m
      · exact flagsS_nil n c (by omega)
      · rw [List.take_succ_cons, flagsS_one n c f (by omega) h0, flags_cut k l (c + 1) n (by omega) (by omega) hl m (by simpa using hm)]
        rfl
    · next hr =>
      rw [if_neg hr]
      have h1 := runLen_le f l
      have h3 : (l.drop (runLen f l)).length = l.length - runLen f l := List.length_drop ..
      rcases m with _ | _ | m
      · exact flagsS_nil n c (by omega)
      · have a1 : ¬ n ≤ c := by omega
        have a2 : (f + 8) / 8 % 2 = 1 := by omega
        simp only [List.take_succ_cons, List.take_zero, flagsS, if_neg a1, if_pos a2]
      · rw [List.take_succ_cons, List.take_succ_cons, flagsS_many n c f _ (by omega) h0 (by omega), flags_cut k _ _ n (by omega) (by omega) (fun g hg => hl g (List.mem_of_mem_drop hg)) m (by simpa using hm)]
        rfl

theorem step_cut (d : Int) (q : Nat) (h : q < (stepB d).length) : stepS (far d) ((stepB d).take q) = none := by
  unfold stepB at h ⊢
  cases hf : far d
  · simp only [hf, Bool.false_eq_true, if_false, List.length_cons, List.length_nil] at h ⊢
    obtain rfl : q = 0 := by omega
    rfl
  · simp only [hf, if_true, List.length_cons, List.length_nil] at h ⊢
    rcases (by omega : q = 0 ∨ q = 1) with rfl | rfl <;> rfl

theorem points_cut : ∀ (vs : List Vtx) (x y : Int) (_ : -255 ≤ x ∧ x ≤ 255) (_ : -255 ≤ y ∧ y ≤ 255) (_ : ∀ v ∈ vs, inV v) (q : Nat) (_ : q < (stepsV x y vs).length), pointsS x y (flagsV x y vs) ((stepsV x y vs).take q) = none
  | [], _, _, _, _, _, q, hq => by simp [stepsV] at hq
  | v :: vs, x, y, hx, hy, hv, q, hq => by
    have h0 := hv v (List.mem_cons_self ..)
    have e1 : x + (v.x - x) = v.x := by omega
    have e2 : y + (v.y - y) = v.y := by omega
    have hb := h0
    obtain ⟨⟨a, b⟩, c, d⟩ := h0
    simp only [stepsV, List.length_append] at hq
    simp only [flagsV, stepsV, pointsS, flagV_x, flagV_y, flagV_on]
    by_cases g1 : q < (stepB (v.x - x)).length
    · rw [List.take_append_of_le_length (by omega), step_cut _ _ g1]
    · obtain ⟨p, rfl⟩ := Nat.exists_eq_add_of_le (Nat.le_of_not_lt g1)
      rw [List.take_length_add_append, step_round _ (by omega)]
      simp only []
      by_cases g2 : p < (stepB (v.y - y)).length
      · rw [List.take_append_of_le_length (by omega), step_cut _ _ g2]
      · obtain ⟨s, rfl⟩ := Nat.exists_eq_add_of_le (Nat.le_of_not_lt g2)
        rw [List.take_length_add_append, step_round _ (by omega)]
        simp only [e1, e2]
        rw [points_cut vs v.x v.y hb.1 hb.2 (fun u hu => hv u (List.mem_cons_of_mem _ hu)) s (by omega)]

theorem parse_cut (o : List (List Vtx)) (h : checkS o = 0) (c : Nat) (hc : c < (encodeS o).length) : parseS ((encodeS o).take c) = ([], 1) := by
  obtain ⟨h1, h2, _, h4⟩ := checkS_zero h
  have hl := flagsV_lt o.flatten 0 0
  have hn := flagsV_length o.flatten 0 0
  unfold encodeS at hc ⊢
  rcases c with _ | j
  · rfl
  · simp only [List.length_cons, List.length_append, List.length_map] at hc
    rw [List.take_succ_cons]
    by_cases g : j < o.length
    · have g1 : ((o.map List.length ++ (rle (flagsV 0 0 o.flatten) ++ stepsV 0 0 o.flatten)).take j).length < o.length := by rw [List.length_take]; omega
      rw [parseS_cons, if_pos g1]
    · obtain ⟨m, rfl⟩ := Nat.exists_eq_add_of_le (Nat.le_of_not_lt g)
      have e : (o.map List.length ++ (rle (flagsV 0 0 o.flatten) ++ stepsV 0 0 o.flatten)).take (o.length + m) = o.map List.length ++ (rle (flagsV 0 0 o.flatten) ++ stepsV 0 0 o.flatten).take m := by
        rw [← List.length_map (as := o) List.length, List.take_length_add_append]
      have e3 : (o.map List.length).sum = o.flatten.length := List.length_flatten.symm
      rw [e, parse_sizes o _ h1 h2]
      unfold parseT
      rw [e3]
      by_cases g2 : m < (rle (flagsV 0 0 o.flatten)).length
      · have f := flags_cut (flagsV 0 0 o.flatten).length (flagsV 0 0 o.flatten) 0 (flagsV 0 0 o.flatten).length (Nat.le_refl _) (by omega) hl m g2
        rw [hn] at f
        rw [List.take_append_of_le_length (by omega)]
        unfold rle
        rw [hn, f]
      · obtain ⟨q, rfl⟩ := Nat.exists_eq_add_of_le (Nat.le_of_not_lt g2)
        have f := flags_all (flagsV 0 0 o.flatten) hl ((stepsV 0 0 o.flatten).take q)
        rw [hn] at f
        rw [List.take_length_add_append, f]
        simp only [points_cut o.flatten 0 0 (by omega) (by omega) h4 q (by omega)]

end Go.Proofs.Ytklajpadnbeplaa

namespace Go.Proofs.Ytklajpadnbeplaa

theorem exMap_ok {α β : Type} {e : Except Nat α} {f : α → β} {y : β} (h : e.map f = .ok y) : ∃ x, e = .ok x ∧ f x = y := by
  cases e with
  | error _ => cases h
  | ok x => exact ⟨x, rfl, by injection h⟩

theorem flags_len : ∀ (b : List Nat) (c n : Nat) (fs r : List Nat), c ≤ n → flagsS n c b = .ok (fs, r) → c + fs.length = n ∧ r.length ≤ b.length ∧ ∀ a ∈ r, a ∈ b
  | [], c, n, fs, r, hc, h => by
    unfold flagsS at h
    split at h
    · injection h with h; injection h with h1 h2; subst h1 h2; exact ⟨by simp; omega, Nat.le_refl _, fun _ h => h⟩
    · cases h
  | [f], c, n, fs, r, hc, h => by
    unfold flagsS at h
    split at h
    · injection h with h; injection h with h1 h2; subst h1 h2; exact ⟨by simp; omega, Nat.le_refl _, fun _ h => h⟩
    · split at h
      · cases h
      · split at h
        · cases h
        · obtain ⟨⟨gs, s⟩, h1, h2⟩ := exMap_ok h
          injection h2 with h2 h3
          subst h2 h3
          obtain ⟨a, b, d⟩ := flags_len [] (c + 1) n gs s (by omega) h1
          exact ⟨by simp; omega, by simp only [List.length_nil, List.length_cons] at b ⊢; omega, fun x hx => by have := d x hx; cases this⟩
  | f :: t :: q, c, n, fs, r, hc, h => by
    unfold flagsS at h
    split at h
    · injection h with h; injection h with h1 h2; subst h1 h2; exact ⟨by simp; omega, Nat.le_refl _, fun _ h => h⟩
    · split at h
      · split at h
        · cases h
        · obtain ⟨⟨gs, s⟩, h1, h2⟩ := exMap_ok h
          injection h2 with h2 h3
          subst h2 h3
          obtain ⟨a, b, d⟩ := flags_len q (c + (t + 1)) n gs s (by omega) h1
          exact ⟨by simp; omega, by simp; omega, fun x hx => List.mem_cons_of_mem _ (List.mem_cons_of_mem _ (d x hx))⟩
      · split at h
        · cases h
        · obtain ⟨⟨gs, s⟩, h1, h2⟩ := exMap_ok h
          injection h2 with h2 h3
          subst h2 h3
          obtain ⟨a, b, d⟩ := flags_len (t :: q) (c + 1) n gs s (by omega) h1
          exact ⟨by simp; omega, by simp at b ⊢; omega, fun x hx => List.mem_cons_of_mem _ (d x hx)⟩

theorem exMap_err {α β : Type} {e : Except Nat α} {f : α → β} {k : Nat} (h : e.map f = .error k) : e = .error k := by
  cases e with
  | error _ => injection h with h; rw [h]
  | ok x => cases h
theorem flags_err : ∀ (b : List Nat) (c n e : Nat), flagsS n c b = .error e → e = 1 ∨ e = 2
  | [], c, n, e, h => by
    unfold flagsS at h
    split at h
    · cases h
    · injection h with h; omega
  | [f], c, n, e, h => by
    unfold flagsS at h
    split at h
    · cases h
    · split at h
      · injection h with h; omega
      · split at h
        · injection h with h; omega
        · exact flags_err [] (c + 1) n e (exMap_err h)
  | f :: t :: q, c, n, e, h => by
    unfold flagsS at h
    split at h
    · cases h
    · split at h
      · split at h
        · injection h with h; omega
        · exact flags_err q _ n e (exMap_err h)
      · split at h
        · injection h with h; omega
        · exact flags_err (t :: q) _ n e (exMap_err h)

theorem stepB_le (d : Int) : (stepB d).length ≤ 2 ∧ 1 ≤ (stepB d).length := by
  unfold stepB
  split <;> simp
theorem step_len {t : Bool} {b r : List Nat} {d : Int} (hb : ∀ a ∈ b, a < 256) (h : stepS t b = some (d, r)) : (stepB d).length + r.length ≤ b.length ∧ r.length + 1 ≤ b.length ∧ ∀ a ∈ r, a ∈ b := by
  cases t
  · rcases b with _ | ⟨a, q⟩
    · cases h
    · injection h with h
      injection h with h1 h2
      subst h1 h2
      have ha := hb a (List.mem_cons_self ..)
      have hf : far (int8 a) = false := by
        unfold far int8
        split <;> simp <;> omega
      refine ⟨?_, by simp, fun x hx => List.mem_cons_of_mem _ hx⟩
      unfold stepB
      rw [hf]
      simp; omega
  · rcases b with _ | ⟨a, _ | ⟨a2, q⟩⟩
    · cases h
    · cases h
    · injection h with h
      injection h with h1 h2
      subst h1 h2
      have := stepB_le (256 * int8 a + a2)
      exact ⟨by simp; omega, by simp, fun x hx => List.mem_cons_of_mem _ (List.mem_cons_of_mem _ hx)⟩

theorem points_len : ∀ (fs : List Nat) (x y : Int) (b : List Nat) (vs : List Vtx) (r : List Nat), (∀ a ∈ b, a < 256) → pointsS x y fs b = some (vs, r) → vs.length = fs.length ∧ (stepsV x y vs).length + r.length ≤ b.length ∧ 2 * vs.length + r.length ≤ b.length
  | [], x, y, b, vs, r, _, h => by
    injection h with h
    injection h with h1 h2
    subst h1 h2
    exact ⟨rfl, by simp [stepsV], by simp⟩
  | f :: fs, x, y, b, vs, r, hb, h => by
    unfold pointsS at h
    split at h
    · cases h
    · next dx b1 e1 =>
      obtain ⟨p1, p2, p3⟩ := step_len hb e1
      have hb1 : ∀ a ∈ b1, a < 256 := fun a ha => hb a (p3 a ha)
      split at h
      · cases h
      · next dy b2 e2 =>
        obtain ⟨q1, q2, q3⟩ := step_len hb1 e2
        have hb2 : ∀ a ∈ b2, a < 256 := fun a ha => hb1 a (q3 a ha)
        split at h
        · cases h
        · next us b3 e3 =>
          injection h with h
          injection h with h1 h2
          subst h1 h2
          obtain ⟨s1, s2, s3⟩ := points_len fs (x + dx) (y + dy) b2 us b3 hb2 e3
          have g1 : x + dx - x = dx := by omega
          have g2 : y + dy - y = dy := by omega
          refine ⟨by simp [s1], ?_, by simp; omega⟩
          simp only [stepsV, g1, g2, List.length_append]
          omega

theorem split_len : ∀ (ss : List Nat) (vs : List Vtx), ss.sum = vs.length → (splitS ss vs).flatten = vs ∧ (splitS ss vs).map List.length = ss
  | [], vs, h => by
    have : vs = [] := List.eq_nil_of_length_eq_zero (by simpa using h.symm)
    subst this
    exact ⟨rfl, rfl⟩
  | s :: ss, vs, h => by
    rw [List.sum_cons] at h
    obtain ⟨a, b⟩ := split_len ss (vs.drop s) (by rw [List.length_drop]; omega)
    simp only [splitS, List.flatten_cons, List.map_cons, a, b, List.take_append_drop, List.length_take]
    exact ⟨trivial, by rw [Nat.min_eq_left (by omega)]⟩

theorem rle_len : ∀ (k : Nat) (l : List Nat), (rleN k l).length ≤ l.length
  | 0, l => by simp [rleN]
  | k + 1, [] => by simp [rleN]
  | k + 1, f :: l => by
    unfold rleN
    split
    · have := rle_len k l; simp; omega
    · have h1 := rle_len k (l.drop (runLen f l))
      rw [List.length_drop] at h1
      have h2 := runLen_le f l
      simp; omega

theorem parse_ok {x : List Nat} {o : List (List Vtx)} (hx : ∀ a ∈ x, a < 256) (h : parseS x = (o, 0)) : checkS o = 0 ∧ (encodeS o).length ≤ x.length + x.length := by
  rcases x with _ | ⟨k, r⟩
  · cases h
  · rw [parseS_cons] at h
    split at h
    · cases h
    · split at h
      · cases h
      · next hk hs =>
        unfold parseT at h
        split at h
        · next e he =>
          exfalso
          injection h with h1 h2
          have := flags_err _ _ _ _ he
          omega
        · next fs b he =>
          obtain ⟨a1, a2, a3⟩ := flags_len _ _ _ _ _ (Nat.zero_le _) he
          have hb : ∀ a ∈ b, a < 256 := fun a ha => hx a (List.mem_cons_of_mem _ (List.mem_of_mem_drop (a3 a ha)))
          split at h
          · cases h
          · next vs b2 hp =>
            split at h
            · cases h
            · split at h
              · next hc => injection h with h1 h2; exact absurd h2 hc
              · next hc =>
                injection h with h1 h2
                subst h1
                obtain ⟨p1, p2, p3⟩ := points_len fs 0 0 b vs b2 hb hp
                obtain ⟨q1, q2⟩ := split_len (r.take k) vs (by omega)
                refine ⟨by omega, ?_⟩
                have l1 : (splitS (r.take k) vs).length = (r.take k).length := by rw [← List.length_map (f := List.length), q2]
                have l2 := rle_len (flagsV 0 0 vs).length (flagsV 0 0 vs)
                rw [flagsV_length] at l2
                unfold encodeS rle
                rw [q1, q2, flagsV_length]
                simp only [List.length_cons, List.length_append, l1, List.length_take, List.length_drop] at *
                omega

theorem rle_bytes : ∀ (k : Nat) (l : List Nat), (∀ f ∈ l, f < 8) → l.length ≤ 255 → ∀ b ∈ rleN k l, b < 256
  | 0, _, _, _, b, hb => by simp [rleN] at hb
  | _ + 1, [], _, _, b, hb => by simp [rleN] at hb
  | k + 1, f :: l, hf, hl, b, hb => by
    have h0 := hf f (List.mem_cons_self ..)
    have hm : ∀ g ∈ l, g < 8 := fun g hg => hf g (List.mem_cons_of_mem _ hg)
    have h1 := runLen_le f l
    simp only [List.length_cons] at hl
    unfold rleN at hb
    split at hb
    · rcases List.mem_cons.1 hb with rfl | hb
      · omega
      · exact rle_bytes k l hm (by omega) b hb
    · rcases List.mem_cons.1 hb with rfl | hb
      · omega
      · rcases List.mem_cons.1 hb with rfl | hb
        · omega
        · exact rle_bytes k _ (fun g hg => hm g (List.mem_of_mem_drop hg)) (by rw [List.length_drop]; omega) b hb
theorem step_bytes (d : Int) : ∀ b ∈ stepB d, b < 256 := by
  intro b hb
  have h1 := loB_lt d
  have h2 := hiB_lt d
  unfold stepB at hb
  split at hb <;> simp at hb <;> omega
theorem steps_bytes : ∀ (vs : List Vtx) (x y : Int), ∀ b ∈ stepsV x y vs, b < 256
  | [], _, _, b, hb => by simp [stepsV] at hb
  | v :: vs, x, y, b, hb => by
    unfold stepsV at hb
    rcases List.mem_append.1 hb with hb | hb
    · exact step_bytes _ b hb
    · rcases List.mem_append.1 hb with hb | hb
      · exact step_bytes _ b hb
      · exact steps_bytes vs _ _ b hb
theorem le_flatten : ∀ (o : List (List Vtx)), ∀ c ∈ o, c.length ≤ o.flatten.length
  | [], _, h => nomatch h
  | d :: o, c, h => by
    rw [List.flatten_cons, List.length_append]
    rcases List.mem_cons.1 h with rfl | h
    · omega
    · have := le_flatten o c h; omega
theorem encode_bytes (o : List (List Vtx)) (h : checkS o = 0) : ∀ b ∈ encodeS o, b < 256 := by
  obtain ⟨h1, h2, _, h4⟩ := checkS_zero h
  intro b hb
  unfold encodeS at hb
  rcases List.mem_cons.1 hb with rfl | hb
  · omega
  · rcases List.mem_append.1 hb with hb | hb
    · obtain ⟨c, hc, rfl⟩ := List.mem_map.1 hb
      have := le_flatten o c hc
      omega
    · rcases List.mem_append.1 hb with hb | hb
      · exact rle_bytes _ _ (flagsV_lt _ _ _) (by rw [flagsV_length]; omega) b hb
      · exact steps_bytes _ _ _ b hb
theorem encode_max (o : List (List Vtx)) (h : checkS o = 0) : 1 ≤ (encodeS o).length ∧ (encodeS o).length ≤ 400 := by
  obtain ⟨h1, h2, _, h4⟩ := checkS_zero h
  have l2 := rle_len (flagsV 0 0 o.flatten).length (flagsV 0 0 o.flatten)
  have l3 : ∀ (vs : List Vtx) (x y : Int), (stepsV x y vs).length ≤ 4 * vs.length := by
    intro vs
    induction vs with
    | nil => intro x y; simp [stepsV]
    | cons v vs ih =>
      intro x y
      have a := (stepB_le (v.x - x)).1
      have b := (stepB_le (v.y - y)).1
      have c := ih v.x v.y
      simp only [stepsV, List.length_append, List.length_cons]
      omega
  have l4 := l3 o.flatten 0 0
  rw [flagsV_length] at l2
  unfold encodeS rle
  rw [flagsV_length]
  simp only [List.length_cons, List.length_append, List.length_map]
  omega

end Go.Proofs.Ytklajpadnbeplaa

namespace Go.Proofs.Ytklajpadnbeplaa

/-- A place, in half units; a piece. -/
structure Pt where
  x : Int
  y : Int
structure Sg where
  a : Pt
  b : Pt
  c : Pt
  curve : Bool
instance : DecidableEq Pt := fun p q =>
  if h : p.x = q.x ∧ p.y = q.y then isTrue (by cases p; cases q; simp only [] at h; rw [h.1, h.2]) else isFalse (fun e => h (by rw [e]; exact ⟨rfl, rfl⟩))
instance : DecidableEq Sg := fun p q =>
  if h : p.a = q.a ∧ p.b = q.b ∧ p.c = q.c ∧ p.curve = q.curve then isTrue (by cases p; cases q; simp only [] at h; rw [h.1, h.2.1, h.2.2.1, h.2.2.2]) else isFalse (fun e => h (by rw [e]; exact ⟨rfl, rfl, rfl, rfl⟩))

def ptV (v : Vtx) : Pt := ⟨v.x + v.x, v.y + v.y⟩
def midV (v w : Vtx) : Pt := ⟨v.x + w.x, v.y + w.y⟩
/-- The piece that is under way, ended. -/
def sgOf (a : Pt) (ctl : Option Vtx) (c : Pt) : Sg :=
  match ctl with
  | none => ⟨a, a, c, false⟩
  | some u => ⟨a, ptV u, c, true⟩
/-- P5.1, from where the contour begins. -/
def walkS (s : Pt) : Pt → Option Vtx → List Vtx → List Sg
  | a, ctl, [] => [sgOf a ctl s]
  | a, ctl, v :: vs =>
    if v.on = true then sgOf a ctl (ptV v) :: walkS s (ptV v) none vs
    else match ctl with
      | none => walkS s a (some v) vs
      | some u => sgOf a (some u) (midV u v) :: walkS s (midV u v) (some v) vs
/-- The place of the first point on the line. -/
def firstOn : List Vtx → Option Nat
  | [] => none
  | v :: vs => if v.on = true then some 0 else (firstOn vs).map (· + 1)
def vtxAt (c : List Vtx) (i : Nat) : Vtx := c.getD i ⟨0, 0, false⟩
def startS (c : List Vtx) : Pt :=
  match firstOn c with
  | none => midV (vtxAt c (c.length - 1)) (vtxAt c 0)
  | some f => ptV (vtxAt c f)
def othersS (c : List Vtx) : List Vtx :=
  match firstOn c with
  | none => c
  | some f => c.drop (f + 1) ++ c.take f
/-- P5.1. -/
def segsS (c : List Vtx) : List Sg := if c = [] then [] else walkS (startS c) (startS c) none (othersS c)

theorem firstOn_none : ∀ {c : List Vtx}, firstOn c = none → ∀ v ∈ c, v.on = false
  | [], _, v, hv => by cases hv
  | u :: c, h, v, hv => by
    unfold firstOn at h
    split at h
    · cases h
    · next hu =>
      rcases List.mem_cons.1 hv with rfl | hv
      · simpa using hu
      · exact firstOn_none (by cases hf : firstOn c with
          | none => rfl
          | some k => rw [hf] at h; cases h) v hv
theorem firstOn_some : ∀ {c : List Vtx} {f : Nat}, firstOn c = some f → ∃ (v : Vtx), c[f]? = some v ∧ v.on = true ∧ ∀ u ∈ c.take f, u.on = false
  | [], _, h => by cases h
  | u :: c, f, h => by
    unfold firstOn at h
    split at h
    · next hu => cases h; exact ⟨u, rfl, hu, fun _ h => by cases h⟩
    · next hu =>
      cases hf : firstOn c with
      | none => rw [hf] at h; cases h
      | some k =>
        rw [hf] at h
        cases h
        obtain ⟨v, h1, h2, h3⟩ := firstOn_some hf
        refine ⟨v, h1, h2, fun x hx => ?_⟩
        rw [List.take_succ_cons] at hx
        rcases List.mem_cons.1 hx with rfl | hx
        · simpa using hu
        · exact h3 x hx
theorem firstOn_is : ∀ {c : List Vtx} {f : Nat} {v : Vtx}, c[f]? = some v → v.on = true → (∀ u ∈ c.take f, u.on = false) → firstOn c = some f
  | [], _, _, h, _, _ => by cases h
  | u :: c, 0, v, h, hv, _ => by cases h; unfold firstOn; rw [if_pos hv]
  | u :: c, f + 1, v, h, hv, h3 => by
    have hu : u.on = false := h3 u (by simp)
    unfold firstOn
    rw [if_neg (by simp [hu]), firstOn_is (c := c) (f := f) h hv (fun x hx => h3 x (by rw [List.take_succ_cons]; exact List.mem_cons_of_mem _ hx))]
    rfl
theorem firstOn_off : ∀ {c : List Vtx}, (∀ v ∈ c, v.on = false) → firstOn c = none
  | [], _ => rfl
  | u :: c, h => by
    unfold firstOn
    rw [if_neg (by simp [h u (by simp)]), firstOn_off (fun v hv => h v (List.mem_cons_of_mem _ hv))]
    rfl

/-! ### The law's own way: all points that are meant -/

/-- A point's own and, behind it, the one half way. -/
def both (v w : Vtx) : List Vtx := ⟨2 * v.x, 2 * v.y, v.on⟩ :: if (!v.on && !w.on) = true then [⟨v.x + w.x, v.y + w.y, true⟩] else []
/-- All points of a row behind whose last one w comes. -/
def exp : List Vtx → Vtx → List Vtx
  | [], _ => []
  | [v], w => both v w
  | v :: u :: r, w => both v u ++ exp (u :: r) w
theorem exp_cons (v : Vtx) (r : List Vtx) (w : Vtx) : exp (v :: r) w = both v (r.headD w) ++ exp r w := by
  cases r with
  | nil => simp [exp]
  | cons u r => rfl
theorem exp_append : ∀ (a b : List Vtx) (w : Vtx), exp (a ++ b) w = exp a (b.headD w) ++ exp b w
  | [], b, w => rfl
  | v :: a, b, w => by
    rw [List.cons_append, exp_cons, exp_cons, exp_append a b w, List.append_assoc]
    cases a <;> rfl
/-- The law's loop over all points. -/
def scanN : Nat → List Vtx → List Sg
  | n + 1, p :: q :: r =>
    if q.on = true then ⟨⟨p.x, p.y⟩, ⟨p.x, p.y⟩, ⟨q.x, q.y⟩, false⟩ :: scanN n (q :: r)
    else match r with
      | [] => []
      | t :: r' => ⟨⟨p.x, p.y⟩, ⟨q.x, q.y⟩, ⟨t.x, t.y⟩, true⟩ :: scanN n (t :: r')
  | _, _ => []
theorem scanN_more : ∀ (n m : Nat) (l : List Vtx), l.length ≤ n → l.length ≤ m → scanN n l = scanN m l
  | 0, 0, _, _, _ => rfl
  | 0, m + 1, [], _, _ => rfl
  | 0, m + 1, _ :: _, h, _ => by simp at h
  | n + 1, 0, [], _, _ => rfl
  | n + 1, 0, _ :: _, _, h => by simp at h
  | n + 1, m + 1, [], _, _ => rfl
  | n + 1, m + 1, [_], _, _ => rfl
  | n + 1, m + 1, p :: q :: r, h, h' => by
    simp only [List.length_cons] at h h'
    have e1 := scanN_more n m (q :: r) (by rw [List.length_cons]; omega) (by rw [List.length_cons]; omega)
    cases r with
    | nil => simp only [scanN, e1]
    | cons t r' =>
      simp only [List.length_cons] at h h'
      have e2 := scanN_more n m (t :: r') (by rw [List.length_cons]; omega) (by rw [List.length_cons]; omega)
      simp only [scanN, e1, e2]
def scan (l : List Vtx) : List Sg := scanN l.length l
theorem scan_on (p q : Vtx) (r : List Vtx) (h : q.on = true) : scan (p :: q :: r) = ⟨⟨p.x, p.y⟩, ⟨p.x, p.y⟩, ⟨q.x, q.y⟩, false⟩ :: scan (q :: r) := by
  unfold scan
  cases r <;> (rw [List.length_cons]; simp only [scanN, h, if_true])
theorem scan_off (p q t : Vtx) (r : List Vtx) (h : q.on = false) : scan (p :: q :: t :: r) = ⟨⟨p.x, p.y⟩, ⟨q.x, q.y⟩, ⟨t.x, t.y⟩, true⟩ :: scan (t :: r) := by
  unfold scan
  rw [List.length_cons]
  simp only [scanN, h, Bool.false_eq_true, if_false]
  rw [scanN_more (q :: t :: r).length (t :: r).length (t :: r) (by simp) (by simp)]
theorem scan_one (p : Vtx) : scan [p] = [] := rfl
theorem scan_nil : scan [] = [] := rfl
def onP (p : Pt) : Vtx := ⟨p.x, p.y, true⟩
def ctlL : Option Vtx → List Vtx → List Vtx
  | none, vs => vs
  | some u, vs => u :: vs
theorem two (x : Int) : 2 * x = x + x := by omega
theorem scan_walk (s : Pt) (e : Vtx) (he : e.on = true) : ∀ (vs : List Vtx) (a : Pt) (b : Bool) (ctl : Option Vtx), (∀ u, ctl = some u → u.on = false) → scan (⟨a.x, a.y, b⟩ :: (exp (ctlL ctl vs) e ++ [onP s])) = walkS s a ctl vs
  | [], a, b, none, _ => by
    simp only [ctlL, exp, List.nil_append, walkS, sgOf]
    rw [scan_on _ _ _ rfl, scan_one]
    rfl
  | [], a, b, some u, h => by
    have hu := h u rfl
    simp only [ctlL, exp, both, hu, he, walkS, sgOf]
    simp only [Bool.not_false, Bool.not_true, Bool.and_false, Bool.false_eq_true, if_false, List.cons_append, List.nil_append]
    rw [scan_off _ _ _ _ rfl, scan_one]
    simp only [ptV, onP, two]
  | v :: vs, a, b, none, h => by
    by_cases hv : v.on = true
    · have ih := scan_walk s e he vs (ptV v) true none (fun _ h => by cases h)
      rw [show ctlL none (v :: vs) = v :: vs from rfl, exp_cons]
      simp only [both, hv, Bool.not_true, Bool.false_and, Bool.false_eq_true, if_false, List.cons_append, List.nil_append]
      rw [scan_on _ _ _ rfl, walkS, if_pos hv, ← ih]
      simp only [ctlL, sgOf, ptV, two]
    · have hv' : v.on = false := by simpa using hv
      have ih := scan_walk s e he vs a b (some v) (fun u hu => by cases hu; exact hv')
      rw [walkS, if_neg hv, ← ih]
      rfl
  | v :: vs, a, b, some u, h => by
    have hu := h u rfl
    by_cases hv : v.on = true
    · have ih := scan_walk s e he vs (ptV v) true none (fun _ h => by cases h)
      rw [show ctlL (some u) (v :: vs) = u :: v :: vs from rfl, exp_cons, exp_cons]
      simp only [List.headD_cons, both, hv, hu, Bool.not_true, Bool.not_false, Bool.and_false, Bool.false_and, Bool.false_eq_true, if_false, List.cons_append, List.nil_append]
      rw [scan_off _ _ _ _ rfl, walkS, if_pos hv, ← ih]
      simp only [ctlL, sgOf, ptV, two]
    · have hv' : v.on = false := by simpa using hv
      have ih := scan_walk s e he vs (midV u v) true (some v) (fun u hu => by cases hu; exact hv')
      rw [show ctlL (some u) (v :: vs) = u :: v :: vs from rfl, exp_cons]
      simp only [List.headD_cons, both, hv', hu, Bool.not_false, Bool.and_self, if_true, List.cons_append, List.nil_append]
      rw [scan_off _ _ _ _ rfl, walkS, if_neg hv, ← ih]
      simp only [ctlL, sgOf, ptV, midV, two]
/-- What the law's full makes: the same points from the start on. -/
def fullAll (c : List Vtx) : List Vtx := exp c (vtxAt c 0)
def fullFirst (c : List Vtx) : Nat :=
  match firstOn c with
  | none => (fullAll c).length - 1
  | some f => (exp (c.take f) (vtxAt c f)).length
def fullS (c : List Vtx) : List Vtx := (fullAll c).drop (fullFirst c) ++ (fullAll c).take (fullFirst c)

theorem exp_on (e e' : Vtx) (he : e.on = true) (he' : e'.on = true) : ∀ c : List Vtx, exp c e = exp c e'
  | [] => rfl
  | [v] => by simp [exp, both, he, he']
  | v :: u :: r => by simp only [exp]; rw [exp_on e e' he he' (u :: r)]
theorem exp_last (e : Vtx) (he : e.on = true) : ∀ (c : List Vtx) (w : Vtx), c ≠ [] → (∀ v ∈ c, v.on = false) → w.on = false → exp c w = exp c e ++ [onP (midV (vtxAt c (c.length - 1)) w)]
  | [v], w, _, h, hw => by
    have hv := h v (by simp)
    simp [exp, both, he, hv, hw, onP, midV, vtxAt]
  | v :: u :: r, w, _, h, hw => by
    simp only [exp]
    rw [exp_last e he (u :: r) w (by simp) (fun x hx => h x (List.mem_cons_of_mem _ hx)) hw, List.append_assoc]
    rfl
theorem getD_of {c : List Vtx} {f : Nat} {v : Vtx} (h : c[f]? = some v) : vtxAt c f = v := by
  obtain ⟨hf, rfl⟩ := List.getElem?_eq_some_iff.1 h
  simp [vtxAt, List.getD, hf]
theorem head_of {c : List Vtx} (h : c ≠ []) (w : Vtx) : c.headD w = vtxAt c 0 := by
  cases c with
  | nil => cases h rfl
  | cons v c => rfl
/-- What the law's full makes is the start, and all points between. -/
theorem fullS_is (c : List Vtx) (hc : c ≠ []) (e : Vtx) (he : e.on = true) : fullS c = onP (startS c) :: exp (othersS c) e := by
  cases hf : firstOn c with
  | none =>
    have hoff := firstOn_none hf
    have h0 : (vtxAt c 0).on = false := by
      cases c with
      | nil => cases hc rfl
      | cons v c => exact hoff v (by simp)
    have hl := exp_last e he c (vtxAt c 0) hc hoff h0
    unfold fullS fullFirst fullAll startS othersS
    rw [hf]
    simp only []
    rw [hl]
    simp
  | some f =>
    obtain ⟨v, h1, h2, h3⟩ := firstOn_some hf
    have hfl := (List.getElem?_eq_some_iff.1 h1).1
    have hv := getD_of h1
    have hsplit : c = c.take f ++ v :: c.drop (f + 1) := by
      obtain ⟨hf', rfl⟩ := List.getElem?_eq_some_iff.1 h1
      rw [← List.drop_eq_getElem_cons hf', List.take_append_drop]
    have ha : fullAll c = exp (c.take f) v ++ (⟨2 * v.x, 2 * v.y, true⟩ :: exp (c.drop (f + 1)) (vtxAt c 0)) := by
      unfold fullAll
      have : exp c (vtxAt c 0) = exp (c.take f ++ v :: c.drop (f + 1)) (vtxAt c 0) := by rw [← hsplit]
      rw [this, exp_append, exp_cons]
      simp [both, h2]
    have ho : exp (c.drop (f + 1) ++ c.take f) e = exp (c.drop (f + 1)) (vtxAt c 0) ++ exp (c.take f) v := by
      rw [exp_append, exp_on e v he h2]
      by_cases hf0 : f = 0
      · subst hf0
        have e0 : vtxAt c 0 = v := hv
        rw [e0]
        simp only [List.take_zero, exp, List.append_nil]
        exact exp_on _ _ he h2 _
      · have hne : c.take f ≠ [] := fun h => by
          have := congrArg List.length h
          rw [List.length_take, List.length_nil] at this
          omega
        rw [head_of hne]
        have : vtxAt (c.take f) 0 = vtxAt c 0 := by
          unfold vtxAt List.getD
          rw [List.getElem?_take_of_lt (by omega)]
        rw [this]
    unfold fullS fullFirst startS othersS
    rw [hf]
    simp only []
    rw [hv, ha, List.drop_left, List.take_left, ho]
    simp [onP, ptV, two]
/-- P5.1 by the law's way. -/
theorem segs_scan (c : List Vtx) (hc : c ≠ []) : scan (fullS c ++ [onP (startS c)]) = segsS c := by
  have h := scan_walk (startS c) (onP (startS c)) rfl (othersS c) (startS c) true none (fun _ h => by cases h)
  unfold segsS
  rw [if_neg hc, ← h, fullS_is c hc (onP (startS c)) rfl]
  rfl

end Go.Proofs.Ytklajpadnbeplaa

namespace Go.Proofs.Ytklajpadnbeplaa

/-- An edge, in small units. -/
structure Ed where
  a : Pt
  b : Pt
instance : DecidableEq Ed := fun p q =>
  if h : p.a = q.a ∧ p.b = q.b then isTrue (by cases p; cases q; simp only [] at h; rw [h.1, h.2]) else isFalse (fun e => h (by rw [e]; exact ⟨rfl, rfl⟩))

/-- P6.1, a number of the point at k parts of four. -/
def onX (k : Nat) (a b c : Int) : Int :=
  match k with
  | 0 => 16 * a
  | 1 => 9 * a + 6 * b + c
  | 2 => 4 * a + 8 * b + 4 * c
  | 3 => a + 6 * b + 9 * c
  | _ => 16 * c
def onV (s : Sg) (k : Nat) : Pt := ⟨onX k s.a.x s.b.x s.c.x, onX k s.a.y s.b.y s.c.y⟩
/-- P6.2. -/
def edge (p q : Pt) : List Ed := if p = q then [] else [⟨p, q⟩]
def chain : List Pt → List Ed
  | [] => []
  | [_] => []
  | p :: q :: l => edge p q ++ chain (q :: l)
def ptsOf (s : Sg) : List Pt := if s.curve = true then [onV s 0, onV s 1, onV s 2, onV s 3, onV s 4] else [onV s 0, onV s 4]
def edgesOf (s : Sg) : List Ed := chain (ptsOf s)
def edgesS (ss : List Sg) : List Ed := ss.flatMap edgesOf
theorem edgesS_push (l : List Sg) (s : Sg) : edgesS (l ++ [s]) = edgesS l ++ edgesOf s := by simp [edgesS]
theorem edgesS_nil : edgesS [] = [] := rfl
theorem edge_len (p q : Pt) : (edge p q).length ≤ 1 := by unfold edge; split <;> simp
theorem edgesOf_len (s : Sg) : (edgesOf s).length ≤ 4 := by
  unfold edgesOf ptsOf
  split
  · have h1 := edge_len (onV s 0) (onV s 1)
    have h2 := edge_len (onV s 1) (onV s 2)
    have h3 := edge_len (onV s 2) (onV s 3)
    have h4 := edge_len (onV s 3) (onV s 4)
    simp only [chain, List.length_append, List.length_nil]
    omega
  · have h1 := edge_len (onV s 0) (onV s 4)
    simp only [chain, List.length_append, List.length_nil]
    omega
theorem edgesS_len : ∀ l : List Sg, (edgesS l).length ≤ 4 * l.length
  | [] => by simp [edgesS]
  | s :: l => by
    have h1 := edgesOf_len s
    have h2 := edgesS_len l
    have e : edgesS (s :: l) = edgesOf s ++ edgesS l := by simp [edgesS]
    rw [e, List.length_append, List.length_cons]
    omega

/-- A row of edges, none without length, from a place to a place. -/
def Way (p : Pt) : List Ed → Pt → Prop
  | [], q => p = q
  | e :: l, q => e.a = p ∧ e.a ≠ e.b ∧ Way e.b l q
theorem Way.append : ∀ {p q r : Pt} {l m : List Ed}, Way p l q → Way q m r → Way p (l ++ m) r
  | p, q, r, [], m, h, k => by cases (show p = q from h); exact k
  | p, q, r, e :: l, m, ⟨h1, h2, h3⟩, k => ⟨h1, h2, Way.append h3 k⟩
theorem edge_way (p q : Pt) : Way p (edge p q) q := by
  unfold edge
  split
  next h => exact h
  next h => exact ⟨rfl, h, rfl⟩
theorem of_way (s : Sg) : Way (onV s 0) (edgesOf s) (onV s 4) := by
  unfold edgesOf ptsOf
  split
  · exact (edge_way _ _).append ((edge_way _ _).append ((edge_way _ _).append ((edge_way _ _).append rfl)))
  · exact (edge_way _ _).append rfl
def big (p : Pt) : Pt := ⟨16 * p.x, 16 * p.y⟩
/-- Pieces from a place to a place. -/
def SWay (p : Pt) : List Sg → Pt → Prop
  | [], q => p = q
  | s :: l, q => s.a = p ∧ SWay s.c l q
theorem SWay.edges : ∀ {p q : Pt} {l : List Sg}, SWay p l q → Way (big p) (edgesS l) (big q)
  | p, q, [], h => by cases (show p = q from h); exact rfl
  | p, q, s :: l, ⟨h1, h2⟩ => by
    have e : edgesS (s :: l) = edgesOf s ++ edgesS l := by simp [edgesS]
    rw [e]
    have k : Way (big s.a) (edgesOf s) (big s.c) := of_way s
    rw [h1] at k
    exact k.append h2.edges
theorem sgOf_a (a : Pt) (ctl : Option Vtx) (c : Pt) : (sgOf a ctl c).a = a := by cases ctl <;> rfl
theorem sgOf_c (a : Pt) (ctl : Option Vtx) (c : Pt) : (sgOf a ctl c).c = c := by cases ctl <;> rfl
theorem walk_way (s : Pt) : ∀ (vs : List Vtx) (a : Pt) (ctl : Option Vtx), SWay a (walkS s a ctl vs) s
  | [], a, ctl => by rw [walkS]; exact ⟨sgOf_a _ _ _, sgOf_c _ _ _⟩
  | v :: vs, a, ctl => by
    rw [walkS.eq_def]
    simp only
    split
    · refine ⟨sgOf_a _ _ _, ?_⟩
      rw [sgOf_c]
      exact walk_way s vs (ptV v) none
    · cases ctl with
      | none => exact walk_way s vs a (some v)
      | some u =>
        refine ⟨sgOf_a _ _ _, ?_⟩
        rw [sgOf_c]
        exact walk_way s vs (midV u v) (some v)
theorem segs_way (c : List Vtx) : ∃ p, Way p (edgesS (segsS c)) p := by
  unfold segsS
  split
  · exact ⟨⟨0, 0⟩, rfl⟩
  · exact ⟨_, (walk_way _ _ _ _).edges⟩
theorem Way.first : ∀ {p q : Pt} {l : List Ed} {e : Ed}, Way p l q → l[0]? = some e → e.a = p
  | p, q, [], e, _, h => by cases h
  | p, q, d :: l, e, ⟨h1, _, _⟩, h => by
    have : d = e := by simpa using h
    subst this
    exact h1
theorem Way.next : ∀ {p q : Pt} {l : List Ed} {k : Nat} {e : Ed}, Way p l q → l[k]? = some e → e.a ≠ e.b ∧ (∀ f, l[k + 1]? = some f → e.b = f.a) ∧ (k + 1 = l.length → e.b = q)
  | p, q, [], k, e, _, h => by cases h
  | p, q, d :: l, 0, e, ⟨h1, h2, h3⟩, h => by
    have : d = e := by simpa using h
    subst this
    refine ⟨h2, fun f hf => ?_, fun hl => ?_⟩
    · rw [List.getElem?_cons_succ] at hf
      exact (h3.first hf).symm
    · have : l = [] := List.eq_nil_of_length_eq_zero (by simpa using hl.symm)
      subst this
      exact h3
  | p, q, d :: l, k + 1, e, ⟨h1, h2, h3⟩, h => by
    rw [List.getElem?_cons_succ] at h
    obtain ⟨a, b, c⟩ := h3.next h
    refine ⟨a, fun f hf => b f (by rwa [List.getElem?_cons_succ] at hf), fun hl => c (by simpa using hl)⟩
/-- The edges of a contour: none without length, each begins where the one ahead of it ended. -/
theorem Way.closed {p : Pt} {l : List Ed} (h : Way p l p) {k : Nat} {e f : Ed} (he : l[k]? = some e) (hf : l[(k + 1) % l.length]? = some f) : e.a ≠ e.b ∧ e.b = f.a := by
  obtain ⟨h1, h2, h3⟩ := h.next he
  have hk : k < l.length := (List.getElem?_eq_some_iff.1 he).1
  refine ⟨h1, ?_⟩
  by_cases hl : k + 1 = l.length
  · rw [hl, Nat.mod_self] at hf
    rw [h3 hl, h.first hf]
  · rw [Nat.mod_eq_of_lt (by omega)] at hf
    exact h2 f hf

/-- The place in which edges are. -/
def boxF : Pt × Pt → Ed → Pt × Pt := fun b e => (⟨min (min b.1.x e.a.x) e.b.x, min (min b.1.y e.a.y) e.b.y⟩, ⟨max (max b.2.x e.a.x) e.b.x, max (max b.2.y e.a.y) e.b.y⟩)
def boxS (es : List Ed) : Pt × Pt :=
  match es with
  | [] => (⟨0, 0⟩, ⟨0, 0⟩)
  | e :: l => (e :: l).foldl boxF (e.a, e.a)

end Go.Proofs.Ytklajpadnbeplaa

namespace Go.Proofs.Ytklajpadnbeplaa

/-- On which side of an edge a point is. -/
def crE (e : Ed) (p : Pt) : Int := (e.b.x - e.a.x) * (p.y - e.a.y) - (e.b.y - e.a.y) * (p.x - e.a.x)
/-- P7.1, of one edge; of edges. -/
def upE (e : Ed) (p : Pt) : Int := if e.a.y ≤ p.y ∧ p.y < e.b.y ∧ 0 < crE e p then 1 else 0
def downE (e : Ed) (p : Pt) : Int := if e.b.y ≤ p.y ∧ p.y < e.a.y ∧ crE e p < 0 then 1 else 0
def numE (e : Ed) (p : Pt) : Int := upE e p - downE e p
def numS (es : List Ed) (p : Pt) : Int := (es.map fun e => numE e p).sum
/-- P7.2: on an edge; in; the area. -/
def onE (e : Ed) (p : Pt) : Prop := crE e p = 0 ∧ min e.a.x e.b.x ≤ p.x ∧ p.x ≤ max e.a.x e.b.x ∧ min e.a.y e.b.y ≤ p.y ∧ p.y ≤ max e.a.y e.b.y
instance (e : Ed) (p : Pt) : Decidable (onE e p) := by unfold onE; exact inferInstance
def onS (es : List Ed) (p : Pt) : Bool := es.any fun e => decide (onE e p)
def arE (e : Ed) : Int := e.a.x * e.b.y - e.a.y * e.b.x
def arS (es : List Ed) : Int := (es.map arE).sum

theorem numS_append (l m : List Ed) (p : Pt) : numS (l ++ m) p = numS l p + numS m p := by simp [numS]
theorem onS_append (l m : List Ed) (p : Pt) : onS (l ++ m) p = (onS l p || onS m p) := by simp [onS]
theorem arS_append (l m : List Ed) : arS (l ++ m) = arS l + arS m := by simp [arS]
theorem numS_cons (e : Ed) (l : List Ed) (p : Pt) : numS (e :: l) p = numE e p + numS l p := by simp [numS]
theorem arS_cons (e : Ed) (l : List Ed) : arS (e :: l) = arE e + arS l := by simp [arS]
theorem numE_in (e : Ed) (p : Pt) : -1 ≤ numE e p ∧ numE e p ≤ 1 := by unfold numE upE downE; split <;> split <;> omega
theorem numS_in : ∀ (l : List Ed) (p : Pt), -(l.length : Int) ≤ numS l p ∧ numS l p ≤ l.length
  | [], p => by simp [numS]
  | e :: l, p => by
    have h1 := numE_in e p
    have h2 := numS_in l p
    rw [numS_cons, List.length_cons]
    omega

/-- The other way round. -/
def backE (e : Ed) : Ed := ⟨e.b, e.a⟩
theorem cr_back (e : Ed) (p : Pt) : crE (backE e) p = -crE e p := by
  unfold crE backE
  simp only []
  have e1 : p.y - e.b.y = (p.y - e.a.y) - (e.b.y - e.a.y) := by omega
  have e2 : p.x - e.b.x = (p.x - e.a.x) - (e.b.x - e.a.x) := by omega
  have e3 : e.a.x - e.b.x = -(e.b.x - e.a.x) := by omega
  have e4 : e.a.y - e.b.y = -(e.b.y - e.a.y) := by omega
  rw [e1, e2, e3, e4]
  generalize e.b.x - e.a.x = u0
  generalize e.b.y - e.a.y = u1
  generalize p.x - e.a.x = v0
  generalize p.y - e.a.y = v1
  rw [Int.neg_mul, Int.neg_mul, Int.mul_sub, Int.mul_sub, Int.mul_comm u1 u0]
  omega
theorem num_back (e : Ed) (p : Pt) : numE (backE e) p = -numE e p := by
  have h := cr_back e p
  have h1 : upE (backE e) p = downE e p := by
    unfold upE downE
    rw [h]
    have : (0 < -crE e p) ↔ (crE e p < 0) := by omega
    simp only [this]
    rfl
  have h2 : downE (backE e) p = upE e p := by
    unfold upE downE
    rw [h]
    have : (-crE e p < 0) ↔ (0 < crE e p) := by omega
    simp only [this]
    rfl
  unfold numE
  rw [h1, h2]
  omega
theorem on_back (e : Ed) (p : Pt) : onE (backE e) p ↔ onE e p := by
  unfold onE
  rw [cr_back]
  unfold backE
  simp only []
  rw [Int.min_comm e.b.x, Int.min_comm e.b.y, Int.max_comm e.b.x, Int.max_comm e.b.y]
  constructor <;> rintro ⟨h1, h2⟩ <;> exact ⟨by omega, h2⟩
theorem ar_back (e : Ed) : arE (backE e) = -arE e := by
  unfold arE backE
  simp only []
  rw [Int.mul_comm e.b.x, Int.mul_comm e.b.y]
  omega
theorem numS_back : ∀ (l : List Ed) (p : Pt), numS (l.map backE).reverse p = -numS l p
  | [], p => rfl
  | e :: l, p => by
    have h := numS_back l p
    rw [List.map_cons, List.reverse_cons, numS_append, h, numS_cons, numS_cons, num_back]
    have : numS [] p = 0 := rfl
    omega
theorem onS_back (l : List Ed) (p : Pt) : onS (l.map backE).reverse p = onS l p := by
  unfold onS
  rw [List.any_reverse, List.any_map]
  congr 1
  funext e
  show decide (onE (backE e) p) = decide (onE e p)
  simp only [on_back]
theorem arS_back : ∀ (l : List Ed), arS (l.map backE).reverse = -arS l
  | [] => rfl
  | e :: l => by
    have h := arS_back l
    rw [List.map_cons, List.reverse_cons, arS_append, h, arS_cons, arS_cons, ar_back]
    have : arS [] = 0 := rfl
    omega

/-- What is out of the place of closed edges. -/
theorem cr_split (e : Ed) (p : Pt) : crE e p = (p.y - e.a.y) * (e.b.x - p.x) + (e.b.y - p.y) * (e.a.x - p.x) := by
  unfold crE
  have e1 : e.b.x - e.a.x = (e.b.x - p.x) - (e.a.x - p.x) := by omega
  have e2 : e.b.y - e.a.y = (p.y - e.a.y) + (e.b.y - p.y) := by omega
  have e3 : p.x - e.a.x = -(e.a.x - p.x) := by omega
  rw [e1, e2, e3]
  generalize e.b.x - p.x = B
  generalize e.a.x - p.x = A
  generalize p.y - e.a.y = s
  generalize e.b.y - p.y = t
  rw [Int.mul_neg, Int.sub_mul, Int.add_mul, Int.mul_comm B s, Int.mul_comm A s]
  omega
def overB (p q : Pt) : Int := if p.y < q.y then 1 else 0
theorem num_left {e : Ed} {p : Pt} (h1 : p.x < e.a.x) (h2 : p.x < e.b.x) : numE e p = overB p e.b - overB p e.a := by
  unfold numE upE downE overB
  by_cases c1 : p.y < e.a.y
  · by_cases c2 : p.y < e.b.y
    · rw [if_neg (by omega), if_neg (by omega), if_pos c2, if_pos c1]
      rfl
    · have hc : crE e p < 0 := by
        rw [cr_split]
        have a1 : 0 < (e.a.y - p.y) * (e.b.x - p.x) := Int.mul_pos (by omega) (by omega)
        have a2 : 0 ≤ (p.y - e.b.y) * (e.a.x - p.x) := Int.mul_nonneg (by omega) (by omega)
        have e1 : (p.y - e.a.y) * (e.b.x - p.x) = -((e.a.y - p.y) * (e.b.x - p.x)) := by rw [← Int.neg_mul]; congr 1; omega
        have e2 : (e.b.y - p.y) * (e.a.x - p.x) = -((p.y - e.b.y) * (e.a.x - p.x)) := by rw [← Int.neg_mul]; congr 1; omega
        rw [e1, e2]
        omega
      rw [if_neg (by omega), if_pos ⟨by omega, c1, hc⟩, if_neg c2, if_pos c1]
  · by_cases c2 : p.y < e.b.y
    · have hc : 0 < crE e p := by
        rw [cr_split]
        have a1 : 0 ≤ (p.y - e.a.y) * (e.b.x - p.x) := Int.mul_nonneg (by omega) (by omega)
        have a2 : 0 < (e.b.y - p.y) * (e.a.x - p.x) := Int.mul_pos (by omega) (by omega)
        omega
      rw [if_pos ⟨by omega, c2, hc⟩, if_neg (by omega), if_pos c2, if_neg c1]
    · rw [if_neg (by omega), if_neg (by omega), if_neg c2, if_neg c1]
theorem num_right {e : Ed} {p : Pt} (h1 : e.a.x < p.x) (h2 : e.b.x < p.x) : numE e p = 0 := by
  unfold numE upE downE
  have k1 : ¬ (e.a.y ≤ p.y ∧ p.y < e.b.y ∧ 0 < crE e p) := by
    rintro ⟨c1, c2, c3⟩
    rw [cr_split] at c3
    have a1 : 0 ≤ (p.y - e.a.y) * (p.x - e.b.x) := Int.mul_nonneg (by omega) (by omega)
    have a2 : 0 ≤ (e.b.y - p.y) * (p.x - e.a.x) := Int.mul_nonneg (by omega) (by omega)
    have e1 : (p.y - e.a.y) * (e.b.x - p.x) = -((p.y - e.a.y) * (p.x - e.b.x)) := by rw [← Int.mul_neg]; congr 1; omega
    have e2 : (e.b.y - p.y) * (e.a.x - p.x) = -((e.b.y - p.y) * (p.x - e.a.x)) := by rw [← Int.mul_neg]; congr 1; omega
    rw [e1, e2] at c3
    omega
  have k2 : ¬ (e.b.y ≤ p.y ∧ p.y < e.a.y ∧ crE e p < 0) := by
    rintro ⟨c1, c2, c3⟩
    rw [cr_split] at c3
    have a1 : 0 ≤ (e.a.y - p.y) * (p.x - e.b.x) := Int.mul_nonneg (by omega) (by omega)
    have a2 : 0 ≤ (p.y - e.b.y) * (p.x - e.a.x) := Int.mul_nonneg (by omega) (by omega)
    have e1 : (p.y - e.a.y) * (e.b.x - p.x) = (e.a.y - p.y) * (p.x - e.b.x) := by rw [← Int.neg_mul_neg]; congr 1 <;> omega
    have e2 : (e.b.y - p.y) * (e.a.x - p.x) = (p.y - e.b.y) * (p.x - e.a.x) := by rw [← Int.neg_mul_neg]; congr 1 <;> omega
    rw [e1, e2] at c3
    omega
  rw [if_neg k1, if_neg k2]
  rfl
theorem num_level {e : Ed} {p : Pt} (h : (p.y < e.a.y ∧ p.y < e.b.y) ∨ (e.a.y ≤ p.y ∧ e.b.y ≤ p.y)) : numE e p = 0 := by
  unfold numE upE downE
  rw [if_neg (by omega), if_neg (by omega)]
  rfl
theorem Way.left : ∀ {q q' p : Pt} {l : List Ed}, Way q l q' → (∀ e ∈ l, p.x < e.a.x ∧ p.x < e.b.x) → numS l p = overB p q' - overB p q
  | q, q', p, [], h, _ => by
    cases (show q = q' from h)
    have : numS [] p = 0 := rfl
    omega
  | q, q', p, e :: l, ⟨h1, _, h3⟩, hp => by
    have k := hp e List.mem_cons_self
    rw [numS_cons, num_left k.1 k.2, h3.left (fun d hd => hp d (List.mem_cons_of_mem _ hd)), h1]
    omega
theorem numS_zero : ∀ {l : List Ed} {p : Pt}, (∀ e ∈ l, numE e p = 0) → numS l p = 0
  | [], p, _ => rfl
  | e :: l, p, h => by rw [numS_cons, h e List.mem_cons_self, numS_zero (fun d hd => h d (List.mem_cons_of_mem _ hd))]; rfl
theorem numS_flat : ∀ (ls : List (List Ed)) (p : Pt), (∀ l ∈ ls, numS l p = 0) → numS ls.flatten p = 0
  | [], p, _ => rfl
  | l :: ls, p, h => by
    rw [List.flatten_cons, numS_append, h l List.mem_cons_self, numS_flat ls p (fun m hm => h m (List.mem_cons_of_mem _ hm))]
    rfl
/-- P7.1: closed edges do not go round what is out of their place. -/
theorem out_zero (ls : List (List Ed)) (hw : ∀ l ∈ ls, ∃ q, Way q l q) (lo hi p : Pt) (hb : ∀ e ∈ ls.flatten, (lo.x ≤ e.a.x ∧ e.a.x ≤ hi.x ∧ lo.y ≤ e.a.y ∧ e.a.y ≤ hi.y) ∧ lo.x ≤ e.b.x ∧ e.b.x ≤ hi.x ∧ lo.y ≤ e.b.y ∧ e.b.y ≤ hi.y)
    (hp : ¬ (lo.x ≤ p.x ∧ p.x ≤ hi.x ∧ lo.y ≤ p.y ∧ p.y ≤ hi.y)) : numS ls.flatten p = 0 ∧ onS ls.flatten p = false := by
  constructor
  · by_cases c1 : p.x < lo.x
    · refine numS_flat ls p (fun l hl => ?_)
      obtain ⟨q, hq⟩ := hw l hl
      rw [hq.left (fun e he => by have := hb e (List.mem_flatten.2 ⟨l, hl, he⟩); omega)]
      omega
    · refine numS_zero (fun e he => ?_)
      have k := hb e he
      by_cases c2 : hi.x < p.x
      · exact num_right (by omega) (by omega)
      · exact num_level (by omega)
  · rw [Bool.eq_false_iff]
    intro h
    unfold onS at h
    rw [List.any_eq_true] at h
    obtain ⟨e, he, h⟩ := h
    have k := hb e he
    have h' : onE e p := of_decide_eq_true h
    obtain ⟨_, h1, h2, h3, h4⟩ := h'
    omega

/-- P7.2: the distance is 0 just on the edge. -/
theorem frI_zero {n d : Int} (hn : 0 ≤ n) (hd : 0 < d) : (frI n d).1 = 0 ↔ n = 0 := by
  unfold frI
  simp only []
  constructor
  · intro h
    have h0 : n.toNat / Nat.gcd n.toNat d.toNat = 0 := by omega
    have hg : 0 < Nat.gcd n.toNat d.toNat := Nat.gcd_pos_of_pos_right _ (by omega)
    rcases Nat.div_eq_zero_iff.1 h0 with h1 | h1
    · omega
    · by_cases hn0 : n.toNat = 0
      · omega
      · have := Nat.gcd_le_left d.toNat (Nat.pos_of_ne_zero hn0)
        omega
  · rintro rfl
    simp
theorem sum_sq {a b : Int} (h : a * a + b * b = 0) : a = 0 ∧ b = 0 := by
  have h1 := sqNN a
  have h2 := sqNN b
  exact ⟨sq0 (by omega), sq0 (by omega)⟩
/-- A number between 0 and another one. -/
def btw (u v : Int) : Prop := (0 ≤ v ∧ v ≤ u) ∨ (u ≤ v ∧ v ≤ 0)
theorem btw_of {u v S f : Int} (hS : 0 < S) (h : v * S = u * f) (h0 : 0 ≤ f) (h1 : f ≤ S) : btw u v := by
  rcases Int.le_total 0 u with hu | hu
  · left
    have a1 : 0 ≤ v * S := by rw [h]; exact Int.mul_nonneg hu h0
    have a2 : v * S ≤ u * S := by rw [h]; exact Int.mul_le_mul_of_nonneg_left h1 hu
    exact ⟨Int.le_of_mul_le_mul_right (by omega : (0 : Int) * S ≤ v * S) hS, Int.le_of_mul_le_mul_right a2 hS⟩
  · right
    have a1 : 0 ≤ (-v) * S := by rw [Int.neg_mul, h, ← Int.neg_mul]; exact Int.mul_nonneg (by omega) h0
    have a2 : (-v) * S ≤ (-u) * S := by rw [Int.neg_mul, h, ← Int.neg_mul]; exact Int.mul_le_mul_of_nonneg_left h1 (by omega)
    have b1 := Int.le_of_mul_le_mul_right (by omega : (0 : Int) * S ≤ (-v) * S) hS
    have b2 := Int.le_of_mul_le_mul_right a2 hS
    omega
theorem square_zero (u0 u1 v0 v1 : Int) : (squareV u0 u1 v0 v1).1 = 0 ↔ u0 * v1 - u1 * v0 = 0 ∧ btw u0 v0 ∧ btw u1 v1 := by
  have sgn : ∀ {u v : Int}, btw u v → 0 ≤ u * v ∧ 0 ≤ u * (u - v) ∧ (u * v = 0 → v = 0) ∧ (u * (u - v) = 0 → v = u) := fun h => same_sign (fun _ => by unfold btw at h; omega) (fun _ => by unfold btw at h; omega)
  have self : ∀ u : Int, btw u u := fun u => by unfold btw; omega
  have zero : ∀ u : Int, btw u 0 := fun u => by unfold btw; omega
  unfold squareV
  by_cases c1 : u0 * v0 + u1 * v1 ≤ 0
  · rw [if_pos c1]
    simp only []
    constructor
    · intro h
      obtain ⟨rfl, rfl⟩ := sum_sq h
      exact ⟨by simp, zero _, zero _⟩
    · rintro ⟨_, h0, h1⟩
      obtain ⟨a0, _, a1, _⟩ := sgn h0
      obtain ⟨b0, _, b1, _⟩ := sgn h1
      rw [a1 (by omega), b1 (by omega)]
      rfl
  · rw [if_neg c1]
    by_cases c2 : u0 * u0 + u1 * u1 ≤ u0 * v0 + u1 * v1
    · rw [if_pos c2]
      simp only []
      constructor
      · intro h
        obtain ⟨h0, h1⟩ := sum_sq h
        obtain rfl : v0 = u0 := by omega
        obtain rfl : v1 = u1 := by omega
        exact ⟨by rw [Int.mul_comm]; omega, self _, self _⟩
      · rintro ⟨_, h0, h1⟩
        obtain ⟨_, a0, _, a1⟩ := sgn h0
        obtain ⟨_, b0, _, b1⟩ := sgn h1
        rw [Int.mul_sub] at a0 a1 b0 b1
        rw [a1 (by omega), b1 (by omega)]
        simp
    · rw [if_neg c2]
      have hu : ¬ (u0 = 0 ∧ u1 = 0) := by rintro ⟨rfl, rfl⟩; simp at c1
      have hS := long_pos hu
      unfold lineV
      rw [if_neg hu, frI_zero (sqNN _) hS]
      constructor
      · intro h
        have hc := sq0 h
        have k1 : u0 * v1 = u1 * v0 := by omega
        refine ⟨hc, btw_of (f := u0 * v0 + u1 * v1) hS ?_ (by omega) (by omega), btw_of (f := u0 * v0 + u1 * v1) hS ?_ (by omega) (by omega)⟩
        · show v0 * (u0 * u0 + u1 * u1) = u0 * (u0 * v0 + u1 * v1)
          rw [Int.mul_add, Int.mul_add, Int.mul_left_comm u0 u1 v1, k1, Int.mul_left_comm v0 u0 u0, Int.mul_comm v0 u0, Int.mul_left_comm v0 u1 u1, Int.mul_comm v0 u1]
        · show v1 * (u0 * u0 + u1 * u1) = u1 * (u0 * v0 + u1 * v1)
          rw [Int.mul_add, Int.mul_add, Int.mul_left_comm u1 u0 v0, ← k1, Int.mul_left_comm v1 u0 u0, Int.mul_comm v1 u0, Int.mul_left_comm v1 u1 u1, Int.mul_comm v1 u1]
      · rintro ⟨h, _⟩
        rw [h]
        rfl
theorem on_square (e : Ed) (p : Pt) : (squareV (e.b.x - e.a.x) (e.b.y - e.a.y) (p.x - e.a.x) (p.y - e.a.y)).1 = 0 ↔ onE e p := by
  rw [square_zero]
  unfold onE crE btw
  constructor
  · rintro ⟨h, h0, h1⟩
    exact ⟨h, by omega, by omega, by omega, by omega⟩
  · rintro ⟨h, h0, h1, h2, h3⟩
    exact ⟨h, by omega, by omega⟩

/-- A rectangle. -/
def rectS (p : Pt) (m n : Int) : List Ed := [⟨p, ⟨p.x + m, p.y⟩⟩, ⟨⟨p.x + m, p.y⟩, ⟨p.x + m, p.y + n⟩⟩, ⟨⟨p.x + m, p.y + n⟩, ⟨p.x, p.y + n⟩⟩, ⟨⟨p.x, p.y + n⟩, p⟩]
theorem rect_area (p : Pt) (m n : Int) : arS (rectS p m n) = 2 * m * n := by
  obtain ⟨x, y⟩ := p
  simp only [rectS, arS, arE, List.map_cons, List.map_nil, List.sum_cons, List.sum_nil, Int.mul_add, Int.add_mul]
  have h1 := Int.mul_comm x y
  have h2 := Int.mul_comm m y
  have h3 := Int.mul_comm m n
  have h4 := Int.mul_comm n x
  have h5 : 2 * m * n = m * n + m * n := by rw [Int.mul_assoc]; omega
  omega
theorem up_right (x y n : Int) (hn : 0 < n) (z : Pt) : numE ⟨⟨x, y⟩, ⟨x, y + n⟩⟩ z = if y ≤ z.y ∧ z.y < y + n ∧ z.x < x then 1 else 0 := by
  have hc : crE ⟨⟨x, y⟩, ⟨x, y + n⟩⟩ z = n * (x - z.x) := by
    unfold crE
    simp only []
    rw [show x - x = 0 by omega, Int.zero_mul, show y + n - y = n by omega, show x - z.x = -(z.x - x) by omega, Int.mul_neg]
    omega
  unfold numE upE downE
  rw [hc]
  simp only []
  rw [if_neg (show ¬ (y + n ≤ z.y ∧ z.y < y ∧ n * (x - z.x) < 0) by omega)]
  by_cases c : z.x < x
  · have : 0 < n * (x - z.x) := Int.mul_pos hn (by omega)
    by_cases d : y ≤ z.y ∧ z.y < y + n
    · rw [if_pos ⟨d.1, d.2, this⟩, if_pos ⟨d.1, d.2, c⟩]; rfl
    · rw [if_neg (fun h => d ⟨h.1, h.2.1⟩), if_neg (fun h => d ⟨h.1, h.2.1⟩)]; rfl
  · have : ¬ 0 < n * (x - z.x) := by
      have := Int.mul_nonneg (show 0 ≤ n by omega) (show 0 ≤ z.x - x by omega)
      rw [show x - z.x = -(z.x - x) by omega, Int.mul_neg]
      omega
    rw [if_neg (fun h => this h.2.2), if_neg (fun h => c h.2.2)]; rfl
theorem rect_num (p : Pt) (m n : Int) (hm : 0 < m) (hn : 0 < n) (z : Pt) : numS (rectS p m n) z = if p.x ≤ z.x ∧ z.x < p.x + m ∧ p.y ≤ z.y ∧ z.y < p.y + n then 1 else 0 := by
  obtain ⟨x, y⟩ := p
  unfold rectS
  rw [numS_cons, numS_cons, numS_cons, numS_cons]
  have z0 : numS [] z = 0 := rfl
  have z1 : numE ⟨⟨x, y⟩, ⟨x + m, y⟩⟩ z = 0 := num_level (by simp only []; omega)
  have z2 : numE ⟨⟨x + m, y + n⟩, ⟨x, y + n⟩⟩ z = 0 := num_level (by simp only []; omega)
  have z3 := up_right (x + m) y n hn z
  have z4 : numE ⟨⟨x, y + n⟩, ⟨x, y⟩⟩ z = -numE ⟨⟨x, y⟩, ⟨x, y + n⟩⟩ z := num_back ⟨⟨x, y⟩, ⟨x, y + n⟩⟩ z
  rw [up_right x y n hn z] at z4
  simp only [] at *
  rw [z0, z1, z2, z3, z4]
  split <;> split <;> split <;> omega
theorem rect_on (p : Pt) (m n : Int) (hm : 0 < m) (hn : 0 < n) (z : Pt) : onS (rectS p m n) z = true ↔ (p.x ≤ z.x ∧ z.x ≤ p.x + m ∧ p.y ≤ z.y ∧ z.y ≤ p.y + n) ∧ ¬ (p.x < z.x ∧ z.x < p.x + m ∧ p.y < z.y ∧ z.y < p.y + n) := by
  obtain ⟨x, y⟩ := p
  have lev : ∀ (x0 x1 y0 : Int), x0 ≠ x1 → (onE ⟨⟨x0, y0⟩, ⟨x1, y0⟩⟩ z ↔ z.y = y0 ∧ min x0 x1 ≤ z.x ∧ z.x ≤ max x0 x1) := by
    intro x0 x1 y0 hne
    unfold onE crE
    simp only []
    constructor
    · rintro ⟨_, h1, h2, h3, h4⟩
      exact ⟨by omega, h1, h2⟩
    · rintro ⟨rfl, h1, h2⟩
      exact ⟨by rw [Int.sub_self, Int.mul_zero, Int.zero_mul]; rfl, h1, h2, by omega, by omega⟩
  have upr : ∀ (x0 y0 y1 : Int), y0 ≠ y1 → (onE ⟨⟨x0, y0⟩, ⟨x0, y1⟩⟩ z ↔ z.x = x0 ∧ min y0 y1 ≤ z.y ∧ z.y ≤ max y0 y1) := by
    intro x0 y0 y1 hne
    unfold onE crE
    simp only []
    constructor
    · rintro ⟨_, h1, h2, h3, h4⟩
      exact ⟨by omega, h3, h4⟩
    · rintro ⟨rfl, h1, h2⟩
      exact ⟨by rw [Int.sub_self, Int.mul_zero, Int.zero_mul]; rfl, by omega, by omega, h1, h2⟩
  unfold onS rectS
  simp only [List.any_cons, List.any_nil, Bool.or_false, Bool.or_eq_true, decide_eq_true_eq]
  rw [lev x (x + m) y (by omega), upr (x + m) y (y + n) (by omega), lev (x + m) x (y + n) (by omega), upr x (y + n) y (by omega)]
  omega

end Go.Proofs.Ytklajpadnbeplaa

namespace Go.Proofs.Ytklajpadnbeplaa

def mnF (f g : Ed → Int) (l : List Ed) (m : Int) : Int := l.foldl (fun m e => min (min m (f e)) (g e)) m
def mxF (f g : Ed → Int) (l : List Ed) (m : Int) : Int := l.foldl (fun m e => max (max m (f e)) (g e)) m
theorem box_is : ∀ (l : List Ed) (b : Pt × Pt), l.foldl boxF b = (⟨mnF (·.a.x) (·.b.x) l b.1.x, mnF (·.a.y) (·.b.y) l b.1.y⟩, ⟨mxF (·.a.x) (·.b.x) l b.2.x, mxF (·.a.y) (·.b.y) l b.2.y⟩)
  | [], b => rfl
  | e :: l, b => by rw [List.foldl_cons, box_is l]; rfl
theorem mn_le (f g : Ed → Int) : ∀ (l : List Ed) (m : Int), mnF f g l m ≤ m ∧ (∀ e ∈ l, mnF f g l m ≤ f e ∧ mnF f g l m ≤ g e) ∧ (mnF f g l m = m ∨ ∃ e ∈ l, f e = mnF f g l m ∨ g e = mnF f g l m)
  | [], m => by
    refine ⟨Int.le_refl _, fun e he => ?_, .inl rfl⟩
    cases he
  | d :: l, m => by
    have e0 : mnF f g (d :: l) m = mnF f g l (min (min m (f d)) (g d)) := rfl
    rw [e0]
    obtain ⟨h1, h2, h3⟩ := mn_le f g l (min (min m (f d)) (g d))
    refine ⟨by clear h2 h3; omega, fun e he => ?_, ?_⟩
    · rcases List.mem_cons.1 he with rfl | he
      · clear h2 h3
        omega
      · exact h2 e he
    · rcases h3 with h3 | ⟨e, he, h⟩
      · by_cases c1 : mnF f g l (min (min m (f d)) (g d)) = m
        · exact .inl c1
        · exact .inr ⟨d, List.mem_cons_self, by clear h2; omega⟩
      · exact .inr ⟨e, List.mem_cons_of_mem _ he, h⟩
theorem mx_ge (f g : Ed → Int) : ∀ (l : List Ed) (m : Int), m ≤ mxF f g l m ∧ (∀ e ∈ l, f e ≤ mxF f g l m ∧ g e ≤ mxF f g l m) ∧ (mxF f g l m = m ∨ ∃ e ∈ l, f e = mxF f g l m ∨ g e = mxF f g l m)
  | [], m => by
    refine ⟨Int.le_refl _, fun e he => ?_, .inl rfl⟩
    cases he
  | d :: l, m => by
    have e0 : mxF f g (d :: l) m = mxF f g l (max (max m (f d)) (g d)) := rfl
    rw [e0]
    obtain ⟨h1, h2, h3⟩ := mx_ge f g l (max (max m (f d)) (g d))
    refine ⟨by clear h2 h3; omega, fun e he => ?_, ?_⟩
    · rcases List.mem_cons.1 he with rfl | he
      · clear h2 h3
        omega
      · exact h2 e he
    · rcases h3 with h3 | ⟨e, he, h⟩
      · by_cases c1 : mxF f g l (max (max m (f d)) (g d)) = m
        · exact .inl c1
        · exact .inr ⟨d, List.mem_cons_self, by clear h2; omega⟩
      · exact .inr ⟨e, List.mem_cons_of_mem _ he, h⟩
/-- The ends of edges. -/
def endsS (l : List Ed) : List Pt := l.flatMap fun e => [e.a, e.b]
theorem mem_ends {l : List Ed} {p : Pt} : p ∈ endsS l ↔ ∃ e ∈ l, p = e.a ∨ p = e.b := by
  unfold endsS
  rw [List.mem_flatMap]
  constructor
  · rintro ⟨e, he, h⟩
    exact ⟨e, he, by simpa using h⟩
  · rintro ⟨e, he, h⟩
    exact ⟨e, he, by simpa using h⟩
structure IsBox (es : List Ed) (lo hi : Pt) : Prop where
  inn : ∀ p ∈ endsS es, lo.x ≤ p.x ∧ p.x ≤ hi.x ∧ lo.y ≤ p.y ∧ p.y ≤ hi.y
  left : (endsS es).any (fun p => p.x == lo.x) = true
  right : (endsS es).any (fun p => p.x == hi.x) = true
  low : (endsS es).any (fun p => p.y == lo.y) = true
  high : (endsS es).any (fun p => p.y == hi.y) = true
theorem att {es : List Ed} {f : Pt → Int} {v : Int} (h : ∃ e ∈ es, f e.a = v ∨ f e.b = v) : (endsS es).any (fun p => f p == v) = true := by
  rw [List.any_eq_true]
  obtain ⟨e, he, h | h⟩ := h
  · exact ⟨e.a, mem_ends.2 ⟨e, he, .inl rfl⟩, by simp [h]⟩
  · exact ⟨e.b, mem_ends.2 ⟨e, he, .inr rfl⟩, by simp [h]⟩
theorem isBox (es : List Ed) (h : es ≠ []) : IsBox es (boxS es).1 (boxS es).2 := by
  cases es with
  | nil => exact absurd rfl h
  | cons e l =>
    have hb : boxS (e :: l) = (e :: l).foldl boxF (e.a, e.a) := rfl
    rw [hb, box_is]
    obtain ⟨a1, a2, a3⟩ := mn_le (·.a.x) (·.b.x) (e :: l) e.a.x
    obtain ⟨b1, b2, b3⟩ := mn_le (·.a.y) (·.b.y) (e :: l) e.a.y
    obtain ⟨c1, c2, c3⟩ := mx_ge (·.a.x) (·.b.x) (e :: l) e.a.x
    obtain ⟨d1, d2, d3⟩ := mx_ge (·.a.y) (·.b.y) (e :: l) e.a.y
    refine ⟨?_, ?_, ?_, ?_, ?_⟩
    · intro p hp
      obtain ⟨d, hd, rfl | rfl⟩ := mem_ends.1 hp
      · exact ⟨(a2 d hd).1, (c2 d hd).1, (b2 d hd).1, (d2 d hd).1⟩
      · exact ⟨(a2 d hd).2, (c2 d hd).2, (b2 d hd).2, (d2 d hd).2⟩
    · exact att (f := Pt.x) (a3.elim (fun h => ⟨e, List.mem_cons_self, .inl h.symm⟩) id)
    · exact att (f := Pt.x) (c3.elim (fun h => ⟨e, List.mem_cons_self, .inl h.symm⟩) id)
    · exact att (f := Pt.y) (b3.elim (fun h => ⟨e, List.mem_cons_self, .inl h.symm⟩) id)
    · exact att (f := Pt.y) (d3.elim (fun h => ⟨e, List.mem_cons_self, .inl h.symm⟩) id)
theorem ends_push {l : List Ed} {r : Nat} {e : Ed} (h : l[r]? = some e) : endsS (l.take (r + 1)) = endsS (l.take r) ++ [e.a, e.b] := by
  obtain ⟨hi, rfl⟩ := List.getElem?_eq_some_iff.1 h
  rw [List.take_succ_eq_append_getElem hi]
  unfold endsS
  rw [List.flatMap_append]
  simp
theorem any_next (P : Pt → Bool) (l pts : List Pt) (j : Nat) (p : Pt) (h : pts[j]? = some p) : (l ++ pts.take (j + 1)).any P = ((l ++ pts.take j).any P || P p) := by
  obtain ⟨hi, rfl⟩ := List.getElem?_eq_some_iff.1 h
  rw [List.take_succ_eq_append_getElem hi, ← List.append_assoc, List.any_append]
  simp

end Go.Proofs.Ytklajpadnbeplaa
