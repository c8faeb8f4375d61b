/-
  What root.Sqrt, root.commonDivisor, root.Floor do to any world: contracts (no claim is made here).
-/
import Derived.Test.YtfddpifkngchbaaKeep1
import Derived.Test.YtfddpifkngchbaaRootMath
import Derived.Test.YtfddpifkngchbaaDivMath
import Derived.IntWalk
namespace Go.Proofs.Ytfddpifkngchbaa
open Go.RowKit

theorem sqrt_neg (n : Int) (h : n < 0) (w : World) :
    Calls Try.prog 11 #[.int .i64 n] w fun e w' => e = .returned (.int .i64 0) ∧ w = w' := by
  go_enter Try.func11, Try.ntmps11
  go_wp2
  go_ret
  exact ⟨rfl, rfl⟩

/-- What holds while the root's loop goes round: of the bit B, and the root r so far. -/
def SqRel (n : Nat) (r B : Nat) : Prop := ∃ k, (B = 2 ^ k / 2) ∧ r % 2 ^ k = 0 ∧ r + 2 ^ k ≤ 4294967296 ∧ r * r ≤ n ∧ n < (r + 2 ^ k) * (r + 2 ^ k)

theorem SqRel.start (n : Nat) (hn : n < 9223372036854775808) : SqRel n 0 2147483648 := ⟨32, by decide, by decide, by decide, Nat.zero_le _, by simp; omega⟩
theorem SqRel.done {n r : Nat} (h : SqRel n r 0) (hn : n < 9223372036854775808) : isqrt n = r ∧ r < 4294967296 := by
  obtain ⟨k, hB, h1, h2, h3, h4⟩ := h
  have hk : k = 0 := by
    rcases k with _ | k
    · rfl
    · rw [Nat.pow_succ] at hB; have := Nat.two_pow_pos k; omega
  subst hk
  exact ⟨isqrt_unique n r (by omega) h3 h4, by omega⟩
theorem SqRel.round {n r B : Nat} (h : SqRel n r B) (hB : 0 < B) :
    bits .or .u64 (r : Int) (B : Int) = ((r + B : Nat) : Int) ∧ (r + B) * (r + B) < 18446744073709551616 ∧ ((r + B) * (r + B) ≤ n → SqRel n (r + B) (B / 2)) ∧ (¬ (r + B) * (r + B) ≤ n → SqRel n r (B / 2)) := by
  obtain ⟨k, rfl, h1, h2, h3, h4⟩ := h
  rcases k with _ | k
  · simp at hB
  · have e : 2 ^ (k + 1) / 2 = 2 ^ k := by rw [Nat.pow_succ]; omega
    have e2 : 2 ^ (k + 1) = 2 ^ k + 2 ^ k := by rw [Nat.pow_succ]; omega
    rw [e] at hB ⊢
    have m : r % 2 ^ k = 0 := by rw [e2, ← Nat.mul_two] at h1; exact Nat.mod_eq_zero_of_dvd (Nat.dvd_trans (Nat.dvd_mul_right _ _) (Nat.dvd_of_mod_eq_zero h1))
    rw [e2] at h1 h2 h4
    refine ⟨?_, ?_, fun h => ⟨k, rfl, ?_, by omega, h, ?_⟩, fun h => ⟨k, rfl, m, by omega, h3, by omega⟩⟩
    · rw [bits_or_u64_nat _ _ (by omega) (by omega), nat_join (k + 1) r _ (by rw [e2]; exact h1) (by omega)]
    · have := sq_le (a := r + 2 ^ k) (b := 4294967295) (by omega); omega
    · rw [Nat.add_mod_right]; exact m
    · rw [Nat.add_assoc]; exact h4

set_option maxHeartbeats 400000 in
theorem sqrt_any (n : Nat) (hn : n < 9223372036854775808) (w : World) :
    Calls Try.prog 11 #[.int .i64 n] w fun e w' => e = .returned (.int .i64 (isqrt n : Nat)) ∧ w = w' := by
  have H0 := Lib.hid (SqRel.start n hn)
  have HN := Lib.hid hn
  have en : IntKind.u64.wrap (n : Int) = (n : Int) := W.wrapN n (by omega)
  clear hn
  go_enter Try.func11, Try.ntmps11
  go_wp2_with fail
  go_loop [3, 4] (fun r b => ∃ R B : Nat, r = .int .u64 R ∧ b = .int .u64 B ∧ SqRel n R B) (fun _ b => (intOf b).toNat)
  case atStart => exact ⟨0, 2147483648, rfl, rfl, H0.out⟩
  case round =>
    obtain ⟨R, B, rfl, rfl, hR⟩ := hrel
    by_cases hB : 0 < B
    · obtain ⟨e1, h2, hy, hno⟩ := hR.round hB
      have e2 : IntKind.u64.wrap (((R + B : Nat) : Int) * ((R + B : Nat) : Int)) = (((R + B) * (R + B) : Nat) : Int) := by rw [W.mulN]; exact W.wrapN _ h2
      by_cases hc : (R + B) * (R + B) ≤ n
      · have h3 := Lib.hid (hy hc)
        clear hy hno h2
        generalize R + B = t at *
        generalize t * t = T at *
        go_wp2_with fail
        exact ⟨⟨t, B / 2, rfl, by rw [Int.natCast_ediv]; rfl, h3.out⟩, by simp [intOf]; omega⟩
      · have h3 := Lib.hid (hno hc)
        clear hy hno h2
        generalize R + B = t at *
        generalize t * t = T at *
        go_wp2_with fail
        exact ⟨⟨R, B / 2, rfl, by rw [Int.natCast_ediv]; rfl, h3.out⟩, by simp [intOf]; omega⟩
    · obtain rfl : B = 0 := by omega
      obtain ⟨h1, h2⟩ := hR.done HN.out
      have H1 := Lib.hid h1
      clear h1 hR
      go_wp2
      go_ret
      exact ⟨ret_int (by rw [H1.out]), rfl⟩

set_option maxHeartbeats 400000 in
theorem commonDivisor_any (a b : Nat) (ha : a < 9223372036854775808) (hb : b < 9223372036854775808) (w : World) :
    Calls Try.prog 20 #[.int .i64 a, .int .i64 b] w fun e w' => e = .returned (.int .i64 (Nat.gcd a b : Nat)) ∧ w = w' := by
  generalize hg : Nat.gcd a b = g
  have HG := Lib.hid hg
  clear hg
  go_enter Try.func20, Try.ntmps20
  go_wp2_with fail
  go_loop [0, 1] (fun x y => ∃ A B : Nat, x = .int .i64 A ∧ y = .int .i64 B ∧ A < 9223372036854775808 ∧ B < 9223372036854775808 ∧ Hid (Nat.gcd A B = g)) (fun x _ => (intOf x).toNat)
  case atStart => exact ⟨a, b, rfl, rfl, ha, hb, HG⟩
  case round =>
    obtain ⟨A, B, rfl, rfl, hA, hB, HR⟩ := hrel
    by_cases h0 : 0 < A
    · have hm : B % A < A := Nat.mod_lt _ h0
      have hz : ((A : Int) == 0) = false := by simp; omega
      have em : (B : Int) % A = ((B % A : Nat) : Int) := (Int.natCast_emod B A).symm
      have HN : Hid (Nat.gcd (B % A) A = g) := (gcd_round A B).trans HR.out
      generalize B % A = M at *
      have EM := Lib.hid em
      clear em
      go_wp2_with fail
      exact ⟨⟨M, A, congrArg _ EM.out, rfl, by omega, hA, HN⟩, by simp only [intOf]; rw [EM.out]; omega⟩
    · obtain rfl : A = 0 := by omega
      have HR' : Hid (B = g) := (Nat.gcd_zero_left B).symm.trans HR.out
      clear HR
      go_wp2
      go_ret
      exact ⟨ret_int (by rw [HR'.out]), rfl⟩

theorem floor_neg (a b : Int) (ha : a < 0) (hb : 1 ≤ b) : (0 ≤ a.tmod b → a.tdiv b = a / b) ∧ (a.tmod b < 0 → a.tdiv b - 1 = a / b) := by
  have h0 := Int.emod_nonneg a (show b ≠ 0 by omega)
  have h1 := Int.emod_lt_of_pos a (show 0 < b by omega)
  have hs : b.sign = 1 := Int.sign_eq_one_of_pos (by omega)
  rw [Int.tdiv_eq_ediv, Int.tmod_eq_emod]
  split
  · next h =>
    rcases h with h | h
    · omega
    · have := Int.emod_eq_zero_of_dvd h
      omega
  · rw [hs]; omega
theorem ediv_bounds (a b : Int) (ha : -9223372036854775808 ≤ a) (ha2 : a ≤ 9223372036854775807) (hb : 1 ≤ b) : -9223372036854775808 ≤ a / b ∧ a / b ≤ 9223372036854775807 := by
  constructor
  · rw [Int.le_ediv_iff_mul_le (by omega)]
    have := Int.mul_le_mul_of_nonneg_left hb (show (0 : Int) ≤ 9223372036854775808 by omega)
    omega
  · have : a / b < 9223372036854775808 := by
      rw [Int.ediv_lt_iff_lt_mul (by omega)]
      have := Int.mul_le_mul_of_nonneg_left hb (show (0 : Int) ≤ 9223372036854775808 by omega)
      omega
    omega

set_option maxHeartbeats 400000 in
theorem floor_any (a b : Int) (ha : -9223372036854775808 ≤ a ∧ a ≤ 9223372036854775807) (hb : 1 ≤ b ∧ b ≤ 9223372036854775807) (w : World) :
    Calls Try.prog 19 #[.int .i64 a, .int .i64 b] w fun e w' => e = .returned (.int .i64 (a / b)) ∧ w = w' := by
  obtain ⟨ha1, ha2⟩ := ha
  obtain ⟨hb1, hb2⟩ := hb
  have HB := Lib.hid (ediv_bounds a b ha1 ha2 hb1)
  have hz : (b == 0) = false := by simp; omega
  by_cases h : 0 ≤ a
  · have h2 := Int.emod_nonneg a (show b ≠ 0 by omega)
    go_enter Try.func19, Try.ntmps19
    go_wp2
    go_ret
    exact ⟨rfl, rfl⟩
  · have HF := Lib.hid (floor_neg a b (by omega) hb1)
    by_cases hm : 0 ≤ a.tmod b
    · go_enter Try.func19, Try.ntmps19
      go_wp2
      go_ret
      exact ⟨ret_int (HF.out.1 hm), rfl⟩
    · go_enter Try.func19, Try.ntmps19
      go_wp2
      go_ret
      exact ⟨ret_int (by rw [HF.out.2 (by omega)]; have := HB.out; unfold wrap64; omega), rfl⟩

end Go.Proofs.Ytfddpifkngchbaa
