/-
  What root.Sqrt does to any world: a contract (no claim is made here).
-/
import Derived.Test.YtnejdngeeppphaaRows
import Derived.WalkKit
import Derived.WalkSpells
import Derived.WalkLawsBesides
import Derived.Lib.Hide
import Derived.Test.YtnejdngeeppphaaRootMath
import Derived.Test.YtnejdngeeppphaaDivMath
import Derived.IntWalk
namespace Go.Proofs.Ytnejdngeeppphaa
open Go.RowKit

theorem mulU (a b : Nat) : (a : Int) * (b : Int) = ((a * b : Nat) : Int) := (Int.natCast_mul a b).symm
theorem wrapU (a : Nat) (ha : a < 18446744073709551616) : IntKind.u64.wrap (a : Int) = (a : Int) := by rw [IntKind.wrap_u64]; omega
theorem sqrt_neg (n : Int) (h : n < 0) (w : World) :
    Calls Try.prog 21 #[.int .i64 n] w fun e w' => e = .returned (.int .i64 0) ∧ w = w' := by
  go_enter Try.func21, Try.ntmps21
  go_wp2
  go_ret
  exact ⟨rfl, rfl⟩

/-- What holds while the root's loop goes round: of the bit B, and the root r so far. -/
def SqRel (n : Nat) (r B : Nat) : Prop := ∃ k, (B = 2 ^ k / 2) ∧ r % 2 ^ k = 0 ∧ r + 2 ^ k ≤ 4294967296 ∧ r * r ≤ n ∧ n < (r + 2 ^ k) * (r + 2 ^ k)

theorem SqRel.start (n : Nat) (hn : n < 9223372036854775808) : SqRel n 0 2147483648 := ⟨32, by decide, by decide, by decide, Nat.zero_le _, by simp; omega⟩
theorem SqRel.done {n r : Nat} (h : SqRel n r 0) (hn : n < 9223372036854775808) : isqrt n = r ∧ r < 4294967296 := by
  obtain ⟨k, hB, h1, h2, h3, h4⟩ := h
  have hk : k = 0 := by
    rcases k with _ | k
    · rfl
    · rw [Nat.pow_succ] at hB; have := Nat.two_pow_pos k; omega
  subst hk
  exact ⟨isqrt_unique n r (by omega) h3 h4, by omega⟩
theorem SqRel.round {n r B : Nat} (h : SqRel n r B) (hB : 0 < B) :
    bits .or .u64 (r : Int) (B : Int) = ((r + B : Nat) : Int) ∧ (r + B) * (r + B) < 18446744073709551616 ∧ ((r + B) * (r + B) ≤ n → SqRel n (r + B) (B / 2)) ∧ (¬ (r + B) * (r + B) ≤ n → SqRel n r (B / 2)) := by
  obtain ⟨k, rfl, h1, h2, h3, h4⟩ := h
  rcases k with _ | k
  · simp at hB
  · have e : 2 ^ (k + 1) / 2 = 2 ^ k := by rw [Nat.pow_succ]; omega
    have e2 : 2 ^ (k + 1) = 2 ^ k + 2 ^ k := by rw [Nat.pow_succ]; omega
    rw [e] at hB ⊢
    have m : r % 2 ^ k = 0 := by rw [e2, ← Nat.mul_two] at h1; exact Nat.mod_eq_zero_of_dvd (Nat.dvd_trans (Nat.dvd_mul_right _ _) (Nat.dvd_of_mod_eq_zero h1))
    rw [e2] at h1 h2 h4
    refine ⟨?_, ?_, fun h => ⟨k, rfl, ?_, by omega, h, ?_⟩, fun h => ⟨k, rfl, m, by omega, h3, by omega⟩⟩
    · rw [bits_or_u64_nat _ _ (by omega) (by omega), nat_join (k + 1) r _ (by rw [e2]; exact h1) (by omega)]
    · have := sq_le (a := r + 2 ^ k) (b := 4294967295) (by omega); omega
    · rw [Nat.add_mod_right]; exact m
    · rw [Nat.add_assoc]; exact h4

set_option maxHeartbeats 400000 in
theorem sqrt_any (n : Nat) (hn : n < 9223372036854775808) (w : World) :
    Calls Try.prog 21 #[.int .i64 n] w fun e w' => e = .returned (.int .i64 (isqrt n : Nat)) ∧ w = w' := by
  have H0 := Lib.hid (SqRel.start n hn)
  have HN := Lib.hid hn
  have en : IntKind.u64.wrap (n : Int) = (n : Int) := wrapU n (by omega)
  clear hn
  go_enter Try.func21, Try.ntmps21
  go_wp2_with fail
  go_loop [3, 4] (fun r b => ∃ R B : Nat, r = .int .u64 R ∧ b = .int .u64 B ∧ SqRel n R B) (fun _ b => (intOf b).toNat)
  case atStart => exact ⟨0, 2147483648, rfl, rfl, H0.out⟩
  case round =>
    obtain ⟨R, B, rfl, rfl, hR⟩ := hrel
    by_cases hB : 0 < B
    · obtain ⟨e1, h2, hy, hno⟩ := hR.round hB
      have e2 : IntKind.u64.wrap (((R + B : Nat) : Int) * ((R + B : Nat) : Int)) = (((R + B) * (R + B) : Nat) : Int) := by rw [mulU]; exact wrapU _ h2
      by_cases hc : (R + B) * (R + B) ≤ n
      · have h3 := Lib.hid (hy hc)
        clear hy hno h2
        generalize R + B = t at *
        generalize t * t = T at *
        go_wp2_with fail
        exact ⟨⟨t, B / 2, rfl, by rw [Int.natCast_ediv]; rfl, h3.out⟩, by simp [intOf]; omega⟩
      · have h3 := Lib.hid (hno hc)
        clear hy hno h2
        generalize R + B = t at *
        generalize t * t = T at *
        go_wp2_with fail
        exact ⟨⟨R, B / 2, rfl, by rw [Int.natCast_ediv]; rfl, h3.out⟩, by simp [intOf]; omega⟩
    · obtain rfl : B = 0 := by omega
      obtain ⟨h1, h2⟩ := hR.done HN.out
      have H1 := Lib.hid h1
      clear h1 hR
      go_wp2
      go_ret
      exact ⟨by rw [H1.out]; rfl, rfl⟩

end Go.Proofs.Ytnejdngeeppphaa
