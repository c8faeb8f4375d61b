/-
  What the verifier's mul of layer 1 does at any two numbers, and rows of 128 bools compared: contracts (no claim is made here).
-/
import Derived.Test.YtjokpafmkhfdgaaBits4
import Derived.ChangeKeysEq
namespace Go.Proofs.Ytjokpafmkhfdgaa
open Go.RowKit

/-- The first number's bits, moved up by k, as far as the i-th. -/
def moved (a k i : Nat) : Nat → Bool := fun j => decide (k ≤ j ∧ j < i + k) && a.testBit (j - k)
theorem moved_zero (a k : Nat) : barr (moved a k 0) = Z128 := by
  unfold Z128
  rw [← Barr.zero]
  apply Barr.ext
  intro j _
  simp only [moved]
  rw [decide_eq_false (by omega), Bool.false_and]
theorem moved_succ (a k i : Nat) : barr (moved a k (i + 1)) = (barr (moved a k i)).setIfInBounds (i + k) (.bool (a.testBit i)) := by
  rw [Barr.set]
  apply Barr.ext
  intro j _
  simp only [moved]
  by_cases h : j = i + k
  · subst h; rw [if_pos rfl, decide_eq_true ⟨by omega, by omega⟩, Bool.true_and, Nat.add_sub_cancel]
  · rw [if_neg h]
    by_cases h1 : k ≤ j ∧ j < i + k
    · rw [decide_eq_true h1, decide_eq_true ⟨h1.1, by omega⟩]
    · rw [decide_eq_false h1, decide_eq_false (by omega)]
theorem moved_all (a k : Nat) (ha : a < 18446744073709551616) : barr (moved a k 64) = bvArr (BitVec.ofNat 128 (a * 2 ^ k)) := by
  apply Barr.ext
  intro j hj
  simp only [moved, BitVec.getLsbD_ofNat, hj, decide_true, Bool.true_and, Nat.testBit_mul_two_pow]
  by_cases h : k ≤ j
  · by_cases h2 : j < 64 + k
    · rw [decide_eq_true ⟨h, h2⟩, decide_eq_true h]
    · rw [decide_eq_false (by omega), decide_eq_true h, Bool.false_and, Bool.true_and, Nat.testBit_lt_two_pow (Nat.lt_of_lt_of_le ha (Nat.pow_le_pow_right (n := 2) (i := 64) (by omega) (by omega)))]
  · rw [decide_eq_false (by omega), decide_eq_false h]

theorem testBit_and0 (n k : Nat) (hn : n < 18446744073709551616) : (bits .and .u64 ((n : Int) / 2 ^ k) 1 == 0) = !n.testBit k := by
  have e : (n : Int) / 2 ^ k = ((n / 2 ^ k : Nat) : Int) := by simp
  have h := bits_and_u64_nat (n / 2 ^ k) 1 (Nat.lt_of_le_of_lt (Nat.div_le_self _ _) hn) (by omega)
  have h1 : bits .and .u64 ((n : Int) / 2 ^ k) 1 = ((n / 2 ^ k &&& 1 : Nat) : Int) := by rw [e]; exact h
  rw [h1, Nat.and_one_is_mod, Nat.testBit_eq_decide_div_mod_eq, Bool.eq_iff_iff]
  simp
  omega

theorem mod_next (b k : Nat) : b % 2 ^ (k + 1) = b % 2 ^ k + 2 ^ k * (if b.testBit k then 1 else 0) := by
  rw [Nat.pow_succ, Nat.mod_mul, Nat.testBit_eq_decide_div_mod_eq]
  congr 2
  by_cases h : b / 2 ^ k % 2 = 1
  · rw [h]; rfl
  · have : b / 2 ^ k % 2 = 0 := by omega
    rw [this]; rfl

theorem mul128_any (a b : Nat) (ha : a < 18446744073709551616) (hb : b < 18446744073709551616) (w : World) :
    Calls Try.prog 13 #[.int .u64 a, .int .u64 b] w fun e w' => e = .returned (.agg (bvArr (BitVec.ofNat 128 (a * b)))) ∧ Below w.heap.size w w' := by
  have e64 : b % 2 ^ 64 = b := Nat.mod_eq_of_lt hb
  have h := mul_core a b (fun i => a.testBit i) (fun k => b.testBit k) (fun k => decide (340282366920938463463374607431768211456 ≤ (BitVec.ofNat 128 (a * (b % 2 ^ k))).toNat + (BitVec.ofNat 128 (a * 2 ^ k)).toNat))
    (fun k => bvArr (BitVec.ofNat 128 (a * (b % 2 ^ k)))) (fun k i => barr (moved a k i)) w
    (fun i _ => testBit_and a i ha) (fun k _ => testBit_and0 b k hb) ?_ ?_ (fun k => moved_zero a k) (fun k i _ _ => moved_succ a k i) (fun k i => Barr.size _) (fun k => Barr.size _) (fun k => Barr.one _) ?_
  · simp only [e64] at h
    exact h
  · show bvArr (BitVec.ofNat 128 (a * (b % 2 ^ 0))) = Z128
    rw [Nat.pow_zero, Nat.mod_one, Nat.mul_zero]
    unfold Z128
    rw [← Barr.zero]
    apply Barr.ext
    intro i _
    simp
  · intro k _ hk
    show bvArr (BitVec.ofNat 128 (a * (b % 2 ^ (k + 1)))) = bvArr (BitVec.ofNat 128 (a * (b % 2 ^ k)))
    rw [mod_next, hk]
    simp
  · intro k _ hk w
    have hp := plus128_any (BitVec.ofNat 128 (a * (b % 2 ^ k))) (BitVec.ofNat 128 (a * 2 ^ k)) w
    rw [← moved_all a k ha, ← BitVec.ofNat_add] at hp
    have e : a * (b % 2 ^ (k + 1)) = a * (b % 2 ^ k) + a * 2 ^ k := by
      rw [mod_next, hk, Nat.mul_add]
      simp
    simp only [e]
    exact hp

theorem eq_items (f : Nat → Bool) (w : World) : ∀ is : List Nat, (∀ i ∈ is, i < 128) → (Op.eqItems 9999 4 (Try.prog.cellsOf 4) (barr f) (barr f) is).run Try.prog w = .ok true w
  | [], _ => by simp [Op.eqItems]
  | i :: is, h => by
    have c : Try.prog.cellsOf 4 = 1 := by kernel_rfl
    have hp : (part 4 (barr f) (i * 1)).run Try.prog w = .ok (.bool (f i)) w := run_part_plain w (by kernel_rfl) (by rw [Nat.mul_one]; exact Barr.get f i (h i (by simp)))
    have he : (Op.equalIn 9999 4 (.bool (f i)) (.bool (f i))).run Try.prog w = .ok true w := by
      rw [run_equalIn_bool w 9998 _ _ _ Try.underlying4]; simp
    have ih := eq_items f w is (fun j hj => h j (by simp [hj]))
    rw [c] at ih ⊢
    simp only [Op.eqItems, Sem.run_bind, hp, he, Result.andThen_ok, Bool.not_true, Bool.false_eq_true, if_false]
    exact ih

theorem eq128 (x : BitVec 128) (w : World) : (Op.equalIn 10000 24 (.agg (bvArr x)) (.agg (bvArr x))).run Try.prog w = .ok true w := by
  obtain ⟨i, hi⟩ : ∃ i, Try.prog.info? 4 = some i := Option.isSome_iff_exists.1 (by kernel_rfl)
  rw [run_equalIn_array w 9999 _ _ Try.underlying24 hi]
  exact eq_items _ w _ (fun i hi => by simpa using hi)

end Go.Proofs.Ytjokpafmkhfdgaa
