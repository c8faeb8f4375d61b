/-
  Rows of 128 bools, as numbers: plain facts (no Go text here, no claim).
-/
import Derived.Laws.Bits64b
import Derived.Laws.Tables
namespace Go.Proofs.Ytjokpafmkhfdgaa

/-- The row of 128 bools that f tells. -/
def barr (f : Nat → Bool) : Array Value := Array.ofFn (n := 128) fun i => .bool (f i.val)

namespace Barr
theorem size (f : Nat → Bool) : (barr f).size = 128 := by simp [barr]
theorem get (f : Nat → Bool) (i : Nat) (h : i < 128) : (barr f)[i]? = some (.bool (f i)) := by
  simp [barr, h]
theorem ext {f g : Nat → Bool} (h : ∀ i, i < 128 → f i = g i) : barr f = barr g := by
  apply Array.ext
  · simp [barr]
  · intro i h1 _
    have hi : i < 128 := by simpa [barr] using h1
    simp [barr, h i hi]
theorem set (f : Nat → Bool) (k : Nat) (b : Bool) : (barr f).setIfInBounds k (.bool b) = barr (fun i => if i = k then b else f i) := by
  apply Array.ext
  · simp [barr]
  · intro i h1 h2
    by_cases e : k = i
    · subst e; simp [barr]
    · have e' : ¬ i = k := fun x => e x.symm
      rw [Array.getElem_setIfInBounds_ne (by simpa [barr] using h1) e]
      simp [barr, e']
theorem one (f : Nat → Bool) : (barr f).all (·.oneCell') = true := by
  rw [Array.all_eq_true_iff_forall_mem]
  intro x hx
  simp only [barr, Array.mem_ofFn] at hx
  obtain ⟨i, rfl⟩ := hx
  rfl
theorem zero : barr (fun _ => false) = Array.replicate 128 (.bool false) := by
  apply Array.ext
  · simp [barr]
  · intro i h1 h2
    simp [barr]
theorem inj {f g : Nat → Bool} (h : barr f = barr g) (i : Nat) (hi : i < 128) : f i = g i := by
  have h1 := get f i hi
  rw [h, get g i hi] at h1
  simpa using h1.symm
end Barr

/-- The row of a number of 128 bits. -/
def bvArr (x : BitVec 128) : Array Value := barr fun i => x.getLsbD i

theorem testBit_and (n k : Nat) (hn : n < 18446744073709551616) : (bits .and .u64 ((n : Int) / 2 ^ k) 1 == 1) = n.testBit k := by
  have e : (n : Int) / 2 ^ k = ((n / 2 ^ k : Nat) : Int) := by simp
  have h := bits_and_u64_nat (n / 2 ^ k) 1 (Nat.lt_of_le_of_lt (Nat.div_le_self _ _) hn) (by omega)
  have h1 : bits .and .u64 ((n : Int) / 2 ^ k) 1 = ((n / 2 ^ k &&& 1 : Nat) : Int) := by rw [e]; exact h
  rw [h1, Nat.and_one_is_mod, Nat.testBit_eq_decide_div_mod_eq, Bool.eq_iff_iff]
  simp
  omega

/-- Half filled: the low half's bits and the high one's, below k. -/
def half (pl ph k : Nat) : Nat → Bool := fun i => if i < k then pl.testBit i else if 64 ≤ i ∧ i < 64 + k then ph.testBit (i - 64) else false
theorem half_zero (pl ph : Nat) : barr (half pl ph 0) = Array.replicate 128 (.bool false) := by
  rw [← Barr.zero]
  apply Barr.ext
  intro i _
  simp only [half]
  rw [if_neg (by omega), if_neg (by omega)]
theorem half_succ (pl ph k : Nat) (hk : k < 64) : barr (half pl ph (k + 1)) = ((barr (half pl ph k)).setIfInBounds k (.bool (pl.testBit k))).setIfInBounds (64 + k) (.bool (ph.testBit k)) := by
  rw [Barr.set, Barr.set]
  apply Barr.ext
  intro i _
  simp only [half]
  by_cases h1 : i = 64 + k
  · subst h1; rw [if_neg (by omega), if_pos ⟨by omega, by omega⟩, if_pos rfl]; congr 1; omega
  · rw [if_neg h1]
    by_cases h2 : i = k
    · subst h2; rw [if_pos (by omega), if_pos rfl]
    · rw [if_neg h2]
      by_cases h3 : i < k
      · rw [if_pos h3, if_pos (by omega)]
      · rw [if_neg h3, if_neg (by omega)]
        by_cases h4 : 64 ≤ i ∧ i < 64 + k
        · rw [if_pos h4, if_pos ⟨h4.1, by omega⟩]
        · rw [if_neg h4, if_neg (by omega)]
theorem half_all (pl ph : Nat) (hl : pl < 18446744073709551616) : barr (half pl ph 64) = bvArr (BitVec.ofNat 128 (ph * 18446744073709551616 + pl)) := by
  apply Barr.ext
  intro i hi
  simp only [half, BitVec.getLsbD_ofNat, hi, decide_true, Bool.true_and]
  have h := Nat.testBit_two_pow_mul_add ph (b := pl) (i := 64) hl i
  rw [Nat.mul_comm] at h
  rw [show (18446744073709551616 : Nat) = 2 ^ 64 from rfl, h]
  by_cases h1 : i < 64
  · rw [if_pos h1, if_pos h1]
  · rw [if_neg h1, if_neg h1]
    rw [if_pos ⟨by omega, trivial⟩]

/-- The sum, as far as bit k; above it nothing yet. -/
def sumTo (x y : BitVec 128) (k : Nat) : Nat → Bool := fun i => if i < k then (x + y).getLsbD i else false
theorem sumTo_zero (x y : BitVec 128) : barr (sumTo x y 0) = Array.replicate 128 (.bool false) := by
  rw [← Barr.zero]
  apply Barr.ext
  intro i _
  simp only [sumTo]
  rw [if_neg (by omega)]
theorem sumTo_succ (x y : BitVec 128) (k : Nat) (hk : k < 128) : barr (sumTo x y (k + 1)) = (barr (sumTo x y k)).setIfInBounds k (.bool ((x.getLsbD k != y.getLsbD k) != BitVec.carry k x y false)) := by
  rw [Barr.set]
  apply Barr.ext
  intro i _
  simp only [sumTo]
  by_cases h : i = k
  · subst h
    rw [if_pos (by omega), if_pos rfl, BitVec.getLsbD_add hk]
    cases x.getLsbD i <;> cases y.getLsbD i <;> cases BitVec.carry i x y false <;> rfl
  · rw [if_neg h]
    by_cases h1 : i < k
    · rw [if_pos h1, if_pos (by omega)]
    · rw [if_neg h1, if_neg (by omega)]
theorem sumTo_all (x y : BitVec 128) : barr (sumTo x y 128) = bvArr (x + y) := by
  apply Barr.ext
  intro i hi
  simp only [sumTo]
  rw [if_pos hi]
theorem carry_next (x y : BitVec 128) (k : Nat) : BitVec.carry (k + 1) x y false = ((x.getLsbD k && y.getLsbD k) || (BitVec.carry k x y false && (x.getLsbD k || y.getLsbD k))) := by
  rw [BitVec.carry_succ]
  cases x.getLsbD k <;> cases y.getLsbD k <;> cases BitVec.carry k x y false <;> rfl
theorem carry_zero (x y : BitVec 128) : BitVec.carry 0 x y false = false := by simp
theorem carry_all (x y : BitVec 128) : BitVec.carry 128 x y false = decide (340282366920938463463374607431768211456 ≤ x.toNat + y.toNat) := by
  have h1 := x.isLt
  have h2 := y.isLt
  simp only [BitVec.carry, Nat.mod_eq_of_lt h1, Nat.mod_eq_of_lt h2, Bool.toNat_false, Nat.add_zero]

end Go.Proofs.Ytjokpafmkhfdgaa
