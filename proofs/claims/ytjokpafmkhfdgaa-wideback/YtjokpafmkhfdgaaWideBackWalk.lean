/-
  The walk of the law WideBack, its numbers (no claim is made here: the row is WideBack).
-/
import Derived.Test.YtjokpafmkhfdgaaWideBackCore
namespace Go.Proofs.Ytjokpafmkhfdgaa
open Go.RowKit

theorem back_facts (a b m : Nat) (ha : a < 18446744073709551616) (hb : b < 18446744073709551616) (hm : m < b) :
    a * b / 18446744073709551616 + (a * b % 18446744073709551616 + m) / 18446744073709551616 = (a * b + m) / 18446744073709551616 ∧ (a * b + m) / 18446744073709551616 < b ∧
    (a * b % 18446744073709551616 + m) % 18446744073709551616 = (a * b + m) % 18446744073709551616 ∧ (a * b + m) / b = a ∧ (a * b + m) % b = m := by
  have h : a * b + m < 18446744073709551616 * b := by
    have h1 : (a + 1) * b ≤ 18446744073709551616 * b := Nat.mul_le_mul_right _ ha
    rw [Nat.add_mul] at h1
    omega
  refine ⟨by omega, ?_, by omega, ?_, ?_⟩
  · rw [Nat.div_lt_iff_lt_mul (by omega)]; omega
  · rw [Nat.mul_comm, Nat.mul_add_div (by omega), Nat.div_eq_of_lt hm, Nat.add_zero]
  · rw [Nat.mul_comm, Nat.mul_add_mod, Nat.mod_eq_of_lt hm]

theorem wideBack_walk (x y r : Int) (wx : (Lit.int .u64 x).wf = true) (wy : (Lit.int .u64 y).wf = true) (wr : (Lit.int .u64 r).wf = true) (w : World) :
    Calls Try.prog 9 #[.int .u64 x, .int .u64 y, .int .u64 r] w fun e w' => e = .returned (.bool true) ∧ Below w.heap.size w w' := by
  have bx := bounds_u64 wx
  have hy := bounds_u64 wy
  have br := bounds_u64 wr
  obtain ⟨a, rfl⟩ := Int.eq_ofNat_of_zero_le bx.1
  obtain ⟨b, eb⟩ : ∃ b : Nat, max y 1 = (b : Int) := ⟨(max y 1).toNat, by omega⟩
  obtain ⟨c, rfl⟩ := Int.eq_ofNat_of_zero_le br.1
  have ha : a < 18446744073709551616 := by omega
  have hb : b < 18446744073709551616 := by omega
  have hb0 : 0 < b := by omega
  have hm : c % b < b := Nat.mod_lt _ hb0
  obtain ⟨f1, f2, f3, f4, f5⟩ := back_facts a b (c % b) ha hb hm
  refine wideBack_core a y c b ((c % b : Nat) : Int) _ _ (((a * b + c % b) / 18446744073709551616 : Nat) : Int) (((a * b + c % b) % 18446744073709551616 : Nat) : Int) eb (Int.natCast_emod c b).symm br.1 (by omega) (fun w => mul_any a b ha hb w) ?_ ?_ w
  · intro w
    have h := plus_any (a * b / 18446744073709551616) (a * b % 18446744073709551616) 0 (c % b) (Nat.mod_lt _ (by omega)) (by omega) w
    have e : (a * b + c % b) / 18446744073709551616 % 18446744073709551616 = (a * b + c % b) / 18446744073709551616 := Nat.mod_eq_of_lt (by omega)
    rw [Nat.add_zero, f1, f3, e, decide_eq_false (by omega)] at h
    exact h
  · intro w
    have h := div_ok ((a * b + c % b) / 18446744073709551616) ((a * b + c % b) % 18446744073709551616) b f2 hb (Nat.mod_lt _ (by omega)) w
    rw [Nat.div_add_mod', f4, f5] at h
    exact h

end Go.Proofs.Ytjokpafmkhfdgaa
