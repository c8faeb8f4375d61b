/-
  The walk of the law WideMul (no claim is made here: the row is WideMul).
-/
import Derived.Test.YtjokpafmkhfdgaaBits5
import Derived.OpenShut
namespace Go.Proofs.Ytjokpafmkhfdgaa
open Go.RowKit

set_option maxHeartbeats 1000000 in
set_option maxRecDepth 100000 in
theorem wideMul_core (a b p1 p0 : Int) (arr : Array Value) (w : World)
    (heq : ∀ w, (Op.equalIn 10000 24 (.agg arr) (.agg arr)).run Try.prog w = .ok true w)
    (M1 : Hid (∀ w, Calls Try.prog 12 #[.int .u64 a, .int .u64 b] w fun e w' => e = .returned (.agg #[.int .u64 p1, .int .u64 p0]) ∧ Below w.heap.size w w'))
    (M2 : Hid (∀ w, Calls Try.prog 12 #[.int .u64 b, .int .u64 a] w fun e w' => e = .returned (.agg #[.int .u64 p1, .int .u64 p0]) ∧ Below w.heap.size w w'))
    (B1 : Hid (∀ w, Calls Try.prog 11 #[.agg #[.int .u64 p1, .int .u64 p0]] w fun e w' => e = .returned (.agg arr) ∧ Below w.heap.size w w'))
    (L1 : Hid (∀ w, Calls Try.prog 13 #[.int .u64 a, .int .u64 b] w fun e w' => e = .returned (.agg arr) ∧ Below w.heap.size w w')) :
    Calls Try.prog 3 #[.int .u64 a, .int .u64 b] w fun e w' => e = .returned (.bool true) ∧ Below w.heap.size w w' := by
  go_enter Try.func3, Try.ntmps3
  go_wp2_with fail
  refine (awake_any _).mono ?_
  rintro e w1 ⟨rfl, hb1⟩
  go_wp2_with fail
  refine (M1.out _).mono ?_
  rintro e w2 ⟨rfl, hb2⟩
  go_wp2_with fail
  refine (B1.out _).mono ?_
  rintro e w3 ⟨rfl, hb3⟩
  go_wp2_with fail
  refine (L1.out _).mono ?_
  rintro e w4 ⟨rfl, hb4⟩
  go_wp2_with fail
  refine (M1.out _).mono ?_
  rintro e w5 ⟨rfl, hb5⟩
  go_wp2_with fail
  refine (M2.out _).mono ?_
  rintro e w6 ⟨rfl, hb6⟩
  go_wp2
  go_ret
  exact ⟨rfl, below2 (below2 (below2 (below2 (below2 hb1 hb2) hb3) hb4) hb5) hb6⟩

theorem wideMul_walk (x y : Int) (wx : (Lit.int .u64 x).wf = true) (wy : (Lit.int .u64 y).wf = true) (w : World) :
    Calls Try.prog 3 #[.int .u64 x, .int .u64 y] w fun e w' => e = .returned (.bool true) ∧ Below w.heap.size w w' := by
  have bx := bounds_u64 wx
  have hy := bounds_u64 wy
  obtain ⟨a, rfl⟩ := Int.eq_ofNat_of_zero_le bx.1
  obtain ⟨b, rfl⟩ := Int.eq_ofNat_of_zero_le hy.1
  have ha : a < 18446744073709551616 := by omega
  have hb : b < 18446744073709551616 := by omega
  have hle : a * b ≤ 18446744073709551615 * 18446744073709551615 := Nat.mul_le_mul (by omega) (by omega)
  refine wideMul_core a b _ _ (bvArr (BitVec.ofNat 128 (a * b))) w (eq128 _) (fun w => mul_any a b ha hb w) (fun w => by rw [Nat.mul_comm a b]; exact mul_any b a hb ha w) (fun w => ?_) (fun w => mul128_any a b ha hb w)
  have h := bits_any (a * b / 18446744073709551616) (a * b % 18446744073709551616) (by omega) (Nat.mod_lt _ (by omega)) w
  rw [Nat.div_add_mod'] at h
  exact h

end Go.Proofs.Ytjokpafmkhfdgaa
