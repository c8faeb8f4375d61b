/-
  The walk of the law WideLess: it returns true, and nothing that was there has turned (no claim is made here: the row is WideLess).
-/
import Derived.Test.YtjokpafmkhfdgaaAwake1
import Derived.OpenShut
namespace Go.Proofs.Ytjokpafmkhfdgaa
open Go.RowKit

theorem cmpN_neg (a b : Nat) : cmpN a b = -cmpN b a := by
  unfold cmpN
  rcases Nat.lt_trichotomy a b with h | h | h
  · rw [if_pos h, if_neg (by omega), if_pos h]
  · subst h; simp
  · rw [if_neg (by omega), if_pos h, if_pos h, Int.neg_neg]
theorem cmpN_self (a : Nat) : cmpN a a = 0 := by unfold cmpN; simp
theorem cmpN_bd (a b : Nat) : -1 ≤ cmpN a b ∧ cmpN a b ≤ 1 := by unfold cmpN; split <;> (try split) <;> omega

/-- What a product's two halves are compared as. -/
theorem compare_products (a d c b : Nat) (w : World) :
    Calls Try.prog 14 #[.agg #[.int .u64 ((a * d / 18446744073709551616 : Nat) : Int), .int .u64 ((a * d % 18446744073709551616 : Nat) : Int)], .agg #[.int .u64 ((c * b / 18446744073709551616 : Nat) : Int), .int .u64 ((c * b % 18446744073709551616 : Nat) : Int)]] w fun e w' =>
      e = .returned (.int .i64 (cmpN (a * d) (c * b))) ∧ Below w.heap.size w w' := by
  have h := compare_any (a * d / 18446744073709551616) (a * d % 18446744073709551616) (c * b / 18446744073709551616) (c * b % 18446744073709551616) (Nat.mod_lt _ (by omega)) (Nat.mod_lt _ (by omega)) w
  rw [Nat.div_add_mod', Nat.div_add_mod'] at h
  exact h

set_option maxHeartbeats 1000000 in
set_option maxRecDepth 100000 in
theorem wideLess_nat (x y z t : Int) (a b c d p1 p0 q1 q0 : Nat) (k : Int) (hk : -1 ≤ k ∧ k ≤ 1)
    (ea : max 0 x = (a : Int)) (eb : max 1 y = (b : Int)) (ec : max 0 z = (c : Int)) (ed : max 1 t = (d : Int))
    (ha : a < 9223372036854775808) (hb : b < 9223372036854775808) (hc : c < 9223372036854775808) (hd : d < 9223372036854775808)
    (L1 : Hid (∀ w, Calls Try.prog 22 #[.int .i64 a, .int .i64 b, .int .i64 c, .int .i64 d] w fun e w' => e = .returned (.int .i64 k) ∧ Below w.heap.size w w'))
    (L2 : Hid (∀ w, Calls Try.prog 22 #[.int .i64 c, .int .i64 d, .int .i64 a, .int .i64 b] w fun e w' => e = .returned (.int .i64 (-k)) ∧ Below w.heap.size w w'))
    (L3 : Hid (∀ w, Calls Try.prog 22 #[.int .i64 a, .int .i64 b, .int .i64 a, .int .i64 b] w fun e w' => e = .returned (.int .i64 0) ∧ Below w.heap.size w w'))
    (M1 : Hid (∀ w, Calls Try.prog 12 #[.int .u64 a, .int .u64 d] w fun e w' => e = .returned (.agg #[.int .u64 p1, .int .u64 p0]) ∧ Below w.heap.size w w'))
    (M2 : Hid (∀ w, Calls Try.prog 12 #[.int .u64 c, .int .u64 b] w fun e w' => e = .returned (.agg #[.int .u64 q1, .int .u64 q0]) ∧ Below w.heap.size w w'))
    (C1 : Hid (∀ w, Calls Try.prog 14 #[.agg #[.int .u64 p1, .int .u64 p0], .agg #[.int .u64 q1, .int .u64 q0]] w fun e w' => e = .returned (.int .i64 k) ∧ Below w.heap.size w w'))
    (w : World) :
    Calls Try.prog 8 #[.int .i64 x, .int .i64 y, .int .i64 z, .int .i64 t] w fun e w' => e = .returned (.bool true) ∧ Below w.heap.size w w' := by
  go_enter Try.func8, Try.ntmps8
  go_wp2_with fail
  refine (awake_any _).mono ?_
  rintro e w1 ⟨rfl, hb1⟩
  go_wp2_with fail
  refine (L1.out _).mono ?_
  rintro e w2 ⟨rfl, hb2⟩
  go_wp2_with fail
  refine (M1.out _).mono ?_
  rintro e w3 ⟨rfl, hb3⟩
  go_wp2_with fail
  refine (M2.out _).mono ?_
  rintro e w4 ⟨rfl, hb4⟩
  go_wp2_with fail
  refine (C1.out _).mono ?_
  rintro e w5 ⟨rfl, hb5⟩
  go_wp2_with fail
  refine (L1.out _).mono ?_
  rintro e w6 ⟨rfl, hb6⟩
  go_wp2_with fail
  refine (L2.out _).mono ?_
  rintro e w7 ⟨rfl, hb7⟩
  go_wp2_with fail
  refine (L3.out _).mono ?_
  rintro e w8 ⟨rfl, hb8⟩
  go_wp2
  go_ret
  exact ⟨rfl, below2 (below2 (below2 (below2 (below2 (below2 (below2 hb1 hb2) hb3) hb4) hb5) hb6) hb7) hb8⟩

theorem wideLess_walk (x y z t : Int) (wx : (Lit.int .i64 x).wf = true) (wy : (Lit.int .i64 y).wf = true) (wz : (Lit.int .i64 z).wf = true) (wt : (Lit.int .i64 t).wf = true) (w : World) :
    Calls Try.prog 8 #[.int .i64 x, .int .i64 y, .int .i64 z, .int .i64 t] w fun e w' => e = .returned (.bool true) ∧ Below w.heap.size w w' := by
  have bx := bounds_i64 wx
  have by' := bounds_i64 wy
  have bz := bounds_i64 wz
  have bt := bounds_i64 wt
  obtain ⟨a, ea⟩ : ∃ a : Nat, max 0 x = (a : Int) := ⟨(max 0 x).toNat, by omega⟩
  obtain ⟨b, eb⟩ : ∃ b : Nat, max 1 y = (b : Int) := ⟨(max 1 y).toNat, by omega⟩
  obtain ⟨c, ec⟩ : ∃ c : Nat, max 0 z = (c : Int) := ⟨(max 0 z).toNat, by omega⟩
  obtain ⟨d, ed⟩ : ∃ d : Nat, max 1 t = (d : Int) := ⟨(max 1 t).toNat, by omega⟩
  have ha : a < 9223372036854775808 := by omega
  have hb : b < 9223372036854775808 := by omega
  have hc : c < 9223372036854775808 := by omega
  have hd : d < 9223372036854775808 := by omega
  exact wideLess_nat x y z t a b c d _ _ _ _ (cmpN (a * d) (c * b)) (cmpN_bd _ _) ea eb ec ed ha hb hc hd
    (fun w => less_any a b c d ha hb hc hd w)
    (fun w => by rw [← cmpN_neg]; exact less_any c d a b hc hd ha hb w)
    (fun w => by rw [← cmpN_self (a * b)]; exact less_any a b a b ha hb ha hb w)
    (fun w => mul_any a d (by omega) (by omega) w) (fun w => mul_any c b (by omega) (by omega) w) (fun w => compare_products a d c b w) w

end Go.Proofs.Ytjokpafmkhfdgaa
