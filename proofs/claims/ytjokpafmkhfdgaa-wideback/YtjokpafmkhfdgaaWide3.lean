/-
  What wide.magnitude, wide.Less, wide.Add, wide.Times do to any world: contracts (no claim is made here).
-/
import Derived.Test.YtjokpafmkhfdgaaWide2
namespace Go.Proofs.Ytjokpafmkhfdgaa
open Go.RowKit

theorem ret_int {k : IntKind} {a b : Int} (h : a = b) : Ending.returned (.int k a) = .returned (.int k b) := by rw [h]
theorem ret_bool {a b : Bool} (h : a = b) : Ending.returned (.bool a) = .returned (.bool b) := by rw [h]

set_option maxHeartbeats 400000 in
theorem magnitude_any (a : Int) (h1 : -9223372036854775808 ≤ a) (h2 : a ≤ 9223372036854775807) (w : World) :
    Calls Try.prog 27 #[.int .i64 a] w fun e w' => e = .returned (.int .u64 (a.natAbs : Int)) ∧ w = w' := by
  by_cases h : a < 0
  · go_enter Try.func27, Try.ntmps27
    go_wp2
    go_ret
    exact ⟨ret_int (by simp only [IntKind.wrap_u64]; omega), rfl⟩
  · go_enter Try.func27, Try.ntmps27
    go_wp2
    go_ret
    exact ⟨ret_int (by first | (simp only [IntKind.wrap_u64]; omega) | omega), rfl⟩

set_option maxHeartbeats 400000 in
theorem less_any (a b c d : Nat) (ha : a < 9223372036854775808) (hb : b < 9223372036854775808) (hc : c < 9223372036854775808) (hd : d < 9223372036854775808) (w : World) :
    Calls Try.prog 22 #[.int .i64 a, .int .i64 b, .int .i64 c, .int .i64 d] w fun e w' => e = .returned (.int .i64 (cmpN (a * d) (c * b))) ∧ Below w.heap.size w w' := by
  have e1 := Nat.div_add_mod' (a * d) 18446744073709551616
  have e2 := Nat.div_add_mod' (c * b) 18446744073709551616
  have m1 : a * d % 18446744073709551616 < 18446744073709551616 := Nat.mod_lt _ (by omega)
  have m2 : c * b % 18446744073709551616 < 18446744073709551616 := Nat.mod_lt _ (by omega)
  have HC := fun w => compare_any (a * d / 18446744073709551616) (a * d % 18446744073709551616) (c * b / 18446744073709551616) (c * b % 18446744073709551616) m1 m2 w
  rw [e1, e2] at HC
  have HM1 := fun w => mul_any a d (by omega) (by omega) w
  have HM2 := fun w => mul_any c b (by omega) (by omega) w
  clear e1 e2 m1 m2
  have H1 := Lib.hid HC
  have H2 := Lib.hid HM1
  have H3 := Lib.hid HM2
  clear HC HM1 HM2
  go_enter Try.func22, Try.ntmps22
  go_wp2_with fail
  refine (H2.out _).mono ?_
  rintro e w1 ⟨rfl, hb1⟩
  go_wp2_with fail
  refine (H3.out _).mono ?_
  rintro e w2 ⟨rfl, hb2⟩
  go_wp2_with fail
  refine (H1.out _).mono ?_
  rintro e w3 ⟨rfl, hb3⟩
  go_wp2_with fail
  go_ret
  exact ⟨rfl, (hb1.trans (hb2.mono hb1.size)).trans (hb3.mono (Nat.le_trans hb1.size hb2.size))⟩

theorem tuple_int_bool {k : IntKind} {a a' : Int} {c c' : Bool} (h1 : a = a') (h3 : c = c') :
    Ending.returned (.tuple #[.int k a, .bool c]) = .returned (.tuple #[.int k a', .bool c']) := by rw [h1, h3]

set_option maxHeartbeats 400000 in
theorem add_any (a b : Int) (h1 : -9223372036854775808 ≤ a) (h2 : a ≤ 9223372036854775807) (h3 : -9223372036854775808 ≤ b) (h4 : b ≤ 9223372036854775807) (w : World) :
    Calls Try.prog 19 #[.int .i64 a, .int .i64 b] w fun e w' => e = .returned (.tuple #[.int .i64 (wrap64 (a + b)), .bool (decide (-9223372036854775808 ≤ a + b ∧ a + b ≤ 9223372036854775807))]) ∧ w = w' := by
  go_enter Try.func19, Try.ntmps19
  go_wp2
  go_ret2
  refine ⟨tuple_int_bool rfl ?_, rfl⟩
  unfold wrap64
  rw [Bool.eq_iff_iff]
  simp
  omega

def timesOk (a b : Int) : Bool := decide (a.natAbs * b.natAbs ≤ if (decide (a < 0)) != (decide (b < 0)) then 9223372036854775808 else 9223372036854775807)

theorem timesOk_no (a b : Int) (h : ¬ a.natAbs * b.natAbs / 18446744073709551616 = 0) : timesOk a b = false := by
  unfold timesOk; split <;> simp <;> omega
theorem timesOk_same (a b : Int) (hs : (decide (a < 0) != decide (b < 0)) = false) (h : a.natAbs * b.natAbs / 18446744073709551616 = 0) : decide (((a.natAbs * b.natAbs % 18446744073709551616 : Nat) : Int) ≤ 9223372036854775807) = timesOk a b := by
  unfold timesOk; rw [hs, Bool.eq_iff_iff]; simp only [decide_eq_true_eq, Bool.false_eq_true, if_false]; omega
theorem timesOk_other (a b : Int) (hs : (decide (a < 0) != decide (b < 0)) = true) (h : a.natAbs * b.natAbs / 18446744073709551616 = 0) : decide (((a.natAbs * b.natAbs % 18446744073709551616 : Nat) : Int) ≤ 9223372036854775808) = timesOk a b := by
  unfold timesOk; rw [hs, Bool.eq_iff_iff]; simp only [decide_eq_true_eq, if_true]; omega

set_option maxHeartbeats 1000000 in
theorem times_raw (a b : Int) (hi lo : Nat) (ha0 : -9223372036854775808 ≤ a ∧ a ≤ 9223372036854775807) (hb0 : -9223372036854775808 ≤ b ∧ b ≤ 9223372036854775807)
    (HM : Hid (∀ w, Calls Try.prog 12 #[.int .u64 (a.natAbs : Int), .int .u64 (b.natAbs : Int)] w fun e w' => e = .returned (.agg #[.int .u64 hi, .int .u64 lo]) ∧ Below w.heap.size w w'))
    (t : Bool) (Hno : Hid (¬ hi = 0 → t = false)) (Hs : Hid ((decide (a < 0) != decide (b < 0)) = false → hi = 0 → decide ((lo : Int) ≤ 9223372036854775807) = t)) (Ho : Hid ((decide (a < 0) != decide (b < 0)) = true → hi = 0 → decide ((lo : Int) ≤ 9223372036854775808) = t)) (w : World) :
    Calls Try.prog 20 #[.int .i64 a, .int .i64 b] w fun e w' => e = .returned (.tuple #[.int .i64 (wrap64 (a * b)), .bool t]) ∧ Below w.heap.size w w' := by
  have HA := Lib.hid (fun w => magnitude_any a ha0.1 ha0.2 w)
  have HB := Lib.hid (fun w => magnitude_any b hb0.1 hb0.2 w)
  clear ha0 hb0
  by_cases hz : hi = 0
  · subst hz
    by_cases ha : a < 0 <;> by_cases hb : b < 0
    all_goals
      go_enter Try.func20, Try.ntmps20
      go_wp2_with fail
      refine (HA.out _).mono ?_
      rintro e w1 ⟨rfl, rfl⟩
      go_wp2_with fail
      refine (HB.out _).mono ?_
      rintro e w1 ⟨rfl, rfl⟩
      go_wp2_with fail
      refine (HM.out _).mono ?_
      rintro e w1 ⟨rfl, hb1⟩
      go_wp2_with fail
      go_quiet (fail)
      go_wp2
      go_ret2
      refine ⟨tuple_int_bool rfl ?_, below_drewN (hb1.alloc (hb1.size) _) _⟩
      first
        | (refine Hs.out ?_ trivial; simp; omega)
        | (refine Ho.out ?_ trivial; simp; omega)
  · have hz2 : ((hi : Int) == 0) = false := by simpa using hz
    by_cases ha : a < 0 <;> by_cases hb : b < 0
    all_goals
      go_enter Try.func20, Try.ntmps20
      go_wp2_with fail
      refine (HA.out _).mono ?_
      rintro e w1 ⟨rfl, rfl⟩
      go_wp2_with fail
      refine (HB.out _).mono ?_
      rintro e w1 ⟨rfl, rfl⟩
      go_wp2_with fail
      refine (HM.out _).mono ?_
      rintro e w1 ⟨rfl, hb1⟩
      go_wp2_with fail
      go_quiet (fail)
      go_wp2
      go_ret2
      exact ⟨tuple_int_bool rfl (Hno.out hz).symm, below_drewN (hb1.alloc (hb1.size) _) _⟩

theorem times_any (a b : Int) (ha : -9223372036854775808 ≤ a ∧ a ≤ 9223372036854775807) (hb : -9223372036854775808 ≤ b ∧ b ≤ 9223372036854775807) (w : World) :
    Calls Try.prog 20 #[.int .i64 a, .int .i64 b] w fun e w' => e = .returned (.tuple #[.int .i64 (wrap64 (a * b)), .bool (timesOk a b)]) ∧ Below w.heap.size w w' :=
  times_raw a b _ _ ha hb (fun w => mul_any a.natAbs b.natAbs (by omega) (by omega) w) _ (timesOk_no a b) (timesOk_same a b) (timesOk_other a b) w

end Go.Proofs.Ytjokpafmkhfdgaa
