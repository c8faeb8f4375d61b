/-
  What cmp.Compare[uint64], wide.Pair.Compare, wide.Less do to any world: contracts (no claim is made here).
-/
import Derived.Test.YtdbmbppmgeabkaaWide1
import Derived.Deep.QuietTactic
import Derived.BigQuiet
namespace Go.Proofs.Ytdbmbppmgeabkaa
open Go.RowKit

theorem ret_int {k : IntKind} {a b : Int} (h : a = b) : Ending.returned (.int k a) = .returned (.int k b) := by rw [h]
theorem ret_bool {a b : Bool} (h : a = b) : Ending.returned (.bool a) = .returned (.bool b) := by rw [h]

def cmpN (a b : Nat) : Int := if a < b then -1 else if b < a then 1 else 0

set_option maxHeartbeats 400000 in
theorem cmp_any (x y : Nat) (w : World) :
    Calls Try.prog 27 #[.int .u64 x, .int .u64 y] w fun e w' => e = .returned (.int .i64 (cmpN x y)) ∧ w = w' := by
  rcases Nat.lt_trichotomy x y with h | h | h
  · have e1 : cmpN x y = -1 := by unfold cmpN; rw [if_pos h]
    rw [e1]; clear e1
    go_enter Try.func27, Try.ntmps27
    go_wp2
    go_ret
    exact ⟨rfl, rfl⟩
  · subst h
    have e1 : cmpN x x = 0 := by unfold cmpN; simp
    rw [e1]; clear e1
    go_enter Try.func27, Try.ntmps27
    go_wp2
    go_ret
    exact ⟨rfl, rfl⟩
  · have e1 : cmpN x y = 1 := by unfold cmpN; rw [if_neg (by omega), if_pos h]
    have h2 : ¬ x < y := by omega
    rw [e1]; clear e1
    go_enter Try.func27, Try.ntmps27
    go_wp2
    go_ret
    exact ⟨rfl, rfl⟩

theorem cmpN_pair_hi (ph pl qh ql : Nat) (h1 : pl < 18446744073709551616) (h2 : ql < 18446744073709551616) (h : ¬ ph = qh) :
    cmpN (ph * 18446744073709551616 + pl) (qh * 18446744073709551616 + ql) = cmpN ph qh := by
  unfold cmpN
  rcases Nat.lt_trichotomy ph qh with g | g | g
  · rw [if_pos g, if_pos (by omega)]
  · exact absurd g h
  · rw [if_neg (by omega), if_pos (by omega), if_neg (by omega), if_pos (by omega)]
theorem cmpN_pair_lo (ph pl ql : Nat) :
    cmpN (ph * 18446744073709551616 + pl) (ph * 18446744073709551616 + ql) = cmpN pl ql := by
  unfold cmpN
  rcases Nat.lt_trichotomy pl ql with g | g | g
  · rw [if_pos g, if_pos (by omega)]
  · subst g; simp
  · rw [if_neg (by omega), if_pos (by omega), if_neg (by omega), if_pos (by omega)]

set_option maxHeartbeats 400000 in
theorem compare_any (ph pl qh ql : Nat) (h1 : pl < 18446744073709551616) (h2 : ql < 18446744073709551616) (w : World) :
    Calls Try.prog 24 #[.agg #[.int .u64 ph, .int .u64 pl], .agg #[.int .u64 qh, .int .u64 ql]] w fun e w' =>
      e = .returned (.int .i64 (cmpN (ph * 18446744073709551616 + pl) (qh * 18446744073709551616 + ql))) ∧ Below w.heap.size w w' := by
  by_cases h : ph = qh
  · subst h
    rw [cmpN_pair_lo]
    clear h1 h2
    go_enter Try.func24, Try.ntmps24
    go_wp2_with (go_at_call 27; refine (cmp_any _ _ _).mono ?_; rintro e w' ⟨rfl, rfl⟩)
    go_ret
    exact ⟨rfl, ((Below.refl _ _).alloc (Nat.le_refl _) _).alloc (by simp) _⟩
  · rw [cmpN_pair_hi _ _ _ _ h1 h2 h]
    clear h1 h2
    go_enter Try.func24, Try.ntmps24
    go_wp2_with (go_at_call 27; refine (cmp_any _ _ _).mono ?_; rintro e w' ⟨rfl, rfl⟩)
    go_ret
    exact ⟨rfl, ((Below.refl _ _).alloc (Nat.le_refl _) _).alloc (by simp) _⟩

set_option maxHeartbeats 400000 in
theorem less_any (a b c d : Nat) (ha : a < 9223372036854775808) (hb : b < 9223372036854775808) (hc : c < 9223372036854775808) (hd : d < 9223372036854775808) (w : World) :
    Calls Try.prog 20 #[.int .i64 a, .int .i64 b, .int .i64 c, .int .i64 d] w fun e w' => e = .returned (.int .i64 (cmpN (a * d) (c * b))) ∧ Below w.heap.size w w' := by
  have e1 := Nat.div_add_mod' (a * d) 18446744073709551616
  have e2 := Nat.div_add_mod' (c * b) 18446744073709551616
  have m1 : a * d % 18446744073709551616 < 18446744073709551616 := Nat.mod_lt _ (by omega)
  have m2 : c * b % 18446744073709551616 < 18446744073709551616 := Nat.mod_lt _ (by omega)
  have HC := fun w => compare_any (a * d / 18446744073709551616) (a * d % 18446744073709551616) (c * b / 18446744073709551616) (c * b % 18446744073709551616) m1 m2 w
  rw [e1, e2] at HC
  have HM1 := fun w => mul_any a d (by omega) (by omega) w
  have HM2 := fun w => mul_any c b (by omega) (by omega) w
  clear e1 e2 m1 m2
  have H1 := Lib.hid HC
  have H2 := Lib.hid HM1
  have H3 := Lib.hid HM2
  clear HC HM1 HM2
  go_enter Try.func20, Try.ntmps20
  go_wp2_with fail
  refine (H2.out _).mono ?_
  rintro e w1 ⟨rfl, hb1⟩
  go_wp2_with fail
  refine (H3.out _).mono ?_
  rintro e w2 ⟨rfl, hb2⟩
  go_wp2_with fail
  refine (H1.out _).mono ?_
  rintro e w3 ⟨rfl, hb3⟩
  go_wp2_with fail
  go_ret
  exact ⟨rfl, (hb1.trans (hb2.mono hb1.size)).trans (hb3.mono (Nat.le_trans hb1.size hb2.size))⟩

end Go.Proofs.Ytdbmbppmgeabkaa
