/-
  What cmp.Compare[uint64], wide.Pair.Compare, wide.Pair.Plus, wide.magnitude, wide.Less do to any world: contracts (no claim is made here).
-/
import Derived.Test.YtjokpafmkhfdgaaWide1
import Derived.Deep.QuietTactic
import Derived.BigQuiet
namespace Go.Proofs.Ytjokpafmkhfdgaa
open Go.RowKit

def cmpN (a b : Nat) : Int := if a < b then -1 else if b < a then 1 else 0

set_option maxHeartbeats 400000 in
theorem cmp_any (x y : Nat) (w : World) :
    Calls Try.prog 24 #[.int .u64 x, .int .u64 y] w fun e w' => e = .returned (.int .i64 (cmpN x y)) ∧ w = w' := by
  rcases Nat.lt_trichotomy x y with h | h | h
  · have e1 : cmpN x y = -1 := by unfold cmpN; rw [if_pos h]
    rw [e1]; clear e1
    go_enter Try.func24, Try.ntmps24
    go_wp2
    go_ret
    exact ⟨rfl, rfl⟩
  · subst h
    have e1 : cmpN x x = 0 := by unfold cmpN; simp
    rw [e1]; clear e1
    go_enter Try.func24, Try.ntmps24
    go_wp2
    go_ret
    exact ⟨rfl, rfl⟩
  · have e1 : cmpN x y = 1 := by unfold cmpN; rw [if_neg (by omega), if_pos h]
    have h2 : ¬ x < y := by omega
    rw [e1]; clear e1
    go_enter Try.func24, Try.ntmps24
    go_wp2
    go_ret
    exact ⟨rfl, rfl⟩

theorem cmpN_pair_hi (ph pl qh ql : Nat) (h1 : pl < 18446744073709551616) (h2 : ql < 18446744073709551616) (h : ¬ ph = qh) :
    cmpN (ph * 18446744073709551616 + pl) (qh * 18446744073709551616 + ql) = cmpN ph qh := by
  unfold cmpN
  rcases Nat.lt_trichotomy ph qh with g | g | g
  · rw [if_pos g, if_pos (by omega)]
  · exact absurd g h
  · rw [if_neg (by omega), if_pos (by omega), if_neg (by omega), if_pos (by omega)]
theorem cmpN_pair_lo (ph pl ql : Nat) :
    cmpN (ph * 18446744073709551616 + pl) (ph * 18446744073709551616 + ql) = cmpN pl ql := by
  unfold cmpN
  rcases Nat.lt_trichotomy pl ql with g | g | g
  · rw [if_pos g, if_pos (by omega)]
  · subst g; simp
  · rw [if_neg (by omega), if_pos (by omega), if_neg (by omega), if_pos (by omega)]

set_option maxHeartbeats 400000 in
theorem compare_any (ph pl qh ql : Nat) (h1 : pl < 18446744073709551616) (h2 : ql < 18446744073709551616) (w : World) :
    Calls Try.prog 14 #[.agg #[.int .u64 ph, .int .u64 pl], .agg #[.int .u64 qh, .int .u64 ql]] w fun e w' =>
      e = .returned (.int .i64 (cmpN (ph * 18446744073709551616 + pl) (qh * 18446744073709551616 + ql))) ∧ Below w.heap.size w w' := by
  by_cases h : ph = qh
  · subst h
    rw [cmpN_pair_lo]
    clear h1 h2
    go_enter Try.func14, Try.ntmps14
    go_wp2_with (go_at_call 24; refine (cmp_any _ _ _).mono ?_; rintro e w' ⟨rfl, rfl⟩)
    go_ret
    exact ⟨rfl, ((Below.refl _ _).alloc (Nat.le_refl _) _).alloc (by simp) _⟩
  · rw [cmpN_pair_hi _ _ _ _ h1 h2 h]
    clear h1 h2
    go_enter Try.func14, Try.ntmps14
    go_wp2_with (go_at_call 24; refine (cmp_any _ _ _).mono ?_; rintro e w' ⟨rfl, rfl⟩)
    go_ret
    exact ⟨rfl, ((Below.refl _ _).alloc (Nat.le_refl _) _).alloc (by simp) _⟩

theorem add64_run (x y c : Int) (hx : 0 ≤ x) (hy : 0 ≤ y) (hc0 : 0 ≤ c) (hc : c ≤ 1) (w : World) :
    (callFunc 25 #[.int .u64 x, .int .u64 y, .int .u64 c]).run Try.prog w =
      .ok (.value (.tuple #[.int .u64 ((x + y + c) % 18446744073709551616), .int .u64 ((x + y + c) / 18446744073709551616)])) w := by
  rw [run_callFunc_extern Try.func25 (by kernel_rfl) (by kernel_rfl) (by kernel_rfl) (e := add64Entry) (by kernel_rfl), run_add64 x y c hx hy hc0 hc]
  rfl

theorem tuple_pair_bool {a a' b b' : Int} {c c' : Bool} (h1 : a = a') (h2 : b = b') (h3 : c = c') :
    Ending.returned (.tuple #[.agg #[.int .u64 a, .int .u64 b], .bool c]) = .returned (.tuple #[.agg #[.int .u64 a', .int .u64 b'], .bool c']) := by rw [h1, h2, h3]

set_option maxHeartbeats 400000 in
theorem plus_any (ph pl qh ql : Nat) (h1 : pl < 18446744073709551616) (h2 : ql < 18446744073709551616) (w : World) :
    Calls Try.prog 16 #[.agg #[.int .u64 ph, .int .u64 pl], .agg #[.int .u64 qh, .int .u64 ql]] w fun e w' =>
      e = .returned (.tuple #[.agg #[.int .u64 (((ph + qh + (pl + ql) / 18446744073709551616) % 18446744073709551616 : Nat) : Int), .int .u64 (((pl + ql) % 18446744073709551616 : Nat) : Int)],
        .bool (decide (18446744073709551616 ≤ ph + qh + (pl + ql) / 18446744073709551616))]) ∧ Below w.heap.size w w' := by
  have hA := fun w => add64_run pl ql 0 (by omega) (by omega) (by omega) (by omega) w
  have hB := fun w => add64_run ph qh (((pl : Int) + ql) / 18446744073709551616) (by omega) (by omega) (by omega) (by omega) w
  simp only [Int.add_zero] at hA
  go_enter Try.func16, Try.ntmps16
  go_wp2
  refine bodyPost_ret (v := .tuple #[.agg #[.int .u64 (((ph : Int) + qh + (pl + ql) / 18446744073709551616) % 18446744073709551616), .int .u64 (((pl : Int) + ql) % 18446744073709551616)],
        .bool (((ph : Int) + qh + (pl + ql) / 18446744073709551616) / 18446744073709551616 != 0)]) (by simp [results, Try.results16, go_sem]) rfl ⟨tuple_pair_bool (by omega) (by omega) ?_, ?_⟩
  · rw [Bool.eq_iff_iff]; simp; omega
  · exact (((Below.refl _ _).alloc (Nat.le_refl _) _).alloc (by simp) _).alloc (by simp; omega) _

end Go.Proofs.Ytjokpafmkhfdgaa
