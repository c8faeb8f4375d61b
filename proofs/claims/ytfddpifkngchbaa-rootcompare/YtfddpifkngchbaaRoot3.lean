/-
  What root.Scaled does to any world: a contract (no claim is made here).
-/
import Derived.Test.YtfddpifkngchbaaRoot2
namespace Go.Proofs.Ytfddpifkngchbaa
open Go.RowKit

set_option maxHeartbeats 400000 in
theorem scaled_wrong (a b t : Int) (h : t < 0 ∨ 1048576 < t ∨ a < 0 ∨ b < 1) (w : World) :
    Calls Try.prog 16 #[.agg #[.int .i64 a, .int .i64 b], .int .i64 t] w fun e w' => e = .returned (.int .i64 (-1)) ∧ Below w.heap.size w w' := by
  by_cases h1 : t < 0
  · clear h
    go_enter Try.func16, Try.ntmps16
    go_wp2
    go_ret
    exact ⟨rfl, (Below.refl _ _).alloc (Nat.le_refl _) _⟩
  by_cases h2 : 1048576 < t
  · clear h
    go_enter Try.func16, Try.ntmps16
    go_wp2
    go_ret
    exact ⟨rfl, (Below.refl _ _).alloc (Nat.le_refl _) _⟩
  by_cases h3 : a < 0
  · clear h
    go_enter Try.func16, Try.ntmps16
    go_wp2
    go_ret
    exact ⟨rfl, (Below.refl _ _).alloc (Nat.le_refl _) _⟩
  · have h4 : b < 1 := by omega
    clear h
    go_enter Try.func16, Try.ntmps16
    go_wp2
    go_ret
    exact ⟨rfl, (Below.refl _ _).alloc (Nat.le_refl _) _⟩

/-- What a division tells of a pair, and what is then told of the root. -/
def ScRes (q er : Nat) (r : Int) : Prop := (er ≠ 0 ∧ r = -1) ∨ (er = 0 ∧ 4611686018427387904 < q ∧ r = -1) ∨ (er = 0 ∧ q ≤ 4611686018427387904 ∧ r = (isqrt q : Nat))

set_option maxHeartbeats 1000000 in
set_option maxRecDepth 100000 in
theorem scaled_raw (a b t T hi lo q rr er : Nat) (r : Int) (ha : a < 9223372036854775808) (hb : b < 9223372036854775808) (hb1 : 1 ≤ b) (ht : t ≤ 1048576) (hT : T ≤ 1099511627776) (eT : (t : Int) * t = T)
    (HM : Hid (∀ w, Calls Try.prog 17 #[.int .u64 a, .int .u64 T] w fun e w' => e = .returned (.agg #[.int .u64 hi, .int .u64 lo]) ∧ Below w.heap.size w w'))
    (HD : Hid (∀ w, Calls Try.prog 18 #[.agg #[.int .u64 hi, .int .u64 lo], .int .u64 b] w fun e w' => e = .returned (.tuple #[.int .u64 q, .int .u64 rr, .int .i64 er]) ∧ Below w.heap.size w w'))
    (HR : Hid (ScRes q er r)) (w : World) :
    Calls Try.prog 16 #[.agg #[.int .i64 a, .int .i64 b], .int .i64 t] w fun e w' => e = .returned (.int .i64 r) ∧ Below w.heap.size w w' := by
  have e1 : IntKind.u64.wrap (a : Int) = (a : Int) := W.wrapN a (by omega)
  have e2 : IntKind.u64.wrap (T : Int) = (T : Int) := W.wrapN T (by omega)
  have e3 : IntKind.u64.wrap (b : Int) = (b : Int) := W.wrapN b (by omega)
  rcases HR.out with ⟨h1, rfl⟩ | ⟨h1, h2, rfl⟩ | ⟨h1, h2, rfl⟩
  · have h1' : ((er : Int) != 0) = true := by simp; omega
    have h1'' : ((er : Int) == 0) = false := by simp; omega
    clear h1 HR
    go_enter Try.func16, Try.ntmps16
    go_wp2_with fail
    refine (HM.out _).mono ?_
    rintro e w1 ⟨rfl, hb1⟩
    obtain ⟨hc, hf, hs⟩ := bcell hb1
    go_wp2_with fail
    refine (HD.out _).mono ?_
    rintro e w2 ⟨rfl, hb2⟩
    go_wp2
    go_ret
    have B1 := below2 ((Below.refl _ w).alloc (Nat.le_refl _) _) hb1
    exact ⟨rfl, below2 (B1.alloc B1.size _) hb2⟩
  · subst h1
    clear HR
    go_enter Try.func16, Try.ntmps16
    go_wp2_with fail
    refine (HM.out _).mono ?_
    rintro e w1 ⟨rfl, hb1⟩
    obtain ⟨hc, hf, hs⟩ := bcell hb1
    go_wp2_with fail
    refine (HD.out _).mono ?_
    rintro e w2 ⟨rfl, hb2⟩
    go_wp2
    go_ret
    have B1 := below2 ((Below.refl _ w).alloc (Nat.le_refl _) _) hb1
    exact ⟨rfl, below2 (B1.alloc B1.size _) hb2⟩
  · subst h1
    clear HR
    go_enter Try.func16, Try.ntmps16
    go_wp2_with fail
    refine (HM.out _).mono ?_
    rintro e w1 ⟨rfl, hb1⟩
    obtain ⟨hc, hf, hs⟩ := bcell hb1
    go_wp2_with fail
    refine (HD.out _).mono ?_
    rintro e w2 ⟨rfl, hb2⟩
    go_wp2_with fail
    refine (sqrt_any q (by omega) _).mono ?_
    rintro e w3 ⟨rfl, rfl⟩
    go_wp2
    go_ret
    have B1 := below2 ((Below.refl _ w).alloc (Nat.le_refl _) _) hb1
    exact ⟨rfl, below2 (B1.alloc B1.size _) hb2⟩

/-- What the document says of a fraction's root, so many times. -/
def scaledN (a b t : Nat) : Int := if a * (t * t) / b ≤ 4611686018427387904 then (isqrt (a * (t * t) / b) : Nat) else -1

/-- What a division of such a product tells. -/
theorem scDiv (a b t : Nat) (ha : a < 9223372036854775808) (hb : b < 9223372036854775808) (hb1 : 1 ≤ b) (ht : t ≤ 1048576) : ∃ hi lo q rr er : Nat, q < 18446744073709551616 ∧
    (∀ w, Calls Try.prog 17 #[.int .u64 a, .int .u64 ((t * t : Nat) : Int)] w fun e w' => e = .returned (.agg #[.int .u64 hi, .int .u64 lo]) ∧ Below w.heap.size w w') ∧
    (∀ w, Calls Try.prog 18 #[.agg #[.int .u64 hi, .int .u64 lo], .int .u64 b] w fun e w' => e = .returned (.tuple #[.int .u64 q, .int .u64 rr, .int .i64 er]) ∧ Below w.heap.size w w') ∧
    ScRes q er (scaledN a b t) ∧ (er = 0 → q = a * (t * t) / b) ∧ (er ≠ 0 → 18446744073709551616 ≤ a * (t * t) / b) := by
  have hT : t * t ≤ 1099511627776 := sq_le (a := t) (b := 1048576) ht
  unfold scaledN
  generalize t * t = T at *
  have hd := Nat.div_add_mod' (a * T) 18446744073709551616
  have hl : a * T % 18446744073709551616 < 18446744073709551616 := Nat.mod_lt _ (by omega)
  by_cases ho : b ≤ a * T / 18446744073709551616
  · have hq : 18446744073709551616 ≤ a * T / b := by
      rw [Nat.le_div_iff_mul_le (by omega)]
      have := Nat.mul_le_mul_right 18446744073709551616 ho
      omega
    refine ⟨_, _, 0, 0, 10, by omega, fun w => mul_any a T (by omega) (by omega) w, fun w => div_over _ _ b ho w, Or.inl ⟨by omega, ?_⟩, fun h => by omega, fun _ => hq⟩
    rw [if_neg (by omega)]
  · have hq : a * T / b < 18446744073709551616 := by
      rw [Nat.div_lt_iff_lt_mul (by omega)]
      have := Nat.mul_le_mul_right 18446744073709551616 (show a * T / 18446744073709551616 + 1 ≤ b by omega)
      omega
    have h := fun w => div_ok (a * T / 18446744073709551616) (a * T % 18446744073709551616) b (by omega) (by omega) hl w
    rw [hd] at h
    refine ⟨_, _, _, _, 0, hq, fun w => mul_any a T (by omega) (by omega) w, h, ?_, fun _ => rfl, fun h => absurd rfl h⟩
    by_cases hc : a * T / b ≤ 4611686018427387904
    · rw [if_pos hc]; exact Or.inr (Or.inr ⟨rfl, hc, rfl⟩)
    · rw [if_neg hc]; exact Or.inr (Or.inl ⟨rfl, by omega, rfl⟩)

theorem scaled_any (a b t : Nat) (ha : a < 9223372036854775808) (hb : b < 9223372036854775808) (hb1 : 1 ≤ b) (ht : t ≤ 1048576) (w : World) :
    Calls Try.prog 16 #[.agg #[.int .i64 a, .int .i64 b], .int .i64 t] w fun e w' => e = .returned (.int .i64 (scaledN a b t)) ∧ Below w.heap.size w w' := by
  obtain ⟨hi, lo, q, rr, er, _, hM, hD, hR, _, _⟩ := scDiv a b t ha hb hb1 ht
  exact scaled_raw a b t (t * t) hi lo q rr er _ ha hb hb1 ht (sq_le (a := t) (b := 1048576) ht) (Int.natCast_mul t t).symm (Lib.hid hM) (Lib.hid hD) (Lib.hid hR) w

end Go.Proofs.Ytfddpifkngchbaa
