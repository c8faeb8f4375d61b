/-
  What grid.isWithin, Check, middle, Code, Each, floor, span and the law's own check, down and Spec.Grid do to any world: contracts (no claim is made here).
-/
import Derived.Test.YtaadponhmnaccaaBlk
import Derived.BigQuiet
import Derived.Deep.QuietTactic
namespace Go.Proofs.Ytaadponhmnaccaa
open Go.RowKit

/-- Six cells of a block that is known whole, stored one behind the other. -/
theorem Blk.six {w0 w : World} {B g : Nat} {t : TypeId} {a0 a1 a2 a3 a4 a5 : Value} (h : Blk w g t [a0, a1, a2, a3, a4, a5]) (hb : Below B w0 w) (hg : B ≤ g) (x0 x1 x2 x3 x4 x5 : Value) :
    Blk ((((((w.setCell ⟨g, 0, none⟩ x0).setCell ⟨g, 1, none⟩ x1).setCell ⟨g, 2, none⟩ x2).setCell ⟨g, 3, none⟩ x3).setCell ⟨g, 4, none⟩ x4).setCell ⟨g, 5, none⟩ x5) g t [x0, x1, x2, x3, x4, x5] ∧
    Below B w0 ((((((w.setCell ⟨g, 0, none⟩ x0).setCell ⟨g, 1, none⟩ x1).setCell ⟨g, 2, none⟩ x2).setCell ⟨g, 3, none⟩ x3).setCell ⟨g, 4, none⟩ x4).setCell ⟨g, 5, none⟩ x5) :=
  ⟨(((((h.set 0 x0).set 1 x1).set 2 x2).set 3 x3).set 4 x4).set 5 x5, (((((hb.setCell hg _).setCell hg _).setCell hg _).setCell hg _).setCell hg _).setCell hg _⟩

/-- P9.1: what is wrong of a grid. -/
def checkG (x y p u v s : Int) : Int :=
  if u < 1 ∨ v < 1 ∨ 24 < u ∨ 24 < v then 6
  else if 255 < x ∨ 255 < y ∨ x < -255 ∨ y < -255 ∨ p < 1 ∨ 16 < p ∨ s < 1 ∨ 64 < s then 4 else 0

set_option maxRecDepth 100000 in
theorem within_any (n a b : Int) (w : World) : Calls Try.prog 19 #[.int .i64 n, .int .i64 a, .int .i64 b] w fun e w' => e = .returned (.bool (decide (a ≤ n ∧ n ≤ b))) ∧ w = w' := by
  go_enter Try.func19, Try.ntmps19
  by_cases h1 : a ≤ n <;> by_cases h2 : n ≤ b <;> go_wp2 <;> go_ret <;> exact ⟨by simp [*], rfl⟩

set_option maxRecDepth 100000 in
set_option maxHeartbeats 1600000 in
theorem lcheck_any (x y p u v s : Int) (w : World) : Calls Try.prog 12 #[.agg #[.int .i64 x, .int .i64 y, .int .i64 p, .int .i64 u, .int .i64 v, .int .i64 s]] w fun e w' => e = .returned (.int .i64 (checkG x y p u v s)) ∧ Below w.heap.size w w' := by
  have hB := (Below.refl _ w).alloc (Nat.le_refl _) (.cells #[.int .i64 x, .int .i64 y, .int .i64 p, .int .i64 u, .int .i64 v, .int .i64 s] 23)
  have HM := fun w => run_max2i (P := Try.prog) #[3, 3] 3 x y w
  have HN := fun w => run_min2i (P := Try.prog) #[3, 3] 3 x y w
  go_enter Try.func12, Try.ntmps12
  go_wp2
  all_goals go_ret
  all_goals refine ⟨ret_int ?_, hB⟩
  all_goals
    clear HM HN hB
    unfold checkG
    split <;> (try split) <;> omega

set_option maxRecDepth 100000 in
set_option maxHeartbeats 1600000 in
theorem gcheck_any (x y p u v s : Int) (w : World) : Calls Try.prog 11 #[.agg #[.int .i64 x, .int .i64 y, .int .i64 p, .int .i64 u, .int .i64 v, .int .i64 s]] w fun e w' => e = .returned (.int .i64 (checkG x y p u v s)) ∧ Below w.heap.size w w' := by
  have hB := (Below.refl _ w).alloc (Nat.le_refl _) (.cells #[.int .i64 x, .int .i64 y, .int .i64 p, .int .i64 u, .int .i64 v, .int .i64 s] 23)
  go_enter Try.func11, Try.ntmps11
  go_wp2_with (go_at_call 19; refine (within_any _ _ _ _).mono ?_; rintro e w' ⟨rfl, rfl⟩)
  all_goals go_ret
  all_goals refine ⟨ret_int ?_, hB⟩
  all_goals
    clear hB
    try simp only [Bool.not_eq_true', Bool.not_eq_false', decide_eq_true_eq, decide_eq_false_iff_not] at *
    unfold checkG
    split <;> (try split) <;> omega

/-- The middle of a texel, in one direction. -/
def midG (x p i : Int) : Int := x * 32 + i * p * 32 + p * 16

set_option maxRecDepth 100000 in
theorem middle_any (x p i : Int) (hx : x.natAbs ≤ 65536) (hp : p.natAbs ≤ 65536) (hi : i.natAbs ≤ 65536) (w : World) : Calls Try.prog 20 #[.int .i64 x, .int .i64 p, .int .i64 i] w fun e w' => e = .returned (.int .i64 (midG x p i)) ∧ w = w' := by
  have h1 : (i * p).natAbs ≤ 65536 * 65536 := by rw [Int.natAbs_mul]; exact Nat.mul_le_mul hi hp
  have e : midG x p i = x * 32 + i * p * 32 + p * 16 := rfl
  obtain ⟨q, hq⟩ : ∃ q, i * p = q := ⟨_, rfl⟩
  rw [hq] at h1 e
  have e1 : IntKind.i64.wrap (i * p) = q := by rw [hq]; exact wI (by omega) (by omega)
  clear hq
  go_enter Try.func20, Try.ntmps20
  go_wp2
  go_ret
  exact ⟨by simp; omega, rfl⟩

end Go.Proofs.Ytaadponhmnaccaa
