/-
  What grid.isWithin, Check, middle, Code, Each, floor, span and the law's own check, down and Spec.Grid do to any world: contracts (no claim is made here).
-/
import Derived.Test.YtlhngelifmjefaaBlk
import Derived.Test.YtlhngelifmjefaaGridMath
import Derived.BigQuiet
import Derived.Deep.QuietTactic
namespace Go.Proofs.Ytlhngelifmjefaa
open Go.RowKit

/-- Six cells of a block that is known whole, stored one behind the other. -/
theorem Blk.six {w0 w : World} {B g : Nat} {t : TypeId} {a0 a1 a2 a3 a4 a5 : Value} (h : Blk w g t [a0, a1, a2, a3, a4, a5]) (hb : Below B w0 w) (hg : B ≤ g) (x0 x1 x2 x3 x4 x5 : Value) :
    Blk ((((((w.setCell ⟨g, 0, none⟩ x0).setCell ⟨g, 1, none⟩ x1).setCell ⟨g, 2, none⟩ x2).setCell ⟨g, 3, none⟩ x3).setCell ⟨g, 4, none⟩ x4).setCell ⟨g, 5, none⟩ x5) g t [x0, x1, x2, x3, x4, x5] ∧
    Below B w0 ((((((w.setCell ⟨g, 0, none⟩ x0).setCell ⟨g, 1, none⟩ x1).setCell ⟨g, 2, none⟩ x2).setCell ⟨g, 3, none⟩ x3).setCell ⟨g, 4, none⟩ x4).setCell ⟨g, 5, none⟩ x5) :=
  ⟨(((((h.set 0 x0).set 1 x1).set 2 x2).set 3 x3).set 4 x4).set 5 x5, (((((hb.setCell hg _).setCell hg _).setCell hg _).setCell hg _).setCell hg _).setCell hg _⟩

set_option maxRecDepth 100000 in
theorem within_any (n a b : Int) (w : World) : Calls Try.prog 30 #[.int .i64 n, .int .i64 a, .int .i64 b] w fun e w' => e = .returned (.bool (decide (a ≤ n ∧ n ≤ b))) ∧ w = w' := by
  go_enter Try.func30, Try.ntmps30
  by_cases h1 : a ≤ n <;> by_cases h2 : n ≤ b <;> go_wp2 <;> go_ret <;> exact ⟨by simp [*], rfl⟩

set_option maxRecDepth 100000 in
set_option maxHeartbeats 1600000 in
theorem gcheck_any (x y p u v s : Int) (w : World) : Calls Try.prog 18 #[.agg #[.int .i64 x, .int .i64 y, .int .i64 p, .int .i64 u, .int .i64 v, .int .i64 s]] w fun e w' => e = .returned (.int .i64 (checkG x y p u v s)) ∧ Below w.heap.size w w' := by
  have hB := (Below.refl _ w).alloc (Nat.le_refl _) (.cells #[.int .i64 x, .int .i64 y, .int .i64 p, .int .i64 u, .int .i64 v, .int .i64 s] 35)
  go_enter Try.func18, Try.ntmps18
  go_wp2_with (go_at_call 30; refine (within_any _ _ _ _).mono ?_; rintro e w' ⟨rfl, rfl⟩)
  all_goals go_ret
  all_goals refine ⟨ret_int ?_, hB⟩
  all_goals
    clear hB
    try simp only [Bool.not_eq_true', Bool.not_eq_false', decide_eq_true_eq, decide_eq_false_iff_not] at *
    unfold checkG
    split <;> (try split) <;> omega

set_option maxRecDepth 100000 in
theorem gmiddle_any (x p i : Int) (hx : x.natAbs ≤ 65536) (hp : p.natAbs ≤ 65536) (hi : i.natAbs ≤ 65536) (w : World) : Calls Try.prog 34 #[.int .i64 x, .int .i64 p, .int .i64 i] w fun e w' => e = .returned (.int .i64 (midG x p i)) ∧ w = w' := by
  have h1 : (i * p).natAbs ≤ 65536 * 65536 := by rw [Int.natAbs_mul]; exact Nat.mul_le_mul hi hp
  have e : midG x p i = x * 32 + i * p * 32 + p * 16 := rfl
  obtain ⟨q, hq⟩ : ∃ q, i * p = q := ⟨_, rfl⟩
  rw [hq] at h1 e
  have e1 : IntKind.i64.wrap (i * p) = q := by rw [hq]; exact wI (by omega) (by omega)
  clear hq
  go_enter Try.func34, Try.ntmps34
  go_wp2
  go_ret
  exact ⟨by simp; omega, rfl⟩

end Go.Proofs.Ytlhngelifmjefaa
