/-
  The walk of the law RootFloor (no claim is made here: the row is RootFloor).
-/
import Derived.Test.YtfddpifkngchbaaAwake2
import Derived.OpenShut
namespace Go.Proofs.Ytfddpifkngchbaa
open Go.RowKit

theorem floor_rest (a b : Int) (hb : 1 ≤ b) (hb2 : b ≤ 9223372036854775807) : wrap64 (a - wrap64 (a / b * b)) = a % b ∧ 0 ≤ a % b ∧ a % b < b := by
  have h0 := Int.emod_nonneg a (show b ≠ 0 by omega)
  have h1 := Int.emod_lt_of_pos a (show 0 < b by omega)
  have h2 := Int.ediv_mul_add_emod a b
  generalize a / b * b = x at *
  generalize a % b = y at *
  refine ⟨?_, h0, h1⟩
  unfold wrap64
  omega

set_option maxHeartbeats 400000 in
theorem rootFloor_core (a b c : Int) (w : World) (ha : -9223372036854775808 ≤ a ∧ a ≤ 9223372036854775807) (hc : 1 ≤ c ∧ c ≤ 9223372036854775807) (hm : max 1 b = c) :
    Calls Try.prog 7 #[.int .i64 a, .int .i64 b] w fun e w' => e = .returned (.bool true) ∧ Below w.heap.size w w' := by
  obtain ⟨e1, e2, e3⟩ := floor_rest a c hc.1 hc.2
  have HF := Lib.hid (fun w => floor_any a c ha hc w)
  generalize a / c = q at *
  generalize a % c = r at *
  clear ha
  go_enter Try.func7, Try.ntmps7
  go_wp2_with fail
  refine (awake_any _).mono ?_
  rintro e w1 ⟨rfl, hb1⟩
  go_wp2_with fail
  refine (HF.out _).mono ?_
  rintro e w2 ⟨rfl, rfl⟩
  go_wp2
  go_ret
  exact ⟨rfl, hb1⟩

theorem rootFloor_walk (a b : Int) (w0 : (Lit.int .i64 a).wf = true) (w1 : (Lit.int .i64 b).wf = true) (w : World) :
    Calls Try.prog 7 #[.int .i64 a, .int .i64 b] w fun e w' => e = .returned (.bool true) ∧ Below w.heap.size w w' := by
  have b0 := bounds_i64 w0
  have b1 := bounds_i64 w1
  exact rootFloor_core a b (max 1 b) w b0 (by omega) rfl

end Go.Proofs.Ytfddpifkngchbaa
