/-
  The walk of the law RootSqrt (no claim is made here: the row is RootSqrt).
-/
import Derived.Test.YtfddpifkngchbaaAwake2
import Derived.OpenShut
namespace Go.Proofs.Ytfddpifkngchbaa
open Go.RowKit

/-- A root, its square R and the next square S. -/
theorem sqrt_int (x : Int) (h0 : 0 ≤ x) (hx : x ≤ 9223372036854775807) : ∃ r R S : Int, Hid (∀ w, Calls Try.prog 11 #[.int .i64 x] w fun e w' => e = .returned (.int .i64 r) ∧ w = w') ∧
    0 ≤ r ∧ r ≤ 3037000499 ∧ r * r = R ∧ (0 ≤ R ∧ R ≤ x) ∧ (r + 1) * (r + 1) = S ∧ (r < 3037000499 → x < S ∧ S ≤ 9223372036854775807) := by
  obtain ⟨x, rfl⟩ := Int.eq_ofNat_of_zero_le h0
  obtain ⟨g1, g2⟩ := isqrt_spec x (by omega)
  have g3 := isqrt_lt x (by omega)
  refine ⟨(isqrt x : Nat), ((isqrt x * isqrt x : Nat) : Int), (((isqrt x + 1) * (isqrt x + 1) : Nat) : Int), fun w => sqrt_any x (by omega) w, by omega, by omega, (Int.natCast_mul _ _).symm, by omega, (Int.natCast_mul _ _).symm, fun h => ?_⟩
  have := sq_le (a := isqrt x + 1) (b := 3037000499) (by omega)
  omega

set_option maxHeartbeats 1000000 in
set_option maxRecDepth 100000 in
theorem rootSqrt_core (n m x1 x2 x3 : Int) (w : World) (hm : 0 ≤ m ∧ m ≤ 4294967295) (e1 : wrap64 (m * m) = x1) (e2 : wrap64 (x1 - 1) = x2) (e3 : wrap64 (x1 + 1) = x3)
    (hn : -9223372036854775808 ≤ n ∧ n ≤ 9223372036854775807) (h1 : -9223372036854775808 ≤ x1 ∧ x1 ≤ 9223372036854775807) (h2 : -9223372036854775808 ≤ x2 ∧ x2 ≤ 9223372036854775807) (h3 : -9223372036854775808 ≤ x3 ∧ x3 ≤ 9223372036854775807) :
    Calls Try.prog 3 #[.int .i64 n, .int .u32 m] w fun e w' => e = .returned (.bool true) ∧ Below w.heap.size w w' := by
  go_enter Try.func3, Try.ntmps3
  go_wp2_with fail
  refine (awake_any _).mono ?_
  rintro e w1 ⟨rfl, hb1⟩
  go_wp2_with fail
  obtain ⟨w2, hw2⟩ : ∃ w2, w2 = w1.alloc (.cells #[.int .i64 n, .int .i64 x1, .int .i64 x2, .int .i64 x3] 3) := ⟨_, rfl⟩
  have B2 := Lib.hid (show Below w.heap.size w w2 by rw [hw2]; exact hb1.alloc hb1.size _)
  have y0 : w2.cell? ⟨w1.heap.size, 0, none⟩ = some (.int .i64 n) := by rw [hw2]; simp
  have y1 : w2.cell? ⟨w1.heap.size, 1, none⟩ = some (.int .i64 x1) := by rw [hw2]; simp
  have y2 : w2.cell? ⟨w1.heap.size, 2, none⟩ = some (.int .i64 x2) := by rw [hw2]; simp
  have y3 : w2.cell? ⟨w1.heap.size, 3, none⟩ = some (.int .i64 x3) := by rw [hw2]; simp
  rw [← hw2]
  clear hw2 hb1 e1 e2 e3
  go_loop [30] (fun i => ∃ k : Nat, k ≤ 4 ∧ i = .int .i64 k) (fun i => 4 - (intOf i).toNat)
  case atStart => exact ⟨0, by omega, rfl⟩
  case round =>
    obtain ⟨k, hk, rfl⟩ := hrel
    by_cases hk4 : k < 4
    · obtain ⟨x, hxc, hx⟩ : ∃ x : Int, w2.cell? ⟨w1.heap.size, k, none⟩ = some (.int .i64 x) ∧ -9223372036854775808 ≤ x ∧ x ≤ 9223372036854775807 := by
        rcases (by omega : k = 0 ∨ k = 1 ∨ k = 2 ∨ k = 3) with rfl | rfl | rfl | rfl
        · exact ⟨n, y0, hn⟩
        · exact ⟨x1, y1, h1⟩
        · exact ⟨x2, y2, h2⟩
        · exact ⟨x3, y3, h3⟩
      clear y0 y1 y2 y3
      by_cases hneg : x < 0
      · go_wp2_with fail
        refine (sqrt_neg x hneg _).mono ?_
        rintro e w3 ⟨rfl, rfl⟩
        go_wp2_with fail
        go_round
        case rel => exact ⟨k + 1, by omega, by go_num⟩
        case measure => simp [intOf]; omega
      · obtain ⟨r, R, S, HS, g0, g1, g2, g3, g4, g6⟩ := sqrt_int x (by omega) hx.2
        by_cases hr : r < 3037000499
        · have g7 := g6 hr
          clear g6
          go_wp2_with fail
          refine (HS.out _).mono ?_
          rintro e w3 ⟨rfl, rfl⟩
          go_wp2_with fail
          go_round
          case rel => exact ⟨k + 1, by omega, by go_num⟩
          case measure => simp [intOf]; omega
        · clear g6 g4
          go_wp2_with fail
          refine (HS.out _).mono ?_
          rintro e w3 ⟨rfl, rfl⟩
          go_wp2_with fail
          go_round
          case rel => exact ⟨k + 1, by omega, by go_num⟩
          case measure => simp [intOf]; omega
    · go_wp2
      go_ret
      exact ⟨rfl, B2.out⟩

theorem wrap64_in (x : Int) : -9223372036854775808 ≤ wrap64 x ∧ wrap64 x ≤ 9223372036854775807 := by unfold wrap64; omega

theorem rootSqrt_walk (n m : Int) (w0 : (Lit.int .i64 n).wf = true) (w1 : (Lit.int .u32 m).wf = true) (w : World) :
    Calls Try.prog 3 #[.int .i64 n, .int .u32 m] w fun e w' => e = .returned (.bool true) ∧ Below w.heap.size w w' := by
  have b0 := bounds_i64 w0
  have b1 := bounds_u32 w1
  exact rootSqrt_core n m _ _ _ w b1 rfl rfl rfl b0 (wrap64_in _) (wrap64_in _) (wrap64_in _)

end Go.Proofs.Ytfddpifkngchbaa
