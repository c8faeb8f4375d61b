/-
  What the verifier's awake of layer 2 does to any world: it returns true (a contract; no claim is made here).
-/
import Derived.Test.YtfddpifkngchbaaRoot3
namespace Go.Proofs.Ytfddpifkngchbaa
open Go.RowKit

theorem aw2_of (w : World) : Calls Try.prog 12 #[.int .i64 6, .int .i64 4] w fun e w' => e = .returned (.tuple #[.agg #[.int .i64 3, .int .i64 2], .int .i64 0]) ∧ Below w.heap.size w w' :=
  of_any 6 4 (by omega) (by omega) (by omega) w
theorem aw2_no (w : World) : Calls Try.prog 12 #[.int .i64 1, .int .i64 0] w fun e w' => e = .returned (.tuple #[.agg #[.int .i64 0, .int .i64 0], .int .i64 4]) ∧ Below w.heap.size w w' :=
  of_wrong 1 0 (by omega) w
theorem aw2_sqrt (w : World) : Calls Try.prog 11 #[.int .i64 99] w fun e w' => e = .returned (.int .i64 9) ∧ w = w' := by
  have h := sqrt_any 99 (by omega) w
  rw [isqrt_unique 99 9 (by omega) (by omega) (by omega)] at h
  exact h
theorem aw2_neg (w : World) : Calls Try.prog 11 #[.int .i64 (-1)] w fun e w' => e = .returned (.int .i64 0) ∧ w = w' := sqrt_neg (-1) (by omega) w
theorem aw2_scaled (w : World) : Calls Try.prog 16 #[.agg #[.int .i64 2, .int .i64 1], .int .i64 8] w fun e w' => e = .returned (.int .i64 11) ∧ Below w.heap.size w w' := by
  have h := scaled_any 2 1 8 (by omega) (by omega) (by omega) (by omega) w
  have e : scaledN 2 1 8 = 11 := by
    unfold scaledN
    rw [if_pos (by omega), isqrt_unique _ 11 (by omega) (by omega) (by omega)]; rfl
  rw [e] at h
  exact h
theorem aw2_floor (w : World) : Calls Try.prog 19 #[.int .i64 (-7), .int .i64 2] w fun e w' => e = .returned (.int .i64 (-4)) ∧ w = w' :=
  floor_any (-7) 2 (by omega) (by omega) w

set_option maxHeartbeats 1000000 in
set_option maxRecDepth 100000 in
theorem awake_any (w : World) : Calls Try.prog 10 #[] w fun e w' => e = .returned (.bool true) ∧ Below w.heap.size w w' := by
  go_enter Try.func10, Try.ntmps10
  go_wp2_with fail
  refine (aw2_of _).mono ?_
  rintro e w1 ⟨rfl, hb1⟩
  go_wp2_with fail
  refine (aw2_no _).mono ?_
  rintro e w2 ⟨rfl, hb2⟩
  have z2 : w1.heap.size < w2.heap.size := by have := hb2.size; simp at this; omega
  have c20 : w2.cell? ⟨w1.heap.size, 0, none⟩ = some (.int .i64 3) := (hb2.cell (p := ⟨w1.heap.size, 0, none⟩) (by simp)).trans (by simp)
  have c21 : w2.cell? ⟨w1.heap.size, 1, none⟩ = some (.int .i64 2) := (hb2.cell (p := ⟨w1.heap.size, 1, none⟩) (by simp)).trans (by simp)
  have B2 := below2 (hb1.alloc hb1.size _) hb2
  clear hb1 hb2
  go_wp2_with fail
  refine (aw2_sqrt _).mono ?_
  rintro e w3 ⟨rfl, rfl⟩
  go_wp2_with fail
  refine (aw2_neg _).mono ?_
  rintro e w3 ⟨rfl, rfl⟩
  go_wp2_with fail
  refine (aw2_scaled _).mono ?_
  rintro e w4 ⟨rfl, hb4⟩
  go_wp2_with fail
  refine (aw2_floor _).mono ?_
  rintro e w5 ⟨rfl, rfl⟩
  go_wp2_with fail
  go_ret
  exact ⟨rfl, below2 (B2.alloc B2.size _) hb4⟩

end Go.Proofs.Ytfddpifkngchbaa
