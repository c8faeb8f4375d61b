/-
  The walk of the law RootOf (no claim is made here: the row is RootOf).
-/
import Derived.Test.YtfddpifkngchbaaAwake2
import Derived.OpenShut
namespace Go.Proofs.Ytfddpifkngchbaa
open Go.RowKit

set_option maxHeartbeats 400000 in
theorem rootOf_wrong (a b : Int) (w : World) (h : a < 0 ∨ b < 1) :
    Calls Try.prog 4 #[.int .i64 a, .int .i64 b] w fun e w' => e = .returned (.bool true) ∧ Below w.heap.size w w' := by
  have HO := Lib.hid (fun w => of_wrong a b h w)
  by_cases h1 : a < 0
  · clear h
    go_enter Try.func4, Try.ntmps4
    go_wp2_with fail
    refine (awake_any _).mono ?_
    rintro e w1 ⟨rfl, hb1⟩
    go_wp2_with fail
    refine (HO.out _).mono ?_
    rintro e w2 ⟨rfl, hb2⟩
    go_wp2
    go_ret
    have B := below2 hb1 hb2
    exact ⟨rfl, B.alloc B.size _⟩
  · have h2 : b < 1 := by omega
    clear h
    go_enter Try.func4, Try.ntmps4
    go_wp2_with fail
    refine (awake_any _).mono ?_
    rintro e w1 ⟨rfl, hb1⟩
    go_wp2_with fail
    refine (HO.out _).mono ?_
    rintro e w2 ⟨rfl, hb2⟩
    go_wp2
    go_ret
    have B := below2 hb1 hb2
    exact ⟨rfl, B.alloc B.size _⟩

set_option maxHeartbeats 400000 in
theorem rootOf_right (a b p q : Nat) (w : World) (h : 1 ≤ b) (hq : 1 ≤ q)
    (HO : Hid (∀ w, Calls Try.prog 12 #[.int .i64 a, .int .i64 b] w fun e w' => e = .returned (.tuple #[.agg #[.int .i64 p, .int .i64 q], .int .i64 0]) ∧ Below w.heap.size w w'))
    (HG : Hid (∀ w, Calls Try.prog 13 #[.int .i64 p, .int .i64 q] w fun e w' => e = .returned (.int .i64 1) ∧ Below w.heap.size w w'))
    (HL : Hid (∀ w, Calls Try.prog 14 #[.int .i64 p, .int .i64 q, .int .i64 a, .int .i64 b] w fun e w' => e = .returned (.int .i64 0) ∧ Below w.heap.size w w')) :
    Calls Try.prog 4 #[.int .i64 a, .int .i64 b] w fun e w' => e = .returned (.bool true) ∧ Below w.heap.size w w' := by
  go_enter Try.func4, Try.ntmps4
  go_wp2_with fail
  refine (awake_any _).mono ?_
  rintro e w1 ⟨rfl, hb1⟩
  go_wp2_with fail
  refine (HO.out _).mono ?_
  rintro e w2 ⟨rfl, hb2⟩
  have B := Lib.hid (below2 hb1 hb2)
  clear hb1 hb2
  go_wp2_with fail
  refine (HG.out _).mono ?_
  rintro e w3 ⟨rfl, hb3⟩
  have c0 : w3.cell? ⟨w2.heap.size, 0, none⟩ = some (.int .i64 p) := (hb3.cell (p := ⟨w2.heap.size, 0, none⟩) (by simp)).trans (by simp)
  have c1 : w3.cell? ⟨w2.heap.size, 1, none⟩ = some (.int .i64 q) := (hb3.cell (p := ⟨w2.heap.size, 1, none⟩) (by simp)).trans (by simp)
  have B3 := Lib.hid (below2 (B.out.alloc B.out.size _) hb3)
  clear hb3
  go_wp2_with fail
  refine (HL.out _).mono ?_
  rintro e w4 ⟨rfl, hb4⟩
  go_wp2
  go_ret
  exact ⟨rfl, below2 B3.out hb4⟩

theorem rootOf_walk (a b : Int) (w0 : (Lit.int .i64 a).wf = true) (w1 : (Lit.int .i64 b).wf = true) (w : World) :
    Calls Try.prog 4 #[.int .i64 a, .int .i64 b] w fun e w' => e = .returned (.bool true) ∧ Below w.heap.size w w' := by
  have b0 := bounds_i64 w0
  have b1 := bounds_i64 w1
  by_cases h : a < 0 ∨ b < 1
  · exact rootOf_wrong a b w h
  · obtain ⟨a, rfl⟩ := Int.eq_ofNat_of_zero_le (show 0 ≤ a by omega)
    obtain ⟨b, rfl⟩ := Int.eq_ofNat_of_zero_le (show 0 ≤ b by omega)
    have l1 := Nat.div_le_self a (Nat.gcd a b)
    have l2 := Nat.div_le_self b (Nat.gcd a b)
    have hG := fun w => gcd_any (a / Nat.gcd a b) (b / Nat.gcd a b) (by omega) (by omega) w
    rw [div_gcd_coprime a b (by omega)] at hG
    have hL := fun w => less_any (a / Nat.gcd a b) (b / Nat.gcd a b) a b (by omega) (by omega) (by omega) (by omega) w
    have e : cmpN (a / Nat.gcd a b * b) (a * (b / Nat.gcd a b)) = 0 := by rw [div_gcd_same]; unfold cmpN; simp
    rw [e] at hL
    exact rootOf_right a b _ _ w (by omega) (div_gcd_pos a b (by omega)) (Lib.hid fun w => of_any a b (by omega) (by omega) (by omega) w) (Lib.hid hG) (Lib.hid hL)

end Go.Proofs.Ytfddpifkngchbaa
