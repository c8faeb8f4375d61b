/-
  The walk of the law RootRises (no claim is made here: the row is RootRises).
-/
import Derived.Test.YtfddpifkngchbaaAwake2
import Derived.OpenShut
namespace Go.Proofs.Ytfddpifkngchbaa
open Go.RowKit

set_option maxHeartbeats 400000 in
theorem rootRises_core (n : Int) (m k s t : Nat) (w : World) (hm : max 0 (n / 2) = (m : Int)) (hmb : m ≤ 4611686018427387904) (hk : k ≤ 65535) (h1 : s ≤ t) (h2 : t - s ≤ k) (ht : t < 3037000500)
    (HS : Hid (∀ w, Calls Try.prog 11 #[.int .i64 m] w fun e w' => e = .returned (.int .i64 s) ∧ w = w'))
    (HT : Hid (∀ w, Calls Try.prog 11 #[.int .i64 ((m : Int) + (k : Int))] w fun e w' => e = .returned (.int .i64 t) ∧ w = w')) :
    Calls Try.prog 8 #[.int .i64 n, .int .u16 k] w fun e w' => e = .returned (.bool true) ∧ Below w.heap.size w w' := by
  have h3 : (t : Int) - s ≤ k := by omega
  have h4 : (s : Int) ≤ t := by omega
  go_enter Try.func8, Try.ntmps8
  go_wp2_with fail
  refine (awake_any _).mono ?_
  rintro e w1 ⟨rfl, hb1⟩
  go_wp2_with fail
  refine (HS.out _).mono ?_
  rintro e w2 ⟨rfl, rfl⟩
  go_wp2_with fail
  refine (HT.out _).mono ?_
  rintro e w2 ⟨rfl, rfl⟩
  go_wp2_with fail
  refine (HT.out _).mono ?_
  rintro e w2 ⟨rfl, rfl⟩
  go_wp2_with fail
  refine (HS.out _).mono ?_
  rintro e w2 ⟨rfl, rfl⟩
  go_wp2
  go_ret
  exact ⟨rfl, hb1⟩

theorem rootRises_walk (n k : Int) (w0 : (Lit.int .i64 n).wf = true) (w1 : (Lit.int .u16 k).wf = true) (w : World) :
    Calls Try.prog 8 #[.int .i64 n, .int .u16 k] w fun e w' => e = .returned (.bool true) ∧ Below w.heap.size w w' := by
  have b0 := bounds_i64 w0
  have b1 := bounds_u16 w1
  obtain ⟨k, rfl⟩ := Int.eq_ofNat_of_zero_le b1.1
  obtain ⟨m, hm⟩ := Int.eq_ofNat_of_zero_le (show 0 ≤ max 0 (n / 2) by omega)
  have hT := fun w => sqrt_any (m + k) (by omega) w
  rw [Int.natCast_add] at hT
  exact rootRises_core n m k (isqrt m) (isqrt (m + k)) w hm (by omega) (by omega) (isqrt_mono (by omega) (by omega)) (by have := isqrt_step m k (by omega); omega) (isqrt_lt _ (by omega)) (Lib.hid fun w => sqrt_any m (by omega) w) (Lib.hid hT)

end Go.Proofs.Ytfddpifkngchbaa
