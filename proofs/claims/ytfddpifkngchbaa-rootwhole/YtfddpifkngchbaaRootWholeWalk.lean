/-
  The walk of the law RootWhole (no claim is made here: the row is RootWhole).
-/
import Derived.Test.YtfddpifkngchbaaAwake2
import Derived.OpenShut
namespace Go.Proofs.Ytfddpifkngchbaa
open Go.RowKit

theorem scaled_whole (m t : Nat) (hm : m ≤ 65535) (ht : t ≤ 32767) : scaledN (m * m) 1 t = ((m * t : Nat) : Int) := by
  unfold scaledN
  have e : m * m * (t * t) / 1 = (m * t) * (m * t) := by rw [Nat.div_one, Nat.mul_assoc, Nat.mul_assoc, Nat.mul_left_comm m t t]
  have h := Nat.mul_le_mul hm ht
  have h2 := sq_le h
  rw [e, if_pos (by omega), isqrt_sq _ (by omega)]
theorem scaled_part (m d : Nat) (hm : m ≤ 65535) (hd : 1 ≤ d) : scaledN (m * m) (d * d) d = (m : Int) := by
  unfold scaledN
  have h2 := sq_le hm
  rw [Nat.mul_div_cancel _ (Nat.mul_pos hd hd), if_pos (by omega), isqrt_sq _ (by omega)]

set_option maxHeartbeats 400000 in
theorem rootWhole_core (m t d M D T : Nat) (times : Int) (w : World) (ht : times % 32768 = t) (hmb : m ≤ 65535) (_htb : t ≤ 32767) (htb1 : 0 ≤ times ∧ times ≤ 65535) (hdb : d ≤ 65535)
    (hM : (m : Int) * m = M) (hMb : M ≤ 4294967296) (hD : (1 + (d : Int)) * (1 + d) = D) (hDb : D ≤ 4294967296) (hT : (m : Int) * t = T) (hTb : T ≤ 4294967296)
    (HQ : Hid (∀ w, Calls Try.prog 11 #[.int .i64 M] w fun e w' => e = .returned (.int .i64 m) ∧ w = w'))
    (HA : Hid (∀ w, Calls Try.prog 16 #[.agg #[.int .i64 M, .int .i64 1], .int .i64 t] w fun e w' => e = .returned (.int .i64 T) ∧ Below w.heap.size w w'))
    (HB : Hid (∀ w, Calls Try.prog 16 #[.agg #[.int .i64 M, .int .i64 D], .int .i64 (1 + (d : Int))] w fun e w' => e = .returned (.int .i64 m) ∧ Below w.heap.size w w')) :
    Calls Try.prog 9 #[.int .u16 m, .int .u16 times, .int .u16 d] w fun e w' => e = .returned (.bool true) ∧ Below w.heap.size w w' := by

  go_enter Try.func9, Try.ntmps9
  go_wp2_with fail
  refine (awake_any _).mono ?_
  rintro e w1 ⟨rfl, hb1⟩
  go_wp2_with fail
  refine (HQ.out _).mono ?_
  rintro e w2 ⟨rfl, rfl⟩
  go_wp2_with fail
  refine (HA.out _).mono ?_
  rintro e w2 ⟨rfl, hb2⟩
  go_wp2_with fail
  refine (HB.out _).mono ?_
  rintro e w3 ⟨rfl, hb3⟩
  go_wp2
  go_ret
  exact ⟨rfl, below2 (below2 hb1 hb2) hb3⟩

theorem rootWhole_walk (n times d : Int) (w0 : (Lit.int .u16 n).wf = true) (w1 : (Lit.int .u16 times).wf = true) (w2 : (Lit.int .u16 d).wf = true) (w : World) :
    Calls Try.prog 9 #[.int .u16 n, .int .u16 times, .int .u16 d] w fun e w' => e = .returned (.bool true) ∧ Below w.heap.size w w' := by
  have b0 := bounds_u16 w0
  have b1 := bounds_u16 w1
  have b2 := bounds_u16 w2
  obtain ⟨m, rfl⟩ := Int.eq_ofNat_of_zero_le b0.1
  obtain ⟨d, rfl⟩ := Int.eq_ofNat_of_zero_le b2.1
  obtain ⟨t, ht⟩ := Int.eq_ofNat_of_zero_le (show 0 ≤ times % 32768 by omega)
  have hm : m ≤ 65535 := by omega
  have ht2 : t ≤ 32767 := by omega
  have hM := sq_le hm
  have hD := sq_le (a := 1 + d) (b := 65536) (by omega)
  have hT := Nat.mul_le_mul hm ht2
  have hQ := fun w => sqrt_any (m * m) (by omega) w
  rw [isqrt_sq m (by omega)] at hQ
  have hA := fun w => scaled_any (m * m) 1 t (by omega) (by omega) (by omega) (by omega) w
  rw [scaled_whole m t hm ht2] at hA
  have hB := fun w => scaled_any (m * m) ((1 + d) * (1 + d)) (1 + d) (by omega) (by omega) (Nat.mul_pos (by omega) (by omega)) (by omega) w
  rw [scaled_part m (1 + d) hm (by omega)] at hB
  have e1 : ((1 + d : Nat) : Int) = 1 + (d : Int) := by omega
  rw [e1] at hB
  exact rootWhole_core m t d (m * m) ((1 + d) * (1 + d)) (m * t) times w ht hm ht2 (by omega) (by omega) (Int.natCast_mul _ _).symm (by omega) (by rw [← e1]; exact (Int.natCast_mul _ _).symm) (by omega) (Int.natCast_mul _ _).symm (by omega) (Lib.hid hQ) (Lib.hid hA) (Lib.hid hB)

end Go.Proofs.Ytfddpifkngchbaa
