/-
  What root.commonDivisor, root.Of, root.Compare do to any world: contracts (no claim is made here).
-/
import Derived.Test.YtglmgenifjaakaaKeep1
import Derived.Test.YtglmgenifjaakaaRootMath
import Derived.IntWalk
import Derived.BigRegion
namespace Go.Proofs.Ytglmgenifjaakaa
open Go.RowKit

set_option maxHeartbeats 400000 in
theorem commonDivisor_any (a b : Nat) (ha : a < 9223372036854775808) (hb : b < 9223372036854775808) (w : World) :
    Calls Try.prog 46 #[.int .i64 a, .int .i64 b] w fun e w' => e = .returned (.int .i64 (Nat.gcd a b : Nat)) ∧ w = w' := by
  generalize hg : Nat.gcd a b = g
  have HG := Lib.hid hg
  clear hg
  go_enter Try.func46, Try.ntmps46
  go_wp2_with fail
  go_loop [0, 1] (fun x y => ∃ A B : Nat, x = .int .i64 A ∧ y = .int .i64 B ∧ A < 9223372036854775808 ∧ B < 9223372036854775808 ∧ Hid (Nat.gcd A B = g)) (fun x _ => (intOf x).toNat)
  case atStart => exact ⟨a, b, rfl, rfl, ha, hb, HG⟩
  case round =>
    obtain ⟨A, B, rfl, rfl, hA, hB, HR⟩ := hrel
    by_cases h0 : 0 < A
    · have hm : B % A < A := Nat.mod_lt _ h0
      have hz : ((A : Int) == 0) = false := by simp; omega
      have em : (B : Int) % A = ((B % A : Nat) : Int) := (Int.natCast_emod B A).symm
      have HN : Hid (Nat.gcd (B % A) A = g) := (gcd_round A B).trans HR.out
      generalize B % A = M at *
      have EM := Lib.hid em
      clear em
      go_wp2_with fail
      exact ⟨⟨M, A, congrArg _ EM.out, rfl, by omega, hA, HN⟩, by simp only [intOf]; rw [EM.out]; omega⟩
    · obtain rfl : A = 0 := by omega
      have HR' : Hid (B = g) := (Nat.gcd_zero_left B).symm.trans HR.out
      clear HR
      go_wp2
      go_ret
      exact ⟨ret_int (by rw [HR'.out]), rfl⟩

set_option maxHeartbeats 400000 in
theorem of_wrong (a b : Int) (h : a < 0 ∨ b < 1) (w : World) :
    Calls Try.prog 44 #[.int .i64 a, .int .i64 b] w fun e w' => e = .returned (.tuple #[.agg #[.int .i64 0, .int .i64 0], .int .i64 4]) ∧ Below w.heap.size w w' := by
  by_cases h1 : a < 0
  · clear h
    go_enter Try.func44, Try.ntmps44
    go_wp2
    refine bodyPost_ret (v := .tuple #[.agg #[.int .i64 0, .int .i64 0], .int .i64 4]) (by simp [results, Try.results44, go_sem]) rfl ⟨rfl, ?_⟩
    exact (Below.refl _ _).alloc (Nat.le_refl _) _
  · have h2 : b < 1 := by omega
    clear h
    go_enter Try.func44, Try.ntmps44
    go_wp2
    refine bodyPost_ret (v := .tuple #[.agg #[.int .i64 0, .int .i64 0], .int .i64 4]) (by simp [results, Try.results44, go_sem]) rfl ⟨rfl, ?_⟩
    exact (Below.refl _ _).alloc (Nat.le_refl _) _

set_option maxHeartbeats 400000 in
theorem of_raw (a b g : Nat) (hb : 1 ≤ b) (hg : 0 < g) (p q : Nat) (_hp : p < 9223372036854775808) (_hq : q < 9223372036854775808) (ep : (a : Int) / g = p) (eq : (b : Int) / g = q)
    (HG : Hid (∀ w, Calls Try.prog 46 #[.int .i64 a, .int .i64 b] w fun e w' => e = .returned (.int .i64 g) ∧ w = w')) (w : World) :
    Calls Try.prog 44 #[.int .i64 a, .int .i64 b] w fun e w' => e = .returned (.tuple #[.agg #[.int .i64 p, .int .i64 q], .int .i64 0]) ∧ Below w.heap.size w w' := by
  have hz : ((g : Int) == 0) = false := by simp; omega
  go_enter Try.func44, Try.ntmps44
  go_wp2_with fail
  refine (HG.out _).mono ?_
  rintro e w1 ⟨rfl, rfl⟩
  go_wp2_with fail
  go_region
  go_wp2
  exact bodyPost_ret (v := .tuple #[.agg #[.int .i64 p, .int .i64 q], .int .i64 0]) (by simp [results, Try.results44, go_sem]) rfl ⟨rfl, ((Below.refl _ _).alloc (Nat.le_refl _) _).drew⟩

theorem of_any (a b : Nat) (ha : a < 9223372036854775808) (hb : b < 9223372036854775808) (h1 : 1 ≤ b) (w : World) :
    Calls Try.prog 44 #[.int .i64 a, .int .i64 b] w fun e w' => e = .returned (.tuple #[.agg #[.int .i64 (a / Nat.gcd a b : Nat), .int .i64 (b / Nat.gcd a b : Nat)], .int .i64 0]) ∧ Below w.heap.size w w' :=
  of_raw a b (Nat.gcd a b) h1 (Nat.gcd_pos_of_pos_right a h1) _ _ (Nat.lt_of_le_of_lt (Nat.div_le_self _ _) ha) (Nat.lt_of_le_of_lt (Nat.div_le_self _ _) hb) (Int.natCast_ediv _ _).symm (Int.natCast_ediv _ _).symm (Lib.hid fun w => commonDivisor_any a b ha hb w) w

end Go.Proofs.Ytglmgenifjaakaa
