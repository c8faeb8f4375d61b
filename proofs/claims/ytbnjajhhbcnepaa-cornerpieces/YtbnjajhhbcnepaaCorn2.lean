/-
  What the law's Ints and shared of layer 11 do to any world: contracts (no claim is made here).
-/
import Derived.Test.YtbnjajhhbcnepaaCorn1
namespace Go.Proofs.Ytbnjajhhbcnepaa
open Go.RowKit

set_option maxRecDepth 100000 in
set_option maxHeartbeats 1600000 in
/-- The same numbers are the same. -/
theorem ints_same (va vb : Value) (l : List Nat) (w : World) (ha : NRd w va l) (hb : NRd w vb l) (hl : l.length ≤ 1000000) :
    Calls Try.prog 14 #[va, vb] w fun e w' => e = .returned (.bool true) ∧ Below w.heap.size w w' := by
  obtain ⟨A, cap, rfl, hca, -⟩ := id ha
  obtain ⟨B, cbp, rfl, hcb, -⟩ := id hb
  have HA := Lib.hid ha
  have HB := Lib.hid hb
  obtain ⟨n, hN⟩ : ∃ N, l.length = N := ⟨_, rfl⟩
  have HN := Lib.hid hN
  rw [hN] at hl hca hcb HA HB
  rw [hN]
  clear ha hb hN
  go_enter Try.func14, Try.ntmps14
  go_wp2_with fail
  go_loopw [13] (fun i wr => ∃ r : Nat, r ≤ n ∧ i = .int .i64 r ∧ Hid (Below w.heap.size w wr)) (fun i _ => n - (intOf i).toNat)
  case atStart => exact ⟨0, Nat.zero_le _, rfl, Lib.hid (Below.refl _ _)⟩
  case round =>
    obtain ⟨r, hr, rfl, HW⟩ := hrel
    by_cases hrn : r < n
    · have hrb : decide ((r : Int) < n) = true := by simp; omega
      obtain ⟨c, hc⟩ : ∃ c, l[r]? = some c := ⟨_, List.getElem?_eq_getElem (by rw [HN.out]; exact hrn)⟩
      obtain ⟨a, rfl, hal, a0⟩ := (HA.out.keep HW.out).at r c hc
      obtain ⟨b, rfl, hbl, b0⟩ := (HB.out.keep HW.out).at r c hc
      clear hc
      go_wp2_with fail
      go_region
      go_wp2_with fail
      exact ⟨⟨r + 1, by omega, by go_num, Lib.hid HW.out.drew⟩, by simp [intOf]; omega⟩
    · obtain rfl : r = n := by omega
      go_wp2
      go_ret
      exact ⟨rfl, HW.out⟩

set_option maxRecDepth 100000 in
set_option maxHeartbeats 1600000 in
/-- Two of three colours have one channel together. -/
theorem shared_any (a b : Int) (ha : a = 3 ∨ a = 5 ∨ a = 6) (hb : b = 3 ∨ b = 5 ∨ b = 6) (hab : a ≠ b) (w : World) :
    Calls Try.prog 20 #[.int .i64 a, .int .i64 b] w fun e w' => e = .returned (.int .i64 1) ∧ w = w' := by
  rcases ha with rfl | rfl | rfl <;> rcases hb with rfl | rfl | rfl <;> (try exact absurd rfl hab)
  all_goals
    go_enter Try.func20, Try.ntmps20
    go_wp2
    go_ret
    exact ⟨ret_int (by kernel_rfl), rfl⟩

end Go.Proofs.Ytbnjajhhbcnepaa
