/-
  What the program's pieceColour of layer 11 does to any world: a contract (no claim is made here).
-/
import Derived.Test.YtbnjajhhbcnepaaCnpHal
namespace Go.Proofs.Ytbnjajhhbcnepaa
open Go.RowKit

set_option maxRecDepth 100000 in
set_option maxHeartbeats 3200000 in
theorem tri_at (w : World) : Sem.run Try.prog (Instr.index 87 (.agg #[.int .i64 5, .int .i64 6, .int .i64 3]) (.int .i64 0)) w = .ok (.int .i64 5) w ∧ Sem.run Try.prog (Instr.index 87 (.agg #[.int .i64 5, .int .i64 6, .int .i64 3]) (.int .i64 1)) w = .ok (.int .i64 6) w ∧ Sem.run Try.prog (Instr.index 87 (.agg #[.int .i64 5, .int .i64 6, .int .i64 3]) (.int .i64 2)) w = .ok (.int .i64 3) w :=
  ⟨by kernel_rfl, by kernel_rfl, by kernel_rfl⟩
set_option maxRecDepth 100000 in
set_option maxHeartbeats 3200000 in
theorem ppiece_any (i m : Nat) (hm : m ≤ 200000) (hi : i < m) (w : World) :
    Calls Try.prog 36 #[.int .i64 i, .int .i64 m] w fun e w' => e = .returned (.int .i64 (colP m i : Nat)) ∧ Below w.heap.size w w' := by
  have hm1 : IntKind.i64.wrap ((m : Int) - 1) = ((m - 1 : Nat) : Int) := by rw [Int.natCast_sub (by omega)]; exact wI (by omega) (by omega)
  have HCP := Lib.hid (show colP m i = if i = m - 1 ∧ m % 3 = 1 then 6 else if i % 3 = 0 then 5 else if i % 3 = 1 then 6 else 3 from rfl)
  obtain ⟨x0, x1, x2⟩ := tri_at w
  obtain ⟨t, ht, htb⟩ : ∃ t : Nat, i % 3 = t ∧ t < 3 := ⟨_, rfl, Nat.mod_lt _ (by omega)⟩
  have htm : (i : Int).tmod 3 = (t : Int) := by rw [← ht]; exact (Int.ofNat_tmod i 3).symm
  have hte : (i : Int) % 3 = (t : Int) := by rw [← ht]; rfl
  obtain ⟨t3, ht3, ht4, ht5⟩ : ∃ t : Nat, m % 3 = t ∧ (m : Int).tmod 3 = (t : Int) ∧ (m : Int) % 3 = (t : Int) := ⟨_, rfl, (Int.ofNat_tmod m 3).symm, rfl⟩
  rw [ht, ht3] at HCP
  clear ht ht3
  by_cases hl : i = m - 1
  · have hlb : ((i : Int) == ((m - 1 : Nat) : Int)) = true := by rw [hl]; simp
    by_cases hq : t3 = 1
    · have HV := Lib.hid (HCP.out.trans (if_pos ⟨hl, hq⟩))
      subst hq
      clear HCP hl
      go_enter Try.func36, Try.ntmps36
      go_wp2_with fail
      go_ret
      exact ⟨ret_int (by rw [HV.out]; rfl), Below.refl _ _⟩
    · have HV := Lib.hid (HCP.out.trans (if_neg (fun h => hq h.2)))
      have hqb : ((t3 : Int) == 1) = false := by simp; omega
      clear HCP hl
      obtain rfl | rfl | rfl : t = 0 ∨ t = 1 ∨ t = 2 := by omega
      all_goals
        go_enter Try.func36, Try.ntmps36
        go_wp2_with fail
        go_ret
        exact ⟨ret_int (by rw [HV.out]; rfl), Below.refl _ _⟩
  · have hlb : ((i : Int) == ((m - 1 : Nat) : Int)) = false := by simp; omega
    have HV := Lib.hid (HCP.out.trans (if_neg (fun h => hl h.1)))
    clear HCP hl
    obtain rfl | rfl | rfl : t = 0 ∨ t = 1 ∨ t = 2 := by omega
    all_goals
      go_enter Try.func36, Try.ntmps36
      go_wp2_with fail
      go_ret
      exact ⟨ret_int (by rw [HV.out]; rfl), Below.refl _ _⟩

end Go.Proofs.Ytbnjajhhbcnepaa
