/-
  The walk of punchcutlaw09.GridAt (no claim is made here).
-/
import Derived.Test.YtaadponhmnaccaaAwake9
import Derived.Test.YtaadponhmnaccaaGrd4
namespace Go.Proofs.Ytaadponhmnaccaa
open Go.RowKit

set_option maxRecDepth 100000 in
set_option maxHeartbeats 1600000 in
theorem gridAt_walk (u v : Int) (A : Option Addr) (n cap : Nat) (bs : List Int) (i k : Int) (w : World) (hu : -128 ≤ u ∧ u ≤ 127) (hv : -128 ≤ v ∧ v ≤ 127) (hn : bs.length = n) (hb : BtRd w A bs) (hc : cap ≤ maxLen) (hnc : n ≤ cap) (hi : -128 ≤ i ∧ i ≤ 127) (hk : -128 ≤ k ∧ k ≤ 127) :
    Calls Try.prog 7 #[.int .i8 u, .int .i8 v, .slice A n cap, .int .i8 i, .int .i8 k] w fun e w' => e = .returned (.bool true) ∧ Below w.heap.size w w' := by
  have HBT := Lib.hid hb
  have HN := Lib.hid hn
  have hnm : (n : Int) ≤ 9223372036854775807 := by unfold maxLen at hc; omega
  obtain ⟨z, hz⟩ : ∃ z, k * u = z := ⟨_, rfl⟩
  have m1 : (k * u).natAbs ≤ 128 * 128 := by rw [Int.natAbs_mul]; exact Nat.mul_le_mul (by omega) (by omega)
  rw [hz] at m1
  have hzw : IntKind.i64.wrap (k * u) = z := by rw [hz]; exact wI (by omega) (by omega)
  have HA := Lib.hid (fun w h => at_any u v A n cap bs i k w hn h (by omega) (by omega) (by omega))
  have hat : atG u v bs i k = if i < 0 ∨ k < 0 ∨ u ≤ i ∨ v ≤ k then none else bs[(k * u + i).toNat]? := rfl
  rw [hz] at hat
  generalize atG u v bs i k = r at *
  have HAT := Lib.hid hat
  have hz0 : 0 ≤ k → 0 ≤ i → i < u → 0 ≤ z := fun h1 h2 h3 => by rw [← hz]; exact Int.mul_nonneg h1 (by omega)
  have HZ0 := Lib.hid hz0
  clear hat hb hn hc hnc hz hz0
  go_enter Try.func7, Try.ntmps7
  go_wp2_with fail
  refine (awake9 _).mono ?_
  rintro e w1 ⟨rfl, hb1⟩
  have HB1 := Lib.hid hb1
  have HT1 := Lib.hid (HBT.out.keep hb1)
  clear hb1 HBT
  go_wp2_with fail
  have HB2 := Lib.hid (HB1.out.alloc HB1.out.size (.cells #[.int .i64 u, .int .i64 v, .slice A n cap] 46))
  have HT2 := Lib.hid (HT1.out.keep ((Below.refl _ _).alloc (Nat.le_refl _) (.cells #[.int .i64 u, .int .i64 v, .slice A n cap] 46)))
  clear HB1 HT1
  generalize w1.alloc (.cells #[.int .i64 u, .int .i64 v, .slice A n cap] 46) = w2 at *
  generalize w1.heap.size = X at *
  refine (HA.out _ HT2.out).mono ?_
  rintro e w3 ⟨rfl, hb3⟩
  have HB3 := Lib.hid (HB2.out.trans (hb3.mono HB2.out.size))
  have HT3 := Lib.hid (HT2.out.keep hb3)
  clear hb3 HB2 HT2 HA
  by_cases ho : i < 0 ∨ k < 0 ∨ u ≤ i ∨ v ≤ k
  · obtain rfl : r = none := by rw [HAT.out, if_pos ho]
    clear HAT HZ0
    go_wp2
    all_goals go_ret
    all_goals first | exact ⟨rfl, HB3.out⟩ | (exfalso; omega)
  · have hzn := HZ0.out (by omega) (by omega) (by omega)
    obtain ⟨j, hj⟩ : ∃ j : Nat, z + i = j := ⟨(z + i).toNat, by omega⟩
    have hjw : IntKind.i64.wrap (z + i) = j := by rw [hj]; exact wI (by omega) (by omega)
    have hr : r = bs[j]? := by rw [HAT.out, if_neg ho, hj, Int.toNat_natCast]
    have hj2 : (j : Int) ≤ 20000 := by omega
    obtain ⟨o1, o2, o3, o4⟩ : 0 ≤ i ∧ 0 ≤ k ∧ i < u ∧ k < v := by omega
    clear HAT HZ0 ho
    by_cases hjn : j < n
    · obtain ⟨a, rfl, ha⟩ := HT3.out j (by rw [HN.out]; exact hjn)
      have hjl : j < bs.length := by rw [HN.out]; exact hjn
      rw [List.getElem?_eq_getElem hjl] at hr
      generalize bs[j] = c at *
      subst hr
      go_wp2
      go_ret
      exact ⟨rfl, HB3.out⟩
    · rw [List.getElem?_eq_none (by rw [HN.out]; omega)] at hr
      subst hr
      go_wp2
      go_ret
      exact ⟨rfl, HB3.out⟩

end Go.Proofs.Ytaadponhmnaccaa
