/-
  The walk of the law WideInts: it returns true, and nothing that was there has turned (no claim is made here: the row is WideInts).
-/
import Derived.Test.YtjokpafmkhfdgaaAwake1
import Derived.Deep.CutBlock
import Derived.Deep.DeepCutAuto
import Derived.OpenShut
namespace Go.Proofs.Ytjokpafmkhfdgaa
open Go.RowKit


set_option maxHeartbeats 400000 in
theorem abs_any (a : Int) (h1 : -9223372036854775808 ≤ a) (h2 : a ≤ 9223372036854775807) (w : World) :
    Calls Try.prog 21 #[.int .i64 a] w fun e w' => e = .returned (.int .u64 (a.natAbs : Int)) ∧ w = w' := by
  by_cases h : a < 0
  · go_enter Try.func21, Try.ntmps21
    go_wp2
    go_ret
    exact ⟨ret_int (by simp only [IntKind.wrap_u64]; omega), rfl⟩
  · go_enter Try.func21, Try.ntmps21
    go_wp2
    go_ret
    exact ⟨ret_int (by first | (simp only [IntKind.wrap_u64]; omega) | omega), rfl⟩

set_option maxHeartbeats 1000000 in
set_option maxRecDepth 100000 in
theorem wideInts_core (a b : Int) (k t : Bool) (hi lo : Int) (ha0 : -9223372036854775808 ≤ a ∧ a ≤ 9223372036854775807) (hb0 : -9223372036854775808 ≤ b ∧ b ≤ 9223372036854775807)
    (A1 : Hid (∀ w, Calls Try.prog 19 #[.int .i64 a, .int .i64 b] w fun e w' => e = .returned (.tuple #[.int .i64 (wrap64 (a + b)), .bool k]) ∧ w = w'))
    (T1 : Hid (∀ w, Calls Try.prog 20 #[.int .i64 a, .int .i64 b] w fun e w' => e = .returned (.tuple #[.int .i64 (wrap64 (a * b)), .bool t]) ∧ Below w.heap.size w w'))
    (HM : Hid (∀ w, Calls Try.prog 12 #[.int .u64 (a.natAbs : Int), .int .u64 (b.natAbs : Int)] w fun e w' => e = .returned (.agg #[.int .u64 hi, .int .u64 lo]) ∧ Below w.heap.size w w'))
    (HK : Hid (k = decide (-9223372036854775808 ≤ a + b ∧ a + b ≤ 9223372036854775807)))
    (Hno : Hid (¬ hi = 0 → t = false)) (Hs : Hid ((decide (a < 0) != decide (b < 0)) = false → hi = 0 → decide (lo ≤ 9223372036854775807) = t)) (Ho : Hid ((decide (a < 0) != decide (b < 0)) = true → hi = 0 → decide (lo ≤ 9223372036854775808) = t)) (w : World) :
    Calls Try.prog 7 #[.int .i64 a, .int .i64 b] w fun e w' => e = .returned (.bool true) ∧ Below w.heap.size w w' := by
  have HA := Lib.hid (fun w => abs_any a ha0.1 ha0.2 w)
  have HB := Lib.hid (fun w => abs_any b hb0.1 hb0.2 w)
  obtain ⟨a1, a2⟩ := ha0
  obtain ⟨b1, b2⟩ := hb0
  go_enter Try.func7, Try.ntmps7
  go_wp2_with fail
  refine (awake_any _).mono ?_
  rintro e w1 ⟨rfl, hb1⟩
  go_wp2_with fail
  refine (A1.out _).mono ?_
  rintro e w2 ⟨rfl, rfl⟩
  go_wp2_with fail
  refine (T1.out _).mono ?_
  rintro e w2 ⟨rfl, hb2⟩
  go_upto_region 5 with fail
  go_cut [9] (fun s wx => s = .bool (!k) ∧ w2 = wx)
  case first =>
    by_cases p : 0 < b
    · by_cases q : 9223372036854775807 - b < a
      · have E := Lib.hid (HK.out.trans (decide_eq_false (by omega)))
        go_wp2_with fail
        go_meet
        exact ⟨by rw [E.out]; rfl, rfl⟩
      · have E := Lib.hid (HK.out.trans (decide_eq_true (by omega)))
        go_wp2_with fail
        go_meet
        exact ⟨by rw [E.out]; rfl, rfl⟩
    · by_cases n : b < 0
      · by_cases q : a < -9223372036854775808 - b
        · have E := Lib.hid (HK.out.trans (decide_eq_false (by omega)))
          go_wp2_with fail
          go_meet
          exact ⟨by rw [E.out]; rfl, rfl⟩
        · have E := Lib.hid (HK.out.trans (decide_eq_true (by omega)))
          go_wp2_with fail
          go_meet
          exact ⟨by rw [E.out]; rfl, rfl⟩
      · have E := Lib.hid (HK.out.trans (decide_eq_true (by omega)))
        go_wp2_with fail
        go_meet
        exact ⟨by rw [E.out]; rfl, rfl⟩
  case rest =>
    obtain ⟨rfl, rfl⟩ := hcut
    clear a1 a2 b1 b2
    go_wp2_with fail
    refine (HA.out _).mono ?_
    rintro e w3 ⟨rfl, rfl⟩
    go_wp2_with fail
    refine (HB.out _).mono ?_
    rintro e w3 ⟨rfl, rfl⟩
    go_wp2_with fail
    refine (HM.out _).mono ?_
    rintro e w3 ⟨rfl, hb3⟩
    have hbb := below2 (below2 hb1 hb2) hb3
    by_cases hz : hi = 0
    · have hs' := Lib.hid (fun h => Hs.out h hz)
      have ho' := Lib.hid (fun h => Ho.out h hz)
      clear Hs Ho Hno
      subst hz
      cases ha : decide (a < 0) <;> cases hb : decide (b < 0)
      all_goals
        rw [ha, hb] at hs' ho'
        first
          | have et := hs'.out rfl
          | have et := ho'.out rfl
        rw [← et]
        clear et hs' ho'
        go_wp2
        go_ret
        exact ⟨rfl, hbb.alloc hbb.size _⟩
    · have hz2 : (hi == 0) = false := by simpa using hz
      obtain rfl := Hno.out hz
      clear Hs Ho Hno hz
      cases ha : decide (a < 0) <;> cases hb : decide (b < 0)
      all_goals
        go_wp2
        go_ret
        exact ⟨rfl, hbb.alloc hbb.size _⟩

theorem wideInts_walk (a b : Int) (wa : (Lit.int .i64 a).wf = true) (wb : (Lit.int .i64 b).wf = true) (w : World) :
    Calls Try.prog 7 #[.int .i64 a, .int .i64 b] w fun e w' => e = .returned (.bool true) ∧ Below w.heap.size w w' := by
  have ha := bounds_i64 wa
  have hb := bounds_i64 wb
  refine wideInts_core a b _ (timesOk a b) _ _ ha hb (fun w => add_any a b ha.1 ha.2 hb.1 hb.2 w) (fun w => times_any a b ha hb w) (fun w => mul_any a.natAbs b.natAbs (by omega) (by omega) w) rfl ?_ ?_ ?_ w
  · exact fun h => timesOk_no a b (fun e => h (by rw [e]; rfl))
  · exact fun h e => timesOk_same a b h (Int.ofNat_eq_zero.1 e)
  · exact fun h e => timesOk_other a b h (Int.ofNat_eq_zero.1 e)

end Go.Proofs.Ytjokpafmkhfdgaa
