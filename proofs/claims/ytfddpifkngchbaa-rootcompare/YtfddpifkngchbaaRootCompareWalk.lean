/-
  The walk of the law RootCompare (no claim is made here: the row is RootCompare).
-/
import Derived.Test.YtfddpifkngchbaaRootCompareW0
import Derived.OpenShut
import Derived.Deep.RegionHeld3
import Derived.Deep.RegionWith
namespace Go.Proofs.Ytfddpifkngchbaa
open Go.RowKit

set_option maxHeartbeats 1000000 in
set_option maxRecDepth 100000 in
theorem rootCompare_one (a b c d : Int) (A B C D x1 x2 y1 y2 A9 B9 k zn zd : Nat) (r : Int) (w : World)
    (ea : max 0 (a / 2) = (A : Int)) (eb : max 1 (b / 2) = (B : Int)) (ec : max 0 c = (C : Int)) (ed : max 1 d = (D : Int)) (e9 : (A : Int) / 512 = A9) (f9 : max 1 ((B : Int) / 512) = (B9 : Int))
    (_hA : A9 < 9007199254740992) (_hB : B9 < 9007199254740992) (hk : k ≤ 255) (ezn : (A9 : Int) * k = zn) (ezd : (B9 : Int) * k = zd) (hzn : zn < 9223372036854775808) (hzd : zd < 9223372036854775808) (hr : -1 ≤ r ∧ r ≤ 1) (hk0 : ¬ k = 0)
    (O1 : Hid (∀ w, Calls Try.prog 12 #[.int .i64 A, .int .i64 B] w fun e w' => e = .returned (.tuple #[.agg #[.int .i64 x1, .int .i64 x2], .int .i64 0]) ∧ Below w.heap.size w w'))
    (O2 : Hid (∀ w, Calls Try.prog 12 #[.int .i64 C, .int .i64 D] w fun e w' => e = .returned (.tuple #[.agg #[.int .i64 y1, .int .i64 y2], .int .i64 0]) ∧ Below w.heap.size w w'))
    (C1 : Hid (∀ w, Calls Try.prog 15 #[.agg #[.int .i64 x1, .int .i64 x2], .agg #[.int .i64 y1, .int .i64 y2]] w fun e w' => e = .returned (.int .i64 r) ∧ Below w.heap.size w w'))
    (L1 : Hid (∀ w, Calls Try.prog 14 #[.int .i64 A, .int .i64 B, .int .i64 C, .int .i64 D] w fun e w' => e = .returned (.int .i64 r) ∧ Below w.heap.size w w'))
    (C2 : Hid (∀ w, Calls Try.prog 15 #[.agg #[.int .i64 y1, .int .i64 y2], .agg #[.int .i64 x1, .int .i64 x2]] w fun e w' => e = .returned (.int .i64 (-r)) ∧ Below w.heap.size w w'))
    (C3 : Hid (∀ w, Calls Try.prog 15 #[.agg #[.int .i64 zn, .int .i64 zd], .agg #[.int .i64 A9, .int .i64 B9]] w fun e w' => e = .returned (.int .i64 0) ∧ Below w.heap.size w w')) :
    Calls Try.prog 5 #[.int .i64 a, .int .i64 b, .int .i64 c, .int .i64 d, .int .u8 k] w fun e w' => e = .returned (.bool true) ∧ Below w.heap.size w w' := by
  have hkb : ((k : Int) == 0) = false := by simp; omega
  go_enter Try.func5, Try.ntmps5
  go_wp2_with fail
  refine (awake_any _).mono ?_
  rintro e w1 ⟨rfl, hb1⟩
  go_wp2_with fail
  refine (O1.out _).mono ?_
  rintro e w2 ⟨rfl, hb2⟩
  have B2 := Lib.hid (below2 hb1 hb2)
  clear hb1 hb2
  go_wp2_with fail
  refine (O2.out _).mono ?_
  rintro e w3 ⟨rfl, hb3⟩
  have c0 : w3.cell? ⟨w2.heap.size, 0, none⟩ = some (.int .i64 x1) := keep hb3 (by simp)
  have c1 : w3.cell? ⟨w2.heap.size, 1, none⟩ = some (.int .i64 x2) := keep hb3 (by simp)
  have B3 := Lib.hid (below2 (B2.out.alloc B2.out.size _) hb3)
  clear hb3
  go_wp2_with fail
  obtain ⟨ws, hws⟩ : ∃ ws, ws = (((w3.alloc (.cells #[.int .i64 y1, .int .i64 y2] 28)).alloc (.cells #[.int .i64 zn, .int .i64 zd] 28)).alloc (.cells #[.int .i64 A9, .int .i64 B9] 28)) := ⟨_, rfl⟩
  have BS := Lib.hid (show Below w.heap.size w ws by rw [hws]; exact ((B3.out.alloc B3.out.size _).alloc (by simp; exact Nat.le_succ_of_le B3.out.size) _).alloc (by simp; exact Nat.le_succ_of_le (Nat.le_succ_of_le B3.out.size)) _)
  have x0 : ws.cell? ⟨w2.heap.size, 0, none⟩ = some (.int .i64 x1) := by rw [hws]; exact keepAlloc _ (keepAlloc _ (keepAlloc _ c0))
  have x1' : ws.cell? ⟨w2.heap.size, 1, none⟩ = some (.int .i64 x2) := by rw [hws]; exact keepAlloc _ (keepAlloc _ (keepAlloc _ c1))
  have y0 : ws.cell? ⟨w3.heap.size, 0, none⟩ = some (.int .i64 y1) := by rw [hws]; exact keepAlloc _ (keepAlloc _ (by simp))
  have y1' : ws.cell? ⟨w3.heap.size, 1, none⟩ = some (.int .i64 y2) := by rw [hws]; exact keepAlloc _ (keepAlloc _ (by simp))
  have z0 : ws.cell? ⟨w3.heap.size + 1, 0, none⟩ = some (.int .i64 zn) := by rw [hws]; exact keepAlloc _ (new0 (by simp))
  have z1 : ws.cell? ⟨w3.heap.size + 1, 1, none⟩ = some (.int .i64 zd) := by rw [hws]; exact keepAlloc _ (new1 (by simp))
  have v0 : ws.cell? ⟨w3.heap.size + 1 + 1, 0, none⟩ = some (.int .i64 A9) := by rw [hws]; exact new0 (by simp)
  have v1 : ws.cell? ⟨w3.heap.size + 1 + 1, 1, none⟩ = some (.int .i64 B9) := by rw [hws]; exact new1 (by simp)
  rw [← hws]
  generalize w3.heap.size + 1 + 1 = gv at *
  generalize w3.heap.size + 1 = gz at *
  generalize w3.heap.size = gy at *
  generalize w2.heap.size = gx at *
  clear hws c0 c1 B3 B2 ea eb ec ed e9 f9 ezn ezd
  have en : IntKind.i64.wrap (-r) = -r := IntWalk.i64_in _ (by omega)
  go_region_held3 (fun wx => wx.cell? ⟨gx, 0, none⟩ = some (.int .i64 x1) ∧ wx.cell? ⟨gx, 1, none⟩ = some (.int .i64 x2) ∧ wx.cell? ⟨gy, 0, none⟩ = some (.int .i64 y1) ∧ wx.cell? ⟨gy, 1, none⟩ = some (.int .i64 y2) ∧ wx.cell? ⟨gz, 0, none⟩ = some (.int .i64 zn) ∧ wx.cell? ⟨gz, 1, none⟩ = some (.int .i64 zd) ∧ wx.cell? ⟨gv, 0, none⟩ = some (.int .i64 A9) ∧ wx.cell? ⟨gv, 1, none⟩ = some (.int .i64 B9) ∧ Below ws.heap.size ws wx)
    (first | assumption | exact eight_of x0 x1' y0 y1' z0 z1 v0 v1 (Below.drew (Below.refl _ _)))
    (first
      | (go_at_call 15; with_reducible refine (C1.out _).mono ?_; rintro e wn ⟨rfl, hbn⟩; (first | have AB := below2 AB hbn | have AB := undrew hbn); have hS := eight_of x0 x1' y0 y1' z0 z1 v0 v1 AB)
      | (go_at_call 14; with_reducible refine (L1.out _).mono ?_; rintro e wn ⟨rfl, hbn⟩; (first | have AB := below2 AB hbn | have AB := undrew hbn); have hS := eight_of x0 x1' y0 y1' z0 z1 v0 v1 AB)
      | (go_at_call 15; with_reducible refine (C2.out _).mono ?_; rintro e wn ⟨rfl, hbn⟩; (first | have AB := below2 AB hbn | have AB := undrew hbn); have hS := eight_of x0 x1' y0 y1' z0 z1 v0 v1 AB)
      | (go_at_call 15; with_reducible refine (C3.out _).mono ?_; rintro e wn ⟨rfl, hbn⟩; (first | have AB := below2 AB hbn | have AB := undrew hbn); have hS := eight_of x0 x1' y0 y1' z0 z1 v0 v1 AB))
  all_goals
    have BF := Lib.hid (below2 BS.out AB)
    go_wp2
    go_ret
    exact ⟨rfl, BF.out⟩

theorem cmpN_swap (a b : Nat) : cmpN a b = -cmpN b a := by
  unfold cmpN
  rcases Nat.lt_trichotomy a b with h | h | h
  · rw [if_pos h, if_neg (by omega), if_pos h]
  · subst h; simp
  · rw [if_neg (by omega), if_pos h, if_pos h]; rfl
theorem cmpN_in (a b : Nat) : -1 ≤ cmpN a b ∧ cmpN a b ≤ 1 := by
  unfold cmpN
  split
  · omega
  · split <;> omega
theorem cmpN_congr {a b c d : Nat} (h1 : a < b ↔ c < d) (h2 : b < a ↔ d < c) : cmpN a b = cmpN c d := by unfold cmpN; simp only [h1, h2]

/-- Fractions in their least form are compared as they are. -/
theorem cmpN_least (A B C D : Nat) (hB : 0 < B) (hD : 0 < D) : cmpN (A / Nat.gcd A B * (D / Nat.gcd C D)) (C / Nat.gcd C D * (B / Nat.gcd A B)) = cmpN (A * D) (C * B) := by
  obtain ⟨a, ha⟩ := Nat.gcd_dvd_left A B
  obtain ⟨b, hb⟩ := Nat.gcd_dvd_right A B
  obtain ⟨c, hc⟩ := Nat.gcd_dvd_left C D
  obtain ⟨d, hd⟩ := Nat.gcd_dvd_right C D
  have g0 : 0 < Nat.gcd A B := Nat.gcd_pos_of_pos_right A hB
  have h0 : 0 < Nat.gcd C D := Nat.gcd_pos_of_pos_right C hD
  generalize Nat.gcd A B = g at *
  generalize Nat.gcd C D = h at *
  subst ha hb hc hd
  rw [Nat.mul_div_cancel_left _ g0, Nat.mul_div_cancel_left _ g0, Nat.mul_div_cancel_left _ h0, Nat.mul_div_cancel_left _ h0]
  have e1 : g * a * (h * d) = (g * h) * (a * d) := by ac_rfl
  have e2 : h * c * (g * b) = (g * h) * (c * b) := by ac_rfl
  rw [e1, e2]
  have p : 0 < g * h := Nat.mul_pos g0 h0
  exact cmpN_congr (Nat.mul_lt_mul_left p).symm (Nat.mul_lt_mul_left p).symm

theorem rootCompare_walk (a b c d k : Int) (w0 : (Lit.int .i64 a).wf = true) (w1 : (Lit.int .i64 b).wf = true) (w2 : (Lit.int .i64 c).wf = true) (w3 : (Lit.int .i64 d).wf = true) (w4 : (Lit.int .u8 k).wf = true) (w : World) :
    Calls Try.prog 5 #[.int .i64 a, .int .i64 b, .int .i64 c, .int .i64 d, .int .u8 k] w fun e w' => e = .returned (.bool true) ∧ Below w.heap.size w w' := by
  have b0 := bounds_i64 w0
  have b1 := bounds_i64 w1
  have b2 := bounds_i64 w2
  have b3 := bounds_i64 w3
  have b4 := bounds_u8 w4
  obtain ⟨k, rfl⟩ := Int.eq_ofNat_of_zero_le b4.1
  obtain ⟨A, hA⟩ := Int.eq_ofNat_of_zero_le (show 0 ≤ max 0 (a / 2) by omega)
  obtain ⟨B, hB⟩ := Int.eq_ofNat_of_zero_le (show 0 ≤ max 1 (b / 2) by omega)
  obtain ⟨C, hC⟩ := Int.eq_ofNat_of_zero_le (show 0 ≤ max 0 c by omega)
  obtain ⟨D, hD⟩ := Int.eq_ofNat_of_zero_le (show 0 ≤ max 1 d by omega)
  obtain ⟨A9, h9⟩ := Int.eq_ofNat_of_zero_le (show 0 ≤ (A : Int) / 512 by omega)
  obtain ⟨B9, i9⟩ := Int.eq_ofNat_of_zero_le (show 0 ≤ max 1 ((B : Int) / 512) by omega)
  have l1 := Nat.div_le_self A (Nat.gcd A B)
  have l2 := Nat.div_le_self B (Nat.gcd A B)
  have l3 := Nat.div_le_self C (Nat.gcd C D)
  have l4 := Nat.div_le_self D (Nat.gcd C D)
  have C1 := fun w => rcompare_any (A / Nat.gcd A B) (B / Nat.gcd A B) (C / Nat.gcd C D) (D / Nat.gcd C D) (by omega) (by omega) (by omega) (by omega) w
  have C2 := fun w => rcompare_any (C / Nat.gcd C D) (D / Nat.gcd C D) (A / Nat.gcd A B) (B / Nat.gcd A B) (by omega) (by omega) (by omega) (by omega) w
  rw [cmpN_least A B C D (by omega) (by omega)] at C1
  rw [cmpN_least C D A B (by omega) (by omega), cmpN_swap] at C2
  have hk := b4.2
  by_cases hk0 : k = 0
  · subst hk0
    exact rootCompare_zero a b c d A B C D _ _ _ _ A9 B9 (cmpN (A * D) (C * B)) w hA hB hC hD h9 i9 (by omega) (by omega) (cmpN_in _ _) (Lib.hid fun w => of_any A B (by omega) (by omega) (by omega) w) (Lib.hid fun w => of_any C D (by omega) (by omega) (by omega) w)
      (Lib.hid C1) (Lib.hid fun w => less_any A B C D (by omega) (by omega) (by omega) (by omega) w) (Lib.hid C2)
  · have m1 := Nat.mul_le_mul (show A9 ≤ 9007199254740991 by omega) (show k ≤ 255 by omega)
    have m2 := Nat.mul_le_mul (show B9 ≤ 9007199254740991 by omega) (show k ≤ 255 by omega)
    have C3 := fun w => rcompare_any (A9 * k) (B9 * k) A9 B9 (by omega) (by omega) (by omega) (by omega) w
    have e : cmpN (A9 * k * B9) (A9 * (B9 * k)) = 0 := by
      rw [show A9 * k * B9 = A9 * (B9 * k) from by rw [Nat.mul_assoc, Nat.mul_comm k]]; unfold cmpN; simp
    rw [e] at C3
    exact rootCompare_one a b c d A B C D _ _ _ _ A9 B9 k (A9 * k) (B9 * k) (cmpN (A * D) (C * B)) w hA hB hC hD h9 i9 (by omega) (by omega) (by omega) (Int.natCast_mul _ _).symm (Int.natCast_mul _ _).symm (by omega) (by omega) (cmpN_in _ _) hk0 (Lib.hid fun w => of_any A B (by omega) (by omega) (by omega) w) (Lib.hid fun w => of_any C D (by omega) (by omega) (by omega) w)
      (Lib.hid C1) (Lib.hid fun w => less_any A B C D (by omega) (by omega) (by omega) (by omega) w) (Lib.hid C2) (Lib.hid C3)

end Go.Proofs.Ytfddpifkngchbaa
