/-
  What grid.span and grid.Around do to any world: contracts (no claim is made here).
-/
import Derived.Test.YtaadponhmnaccaaGrd2
namespace Go.Proofs.Ytaadponhmnaccaa
open Go.RowKit

/-- P9.4: the first texel that a place needs in one direction, and how many there are. -/
def firstG (lo p m : Int) : Int := lo / (p * 32) - m
def countG (lo hi p m : Int) : Int := hi / (p * 32) + m + 1 - firstG lo p m
theorem ediv_small (a b : Int) (ha : a.natAbs ≤ 40000) (hb : 1 ≤ b) : (a / b).natAbs ≤ 40000 := by
  have k := Int.mul_le_mul_of_nonneg_left hb (show (0 : Int) ≤ 40000 by omega)
  have h1 : -40000 ≤ a / b := Int.le_ediv_of_mul_le (by omega) (by omega)
  have h2 : a / b ≤ 40000 := Int.ediv_le_of_le_mul (by omega) (by omega)
  omega

set_option maxRecDepth 100000 in
theorem span_any (lo hi p m : Int) (hlo : lo.natAbs ≤ 40000) (hhi : hi.natAbs ≤ 40000) (hp : 1 ≤ p ∧ p ≤ 16) (hm : 0 ≤ m ∧ m ≤ 24) (w : World) :
    Calls Try.prog 22 #[.int .i64 lo, .int .i64 hi, .int .i64 p, .int .i64 m] w fun e w' => e = .returned (.tuple #[.int .i64 (firstG lo p m), .int .i64 (countG lo hi p m)]) ∧ w = w' := by
  have e1 : firstG lo p m = lo / (p * 32) - m := rfl
  have e2 : countG lo hi p m = hi / (p * 32) + m + 1 - firstG lo p m := rfl
  obtain ⟨q, hq⟩ : ∃ q, p * 32 = q := ⟨_, rfl⟩
  rw [hq] at e1 e2
  have b1 := ediv_small lo q hlo (by omega)
  have b2 := ediv_small hi q hhi (by omega)
  have H1 := Lib.hid (fun w => gfloor_any lo q (by omega) (by omega) w)
  have H2 := Lib.hid (fun w => gfloor_any hi q (by omega) (by omega) w)
  generalize lo / q = a at *
  generalize hi / q = b at *
  generalize firstG lo p m = f at *
  generalize countG lo hi p m = c at *
  have hw : IntKind.i64.wrap (p * 32) = q := by rw [hq]; exact wI (by omega) (by omega)
  clear hq hlo hhi
  go_enter Try.func22, Try.ntmps22
  go_wp2_with fail
  refine (H1.out _).mono ?_
  rintro e w' ⟨rfl, rfl⟩
  go_wp2_with fail
  refine (H2.out _).mono ?_
  rintro e w' ⟨rfl, rfl⟩
  subst e1 e2
  go_wp2
  exact bodyPost_ret (v := .tuple #[.int .i64 (a - m), .int .i64 (b + m + 1 - (a - m))]) (by simp [results, Try.results22, go_sem]) rfl ⟨rfl, rfl⟩

set_option maxRecDepth 100000 in
set_option maxHeartbeats 1600000 in
theorem around_any (x0 y0 x1 y1 p s m : Int) (h0 : x0.natAbs ≤ 40000) (h1 : y0.natAbs ≤ 40000) (h2 : x1.natAbs ≤ 40000) (h3 : y1.natAbs ≤ 40000) (hp : 1 ≤ p ∧ p ≤ 16) (hm : 0 ≤ m ∧ m ≤ 24) (w : World) :
    Calls Try.prog 17 #[.agg #[.int .i64 x0, .int .i64 y0], .agg #[.int .i64 x1, .int .i64 y1], .int .i64 p, .int .i64 s, .int .i64 m] w fun e w' =>
      (e = .returned (if checkG (firstG x0 p m * p) (firstG y0 p m * p) p (countG x0 x1 p m) (countG y0 y1 p m) s = 0
        then .tuple #[.agg #[.int .i64 (firstG x0 p m * p), .int .i64 (firstG y0 p m * p), .int .i64 p, .int .i64 (countG x0 x1 p m), .int .i64 (countG y0 y1 p m), .int .i64 s], .int .i64 0]
        else .tuple #[.agg #[.int .i64 0, .int .i64 0, .int .i64 0, .int .i64 0, .int .i64 0, .int .i64 0], .int .i64 (checkG (firstG x0 p m * p) (firstG y0 p m * p) p (countG x0 x1 p m) (countG y0 y1 p m) s)])) ∧ Below w.heap.size w w' := by
  have B1 : (firstG x0 p m).natAbs ≤ 50000 := by have := ediv_small x0 (p * 32) h0 (by omega); unfold firstG; omega
  have B2 : (firstG y0 p m).natAbs ≤ 50000 := by have := ediv_small y0 (p * 32) h1 (by omega); unfold firstG; omega
  have B3 : (countG x0 x1 p m).natAbs ≤ 100000 := by have := ediv_small x1 (p * 32) h2 (by omega); unfold countG; omega
  have B4 : (countG y0 y1 p m).natAbs ≤ 100000 := by have := ediv_small y1 (p * 32) h3 (by omega); unfold countG; omega
  have H1 := Lib.hid (fun w => span_any x0 x1 p m h0 h2 hp hm w)
  have H2 := Lib.hid (fun w => span_any y0 y1 p m h1 h3 hp hm w)
  generalize firstG x0 p m = f0 at *
  generalize firstG y0 p m = f1 at *
  generalize countG x0 x1 p m = c0 at *
  generalize countG y0 y1 p m = c1 at *
  obtain ⟨g0, hg0⟩ : ∃ g, f0 * p = g := ⟨_, rfl⟩
  obtain ⟨g1, hg1⟩ : ∃ g, f1 * p = g := ⟨_, rfl⟩
  have m0 : g0.natAbs ≤ 50000 * 16 := by rw [← hg0, Int.natAbs_mul]; exact Nat.mul_le_mul B1 (by omega)
  have m1 : g1.natAbs ≤ 50000 * 16 := by rw [← hg1, Int.natAbs_mul]; exact Nat.mul_le_mul B2 (by omega)
  rw [hg0, hg1]
  have w0 : IntKind.i64.wrap (f0 * p) = g0 := by rw [hg0]; exact wI (by omega) (by omega)
  have w1 : IntKind.i64.wrap (f1 * p) = g1 := by rw [hg1]; exact wI (by omega) (by omega)
  have HC := Lib.hid (fun w => gcheck_any g0 g1 p c0 c1 s w)
  generalize checkG g0 g1 p c0 c1 s = R at *
  clear hg0 hg1 h0 h1 h2 h3
  go_enter Try.func17, Try.ntmps17
  have HZ0 := Lib.hid (Blk.new ((w.alloc (.cells #[.int .i64 x0, .int .i64 y0] 35)).alloc (.cells #[.int .i64 x1, .int .i64 y1] 35)) 23 [.int .i64 0, .int .i64 0, .int .i64 0, .int .i64 0, .int .i64 0, .int .i64 0] (g := w.heap.size + 1 + 1) (by simp))
  have HB0 := Lib.hid (alloc3 w (.cells #[.int .i64 x0, .int .i64 y0] 35) (.cells #[.int .i64 x1, .int .i64 y1] 35) (.cells #[.int .i64 0, .int .i64 0, .int .i64 0, .int .i64 0, .int .i64 0, .int .i64 0] 23))
  go_wp2_with (go_at_call 19; refine (within_any _ _ _ _).mono ?_; rintro e w' ⟨rfl, rfl⟩)
  refine (H1.out _).mono ?_
  rintro e w' ⟨rfl, rfl⟩
  go_wp2_with fail
  refine (H2.out _).mono ?_
  rintro e w' ⟨rfl, rfl⟩
  go_wp2_with fail
  have HZ1 := Lib.hid (HZ0.out.alloc (.cells #[.int .i64 g0, .int .i64 g1, .int .i64 p, .int .i64 c0, .int .i64 c1, .int .i64 s] 23))
  have HG1 := Lib.hid (Blk.new (((w.alloc (.cells #[.int .i64 x0, .int .i64 y0] 35)).alloc (.cells #[.int .i64 x1, .int .i64 y1] 35)).alloc (.cells #[.int .i64 0, .int .i64 0, .int .i64 0, .int .i64 0, .int .i64 0, .int .i64 0] 23)) 23 [.int .i64 g0, .int .i64 g1, .int .i64 p, .int .i64 c0, .int .i64 c1, .int .i64 s] (g := w.heap.size + 1 + 1 + 1) (by simp))
  have HB1 := Lib.hid (HB0.out.alloc HB0.out.size (.cells #[.int .i64 g0, .int .i64 g1, .int .i64 p, .int .i64 c0, .int .i64 c1, .int .i64 s] 23))
  generalize hW : (((w.alloc (.cells #[.int .i64 x0, .int .i64 y0] 35)).alloc (.cells #[.int .i64 x1, .int .i64 y1] 35)).alloc (.cells #[.int .i64 0, .int .i64 0, .int .i64 0, .int .i64 0, .int .i64 0, .int .i64 0] 23)).alloc (.cells #[.int .i64 g0, .int .i64 g1, .int .i64 p, .int .i64 c0, .int .i64 c1, .int .i64 s] 23) = W at *
  clear hW HZ0 HB0
  refine (HC.out _).mono ?_
  rintro e w5 ⟨rfl, hb5⟩
  have HZ5 := Lib.hid (HZ1.out.keep hb5)
  have HG5 := Lib.hid (HG1.out.keep hb5)
  have HB5 := Lib.hid (HB1.out.trans (hb5.mono HB1.out.size))
  clear hb5 HZ1 HG1 HB1
  have hz0 := HZ5.out.cell 0 rfl
  have hz1 := HZ5.out.cell 1 rfl
  have hz2 := HZ5.out.cell 2 rfl
  have hz3 := HZ5.out.cell 3 rfl
  have hz4 := HZ5.out.cell 4 rfl
  have hz5 := HZ5.out.cell 5 rfl
  have hzf := HZ5.out.frozen
  have hlz := HZ5.out.lt
  have hg0 := HG5.out.cell 0 rfl
  have hg1 := HG5.out.cell 1 rfl
  have hg2 := HG5.out.cell 2 rfl
  have hg3 := HG5.out.cell 3 rfl
  have hg4 := HG5.out.cell 4 rfl
  have hg5 := HG5.out.cell 5 rfl
  have hlg := HG5.out.lt
  by_cases hR : R = 0
  · subst hR
    obtain ⟨F1, F2⟩ := HZ5.out.six HB5.out (by omega) (.int .i64 g0) (.int .i64 g1) (.int .i64 p) (.int .i64 c0) (.int .i64 c1) (.int .i64 s)
    have HF1 := Lib.hid F1
    have HF2 := Lib.hid F2
    clear F1 F2
    go_wp2_with fail
    have q0 := HF1.out.cell 0 rfl
    have q1 := HF1.out.cell 1 rfl
    have q2 := HF1.out.cell 2 rfl
    have q3 := HF1.out.cell 3 rfl
    have q4 := HF1.out.cell 4 rfl
    have q5 := HF1.out.cell 5 rfl
    exact bodyPost_ret (v := .tuple #[.agg #[.int .i64 g0, .int .i64 g1, .int .i64 p, .int .i64 c0, .int .i64 c1, .int .i64 s], .int .i64 0]) (by simp [results, Try.results17, go_sem, q0, q1, q2, q3, q4, q5]) rfl ⟨rfl, HF2.out⟩
  · have hR2 : (R == 0) = false := by simp [hR]
    go_wp2_with fail
    obtain ⟨F1, F2⟩ := HZ5.out.six HB5.out (by omega) (.int .i64 0) (.int .i64 0) (.int .i64 0) (.int .i64 0) (.int .i64 0) (.int .i64 0)
    have HF1 := Lib.hid F1
    have HF2 := Lib.hid F2
    clear F1 F2
    have q0 := HF1.out.cell 0 rfl
    have q1 := HF1.out.cell 1 rfl
    have q2 := HF1.out.cell 2 rfl
    have q3 := HF1.out.cell 3 rfl
    have q4 := HF1.out.cell 4 rfl
    have q5 := HF1.out.cell 5 rfl
    exact bodyPost_ret (v := .tuple #[.agg #[.int .i64 0, .int .i64 0, .int .i64 0, .int .i64 0, .int .i64 0, .int .i64 0], .int .i64 R]) (by simp [results, Try.results17, go_sem, q0, q1, q2, q3, q4, q5]) rfl ⟨rfl, HF2.out⟩

set_option maxRecDepth 100000 in
set_option maxHeartbeats 800000 in
theorem around_wrong (x0 y0 x1 y1 p s m : Int) (hp : p < 1 ∨ 16 < p) (w : World) :
    Calls Try.prog 17 #[.agg #[.int .i64 x0, .int .i64 y0], .agg #[.int .i64 x1, .int .i64 y1], .int .i64 p, .int .i64 s, .int .i64 m] w fun e w' =>
      e = .returned (.tuple #[.agg #[.int .i64 0, .int .i64 0, .int .i64 0, .int .i64 0, .int .i64 0, .int .i64 0], .int .i64 4]) ∧ Below w.heap.size w w' := by
  have HZ0 := Lib.hid (Blk.new ((w.alloc (.cells #[.int .i64 x0, .int .i64 y0] 35)).alloc (.cells #[.int .i64 x1, .int .i64 y1] 35)) 23 [.int .i64 0, .int .i64 0, .int .i64 0, .int .i64 0, .int .i64 0, .int .i64 0] (g := w.heap.size + 1 + 1) (by simp))
  have HB0 := Lib.hid (alloc3 w (.cells #[.int .i64 x0, .int .i64 y0] 35) (.cells #[.int .i64 x1, .int .i64 y1] 35) (.cells #[.int .i64 0, .int .i64 0, .int .i64 0, .int .i64 0, .int .i64 0, .int .i64 0] 23))
  have hpd : decide (1 ≤ p ∧ p ≤ 16) = false := by simp; omega
  go_enter Try.func17, Try.ntmps17
  go_wp2_with (go_at_call 19; refine (within_any _ _ _ _).mono ?_; rintro e w' ⟨rfl, rfl⟩; try rw [hpd])
  have q0 := HZ0.out.cell 0 rfl
  have q1 := HZ0.out.cell 1 rfl
  have q2 := HZ0.out.cell 2 rfl
  have q3 := HZ0.out.cell 3 rfl
  have q4 := HZ0.out.cell 4 rfl
  have q5 := HZ0.out.cell 5 rfl
  exact bodyPost_ret (v := .tuple #[.agg #[.int .i64 0, .int .i64 0, .int .i64 0, .int .i64 0, .int .i64 0, .int .i64 0], .int .i64 4]) (by simp [results, Try.results17, go_sem, q0, q1, q2, q3, q4, q5]) rfl ⟨rfl, HB0.out⟩

end Go.Proofs.Ytaadponhmnaccaa
