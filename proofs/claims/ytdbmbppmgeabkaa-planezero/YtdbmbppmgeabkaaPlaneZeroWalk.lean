/-
  The walk of the law PlaneZero (no claim is made here: the row is PlaneZero).
-/
import Derived.Test.YtdbmbppmgeabkaaAwake3
import Derived.Test.YtdbmbppmgeabkaaZeroMath
import Derived.OpenShut
namespace Go.Proofs.Ytdbmbppmgeabkaa
open Go.RowKit

set_option maxHeartbeats 1000000 in
set_option maxRecDepth 100000 in
theorem planeZero_core (a0 a1 b0 b1 k x0 x1 y0 y1 u0 u1 m0 m1 t0 t1 z0 z1 n d r : Int) (w : World) (hk : 0 ≤ k ∧ k ≤ 255)
    (eu0 : IntKind.i64.wrap (y0 - x0) = u0) (eu1 : IntKind.i64.wrap (y1 - x1) = u1) (em0 : IntKind.i64.wrap (u0 * k) = m0) (em1 : IntKind.i64.wrap (u1 * k) = m1) (et0 : m0.tdiv 255 = t0) (et1 : m1.tdiv 255 = t1)
    (ez0 : IntKind.i64.wrap (x0 + t0) = z0) (ez1 : IntKind.i64.wrap (x1 + t1) = z1) (hr : r ≤ 0) (ht0 : -65536 ≤ t0 ∧ t0 ≤ 65536) (ht1 : -65536 ≤ t1 ∧ t1 ≤ 65536)
    (HE : Hid (∀ w, Calls Try.prog 9 #[.agg #[.int .i16 a0, .int .i16 a1], .agg #[.int .i16 b0, .int .i16 b1]] w fun e w' => e = .returned (.agg #[.int .i64 x0, .int .i64 x1, .int .i64 y0, .int .i64 y1]) ∧ Below w.heap.size w w'))
    (HQ0 : Hid (∀ w, Calls Try.prog 8 #[.agg #[.int .i64 x0, .int .i64 x1, .int .i64 y0, .int .i64 y1], .agg #[.int .i64 x0, .int .i64 x1]] w fun e w' => e = .returned (.agg #[.int .i64 0, .int .i64 1]) ∧ Below w.heap.size w w'))
    (HQ1 : Hid (∀ w, Calls Try.prog 8 #[.agg #[.int .i64 x0, .int .i64 x1, .int .i64 y0, .int .i64 y1], .agg #[.int .i64 y0, .int .i64 y1]] w fun e w' => e = .returned (.agg #[.int .i64 0, .int .i64 1]) ∧ Below w.heap.size w w'))
    (HQ2 : Hid (∀ w, Calls Try.prog 8 #[.agg #[.int .i64 x0, .int .i64 x1, .int .i64 y0, .int .i64 y1], .agg #[.int .i64 z0, .int .i64 z1]] w fun e w' => e = .returned (.agg #[.int .i64 n, .int .i64 d]) ∧ Below w.heap.size w w'))
    (HC : Hid (∀ w, Calls Try.prog 12 #[.agg #[.int .i64 n, .int .i64 d], .agg #[.int .i64 2, .int .i64 1]] w fun e w' => e = .returned (.int .i64 r) ∧ Below w.heap.size w w')) :
    Calls Try.prog 4 #[.agg #[.int .i16 a0, .int .i16 a1], .agg #[.int .i16 b0, .int .i16 b1], .int .u8 k] w fun e w' => e = .returned (.bool true) ∧ Below w.heap.size w w' := by
  go_enter Try.func4, Try.ntmps4
  go_wp2_with fail
  refine (awake_any _).mono ?_
  rintro e w1 ⟨rfl, hb1⟩
  have A1 : Two w1 w.heap.size _ _ := ((Two.new _ _ _ rfl).alloc _).keep hb1
  have A2 : Two w1 (w.heap.size + 1) _ _ := (Two.new _ _ _ (by simp)).keep hb1
  have B1 := below2 (alloc2 w _ _) hb1
  clear hb1
  obtain ⟨a0c, a1c, -, -⟩ := id A1
  obtain ⟨b0c, b1c, -, -⟩ := id A2
  go_wp2_with fail
  refine (HE.out _).mono ?_
  rintro e w2 ⟨rfl, hb2⟩
  have B2 := below2 B1 hb2
  clear hb2 A1 A2 B1 a0c a1c b0c b1c
  go_wp2_with fail
  have E3 : Four ((w2.alloc (.cells #[.int .i64 x0, .int .i64 x1, .int .i64 y0, .int .i64 y1] 33)).alloc (.cells #[.int .i64 x0, .int .i64 x1, .int .i64 y0, .int .i64 y1] 27)) w2.heap.size _ _ _ _ := (Four.new _ _ _ _ _ rfl).alloc _
  have S3 : Four ((w2.alloc (.cells #[.int .i64 x0, .int .i64 x1, .int .i64 y0, .int .i64 y1] 33)).alloc (.cells #[.int .i64 x0, .int .i64 x1, .int .i64 y0, .int .i64 y1] 27)) (w2.heap.size + 1) _ _ _ _ := Four.new _ _ _ _ _ (by simp)
  have B3 := below2 B2 (alloc2 w2 (.cells #[.int .i64 x0, .int .i64 x1, .int .i64 y0, .int .i64 y1] 33) (.cells #[.int .i64 x0, .int .i64 x1, .int .i64 y0, .int .i64 y1] 27))
  clear B2
  generalize (w2.alloc (.cells #[.int .i64 x0, .int .i64 x1, .int .i64 y0, .int .i64 y1] 33)).alloc (.cells #[.int .i64 x0, .int .i64 x1, .int .i64 y0, .int .i64 y1] 27) = w3 at *
  generalize w2.heap.size + 1 = gs at *
  generalize w2.heap.size = ge at *
  go_loopw [22] (fun i wr => ∃ j : Nat, j ≤ 2 ∧ i = .int .i64 j ∧ Below w3.heap.size w3 wr) (fun i _ => 2 - (intOf i).toNat)
  case atStart => exact ⟨0, by omega, rfl, Below.refl _ _⟩
  case round =>
    obtain ⟨j, hj, rfl, hr3⟩ := hrel
    have ER := E3.keep hr3
    have SR := S3.keep hr3
    have BR := Lib.hid (below2 B3 hr3)
    have HR := Lib.hid hr3
    clear E3 S3 B3 hr3
    obtain ⟨e0, e1, e2, e3⟩ := id ER
    have ne := ER.lt
    by_cases hj2 : j < 2
    · obtain ⟨p0, p1, HQ, pc0, pc1⟩ : ∃ p0 p1 : Int, Hid (∀ w, Calls Try.prog 8 #[.agg #[.int .i64 x0, .int .i64 x1, .int .i64 y0, .int .i64 y1], .agg #[.int .i64 p0, .int .i64 p1]] w fun e w' => e = .returned (.agg #[.int .i64 0, .int .i64 1]) ∧ Below w.heap.size w w') ∧ wr.cell? ⟨gs, j * 2, none⟩ = some (.int .i64 p0) ∧ wr.cell? ⟨gs, j * 2 + 1, none⟩ = some (.int .i64 p1) := by
        rcases (by omega : j = 0 ∨ j = 1) with rfl | rfl
        · exact ⟨x0, x1, HQ0, SR.1, SR.2.1⟩
        · exact ⟨y0, y1, HQ1, SR.2.2.1, SR.2.2.2⟩
      clear HQ0 HQ1 HQ2 HC HE eu0 eu1 em0 em1 et0 et1 ez0 ez1 SR ER
      go_wp2_with fail
      refine (HQ.out _).mono ?_
      rintro e w4 ⟨rfl, hb4⟩
      have B4 := Lib.hid (below2 (HR.out.alloc HR.out.size _) hb4)
      clear hb4
      go_wp2_with fail
      go_roundw
      case rel => exact ⟨j + 1, by omega, by go_num, B4.out⟩
      case measure => simp [intOf]; omega
    · obtain rfl : j = 2 := by omega
      clear SR HQ0 HQ1 HE
      go_wp2_with fail
      refine (HQ2.out _).mono ?_
      rintro e w4 ⟨rfl, hb4⟩
      have B4 := Lib.hid (below2 (BR.out.alloc BR.out.size _) hb4)
      clear hb4
      go_wp2_with fail
      refine (HC.out _).mono ?_
      rintro e w5 ⟨rfl, hb5⟩
      have B5 := Lib.hid (below2 B4.out hb5)
      clear hb5
      go_wp2
      go_ret
      exact ⟨rfl, B5.out⟩

theorem small_in (x : Int) : (x.tmod 8193).natAbs ≤ 8192 := by
  have h1 := Int.natAbs_tmod x 8193
  have h2 := Nat.mod_lt x.natAbs (show 0 < (8193 : Int).natAbs by decide)
  rw [h1]
  have : (8193 : Int).natAbs = 8193 := rfl
  omega

theorem cmpN_le (a b : Nat) (h : a ≤ b) : cmpN a b ≤ 0 := by
  unfold cmpN
  split
  · omega
  · split <;> omega

set_option maxHeartbeats 2000000 in
theorem planeZero_walk (a0 a1 b0 b1 k : Int) (w0 : (Lit.int .i16 a0).wf = true) (w1 : (Lit.int .i16 a1).wf = true) (w2 : (Lit.int .i16 b0).wf = true) (w3 : (Lit.int .i16 b1).wf = true) (w4 : (Lit.int .u8 k).wf = true) (w : World) :
    Calls Try.prog 4 #[.agg #[.int .i16 a0, .int .i16 a1], .agg #[.int .i16 b0, .int .i16 b1], .int .u8 k] w fun e w' => e = .returned (.bool true) ∧ Below w.heap.size w w' := by
  have g0 := bounds_i16 w0
  have g1 := bounds_i16 w1
  have g2 := bounds_i16 w2
  have g3 := bounds_i16 w3
  have g4 := bounds_u8 w4
  have HE := fun w => edge_any a0 a1 b0 b1 ⟨by omega, by omega⟩ ⟨by omega, by omega⟩ w
  have s0 := small_in a0
  have s1 := small_in a1
  have s2 := small_in b0
  have s3 := small_in b1
  clear g0 g1 g2 g3
  generalize a0.tmod 8193 = x0 at *
  generalize a1.tmod 8193 = x1 at *
  generalize b0.tmod 8193 = y0 at *
  generalize b1.tmod 8193 = y1 at *
  obtain ⟨n, d, hq, hn, hd⟩ := zero_near (y0 - x0) (y1 - x1) k g4.1 g4.2 (by omega) (by omega)
  obtain ⟨r0, c0, d0, i0, j0⟩ := trunc_facts (y0 - x0) k g4.1 g4.2
  obtain ⟨r1, c1, d1, i1, j1⟩ := trunc_facts (y1 - x1) k g4.1 g4.2
  have m0 := mulB (show (y0 - x0).natAbs ≤ 16384 by omega) (show k.natAbs ≤ 255 by omega)
  have m1 := mulB (show (y1 - x1).natAbs ≤ 16384 by omega) (show k.natAbs ≤ 255 by omega)
  have v0 : (x0 + ((y0 - x0) * k).tdiv 255).natAbs ≤ 8192 := by
    rcases Int.le_total 0 (y0 - x0) with h | h
    · have := i0 h; omega
    · have := j0 h; omega
  have v1 : (x1 + ((y1 - x1) * k).tdiv 255).natAbs ≤ 8192 := by
    rcases Int.le_total 0 (y1 - x1) with h | h
    · have := i1 h; omega
    · have := j1 h; omega
  have HQ0 := fun w => square_any x0 x1 y0 y1 x0 x1 ⟨⟨s0, s1⟩, ⟨s2, s3⟩, ⟨by omega, by omega⟩⟩ w
  have HQ1 := fun w => square_any x0 x1 y0 y1 y0 y1 ⟨⟨s0, s1⟩, ⟨s2, s3⟩, ⟨by omega, by omega⟩⟩ w
  have HQ2 := fun w => square_any x0 x1 y0 y1 (x0 + ((y0 - x0) * k).tdiv 255) (x1 + ((y1 - x1) * k).tdiv 255) ⟨⟨s0, s1⟩, ⟨s2, s3⟩, ⟨by omega, by omega⟩⟩ w
  have HC := fun w => rcompare_any n d 2 1 (by omega) (by omega) (by omega) (by omega) w
  rw [Int.sub_self, Int.sub_self, squareV_first] at HQ0
  rw [squareV_last] at HQ1
  rw [show x0 + ((y0 - x0) * k).tdiv 255 - x0 = ((y0 - x0) * k).tdiv 255 by omega, show x1 + ((y1 - x1) * k).tdiv 255 - x1 = ((y1 - x1) * k).tdiv 255 by omega, hq] at HQ2
  exact planeZero_core a0 a1 b0 b1 k x0 x1 y0 y1 (y0 - x0) (y1 - x1) ((y0 - x0) * k) ((y1 - x1) * k) _ _ _ _ _ _ _ w g4 (wI (by omega) (by omega)) (wI (by omega) (by omega)) (wI (by omega) (by omega)) (wI (by omega) (by omega)) rfl rfl
    (wI (by omega) (by omega)) (wI (by omega) (by omega)) (cmpN_le _ _ (by omega)) (by omega) (by omega) (Lib.hid HE) (Lib.hid HQ0) (Lib.hid HQ1) (Lib.hid HQ2) (Lib.hid HC)

end Go.Proofs.Ytdbmbppmgeabkaa
