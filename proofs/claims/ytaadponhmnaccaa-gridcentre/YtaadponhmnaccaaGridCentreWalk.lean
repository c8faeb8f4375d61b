/-
  The walk of punchcutlaw09.GridCentre (no claim is made here).
-/
import Derived.Test.YtaadponhmnaccaaAwake9
import Derived.Test.YtaadponhmnaccaaGrd4
namespace Go.Proofs.Ytaadponhmnaccaa
open Go.RowKit

set_option maxRecDepth 100000 in
set_option maxHeartbeats 3200000 in
theorem gridCentre_walk (s0 s1 s2 s3 s4 s5 i k : Int) (w : World) (hs : (0 ≤ s0 ∧ s0 ≤ 255) ∧ (0 ≤ s1 ∧ s1 ≤ 255) ∧ (0 ≤ s2 ∧ s2 ≤ 255) ∧ (0 ≤ s3 ∧ s3 ≤ 255) ∧ (0 ≤ s4 ∧ s4 ≤ 255) ∧ (0 ≤ s5 ∧ s5 ≤ 255)) (hi : -128 ≤ i ∧ i ≤ 127) (hk : -128 ≤ k ∧ k ≤ 127) :
    Calls Try.prog 4 #[.agg #[.int .u8 s0, .int .u8 s1, .int .u8 s2, .int .u8 s3, .int .u8 s4, .int .u8 s5], .int .i8 i, .int .i8 k] w fun e w' => e = .returned (.bool true) ∧ Below w.heap.size w w' := by
  obtain ⟨h0, h1, h2, h3, h4, h5⟩ := hs
  have HS := Lib.hid (fun w => sgrid_any s0 s1 s2 s3 s4 s5 h0 h1 h2 h3 h4 h5 w)
  have HK0 := Lib.hid (Blk.new w 25 [.int .u8 s0, .int .u8 s1, .int .u8 s2, .int .u8 s3, .int .u8 s4, .int .u8 s5] rfl)
  have HB0 := Lib.hid ((Below.refl _ w).alloc (Nat.le_refl _) (.cells #[.int .u8 s0, .int .u8 s1, .int .u8 s2, .int .u8 s3, .int .u8 s4, .int .u8 s5] 25))
  have bx : -128 ≤ s0 - 128 ∧ s0 - 128 ≤ 127 := by omega
  have by' : -128 ≤ s1 - 128 ∧ s1 - 128 ≤ 127 := by omega
  have bp : 1 ≤ 1 + s2 % 16 ∧ 1 + s2 % 16 ≤ 16 := by omega
  clear h0 h1 h2 h3 h4 h5
  generalize s0 - 128 = x at *
  generalize s1 - 128 = y at *
  generalize 1 + s2 % 16 = p at *
  generalize 1 + s3 % 10 = u at *
  generalize 1 + s4 % 10 = v at *
  generalize 1 + s5 % 64 = s at *
  have HC := Lib.hid (fun w => centre_any x y p u v s i k (by omega) (by omega) (by omega) (by omega) (by omega) w)
  obtain ⟨a, ha⟩ : ∃ a, 32 * p * i = a := ⟨_, rfl⟩
  obtain ⟨b, hb⟩ : ∃ b, 32 * p * k = b := ⟨_, rfl⟩
  have e1 : midG x p i = 32 * x + a + 16 * p := by rw [← ha]; unfold midG; grind
  have e2 : midG y p k = 32 * y + b + 16 * p := by rw [← hb]; unfold midG; grind
  rw [e1, e2] at HC
  have m1 : (32 * p * i).natAbs ≤ 512 * 128 := by rw [Int.natAbs_mul]; exact Nat.mul_le_mul (by omega) (by omega)
  have m2 : (32 * p * k).natAbs ≤ 512 * 128 := by rw [Int.natAbs_mul]; exact Nat.mul_le_mul (by omega) (by omega)
  rw [ha] at m1
  rw [hb] at m2
  have v1 : IntKind.i64.wrap (32 * p * i) = a := by rw [ha]; exact wI (by omega) (by omega)
  have v2 : IntKind.i64.wrap (32 * p * k) = b := by rw [hb]; exact wI (by omega) (by omega)
  clear ha hb e1 e2
  go_enter Try.func4, Try.ntmps4
  go_wp2_with fail
  refine (awake9 _).mono ?_
  rintro e w1 ⟨rfl, hb⟩
  have HK1 := Lib.hid (HK0.out.keep hb)
  have HB1 := Lib.hid (HB0.out.trans (hb.mono HB0.out.size))
  clear hb HK0 HB0
  have k0 := HK1.out.cell 0 rfl
  have k1 := HK1.out.cell 1 rfl
  have k2 := HK1.out.cell 2 rfl
  have k3 := HK1.out.cell 3 rfl
  have k4 := HK1.out.cell 4 rfl
  have k5 := HK1.out.cell 5 rfl
  have kl := HK1.out.lt
  go_wp2_with fail
  refine (HS.out _).mono ?_
  rintro e w2 ⟨rfl, hb⟩
  have HB2 := Lib.hid ((HB1.out.trans (hb.mono HB1.out.size)).alloc (Nat.le_trans HB1.out.size hb.size) (.cells #[.int .i64 x, .int .i64 y, .int .i64 p, .int .i64 u, .int .i64 v, .int .i64 s] 23))
  have HG2 := Lib.hid (Blk.new w2 23 [.int .i64 x, .int .i64 y, .int .i64 p, .int .i64 u, .int .i64 v, .int .i64 s] rfl)
  clear hb HK1 HB1 k0 k1 k2 k3 k4 k5 kl HS
  go_wp2_with fail
  generalize hX : w2.heap.size = X at *
  generalize hW : w2.alloc (.cells #[.int .i64 x, .int .i64 y, .int .i64 p, .int .i64 u, .int .i64 v, .int .i64 s] 23) = w3 at *
  clear hX hW
  refine (HC.out _).mono ?_
  rintro e w4 ⟨rfl, hb⟩
  have HB4 := Lib.hid ((HB2.out.trans (hb.mono HB2.out.size)).alloc (Nat.le_trans HB2.out.size hb.size) (.cells #[.int .i64 (32 * x + a + 16 * p), .int .i64 (32 * y + b + 16 * p)] 35))
  have HG4 := (HG2.out.keep hb).alloc (.cells #[.int .i64 (32 * x + a + 16 * p), .int .i64 (32 * y + b + 16 * p)] 35)
  have g0 := HG4.cell 0 rfl
  have g1 := HG4.cell 1 rfl
  have g2 := HG4.cell 2 rfl
  have gl := (HG2.out.keep hb).lt
  clear hb HG2 HB2 HC HG4
  go_wp2
  go_ret
  exact ⟨rfl, HB4.out⟩

end Go.Proofs.Ytaadponhmnaccaa
