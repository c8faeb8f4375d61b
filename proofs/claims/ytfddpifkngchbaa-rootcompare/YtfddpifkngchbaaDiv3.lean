/-
  What math/bits.Div64 and wide.Pair.Div do to any world: contracts (no claim is made here).
-/
import Derived.Test.YtfddpifkngchbaaDiv2
namespace Go.Proofs.Ytfddpifkngchbaa
open Go.RowKit

theorem wrap3 (a b c m : Nat) (h : a + b = c + m) (hm : m < 18446744073709551616) :
    IntKind.u64.wrap (IntKind.u64.wrap (IntKind.u64.wrap (a : Int) + b) - IntKind.u64.wrap (c : Int)) = (m : Int) := by
  simp only [IntKind.wrap_u64]
  omega

theorem div_facts (u yn1 : Nat) (hu : u < 18446744073709551616) (h1 : 2147483648 ≤ yn1) (h2 : yn1 < 4294967296) :
    IntKind.u64.wrap (↑u / ↑yn1) = ((u / yn1 : Nat) : Int) ∧ IntKind.u64.wrap (↑u - IntKind.u64.wrap (((u / yn1 : Nat) : Int) * ↑yn1)) = ((u % yn1 : Nat) : Int) ∧ u / yn1 ≤ 8589934592 ∧ u % yn1 < 4294967296 := by
  have e := Nat.div_add_mod' u yn1
  have l : u % yn1 < yn1 := Nat.mod_lt _ (by omega)
  have d : u / yn1 ≤ 8589934592 := by
    have : u / yn1 ≤ u / 2147483648 := Nat.div_le_div_left h1 (by omega)
    omega
  refine ⟨?_, ?_, d, by omega⟩
  · rw [← Int.natCast_ediv]; exact W.wrapN _ (by omega)
  · rw [← Int.natCast_mul]
    generalize u / yn1 * yn1 = A at e
    simp only [IntKind.wrap_u64]
    omega

theorem tuple_two {k l : IntKind} {a a' b b' : Int} (h1 : a = a') (h2 : b = b') : Ending.returned (.tuple #[.int k a, .int l b]) = .returned (.tuple #[.int k a', .int l b']) := by rw [h1, h2]

set_option maxRecDepth 10000 in
theorem div64_shift (hi lo y : Nat) (h0 : 0 < hi) (h1 : hi < y) (hy : y < 18446744073709551616) (hl : lo < 18446744073709551616) (w : World) :
    Calls Try.prog 23 #[.int .u64 hi, .int .u64 lo, .int .u64 y] w fun e w' => e = .returned (.tuple #[.int .u64 (((hi * 18446744073709551616 + lo) / y : Nat) : Int), .int .u64 (((hi * 18446744073709551616 + lo) % y : Nat) : Int)]) ∧ w = w' := by
  obtain ⟨hs, hY2, hY1⟩ := K.shift_top y (by omega) hy
  have hb := K.bitLen_bounds y (by omega) hy
  obtain ⟨s, hse⟩ : ∃ s, s = 64 - Lib.bitLen y := ⟨_, rfl⟩
  have HZ : Hid (∀ w, Calls Try.prog 25 #[.int .u64 y] w fun e w' => e = .returned (.int .i64 s) ∧ w = w') := by
    intro w
    refine (zeros64_any (y : Int) (by omega) (by omega) w).mono ?_
    rintro e w' ⟨rfl, rfl⟩
    refine ⟨ret_int ?_, rfl⟩
    rw [Int.toNat_natCast]
    omega
  rw [← hse] at hs hY2 hY1
  clear hb hse
  have hP : 0 < 2 ^ s := Nat.two_pow_pos s
  have hPP : 2 ^ (64 - s) * 2 ^ s = 18446744073709551616 := by rw [← Nat.pow_add, Nat.sub_add_cancel (by omega)]
  have hP2 : 0 < 2 ^ (64 - s) := Nat.two_pow_pos _
  -- the numbers, by name
  obtain ⟨Y, hYe⟩ : ∃ Y, Y = y * 2 ^ s := ⟨_, rfl⟩
  have hhi : hi * 2 ^ s < Y := by rw [hYe]; exact Nat.mul_lt_mul_of_pos_right h1 hP
  have hlq : lo / 2 ^ (64 - s) < 2 ^ s := by rw [Nat.div_lt_iff_lt_mul hP2, Nat.mul_comm, hPP]; exact hl
  have hlow : lo * 2 ^ s / 18446744073709551616 = lo / 2 ^ (64 - s) := by rw [← hPP, Nat.mul_div_mul_right _ _ hP]
  have hu1 : hi * 2 ^ s + lo / 2 ^ (64 - s) < Y := by
    have : hi * 2 ^ s + 2 ^ s ≤ Y := by
      have h := Nat.mul_le_mul_right (2 ^ s) (Nat.succ_le_of_lt h1)
      rw [Nat.succ_mul] at h
      omega
    omega
  have hN : (hi * 2 ^ s + lo / 2 ^ (64 - s)) * 18446744073709551616 + lo * 2 ^ s % 18446744073709551616 = (hi * 18446744073709551616 + lo) * 2 ^ s := by
    have := Nat.div_add_mod' (lo * 2 ^ s) 18446744073709551616
    rw [hlow] at this
    rw [Nat.add_mul, Nat.add_mul, Nat.mul_right_comm]
    omega
  have e1 : IntKind.u64.wrap (↑y * 2 ^ s) = (Y : Int) := by
    rw [IntKind.wrap_u64]
    have : (y : Int) * 2 ^ s = (Y : Int) := by rw [hYe]; simp
    omega
  have e4 : bits .or .u64 (IntKind.u64.wrap (↑hi * 2 ^ s)) (↑lo / 2 ^ (64 - s)) = ((hi * 2 ^ s + lo / 2 ^ (64 - s) : Nat) : Int) := by
    have a1 : IntKind.u64.wrap (↑hi * 2 ^ s) = ((hi * 2 ^ s : Nat) : Int) := by
      rw [IntKind.wrap_u64]
      have : (hi : Int) * 2 ^ s = ((hi * 2 ^ s : Nat) : Int) := by simp
      omega
    have a2 : (lo : Int) / 2 ^ (64 - s) = ((lo / 2 ^ (64 - s) : Nat) : Int) := by simp
    rw [a1, a2, bits_or_u64_nat _ _ (by omega) (Nat.lt_of_le_of_lt (Nat.div_le_self _ _) hl), nat_join s _ _ (Nat.mul_mod_left _ _) hlq]
  have e5 : IntKind.u64.wrap (↑lo * 2 ^ s) = ((lo * 2 ^ s % 18446744073709551616 : Nat) : Int) := by
    rw [IntKind.wrap_u64]
    have : (lo : Int) * 2 ^ s = ((lo * 2 ^ s : Nat) : Int) := by simp
    omega
  obtain ⟨u, hue⟩ : ∃ u, u = hi * 2 ^ s + lo / 2 ^ (64 - s) := ⟨_, rfl⟩
  obtain ⟨u10, h10e⟩ : ∃ u10, u10 = lo * 2 ^ s % 18446744073709551616 := ⟨_, rfl⟩
  have h10l : u10 < 18446744073709551616 := by rw [h10e]; exact Nat.mod_lt _ (by omega)
  rw [← hue] at hu1 hN e4
  rw [← h10e] at hN e5
  rw [← hYe] at hY2 hY1
  have hYs : Y = Y / 4294967296 * 4294967296 + Y % 4294967296 := (Nat.div_add_mod' _ _).symm
  have h10s : u10 = u10 / 4294967296 * 4294967296 + u10 % 4294967296 := (Nat.div_add_mod' _ _).symm
  have e2 : (Y : Int) / 4294967296 = ((Y / 4294967296 : Nat) : Int) := by omega
  have e3 := W.maskN Y hY2
  have e6 : (u10 : Int) / 4294967296 = ((u10 / 4294967296 : Nat) : Int) := by omega
  have e7 := W.maskN u10 h10l
  have g1 : 2147483648 ≤ Y / 4294967296 := by omega
  have g2 : Y / 4294967296 < 4294967296 := by omega
  have g3 : Y % 4294967296 < 4294967296 := by omega
  have g5 : u10 / 4294967296 < 4294967296 := by omega
  have g6 : u10 % 4294967296 < 4294967296 := by omega
  clear hue h10e hlow hlq hhi hPP hP2
  generalize hyn1 : Y / 4294967296 = yn1 at hYs e2 g1 g2
  generalize hyn0 : Y % 4294967296 = yn0 at hYs e3 g3
  generalize hun1 : u10 / 4294967296 = un1 at h10s e6 g5
  generalize hun0 : u10 % 4294967296 = un0 at h10s e7 g6
  clear hyn1 hyn0 hun1 hun0
  have hYpos : 0 < Y := by omega
  obtain ⟨q1, hq1⟩ : ∃ q1, (u * 4294967296 + un1) / Y = q1 := ⟨_, rfl⟩
  obtain ⟨m1, r1, hm1⟩ := K.rest u un1 Y q1 hYpos hq1
  obtain ⟨q0, hq0⟩ : ∃ q0, (m1 * 4294967296 + un0) / Y = q0 := ⟨_, rfl⟩
  obtain ⟨m0, r0, hm0⟩ := K.rest m1 un0 Y q0 hYpos hq0
  have l1 : q1 < 4294967296 := by rw [← hq1]; exact K.digit_lt _ _ _ hu1 g5
  have l0 : q0 < 4294967296 := by rw [← hq0]; exact K.digit_lt _ _ _ hm1 g6
  obtain ⟨e8, e9, g8, g9⟩ := div_facts u yn1 (by omega) g1 g2
  obtain ⟨e11, e12, g10, g11⟩ := div_facts m1 yn1 (by omega) g1 g2
  have e10 := wrap3 (u * 4294967296) un1 (q1 * Y) m1 r1 (by omega)
  have e13 := wrap3 (m1 * 4294967296) un0 (q0 * Y) m0 r0 (by omega)
  rw [Int.natCast_mul, Int.natCast_mul] at e10 e13
  obtain ⟨wq, wr⟩ := K.whole (hi * 18446744073709551616 + lo) y (2 ^ s) Y u u10 un1 un0 q1 q0 m1 m0 hP (by omega) hYe hN h10s r1 r0 hm0
  rw [wq, wr]
  have ia : Inv yn1 u q1 ((u / yn1 : Nat) : Int) ((u % yn1 : Nat) : Int) := ⟨by simp only [Int.toNat_natCast]; exact Nat.div_add_mod' _ _, by rw [Int.toNat_natCast, ← hq1, hYs]; exact K.first_ge _ _ _ _ (by omega) g5⟩
  have ib : Inv yn1 m1 q0 ((m1 / yn1 : Nat) : Int) ((m1 % yn1 : Nat) : Int) := ⟨by simp only [Int.toNat_natCast]; exact Nat.div_add_mod' _ _, by rw [Int.toNat_natCast, ← hq0, hYs]; exact K.first_ge _ _ _ _ (by omega) g6⟩
  exact div64_big hi lo y s Y yn1 yn0 u u10 un1 un0 (u / yn1) (u % yn1) q1 m1 (m1 / yn1) (m1 % yn1) q0 m0 h0 h1 hs HZ w e1 e2 e3 e4 e5 e6 e7 e8 e9 e10 e11 e12 e13 l1 l0 g1 g2 g3 g5 g6 g8 g9 g10 g11
    (by rw [← hYs]; exact hu1) ia (by rw [← hYs]; exact hq1) (by rw [← hYs]; exact hm1) ib (by rw [← hYs]; exact hq0)

set_option maxHeartbeats 400000 in
set_option maxRecDepth 100000 in
theorem div64_zero (lo y : Nat) (h1 : 0 < y) (hl : lo < 18446744073709551616) (w : World) :
    Calls Try.prog 23 #[.int .u64 0, .int .u64 lo, .int .u64 y] w fun e w' => e = .returned (.tuple #[.int .u64 ((lo / y : Nat) : Int), .int .u64 ((lo % y : Nat) : Int)]) ∧ ∃ n, w' = w.drewN n := by
  have z1 : ((y : Int) == 0) = false := by simp; omega
  have d1 : IntKind.u64.wrap (↑lo / ↑y) = ((lo / y : Nat) : Int) := by
    have := Nat.div_le_self lo y
    rw [← Int.natCast_ediv]; exact W.wrapN _ (by omega)
  have d2 : (lo : Int) % ↑y = ((lo % y : Nat) : Int) := (Int.natCast_emod lo y).symm
  generalize lo / y = a at d1 ⊢
  go_enter Try.func23, Try.ntmps23
  go_wp2_with fail
  go_quiet (fail)
  go_wp2
  go_ret2
  exact ⟨tuple_two rfl d2, _, rfl⟩

theorem div64_any (hi lo y : Nat) (h1 : hi < y) (hy : y < 18446744073709551616) (hl : lo < 18446744073709551616) (w : World) :
    Calls Try.prog 23 #[.int .u64 hi, .int .u64 lo, .int .u64 y] w fun e w' => e = .returned (.tuple #[.int .u64 (((hi * 18446744073709551616 + lo) / y : Nat) : Int), .int .u64 (((hi * 18446744073709551616 + lo) % y : Nat) : Int)]) ∧ ∃ n, w' = w.drewN n := by
  rcases Nat.eq_zero_or_pos hi with rfl | h0
  · rw [Nat.zero_mul, Nat.zero_add]
    exact div64_zero lo y (by omega) hl w
  · exact (div64_shift hi lo y h0 h1 hy hl w).mono fun e w' ⟨he, hw⟩ => ⟨he, 0, hw.symm⟩

set_option maxHeartbeats 400000 in
theorem div_over (ph pl d : Nat) (h : d ≤ ph) (w : World) :
    Calls Try.prog 18 #[.agg #[.int .u64 ph, .int .u64 pl], .int .u64 d] w fun e w' =>
      e = .returned (.tuple #[.int .u64 0, .int .u64 0, .int .i64 10]) ∧ Below w.heap.size w w' := by
  go_enter Try.func18, Try.ntmps18
  go_wp2
  go_ret3
  exact ⟨rfl, (Below.refl _ _).alloc (Nat.le_refl _) _⟩

set_option maxHeartbeats 400000 in
theorem div_ok (ph pl d : Nat) (h : ph < d) (hd : d < 18446744073709551616) (hl : pl < 18446744073709551616) (w : World) :
    Calls Try.prog 18 #[.agg #[.int .u64 ph, .int .u64 pl], .int .u64 d] w fun e w' =>
      e = .returned (.tuple #[.int .u64 (((ph * 18446744073709551616 + pl) / d : Nat) : Int), .int .u64 (((ph * 18446744073709551616 + pl) % d : Nat) : Int), .int .i64 0]) ∧ Below w.heap.size w w' := by
  have HD := Lib.hid (fun w => div64_any ph pl d h hd hl w)
  generalize (ph * 18446744073709551616 + pl) / d = a at HD ⊢
  generalize (ph * 18446744073709551616 + pl) % d = b at HD ⊢
  clear hd hl
  have h' : ¬ d ≤ ph := by omega
  go_enter Try.func18, Try.ntmps18
  go_wp2_with fail
  refine (HD.out _).mono ?_
  rintro e w1 ⟨rfl, n, rfl⟩
  go_wp2
  go_ret3
  exact ⟨rfl, below_drewN ((Below.refl _ _).alloc (Nat.le_refl _) _) _⟩

end Go.Proofs.Ytfddpifkngchbaa
