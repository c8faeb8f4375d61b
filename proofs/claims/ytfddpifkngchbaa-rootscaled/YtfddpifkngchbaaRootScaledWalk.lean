/-
  The walk of the law RootScaled (no claim is made here: the row is RootScaled).
-/
import Derived.Test.YtfddpifkngchbaaAwake2
import Derived.OpenShut
import Derived.Deep.RegionHeld3
namespace Go.Proofs.Ytfddpifkngchbaa
open Go.RowKit

theorem two_of {ws W : World} {g : Nat} {a b : Value} (c0 : ws.cell? ⟨g, 0, none⟩ = some a) (c1 : ws.cell? ⟨g, 1, none⟩ = some b) (hb : Below ws.heap.size ws W) :
    W.cell? ⟨g, 0, none⟩ = some a ∧ W.cell? ⟨g, 1, none⟩ = some b ∧ Below ws.heap.size ws W := ⟨keep hb c0, keep hb c1, hb⟩
theorem undrew {W w' : World} (h : Below W.drew.heap.size W.drew w') : Below W.heap.size W w' := ⟨h.os, h.tape, h.output, h.size, h.block⟩

theorem sq_facts (q : Nat) (h : q ≤ 4611686018427387904) : ∃ R S : Int, 0 ≤ ((isqrt q : Nat) : Int) ∧ ((isqrt q : Nat) : Int) ≤ 2147483648 ∧ IntKind.u64.wrap ((isqrt q : Nat) : Int) = ((isqrt q : Nat) : Int) ∧ IntKind.u64.wrap (((isqrt q : Nat) : Int) * ((isqrt q : Nat) : Int)) = R ∧ R ≤ q ∧
    IntKind.u64.wrap ((((isqrt q : Nat) : Int) + 1) * (((isqrt q : Nat) : Int) + 1)) = S ∧ (q : Int) < S := by
  obtain ⟨g1, g2⟩ := isqrt_spec q (by omega)
  have g3 : isqrt q < 2147483649 := sq_lt (by omega)
  have g4 := sq_le (a := isqrt q + 1) (b := 2147483649) (by omega)
  refine ⟨((isqrt q * isqrt q : Nat) : Int), (((isqrt q + 1) * (isqrt q + 1) : Nat) : Int), by omega, by omega, W.wrapN _ (by omega), by rw [W.mulN]; exact W.wrapN _ (by omega), by omega, ?_, by omega⟩
  rw [show ((isqrt q : Nat) : Int) + 1 = ((isqrt q + 1 : Nat) : Int) from by omega, W.mulN]
  exact W.wrapN _ (by omega)

set_option maxHeartbeats 1000000 in
set_option maxRecDepth 100000 in
theorem rootScaled_core (num den times t1 p1 q1 : Int) (w : World) (e1 : bits .and .i64 times 1023 = t1) (e2 : max 0 num / 1048576 = p1) (e3 : max 1 den = q1)
    (hn : -9223372036854775808 ≤ num ∧ num ≤ 9223372036854775807) (hd : -9223372036854775808 ≤ den ∧ den ≤ 9223372036854775807) (ht : -9223372036854775808 ≤ times ∧ times ≤ 9223372036854775807)
    (ht1 : -9223372036854775808 ≤ t1 ∧ t1 ≤ 9223372036854775807) (hp1 : -9223372036854775808 ≤ p1 ∧ p1 ≤ 9223372036854775807) (hq1 : -9223372036854775808 ≤ q1 ∧ q1 ≤ 9223372036854775807) :
    Calls Try.prog 6 #[.int .i64 num, .int .i64 den, .int .i64 times] w fun e w' => e = .returned (.bool true) ∧ Below w.heap.size w w' := by
  go_enter Try.func6, Try.ntmps6
  go_wp2_with fail
  refine (awake_any _).mono ?_
  rintro e w1 ⟨rfl, hb1⟩
  go_wp2_with fail
  obtain ⟨w2, hw2⟩ : ∃ w2, w2 = w1.alloc (.cells #[.int .i64 times, .int .i64 t1] 3) := ⟨_, rfl⟩
  have B2 := Lib.hid (show Below w.heap.size w w2 by rw [hw2]; exact hb1.alloc hb1.size _)
  have y0 : w2.cell? ⟨w1.heap.size, 0, none⟩ = some (.int .i64 times) := by rw [hw2]; simp
  have y1 : w2.cell? ⟨w1.heap.size, 1, none⟩ = some (.int .i64 t1) := by rw [hw2]; simp
  rw [← hw2]
  clear hw2 hb1
  go_loopw [22] (fun i wr => ∃ k : Nat, k ≤ 2 ∧ i = .int .i64 k ∧ Below w2.heap.size w2 wr) (fun i _ => 2 - (intOf i).toNat)
  case atStart => exact ⟨0, by omega, rfl, Below.refl _ _⟩
  case round =>
    obtain ⟨k, hk, rfl, hr⟩ := hrel
    by_cases hk2 : k < 2
    · obtain ⟨t, hxc, hx⟩ : ∃ t : Int, wr.cell? ⟨w1.heap.size, k, none⟩ = some (.int .i64 t) ∧ -9223372036854775808 ≤ t ∧ t ≤ 9223372036854775807 := by
        rcases (by omega : k = 0 ∨ k = 1) with rfl | rfl
        · exact ⟨times, keep hr y0, ht⟩
        · exact ⟨t1, keep hr y1, ht1⟩
      have HR := Lib.hid hr
      have hkb : decide ((k : Int) < 2) = true := by simp; omega
      clear y0 y1 hr
      go_wp2_with fail
      obtain ⟨w3, hw3⟩ : ∃ w3, w3 = wr.alloc (.cells #[.int .i64 num, .int .i64 den, .int .i64 p1, .int .i64 q1] 28) := ⟨_, rfl⟩
      have B3 := Lib.hid (show Below w2.heap.size w2 w3 by rw [hw3]; exact HR.out.alloc HR.out.size _)
      have z0 : w3.cell? ⟨wr.heap.size, 0, none⟩ = some (.int .i64 num) := by rw [hw3]; simp
      have z1 : w3.cell? ⟨wr.heap.size, 1, none⟩ = some (.int .i64 den) := by rw [hw3]; simp
      have z2 : w3.cell? ⟨wr.heap.size, 2, none⟩ = some (.int .i64 p1) := by rw [hw3]; simp
      have z3 : w3.cell? ⟨wr.heap.size, 3, none⟩ = some (.int .i64 q1) := by rw [hw3]; simp
      rw [← hw3]
      clear hw3 e1 e2 e3 hxc HR
      generalize wr.heap.size = g at *
      clear wr
      go_loopw [37] (fun i wr => ∃ j : Nat, j ≤ 2 ∧ i = .int .i64 j ∧ Below w3.heap.size w3 wr) (fun i _ => 2 - (intOf i).toNat)
      case atStart => exact ⟨0, by omega, rfl, Below.refl _ _⟩
      case round =>
        obtain ⟨j, hj, rfl, hr⟩ := hrel
        by_cases hj2 : j < 2
        · obtain ⟨a, b, ac, bc, ha, hb⟩ : ∃ a b : Int, wr.cell? ⟨g, j * 2, none⟩ = some (.int .i64 a) ∧ wr.cell? ⟨g, j * 2 + 1, none⟩ = some (.int .i64 b) ∧ (-9223372036854775808 ≤ a ∧ a ≤ 9223372036854775807) ∧ -9223372036854775808 ≤ b ∧ b ≤ 9223372036854775807 := by
            rcases (by omega : j = 0 ∨ j = 1) with rfl | rfl
            · exact ⟨num, den, keep hr z0, keep hr z1, hn, hd⟩
            · exact ⟨p1, q1, keep hr z2, keep hr z3, hp1, hq1⟩
          have HR := Lib.hid hr
          clear z0 z1 z2 z3 hr
          by_cases hw : t < 0 ∨ 1048576 < t ∨ a < 0 ∨ b < 1
          · have HS := Lib.hid (fun w => scaled_wrong a b t hw w)
            by_cases g1 : t < 0
            · clear hw
              go_wp2_with fail
              refine (HS.out _).mono ?_
              rintro e w4 ⟨rfl, hb4⟩
              have c0 : w4.cell? ⟨wr.heap.size, 0, none⟩ = some (.int .i64 a) := keep hb4 (by simp)
              have c1 : w4.cell? ⟨wr.heap.size, 1, none⟩ = some (.int .i64 b) := keep hb4 (by simp)
              have B4 := Lib.hid (below2 (HR.out.alloc HR.out.size _) hb4)
              clear hb4
              go_wp2_with fail
              go_roundw
              case rel => exact ⟨j + 1, by omega, by go_num, B4.out⟩
              case measure => simp [intOf]; omega
            by_cases g2 : 1048576 < t
            · clear hw
              go_wp2_with fail
              refine (HS.out _).mono ?_
              rintro e w4 ⟨rfl, hb4⟩
              have c0 : w4.cell? ⟨wr.heap.size, 0, none⟩ = some (.int .i64 a) := keep hb4 (by simp)
              have c1 : w4.cell? ⟨wr.heap.size, 1, none⟩ = some (.int .i64 b) := keep hb4 (by simp)
              have B4 := Lib.hid (below2 (HR.out.alloc HR.out.size _) hb4)
              clear hb4
              go_wp2_with fail
              go_roundw
              case rel => exact ⟨j + 1, by omega, by go_num, B4.out⟩
              case measure => simp [intOf]; omega
            by_cases g3 : a < 0
            · clear hw
              go_wp2_with fail
              refine (HS.out _).mono ?_
              rintro e w4 ⟨rfl, hb4⟩
              have c0 : w4.cell? ⟨wr.heap.size, 0, none⟩ = some (.int .i64 a) := keep hb4 (by simp)
              have c1 : w4.cell? ⟨wr.heap.size, 1, none⟩ = some (.int .i64 b) := keep hb4 (by simp)
              have B4 := Lib.hid (below2 (HR.out.alloc HR.out.size _) hb4)
              clear hb4
              go_wp2_with fail
              go_roundw
              case rel => exact ⟨j + 1, by omega, by go_num, B4.out⟩
              case measure => simp [intOf]; omega
            · have g4 : b < 1 := by omega
              clear hw
              go_wp2_with fail
              refine (HS.out _).mono ?_
              rintro e w4 ⟨rfl, hb4⟩
              have c0 : w4.cell? ⟨wr.heap.size, 0, none⟩ = some (.int .i64 a) := keep hb4 (by simp)
              have c1 : w4.cell? ⟨wr.heap.size, 1, none⟩ = some (.int .i64 b) := keep hb4 (by simp)
              have B4 := Lib.hid (below2 (HR.out.alloc HR.out.size _) hb4)
              clear hb4
              go_wp2_with fail
              go_roundw
              case rel => exact ⟨j + 1, by omega, by go_num, B4.out⟩
              case measure => simp [intOf]; omega
          · obtain ⟨a, rfl⟩ := Int.eq_ofNat_of_zero_le (show 0 ≤ a by omega)
            obtain ⟨b, rfl⟩ := Int.eq_ofNat_of_zero_le (show 0 ≤ b by omega)
            obtain ⟨t, rfl⟩ := Int.eq_ofNat_of_zero_le (show 0 ≤ t by omega)
            have HS := Lib.hid (fun w => scaled_any a b t (by omega) (by omega) (by omega) (by omega) w)
            obtain ⟨hi, lo, q, rr, er, hq, hM, hD, hRes, hX1, hX2⟩ := scDiv a b t (by omega) (by omega) (by omega) (by omega)
            have HM := Lib.hid hM
            have HD := Lib.hid hD
            have hT : t * t ≤ 1099511627776 := sq_le (a := t) (b := 1048576) (by omega)
            have eT : (t : Int) * t = ((t * t : Nat) : Int) := (Int.natCast_mul t t).symm
            have g1 : b ≥ 1 := by omega
            have g2 : t ≤ 1048576 := by omega
            generalize t * t = T at *
            generalize scaledN a b t = r at *
            clear hM hD hw hX1 hX2
            have e1 : IntKind.u64.wrap (a : Int) = (a : Int) := W.wrapN a (by omega)
            have e2 : IntKind.u64.wrap (T : Int) = (T : Int) := W.wrapN T (by omega)
            have e3 : IntKind.u64.wrap (b : Int) = (b : Int) := W.wrapN b (by omega)
            have e4 : IntKind.i64.wrap (T : Int) = (T : Int) := IntWalk.i64_in _ (by omega)
            rcases hRes with ⟨h1, rfl⟩ | ⟨h1, h2, rfl⟩ | ⟨h1, h2, rfl⟩
            · have h1' : ((er : Int) != 0) = true := by simp; omega
              have h1'' : ((er : Int) == 0) = false := by simp; omega
              clear h1
              go_wp2_with fail
              refine (HS.out _).mono ?_
              rintro e w4 ⟨rfl, hb4⟩
              have c0 : w4.cell? ⟨wr.heap.size, 0, none⟩ = some (.int .i64 a) := keep hb4 (by simp)
              have c1 : w4.cell? ⟨wr.heap.size, 1, none⟩ = some (.int .i64 b) := keep hb4 (by simp)
              have B4 := Lib.hid (below2 (HR.out.alloc HR.out.size _) hb4)
              clear hb4 ac bc
              go_wp2_with fail
              go_region_held3 (fun wx => wx.cell? ⟨wr.heap.size, 0, none⟩ = some (.int .i64 a) ∧ wx.cell? ⟨wr.heap.size, 1, none⟩ = some (.int .i64 b) ∧ Below w4.heap.size w4 wx)
                (first | assumption | exact two_of c0 c1 (Below.drew (Below.refl _ _)))
                (first
                  | (go_at_call 17; with_reducible refine (HM.out _).mono ?_; rintro e w5 ⟨rfl, hb5⟩; replace hb5 := undrew hb5; have hS5 := two_of c0 c1 hb5)
                  | (go_at_call 18; with_reducible refine (HD.out _).mono ?_; rintro e w6 ⟨rfl, hb6⟩; have A6 := below2 hb5 hb6; have hS6 := two_of c0 c1 A6))
              have B6 := Lib.hid (below2 B4.out A6)
              clear hS5 hS6 hb5 hb6 A6 c0 c1
              go_wp2_with fail
              go_roundw
              case rel => exact ⟨j + 1, by omega, by go_num, B6.out⟩
              case measure => simp [intOf]; omega
            · subst h1
              go_wp2_with fail
              refine (HS.out _).mono ?_
              rintro e w4 ⟨rfl, hb4⟩
              have c0 : w4.cell? ⟨wr.heap.size, 0, none⟩ = some (.int .i64 a) := keep hb4 (by simp)
              have c1 : w4.cell? ⟨wr.heap.size, 1, none⟩ = some (.int .i64 b) := keep hb4 (by simp)
              have B4 := Lib.hid (below2 (HR.out.alloc HR.out.size _) hb4)
              clear hb4 ac bc
              go_wp2_with fail
              go_region_held3 (fun wx => wx.cell? ⟨wr.heap.size, 0, none⟩ = some (.int .i64 a) ∧ wx.cell? ⟨wr.heap.size, 1, none⟩ = some (.int .i64 b) ∧ Below w4.heap.size w4 wx)
                (first | assumption | exact two_of c0 c1 (Below.drew (Below.refl _ _)))
                (first
                  | (go_at_call 17; with_reducible refine (HM.out _).mono ?_; rintro e w5 ⟨rfl, hb5⟩; replace hb5 := undrew hb5; have hS5 := two_of c0 c1 hb5)
                  | (go_at_call 18; with_reducible refine (HD.out _).mono ?_; rintro e w6 ⟨rfl, hb6⟩; have A6 := below2 hb5 hb6; have hS6 := two_of c0 c1 A6))
              have B6 := Lib.hid (below2 B4.out A6)
              clear hS5 hS6 hb5 hb6 A6 c0 c1
              go_wp2_with fail
              go_roundw
              case rel => exact ⟨j + 1, by omega, by go_num, B6.out⟩
              case measure => simp [intOf]; omega
            · subst h1
              obtain ⟨R, S, f0, f1, f2, f3, f4, f5, f6⟩ := sq_facts q h2
              generalize ((isqrt q : Nat) : Int) = r at *
              go_wp2_with fail
              refine (HS.out _).mono ?_
              rintro e w4 ⟨rfl, hb4⟩
              have c0 : w4.cell? ⟨wr.heap.size, 0, none⟩ = some (.int .i64 a) := keep hb4 (by simp)
              have c1 : w4.cell? ⟨wr.heap.size, 1, none⟩ = some (.int .i64 b) := keep hb4 (by simp)
              have B4 := Lib.hid (below2 (HR.out.alloc HR.out.size _) hb4)
              clear hb4 ac bc
              go_wp2_with fail
              go_region_held3 (fun wx => wx.cell? ⟨wr.heap.size, 0, none⟩ = some (.int .i64 a) ∧ wx.cell? ⟨wr.heap.size, 1, none⟩ = some (.int .i64 b) ∧ Below w4.heap.size w4 wx)
                (first | assumption | exact two_of c0 c1 (Below.drew (Below.refl _ _)))
                (first
                  | (go_at_call 17; with_reducible refine (HM.out _).mono ?_; rintro e w5 ⟨rfl, hb5⟩; replace hb5 := undrew hb5; have hS5 := two_of c0 c1 hb5)
                  | (go_at_call 18; with_reducible refine (HD.out _).mono ?_; rintro e w6 ⟨rfl, hb6⟩; have A6 := below2 hb5 hb6; have hS6 := two_of c0 c1 A6))
              have B6 := Lib.hid (below2 B4.out A6)
              clear hS5 hS6 hb5 hb6 A6 c0 c1
              go_wp2_with fail
              go_roundw
              case rel => exact ⟨j + 1, by omega, by go_num, B6.out⟩
              case measure => simp [intOf]; omega
        · have HR := Lib.hid hr
          clear hr
          go_wp2_with fail
          go_roundw
          case rel => exact ⟨k + 1, by omega, by go_num, below2 B3.out HR.out⟩
          case measure => simp [intOf]; omega
    · have HR := Lib.hid hr
      clear hr
      go_wp2
      go_ret
      exact ⟨rfl, below2 B2.out HR.out⟩

theorem bits_i64_in (op : BinOp) (x y : Int) : -9223372036854775808 ≤ bits op .i64 x y ∧ bits op .i64 x y ≤ 9223372036854775807 := by
  unfold bits
  simp only [IntKind.wrap_i64]
  omega

theorem rootScaled_walk (num den times : Int) (w0 : (Lit.int .i64 num).wf = true) (w1 : (Lit.int .i64 den).wf = true) (w2 : (Lit.int .i64 times).wf = true) (w : World) :
    Calls Try.prog 6 #[.int .i64 num, .int .i64 den, .int .i64 times] w fun e w' => e = .returned (.bool true) ∧ Below w.heap.size w w' := by
  have b0 := bounds_i64 w0
  have b1 := bounds_i64 w1
  have b2 := bounds_i64 w2
  exact rootScaled_core num den times _ _ _ w rfl rfl rfl b0 b1 b2 (bits_i64_in _ _ _) (by omega) (by omega)

end Go.Proofs.Ytfddpifkngchbaa
