/-
  What math/bits.Div64 does to any world: a contract (no claim is made here).
-/
import Derived.Test.YtfddpifkngchbaaDiv1
import Derived.Test.YtfddpifkngchbaaDivMath
import Derived.Deep.LoopGhost
import Derived.Deep.CutBlock
import Derived.Deep.DeepCutAuto
namespace Go.Proofs.Ytfddpifkngchbaa
open Go.RowKit

theorem mul_u64 (q : Int) (yn0 : Nat) (h1 : 0 ≤ q) (hq : q < 4294967296) (h0 : yn0 < 4294967296) : ∃ B : Int, Hid (B = ((q.toNat * yn0 : Nat) : Int)) ∧ IntKind.u64.wrap (q * ↑yn0) = B ∧ 0 ≤ B ∧ B < 18446744073709551616 := by
  have h : q.toNat * yn0 ≤ 4294967295 * 4294967295 := Nat.mul_le_mul (by omega) (by omega)
  refine ⟨((q.toNat * yn0 : Nat) : Int), rfl, ?_, by omega, by omega⟩
  have e : q * ↑yn0 = ((q.toNat * yn0 : Nat) : Int) := by rw [Int.natCast_mul, Int.toNat_of_nonneg h1]
  rw [IntKind.wrap_u64, e]
  omega

/-- What holds at each round's head of either loop: the quotient guessed, and what it leaves. -/
def Inv (yn1 u Q : Nat) (q r : Int) : Prop := q.toNat * yn1 + r.toNat = u ∧ Q ≤ q.toNat

theorem Inv.down {yn1 yn0 u v Q : Nat} {q r : Int} (h : Inv yn1 u Q q r) (hr : 0 ≤ r) (hv : v < 4294967296) (hu : u < yn1 * 4294967296 + yn0)
    (hQ : (u * 4294967296 + v) / (yn1 * 4294967296 + yn0) = Q) (hc : 4294967296 ≤ q.toNat ∨ 4294967296 * r.toNat + v < q.toNat * yn0) : 1 ≤ q ∧ Inv yn1 u Q (q - 1) (r + yn1) := by
  obtain ⟨a, b⟩ := K.dec hv hu h.1 hc
  rw [hQ] at b
  have e := K.sub_mul1 a h.1
  have e1 : (q - 1).toNat = q.toNat - 1 := by omega
  have e2 : (r + yn1).toNat = r.toNat + yn1 := by omega
  refine ⟨by omega, ?_, ?_⟩
  · rw [e1, e2]; exact e
  · rw [e1]; exact b

theorem Inv.ends {yn1 yn0 u v Q : Nat} {q r : Int} (h : Inv yn1 u Q q r) (hq : 0 ≤ q) (hY : 0 < yn1) (hQ : (u * 4294967296 + v) / (yn1 * 4294967296 + yn0) = Q)
    (hc : q.toNat * yn0 ≤ 4294967296 * r.toNat + v) : q = Q := by
  have := K.stop hY h.1 (by rw [hQ]; exact h.2) hc
  rw [hQ] at this
  omega

theorem Inv.breaks {yn1 yn0 u v Q : Nat} {q r : Int} (h : Inv yn1 u Q q r) (hq : 0 ≤ q) (hY : 0 < yn1) (h0 : yn0 < 4294967296) (hu : u < yn1 * 4294967296 + yn0) (hQ : (u * 4294967296 + v) / (yn1 * 4294967296 + yn0) = Q)
    (hc : 4294967296 ≤ r) : q = Q := by
  have := K.brk hY h0 hu h.1 (by omega) (by rw [hQ]; exact h.2)
  rw [hQ] at this
  omega

set_option maxHeartbeats 2000000 in
set_option maxRecDepth 100000 in
theorem div64_big (hi lo y s Y yn1 yn0 u u10 un1 un0 qa ra q1 m1 qb rb q0 m0 : Nat) (h0 : 0 < hi) (h1 : hi < y) (h4 : s < 64)
    (HZ : Hid (∀ w, Calls Try.prog 25 #[.int .u64 y] w fun e w' => e = .returned (.int .i64 s) ∧ w = w')) (w : World)
    (e1 : IntKind.u64.wrap (↑y * 2 ^ s) = (Y : Int)) (e2 : (Y : Int) / 4294967296 = (yn1 : Int)) (e3 : bits .and .u64 (Y : Int) 4294967295 = (yn0 : Int))
    (e4 : bits .or .u64 (IntKind.u64.wrap (↑hi * 2 ^ s)) (↑lo / 2 ^ (64 - s)) = (u : Int)) (e5 : IntKind.u64.wrap (↑lo * 2 ^ s) = (u10 : Int))
    (e6 : (u10 : Int) / 4294967296 = (un1 : Int)) (e7 : bits .and .u64 (u10 : Int) 4294967295 = (un0 : Int))
    (e8 : IntKind.u64.wrap (↑u / ↑yn1) = (qa : Int)) (e9 : IntKind.u64.wrap (↑u - IntKind.u64.wrap (↑qa * ↑yn1)) = (ra : Int))
    (e10 : IntKind.u64.wrap (IntKind.u64.wrap (IntKind.u64.wrap (↑u * 4294967296) + ↑un1) - IntKind.u64.wrap (↑q1 * ↑Y)) = (m1 : Int))
    (e11 : IntKind.u64.wrap (↑m1 / ↑yn1) = (qb : Int)) (e12 : IntKind.u64.wrap (↑m1 - IntKind.u64.wrap (↑qb * ↑yn1)) = (rb : Int))
    (e13 : IntKind.u64.wrap (IntKind.u64.wrap (IntKind.u64.wrap (↑m1 * 4294967296) + ↑un0) - IntKind.u64.wrap (↑q0 * ↑Y)) = (m0 : Int)) (g12 : q1 < 4294967296) (g13 : q0 < 4294967296)
    (g1 : 2147483648 ≤ yn1) (g2 : yn1 < 4294967296) (g3 : yn0 < 4294967296) (g5 : un1 < 4294967296) (g6 : un0 < 4294967296)
    (g8 : qa ≤ 8589934592) (g9 : ra < 4294967296) (g10 : qb ≤ 8589934592) (g11 : rb < 4294967296)
    (HU : Hid (u < yn1 * 4294967296 + yn0)) (HA : Hid (Inv yn1 u q1 qa ra)) (HQ1 : Hid ((u * 4294967296 + un1) / (yn1 * 4294967296 + yn0) = q1))
    (HU0 : Hid (m1 < yn1 * 4294967296 + yn0)) (HB : Hid (Inv yn1 m1 q0 qb rb)) (HQ0 : Hid ((m1 * 4294967296 + un0) / (yn1 * 4294967296 + yn0) = q0)) :
    Calls Try.prog 23 #[.int .u64 hi, .int .u64 lo, .int .u64 y] w fun e w' => e = .returned (.tuple #[.int .u64 ((q1 * 4294967296 + q0 : Nat) : Int), .int .u64 ((m0 / 2 ^ s : Nat) : Int)]) ∧ w = w' := by
  have z1 : ((yn1 : Int) == 0) = false := by simp; omega
  go_enter Try.func23, Try.ntmps23
  go_wp2_with fail
  refine (HZ.out _).mono ?_
  rintro e w1 ⟨rfl, rfl⟩
  go_upto_block 0 with fail
  go_cut [15, 16] (fun a _ wx => a = .int .u64 q1 ∧ w = wx)
  case first =>
    go_wp2_with fail
    go_loop [15, 16] (fun a b => ∃ q r : Int, a = .int .u64 q ∧ b = .int .u64 r ∧ Inv yn1 u q1 q r ∧ 0 ≤ r ∧ r < 4294967296 ∧ 0 ≤ q ∧ q ≤ 8589934592) (fun a _ => (intOf a).toNat)
    case atStart => exact ⟨qa, ra, rfl, rfl, HA.out, by omega, by omega, by omega, by omega⟩
    case round =>
      obtain ⟨q, r, rfl, rfl, hI, hr0, hr, hq0, hqm⟩ := hrel
      by_cases c1 : 4294967296 ≤ q
      · obtain ⟨d1, hI2⟩ := hI.down hr0 g5 HU.out HQ1.out (.inl (by omega))
        by_cases c3 : r + yn1 < 4294967296
        · go_wp2_with fail
          go_round
          case rel => exact ⟨q - 1, r + yn1, rfl, rfl, hI2, by omega, by omega, by omega, by omega⟩
          case measure => simp [intOf]; omega
        · have E := Lib.hid (hI2.breaks (by omega) (by omega) g3 HU.out HQ1.out (by omega))
          go_wp2_with fail
          go_meet
          exact ⟨by rw [E.out], rfl⟩
      · obtain ⟨B, HB0, hB, hB1, hB2⟩ := mul_u64 q yn0 hq0 (by omega) g3
        by_cases c2 : 4294967296 * r + un1 < B
        · obtain ⟨d1, hI2⟩ := hI.down (yn0 := yn0) hr0 g5 HU.out HQ1.out (.inr (by have := HB0.out; omega))
          by_cases c3 : r + yn1 < 4294967296
          · go_wp2_with fail
            go_round
            case rel => exact ⟨q - 1, r + yn1, rfl, rfl, hI2, by omega, by omega, by omega, by omega⟩
            case measure => simp [intOf]; omega
          · have E := Lib.hid (hI2.breaks (by omega) (by omega) g3 HU.out HQ1.out (by omega))
            go_wp2_with fail
            go_meet
            exact ⟨by rw [E.out], rfl⟩
        · have E := Lib.hid (hI.ends (yn0 := yn0) (by omega) (by omega) HQ1.out (by have := HB0.out; omega))
          go_wp2_with fail
          go_meet
          exact ⟨by rw [E.out], rfl⟩
  case rest =>
    obtain ⟨rfl, rfl⟩ := hcut
    go_upto_block 2 with fail
    go_cut [16, 18] (fun _ a wx => a = .int .u64 q0 ∧ w = wx)
    case first =>
      go_wp2_with fail
      go_loop [16, 18] (fun b a => ∃ q r : Int, a = .int .u64 q ∧ b = .int .u64 r ∧ Inv yn1 m1 q0 q r ∧ 0 ≤ r ∧ r < 4294967296 ∧ 0 ≤ q ∧ q ≤ 8589934592) (fun _ a => (intOf a).toNat)
      case atStart => exact ⟨qb, rb, rfl, rfl, HB.out, by omega, by omega, by omega, by omega⟩
      case round =>
        obtain ⟨q, r, rfl, rfl, hI, hr0, hr, hq0, hqm⟩ := hrel
        by_cases c1 : 4294967296 ≤ q
        · obtain ⟨d1, hI2⟩ := hI.down hr0 g6 HU0.out HQ0.out (.inl (by omega))
          by_cases c3 : r + yn1 < 4294967296
          · go_wp2_with fail
            go_round
            case rel => exact ⟨q - 1, r + yn1, rfl, rfl, hI2, by omega, by omega, by omega, by omega⟩
            case measure => simp [intOf]; omega
          · have E := Lib.hid (hI2.breaks (by omega) (by omega) g3 HU0.out HQ0.out (by omega))
            go_wp2_with fail
            go_meet
            exact ⟨by rw [E.out], rfl⟩
        · obtain ⟨B, HB0, hB, hB1, hB2⟩ := mul_u64 q yn0 hq0 (by omega) g3
          by_cases c2 : 4294967296 * r + un0 < B
          · obtain ⟨d1, hI2⟩ := hI.down (yn0 := yn0) hr0 g6 HU0.out HQ0.out (.inr (by have := HB0.out; omega))
            by_cases c3 : r + yn1 < 4294967296
            · go_wp2_with fail
              go_round
              case rel => exact ⟨q - 1, r + yn1, rfl, rfl, hI2, by omega, by omega, by omega, by omega⟩
              case measure => simp [intOf]; omega
            · have E := Lib.hid (hI2.breaks (by omega) (by omega) g3 HU0.out HQ0.out (by omega))
              go_wp2_with fail
              go_meet
              exact ⟨by rw [E.out], rfl⟩
          · have E := Lib.hid (hI.ends (yn0 := yn0) (by omega) (by omega) HQ0.out (by have := HB0.out; omega))
            go_wp2_with fail
            go_meet
            exact ⟨by rw [E.out], rfl⟩
    case rest =>
      obtain ⟨rfl, rfl⟩ := hcut
      go_wp2
      go_ret2
      exact ⟨by simp, rfl⟩

end Go.Proofs.Ytfddpifkngchbaa
