/-
  Div1 Div2 Div3 RootSq Root1 Root2 Root3 in one text (no claim is made here).
-/
import Derived.Test.YteiildeaccngjaaMwid
import Derived.Lib.Strings
import Derived.Lib.Small
import Derived.Lib.Walk
import Derived.Lib.BitFns
import Derived.Test.YteiildeaccngjaaMth
import Derived.Deep.LoopGhost
import Derived.Deep.CutBlock
import Derived.Deep.DeepCutAuto
import Derived.Test.YteiildeaccngjaaRows
import Derived.WalkKit
import Derived.WalkSpells
import Derived.WalkLawsBesides
import Derived.Lib.Hide
import Derived.IntWalk
import Derived.BigRegion
namespace Go.Proofs.Yteiildeaccngjaa
open Go.RowKit

theorem len_step (k x : Nat) (b : Int) (hk : k = 0 ∨ 2 ^ k ≤ x) (hx : x < 18446744073709551616) (hb : b = ((x / 2 ^ k : Nat) : Int)) (h8 : b ≤ 255) : (k : Int) + Lib.len8 b = (Lib.bitLen x : Nat) := by
  rw [Lib.len8_of b (by rw [hb]; exact Int.natCast_nonneg _) h8, hb, Int.toNat_natCast]
  rcases hk with rfl | hk
  · simp
  · rw [Lib.bitLen_shift k x hk hx, Int.natCast_add]
theorem len8_small (b : Int) (h0 : 0 ≤ b) (h8 : b ≤ 255) : 0 ≤ Lib.len8 b ∧ Lib.len8 b ≤ 8 := by
  rw [Lib.len8_of b h0 h8]
  have := Lib.bitLen_le8' b h0 h8
  omega

set_option maxHeartbeats 400000 in
set_option maxRecDepth 100000 in
theorem len64_56 (x : Int) (_h0 : 0 ≤ x) (h1 : 72057594037927936 ≤ x) (h2 : x < 18446744073709551616) (w : World) :
    Calls Try.prog 79 #[.int .u64 x] w fun e w' => e = .returned (.int .i64 (Lib.bitLen x.toNat : Nat)) ∧ w = w' := by
  have f0 : 0 ≤ x / 4294967296 / 65536 / 256 := by omega
  have f1 : x / 4294967296 / 65536 / 256 ≤ 255 := by omega
  obtain ⟨l0, l1⟩ := len8_small _ f0 f1
  have L := Lib.hid (len_step 56 x.toNat (x / 4294967296 / 65536 / 256) (by omega) (by omega) (by omega) f1)
  go_enter Try.func79, Try.ntmps79
  go_wp2
  go_ret
  refine ⟨ret_int ?_, rfl⟩
  rw [← L.out]
  first | rfl | omega | (simp; done) | (simp; omega)

set_option maxHeartbeats 400000 in
set_option maxRecDepth 100000 in
theorem len64_48 (x : Int) (_h0 : 0 ≤ x) (h1 : 281474976710656 ≤ x) (h2 : x < 72057594037927936) (w : World) :
    Calls Try.prog 79 #[.int .u64 x] w fun e w' => e = .returned (.int .i64 (Lib.bitLen x.toNat : Nat)) ∧ w = w' := by
  have f0 : 0 ≤ x / 4294967296 / 65536 := by omega
  have f1 : x / 4294967296 / 65536 ≤ 255 := by omega
  obtain ⟨l0, l1⟩ := len8_small _ f0 f1
  have L := Lib.hid (len_step 48 x.toNat (x / 4294967296 / 65536) (by omega) (by omega) (by omega) f1)
  go_enter Try.func79, Try.ntmps79
  go_wp2
  go_ret
  refine ⟨ret_int ?_, rfl⟩
  rw [← L.out]
  first | rfl | omega | (simp; done) | (simp; omega)

set_option maxHeartbeats 400000 in
set_option maxRecDepth 100000 in
theorem len64_40 (x : Int) (_h0 : 0 ≤ x) (h1 : 1099511627776 ≤ x) (h2 : x < 281474976710656) (w : World) :
    Calls Try.prog 79 #[.int .u64 x] w fun e w' => e = .returned (.int .i64 (Lib.bitLen x.toNat : Nat)) ∧ w = w' := by
  have f0 : 0 ≤ x / 4294967296 / 256 := by omega
  have f1 : x / 4294967296 / 256 ≤ 255 := by omega
  obtain ⟨l0, l1⟩ := len8_small _ f0 f1
  have L := Lib.hid (len_step 40 x.toNat (x / 4294967296 / 256) (by omega) (by omega) (by omega) f1)
  go_enter Try.func79, Try.ntmps79
  go_wp2
  go_ret
  refine ⟨ret_int ?_, rfl⟩
  rw [← L.out]
  first | rfl | omega | (simp; done) | (simp; omega)

set_option maxHeartbeats 400000 in
set_option maxRecDepth 100000 in
theorem len64_32 (x : Int) (_h0 : 0 ≤ x) (h1 : 4294967296 ≤ x) (h2 : x < 1099511627776) (w : World) :
    Calls Try.prog 79 #[.int .u64 x] w fun e w' => e = .returned (.int .i64 (Lib.bitLen x.toNat : Nat)) ∧ w = w' := by
  have f0 : 0 ≤ x / 4294967296 := by omega
  have f1 : x / 4294967296 ≤ 255 := by omega
  obtain ⟨l0, l1⟩ := len8_small _ f0 f1
  have L := Lib.hid (len_step 32 x.toNat (x / 4294967296) (by omega) (by omega) (by omega) f1)
  go_enter Try.func79, Try.ntmps79
  go_wp2
  go_ret
  refine ⟨ret_int ?_, rfl⟩
  rw [← L.out]
  first | rfl | omega | (simp; done) | (simp; omega)

set_option maxHeartbeats 400000 in
set_option maxRecDepth 100000 in
theorem len64_24 (x : Int) (_h0 : 0 ≤ x) (h1 : 16777216 ≤ x) (h2 : x < 4294967296) (w : World) :
    Calls Try.prog 79 #[.int .u64 x] w fun e w' => e = .returned (.int .i64 (Lib.bitLen x.toNat : Nat)) ∧ w = w' := by
  have f0 : 0 ≤ x / 65536 / 256 := by omega
  have f1 : x / 65536 / 256 ≤ 255 := by omega
  obtain ⟨l0, l1⟩ := len8_small _ f0 f1
  have L := Lib.hid (len_step 24 x.toNat (x / 65536 / 256) (by omega) (by omega) (by omega) f1)
  go_enter Try.func79, Try.ntmps79
  go_wp2
  go_ret
  refine ⟨ret_int ?_, rfl⟩
  rw [← L.out]
  first | rfl | omega | (simp; done) | (simp; omega)

set_option maxHeartbeats 400000 in
set_option maxRecDepth 100000 in
theorem len64_16 (x : Int) (_h0 : 0 ≤ x) (h1 : 65536 ≤ x) (h2 : x < 16777216) (w : World) :
    Calls Try.prog 79 #[.int .u64 x] w fun e w' => e = .returned (.int .i64 (Lib.bitLen x.toNat : Nat)) ∧ w = w' := by
  have f0 : 0 ≤ x / 65536 := by omega
  have f1 : x / 65536 ≤ 255 := by omega
  obtain ⟨l0, l1⟩ := len8_small _ f0 f1
  have L := Lib.hid (len_step 16 x.toNat (x / 65536) (by omega) (by omega) (by omega) f1)
  go_enter Try.func79, Try.ntmps79
  go_wp2
  go_ret
  refine ⟨ret_int ?_, rfl⟩
  rw [← L.out]
  first | rfl | omega | (simp; done) | (simp; omega)

set_option maxHeartbeats 400000 in
set_option maxRecDepth 100000 in
theorem len64_8 (x : Int) (_h0 : 0 ≤ x) (h1 : 256 ≤ x) (h2 : x < 65536) (w : World) :
    Calls Try.prog 79 #[.int .u64 x] w fun e w' => e = .returned (.int .i64 (Lib.bitLen x.toNat : Nat)) ∧ w = w' := by
  have f0 : 0 ≤ x / 256 := by omega
  have f1 : x / 256 ≤ 255 := by omega
  obtain ⟨l0, l1⟩ := len8_small _ f0 f1
  have L := Lib.hid (len_step 8 x.toNat (x / 256) (by omega) (by omega) (by omega) f1)
  go_enter Try.func79, Try.ntmps79
  go_wp2
  go_ret
  refine ⟨ret_int ?_, rfl⟩
  rw [← L.out]
  first | rfl | omega | (simp; done) | (simp; omega)

set_option maxHeartbeats 400000 in
set_option maxRecDepth 100000 in
theorem len64_0 (x : Int) (h0 : 0 ≤ x) (h1 : 0 ≤ x) (h2 : x < 256) (w : World) :
    Calls Try.prog 79 #[.int .u64 x] w fun e w' => e = .returned (.int .i64 (Lib.bitLen x.toNat : Nat)) ∧ w = w' := by
  have f0 : 0 ≤ x := by omega
  have f1 : x ≤ 255 := by omega
  obtain ⟨l0, l1⟩ := len8_small _ f0 f1
  have L := Lib.hid (len_step 0 x.toNat (x) (by omega) (by omega) (by omega) f1)
  go_enter Try.func79, Try.ntmps79
  go_wp2
  go_ret
  refine ⟨ret_int ?_, rfl⟩
  rw [← L.out]
  first | rfl | omega | (simp; done) | (simp; omega)

theorem len64_any (x : Int) (h0 : 0 ≤ x) (h2 : x < 18446744073709551616) (w : World) :
    Calls Try.prog 79 #[.int .u64 x] w fun e w' => e = .returned (.int .i64 (Lib.bitLen x.toNat : Nat)) ∧ w = w' := by
  by_cases c56 : 72057594037927936 ≤ x
  · exact len64_56 x h0 c56 h2 w
  by_cases c48 : 281474976710656 ≤ x
  · exact len64_48 x h0 c48 (by omega) w
  by_cases c40 : 1099511627776 ≤ x
  · exact len64_40 x h0 c40 (by omega) w
  by_cases c32 : 4294967296 ≤ x
  · exact len64_32 x h0 c32 (by omega) w
  by_cases c24 : 16777216 ≤ x
  · exact len64_24 x h0 c24 (by omega) w
  by_cases c16 : 65536 ≤ x
  · exact len64_16 x h0 c16 (by omega) w
  by_cases c8 : 256 ≤ x
  · exact len64_8 x h0 c8 (by omega) w
  · exact len64_0 x h0 h0 (by omega) w

theorem bitLen_le64 (x : Int) (h1 : x < 18446744073709551616) : Lib.bitLen x.toNat ≤ 64 := Lib.bitLen_le x.toNat 64 (by omega) (by omega)

set_option maxHeartbeats 400000 in
set_option maxRecDepth 100000 in
theorem zeros64_any (x : Int) (h0 : 0 ≤ x) (h1 : x < 18446744073709551616) (w : World) :
    Calls Try.prog 72 #[.int .u64 x] w fun e w' => e = .returned (.int .i64 (64 - (Lib.bitLen x.toNat : Nat))) ∧ w = w' := by
  have l := bitLen_le64 x h1
  have HL := Lib.hid (fun w => len64_any x h0 h1 w)
  go_enter Try.func72, Try.ntmps72
  go_wp2_with fail
  refine (HL.out _).mono ?_
  rintro e w1 ⟨rfl, rfl⟩
  go_wp2
  go_ret
  exact ⟨ret_int rfl, rfl⟩

end Go.Proofs.Yteiildeaccngjaa

namespace Go.Proofs.Yteiildeaccngjaa
open Go.RowKit

theorem mul_u64 (q : Int) (yn0 : Nat) (h1 : 0 ≤ q) (hq : q < 4294967296) (h0 : yn0 < 4294967296) : ∃ B : Int, Hid (B = ((q.toNat * yn0 : Nat) : Int)) ∧ IntKind.u64.wrap (q * ↑yn0) = B ∧ 0 ≤ B ∧ B < 18446744073709551616 := by
  have h : q.toNat * yn0 ≤ 4294967295 * 4294967295 := Nat.mul_le_mul (by omega) (by omega)
  refine ⟨((q.toNat * yn0 : Nat) : Int), rfl, ?_, by omega, by omega⟩
  have e : q * ↑yn0 = ((q.toNat * yn0 : Nat) : Int) := by rw [Int.natCast_mul, Int.toNat_of_nonneg h1]
  rw [IntKind.wrap_u64, e]
  omega

/-- What holds at each round's head of either loop: the quotient guessed, and what it leaves. -/
def Inv (yn1 u Q : Nat) (q r : Int) : Prop := q.toNat * yn1 + r.toNat = u ∧ Q ≤ q.toNat

theorem Inv.down {yn1 yn0 u v Q : Nat} {q r : Int} (h : Inv yn1 u Q q r) (hr : 0 ≤ r) (hv : v < 4294967296) (hu : u < yn1 * 4294967296 + yn0)
    (hQ : (u * 4294967296 + v) / (yn1 * 4294967296 + yn0) = Q) (hc : 4294967296 ≤ q.toNat ∨ 4294967296 * r.toNat + v < q.toNat * yn0) : 1 ≤ q ∧ Inv yn1 u Q (q - 1) (r + yn1) := by
  obtain ⟨a, b⟩ := K.dec hv hu h.1 hc
  rw [hQ] at b
  have e := K.sub_mul1 a h.1
  have e1 : (q - 1).toNat = q.toNat - 1 := by omega
  have e2 : (r + yn1).toNat = r.toNat + yn1 := by omega
  refine ⟨by omega, ?_, ?_⟩
  · rw [e1, e2]; exact e
  · rw [e1]; exact b

theorem Inv.ends {yn1 yn0 u v Q : Nat} {q r : Int} (h : Inv yn1 u Q q r) (hq : 0 ≤ q) (hY : 0 < yn1) (hQ : (u * 4294967296 + v) / (yn1 * 4294967296 + yn0) = Q)
    (hc : q.toNat * yn0 ≤ 4294967296 * r.toNat + v) : q = Q := by
  have := K.stop hY h.1 (by rw [hQ]; exact h.2) hc
  rw [hQ] at this
  omega

theorem Inv.breaks {yn1 yn0 u v Q : Nat} {q r : Int} (h : Inv yn1 u Q q r) (hq : 0 ≤ q) (hY : 0 < yn1) (h0 : yn0 < 4294967296) (hu : u < yn1 * 4294967296 + yn0) (hQ : (u * 4294967296 + v) / (yn1 * 4294967296 + yn0) = Q)
    (hc : 4294967296 ≤ r) : q = Q := by
  have := K.brk hY h0 hu h.1 (by omega) (by rw [hQ]; exact h.2)
  rw [hQ] at this
  omega

set_option maxHeartbeats 2000000 in
set_option maxRecDepth 100000 in
theorem div64_big (hi lo y s Y yn1 yn0 u u10 un1 un0 qa ra q1 m1 qb rb q0 m0 : Nat) (h0 : 0 < hi) (h1 : hi < y) (h4 : s < 64)
    (HZ : Hid (∀ w, Calls Try.prog 72 #[.int .u64 y] w fun e w' => e = .returned (.int .i64 s) ∧ w = w')) (w : World)
    (e1 : IntKind.u64.wrap (↑y * 2 ^ s) = (Y : Int)) (e2 : (Y : Int) / 4294967296 = (yn1 : Int)) (e3 : bits .and .u64 (Y : Int) 4294967295 = (yn0 : Int))
    (e4 : bits .or .u64 (IntKind.u64.wrap (↑hi * 2 ^ s)) (↑lo / 2 ^ (64 - s)) = (u : Int)) (e5 : IntKind.u64.wrap (↑lo * 2 ^ s) = (u10 : Int))
    (e6 : (u10 : Int) / 4294967296 = (un1 : Int)) (e7 : bits .and .u64 (u10 : Int) 4294967295 = (un0 : Int))
    (e8 : IntKind.u64.wrap (↑u / ↑yn1) = (qa : Int)) (e9 : IntKind.u64.wrap (↑u - IntKind.u64.wrap (↑qa * ↑yn1)) = (ra : Int))
    (e10 : IntKind.u64.wrap (IntKind.u64.wrap (IntKind.u64.wrap (↑u * 4294967296) + ↑un1) - IntKind.u64.wrap (↑q1 * ↑Y)) = (m1 : Int))
    (e11 : IntKind.u64.wrap (↑m1 / ↑yn1) = (qb : Int)) (e12 : IntKind.u64.wrap (↑m1 - IntKind.u64.wrap (↑qb * ↑yn1)) = (rb : Int))
    (e13 : IntKind.u64.wrap (IntKind.u64.wrap (IntKind.u64.wrap (↑m1 * 4294967296) + ↑un0) - IntKind.u64.wrap (↑q0 * ↑Y)) = (m0 : Int)) (g12 : q1 < 4294967296) (g13 : q0 < 4294967296)
    (g1 : 2147483648 ≤ yn1) (g2 : yn1 < 4294967296) (g3 : yn0 < 4294967296) (g5 : un1 < 4294967296) (g6 : un0 < 4294967296)
    (g8 : qa ≤ 8589934592) (g9 : ra < 4294967296) (g10 : qb ≤ 8589934592) (g11 : rb < 4294967296)
    (HU : Hid (u < yn1 * 4294967296 + yn0)) (HA : Hid (Inv yn1 u q1 qa ra)) (HQ1 : Hid ((u * 4294967296 + un1) / (yn1 * 4294967296 + yn0) = q1))
    (HU0 : Hid (m1 < yn1 * 4294967296 + yn0)) (HB : Hid (Inv yn1 m1 q0 qb rb)) (HQ0 : Hid ((m1 * 4294967296 + un0) / (yn1 * 4294967296 + yn0) = q0)) :
    Calls Try.prog 57 #[.int .u64 hi, .int .u64 lo, .int .u64 y] w fun e w' => e = .returned (.tuple #[.int .u64 ((q1 * 4294967296 + q0 : Nat) : Int), .int .u64 ((m0 / 2 ^ s : Nat) : Int)]) ∧ w = w' := by
  have z1 : ((yn1 : Int) == 0) = false := by simp; omega
  go_enter Try.func57, Try.ntmps57
  go_wp2_with fail
  refine (HZ.out _).mono ?_
  rintro e w1 ⟨rfl, rfl⟩
  go_upto_block 0 with fail
  go_cut [15, 16] (fun a _ wx => a = .int .u64 q1 ∧ w = wx)
  case first =>
    go_wp2_with fail
    go_loop [15, 16] (fun a b => ∃ q r : Int, a = .int .u64 q ∧ b = .int .u64 r ∧ Inv yn1 u q1 q r ∧ 0 ≤ r ∧ r < 4294967296 ∧ 0 ≤ q ∧ q ≤ 8589934592) (fun a _ => (intOf a).toNat)
    case atStart => exact ⟨qa, ra, rfl, rfl, HA.out, by omega, by omega, by omega, by omega⟩
    case round =>
      obtain ⟨q, r, rfl, rfl, hI, hr0, hr, hq0, hqm⟩ := hrel
      by_cases c1 : 4294967296 ≤ q
      · obtain ⟨d1, hI2⟩ := hI.down hr0 g5 HU.out HQ1.out (.inl (by omega))
        by_cases c3 : r + yn1 < 4294967296
        · go_wp2_with fail
          go_round
          case rel => exact ⟨q - 1, r + yn1, rfl, rfl, hI2, by omega, by omega, by omega, by omega⟩
          case measure => simp [intOf]; omega
        · have E := Lib.hid (hI2.breaks (by omega) (by omega) g3 HU.out HQ1.out (by omega))
          go_wp2_with fail
          go_meet
          exact ⟨by rw [E.out], rfl⟩
      · obtain ⟨B, HB0, hB, hB1, hB2⟩ := mul_u64 q yn0 hq0 (by omega) g3
        by_cases c2 : 4294967296 * r + un1 < B
        · obtain ⟨d1, hI2⟩ := hI.down (yn0 := yn0) hr0 g5 HU.out HQ1.out (.inr (by have := HB0.out; omega))
          by_cases c3 : r + yn1 < 4294967296
          · go_wp2_with fail
            go_round
            case rel => exact ⟨q - 1, r + yn1, rfl, rfl, hI2, by omega, by omega, by omega, by omega⟩
            case measure => simp [intOf]; omega
          · have E := Lib.hid (hI2.breaks (by omega) (by omega) g3 HU.out HQ1.out (by omega))
            go_wp2_with fail
            go_meet
            exact ⟨by rw [E.out], rfl⟩
        · have E := Lib.hid (hI.ends (yn0 := yn0) (by omega) (by omega) HQ1.out (by have := HB0.out; omega))
          go_wp2_with fail
          go_meet
          exact ⟨by rw [E.out], rfl⟩
  case rest =>
    obtain ⟨rfl, rfl⟩ := hcut
    go_upto_block 2 with fail
    go_cut [16, 18] (fun _ a wx => a = .int .u64 q0 ∧ w = wx)
    case first =>
      go_wp2_with fail
      go_loop [16, 18] (fun b a => ∃ q r : Int, a = .int .u64 q ∧ b = .int .u64 r ∧ Inv yn1 m1 q0 q r ∧ 0 ≤ r ∧ r < 4294967296 ∧ 0 ≤ q ∧ q ≤ 8589934592) (fun _ a => (intOf a).toNat)
      case atStart => exact ⟨qb, rb, rfl, rfl, HB.out, by omega, by omega, by omega, by omega⟩
      case round =>
        obtain ⟨q, r, rfl, rfl, hI, hr0, hr, hq0, hqm⟩ := hrel
        by_cases c1 : 4294967296 ≤ q
        · obtain ⟨d1, hI2⟩ := hI.down hr0 g6 HU0.out HQ0.out (.inl (by omega))
          by_cases c3 : r + yn1 < 4294967296
          · go_wp2_with fail
            go_round
            case rel => exact ⟨q - 1, r + yn1, rfl, rfl, hI2, by omega, by omega, by omega, by omega⟩
            case measure => simp [intOf]; omega
          · have E := Lib.hid (hI2.breaks (by omega) (by omega) g3 HU0.out HQ0.out (by omega))
            go_wp2_with fail
            go_meet
            exact ⟨by rw [E.out], rfl⟩
        · obtain ⟨B, HB0, hB, hB1, hB2⟩ := mul_u64 q yn0 hq0 (by omega) g3
          by_cases c2 : 4294967296 * r + un0 < B
          · obtain ⟨d1, hI2⟩ := hI.down (yn0 := yn0) hr0 g6 HU0.out HQ0.out (.inr (by have := HB0.out; omega))
            by_cases c3 : r + yn1 < 4294967296
            · go_wp2_with fail
              go_round
              case rel => exact ⟨q - 1, r + yn1, rfl, rfl, hI2, by omega, by omega, by omega, by omega⟩
              case measure => simp [intOf]; omega
            · have E := Lib.hid (hI2.breaks (by omega) (by omega) g3 HU0.out HQ0.out (by omega))
              go_wp2_with fail
              go_meet
              exact ⟨by rw [E.out], rfl⟩
          · have E := Lib.hid (hI.ends (yn0 := yn0) (by omega) (by omega) HQ0.out (by have := HB0.out; omega))
            go_wp2_with fail
            go_meet
            exact ⟨by rw [E.out], rfl⟩
    case rest =>
      obtain ⟨rfl, rfl⟩ := hcut
      go_wp2
      go_ret2
      exact ⟨by simp, rfl⟩

end Go.Proofs.Yteiildeaccngjaa

namespace Go.Proofs.Yteiildeaccngjaa
open Go.RowKit

theorem wrap3 (a b c m : Nat) (h : a + b = c + m) (hm : m < 18446744073709551616) :
    IntKind.u64.wrap (IntKind.u64.wrap (IntKind.u64.wrap (a : Int) + b) - IntKind.u64.wrap (c : Int)) = (m : Int) := by
  simp only [IntKind.wrap_u64]
  omega

theorem div_facts (u yn1 : Nat) (hu : u < 18446744073709551616) (h1 : 2147483648 ≤ yn1) (h2 : yn1 < 4294967296) :
    IntKind.u64.wrap (↑u / ↑yn1) = ((u / yn1 : Nat) : Int) ∧ IntKind.u64.wrap (↑u - IntKind.u64.wrap (((u / yn1 : Nat) : Int) * ↑yn1)) = ((u % yn1 : Nat) : Int) ∧ u / yn1 ≤ 8589934592 ∧ u % yn1 < 4294967296 := by
  have e := Nat.div_add_mod' u yn1
  have l : u % yn1 < yn1 := Nat.mod_lt _ (by omega)
  have d : u / yn1 ≤ 8589934592 := by
    have : u / yn1 ≤ u / 2147483648 := Nat.div_le_div_left h1 (by omega)
    omega
  refine ⟨?_, ?_, d, by omega⟩
  · rw [← Int.natCast_ediv]; exact W.wrapN _ (by omega)
  · rw [← Int.natCast_mul]
    generalize u / yn1 * yn1 = A at e
    simp only [IntKind.wrap_u64]
    omega

theorem tuple_two {k l : IntKind} {a a' b b' : Int} (h1 : a = a') (h2 : b = b') : Ending.returned (.tuple #[.int k a, .int l b]) = .returned (.tuple #[.int k a', .int l b']) := by rw [h1, h2]

set_option maxRecDepth 10000 in
theorem div64_shift (hi lo y : Nat) (h0 : 0 < hi) (h1 : hi < y) (hy : y < 18446744073709551616) (hl : lo < 18446744073709551616) (w : World) :
    Calls Try.prog 57 #[.int .u64 hi, .int .u64 lo, .int .u64 y] w fun e w' => e = .returned (.tuple #[.int .u64 (((hi * 18446744073709551616 + lo) / y : Nat) : Int), .int .u64 (((hi * 18446744073709551616 + lo) % y : Nat) : Int)]) ∧ w = w' := by
  obtain ⟨hs, hY2, hY1⟩ := K.shift_top y (by omega) hy
  have hb := K.bitLen_bounds y (by omega) hy
  obtain ⟨s, hse⟩ : ∃ s, s = 64 - Lib.bitLen y := ⟨_, rfl⟩
  have HZ : Hid (∀ w, Calls Try.prog 72 #[.int .u64 y] w fun e w' => e = .returned (.int .i64 s) ∧ w = w') := by
    intro w
    refine (zeros64_any (y : Int) (by omega) (by omega) w).mono ?_
    rintro e w' ⟨rfl, rfl⟩
    refine ⟨ret_int ?_, rfl⟩
    rw [Int.toNat_natCast]
    omega
  rw [← hse] at hs hY2 hY1
  clear hb hse
  have hP : 0 < 2 ^ s := Nat.two_pow_pos s
  have hPP : 2 ^ (64 - s) * 2 ^ s = 18446744073709551616 := by rw [← Nat.pow_add, Nat.sub_add_cancel (by omega)]
  have hP2 : 0 < 2 ^ (64 - s) := Nat.two_pow_pos _
  -- the numbers, by name
  obtain ⟨Y, hYe⟩ : ∃ Y, Y = y * 2 ^ s := ⟨_, rfl⟩
  have hhi : hi * 2 ^ s < Y := by rw [hYe]; exact Nat.mul_lt_mul_of_pos_right h1 hP
  have hlq : lo / 2 ^ (64 - s) < 2 ^ s := by rw [Nat.div_lt_iff_lt_mul hP2, Nat.mul_comm, hPP]; exact hl
  have hlow : lo * 2 ^ s / 18446744073709551616 = lo / 2 ^ (64 - s) := by rw [← hPP, Nat.mul_div_mul_right _ _ hP]
  have hu1 : hi * 2 ^ s + lo / 2 ^ (64 - s) < Y := by
    have : hi * 2 ^ s + 2 ^ s ≤ Y := by
      have h := Nat.mul_le_mul_right (2 ^ s) (Nat.succ_le_of_lt h1)
      rw [Nat.succ_mul] at h
      omega
    omega
  have hN : (hi * 2 ^ s + lo / 2 ^ (64 - s)) * 18446744073709551616 + lo * 2 ^ s % 18446744073709551616 = (hi * 18446744073709551616 + lo) * 2 ^ s := by
    have := Nat.div_add_mod' (lo * 2 ^ s) 18446744073709551616
    rw [hlow] at this
    rw [Nat.add_mul, Nat.add_mul, Nat.mul_right_comm]
    omega
  have e1 : IntKind.u64.wrap (↑y * 2 ^ s) = (Y : Int) := by
    rw [IntKind.wrap_u64]
    have : (y : Int) * 2 ^ s = (Y : Int) := by rw [hYe]; simp
    omega
  have e4 : bits .or .u64 (IntKind.u64.wrap (↑hi * 2 ^ s)) (↑lo / 2 ^ (64 - s)) = ((hi * 2 ^ s + lo / 2 ^ (64 - s) : Nat) : Int) := by
    have a1 : IntKind.u64.wrap (↑hi * 2 ^ s) = ((hi * 2 ^ s : Nat) : Int) := by
      rw [IntKind.wrap_u64]
      have : (hi : Int) * 2 ^ s = ((hi * 2 ^ s : Nat) : Int) := by simp
      omega
    have a2 : (lo : Int) / 2 ^ (64 - s) = ((lo / 2 ^ (64 - s) : Nat) : Int) := by simp
    rw [a1, a2, bits_or_u64_nat _ _ (by omega) (Nat.lt_of_le_of_lt (Nat.div_le_self _ _) hl), nat_join s _ _ (Nat.mul_mod_left _ _) hlq]
  have e5 : IntKind.u64.wrap (↑lo * 2 ^ s) = ((lo * 2 ^ s % 18446744073709551616 : Nat) : Int) := by
    rw [IntKind.wrap_u64]
    have : (lo : Int) * 2 ^ s = ((lo * 2 ^ s : Nat) : Int) := by simp
    omega
  obtain ⟨u, hue⟩ : ∃ u, u = hi * 2 ^ s + lo / 2 ^ (64 - s) := ⟨_, rfl⟩
  obtain ⟨u10, h10e⟩ : ∃ u10, u10 = lo * 2 ^ s % 18446744073709551616 := ⟨_, rfl⟩
  have h10l : u10 < 18446744073709551616 := by rw [h10e]; exact Nat.mod_lt _ (by omega)
  rw [← hue] at hu1 hN e4
  rw [← h10e] at hN e5
  rw [← hYe] at hY2 hY1
  have hYs : Y = Y / 4294967296 * 4294967296 + Y % 4294967296 := (Nat.div_add_mod' _ _).symm
  have h10s : u10 = u10 / 4294967296 * 4294967296 + u10 % 4294967296 := (Nat.div_add_mod' _ _).symm
  have e2 : (Y : Int) / 4294967296 = ((Y / 4294967296 : Nat) : Int) := by omega
  have e3 := W.maskN Y hY2
  have e6 : (u10 : Int) / 4294967296 = ((u10 / 4294967296 : Nat) : Int) := by omega
  have e7 := W.maskN u10 h10l
  have g1 : 2147483648 ≤ Y / 4294967296 := by omega
  have g2 : Y / 4294967296 < 4294967296 := by omega
  have g3 : Y % 4294967296 < 4294967296 := by omega
  have g5 : u10 / 4294967296 < 4294967296 := by omega
  have g6 : u10 % 4294967296 < 4294967296 := by omega
  clear hue h10e hlow hlq hhi hPP hP2
  generalize hyn1 : Y / 4294967296 = yn1 at hYs e2 g1 g2
  generalize hyn0 : Y % 4294967296 = yn0 at hYs e3 g3
  generalize hun1 : u10 / 4294967296 = un1 at h10s e6 g5
  generalize hun0 : u10 % 4294967296 = un0 at h10s e7 g6
  clear hyn1 hyn0 hun1 hun0
  have hYpos : 0 < Y := by omega
  obtain ⟨q1, hq1⟩ : ∃ q1, (u * 4294967296 + un1) / Y = q1 := ⟨_, rfl⟩
  obtain ⟨m1, r1, hm1⟩ := K.rest u un1 Y q1 hYpos hq1
  obtain ⟨q0, hq0⟩ : ∃ q0, (m1 * 4294967296 + un0) / Y = q0 := ⟨_, rfl⟩
  obtain ⟨m0, r0, hm0⟩ := K.rest m1 un0 Y q0 hYpos hq0
  have l1 : q1 < 4294967296 := by rw [← hq1]; exact K.digit_lt _ _ _ hu1 g5
  have l0 : q0 < 4294967296 := by rw [← hq0]; exact K.digit_lt _ _ _ hm1 g6
  obtain ⟨e8, e9, g8, g9⟩ := div_facts u yn1 (by omega) g1 g2
  obtain ⟨e11, e12, g10, g11⟩ := div_facts m1 yn1 (by omega) g1 g2
  have e10 := wrap3 (u * 4294967296) un1 (q1 * Y) m1 r1 (by omega)
  have e13 := wrap3 (m1 * 4294967296) un0 (q0 * Y) m0 r0 (by omega)
  rw [Int.natCast_mul, Int.natCast_mul] at e10 e13
  obtain ⟨wq, wr⟩ := K.whole (hi * 18446744073709551616 + lo) y (2 ^ s) Y u u10 un1 un0 q1 q0 m1 m0 hP (by omega) hYe hN h10s r1 r0 hm0
  rw [wq, wr]
  have ia : Inv yn1 u q1 ((u / yn1 : Nat) : Int) ((u % yn1 : Nat) : Int) := ⟨by simp only [Int.toNat_natCast]; exact Nat.div_add_mod' _ _, by rw [Int.toNat_natCast, ← hq1, hYs]; exact K.first_ge _ _ _ _ (by omega) g5⟩
  have ib : Inv yn1 m1 q0 ((m1 / yn1 : Nat) : Int) ((m1 % yn1 : Nat) : Int) := ⟨by simp only [Int.toNat_natCast]; exact Nat.div_add_mod' _ _, by rw [Int.toNat_natCast, ← hq0, hYs]; exact K.first_ge _ _ _ _ (by omega) g6⟩
  exact div64_big hi lo y s Y yn1 yn0 u u10 un1 un0 (u / yn1) (u % yn1) q1 m1 (m1 / yn1) (m1 % yn1) q0 m0 h0 h1 hs HZ w e1 e2 e3 e4 e5 e6 e7 e8 e9 e10 e11 e12 e13 l1 l0 g1 g2 g3 g5 g6 g8 g9 g10 g11
    (by rw [← hYs]; exact hu1) ia (by rw [← hYs]; exact hq1) (by rw [← hYs]; exact hm1) ib (by rw [← hYs]; exact hq0)

set_option maxHeartbeats 400000 in
set_option maxRecDepth 100000 in
theorem div64_zero (lo y : Nat) (h1 : 0 < y) (hl : lo < 18446744073709551616) (w : World) :
    Calls Try.prog 57 #[.int .u64 0, .int .u64 lo, .int .u64 y] w fun e w' => e = .returned (.tuple #[.int .u64 ((lo / y : Nat) : Int), .int .u64 ((lo % y : Nat) : Int)]) ∧ ∃ n, w' = w.drewN n := by
  have z1 : ((y : Int) == 0) = false := by simp; omega
  have d1 : IntKind.u64.wrap (↑lo / ↑y) = ((lo / y : Nat) : Int) := by
    have := Nat.div_le_self lo y
    rw [← Int.natCast_ediv]; exact W.wrapN _ (by omega)
  have d2 : (lo : Int) % ↑y = ((lo % y : Nat) : Int) := (Int.natCast_emod lo y).symm
  generalize lo / y = a at d1 ⊢
  go_enter Try.func57, Try.ntmps57
  go_wp2_with fail
  go_quiet (fail)
  go_wp2
  go_ret2
  exact ⟨tuple_two rfl d2, _, rfl⟩

theorem div64_any (hi lo y : Nat) (h1 : hi < y) (hy : y < 18446744073709551616) (hl : lo < 18446744073709551616) (w : World) :
    Calls Try.prog 57 #[.int .u64 hi, .int .u64 lo, .int .u64 y] w fun e w' => e = .returned (.tuple #[.int .u64 (((hi * 18446744073709551616 + lo) / y : Nat) : Int), .int .u64 (((hi * 18446744073709551616 + lo) % y : Nat) : Int)]) ∧ ∃ n, w' = w.drewN n := by
  rcases Nat.eq_zero_or_pos hi with rfl | h0
  · rw [Nat.zero_mul, Nat.zero_add]
    exact div64_zero lo y (by omega) hl w
  · exact (div64_shift hi lo y h0 h1 hy hl w).mono fun e w' ⟨he, hw⟩ => ⟨he, 0, hw.symm⟩

set_option maxHeartbeats 400000 in
set_option maxRecDepth 100000 in
theorem div_over (ph pl d : Nat) (h : d ≤ ph) (w : World) :
    Calls Try.prog 40 #[.agg #[.int .u64 ph, .int .u64 pl], .int .u64 d] w fun e w' =>
      e = .returned (.tuple #[.int .u64 0, .int .u64 0, .int .i64 10]) ∧ Below w.heap.size w w' := by
  go_enter Try.func40, Try.ntmps40
  go_wp2
  go_ret3
  exact ⟨rfl, (Below.refl _ _).alloc (Nat.le_refl _) _⟩

set_option maxHeartbeats 400000 in
set_option maxRecDepth 100000 in
theorem div_ok (ph pl d : Nat) (h : ph < d) (hd : d < 18446744073709551616) (hl : pl < 18446744073709551616) (w : World) :
    Calls Try.prog 40 #[.agg #[.int .u64 ph, .int .u64 pl], .int .u64 d] w fun e w' =>
      e = .returned (.tuple #[.int .u64 (((ph * 18446744073709551616 + pl) / d : Nat) : Int), .int .u64 (((ph * 18446744073709551616 + pl) % d : Nat) : Int), .int .i64 0]) ∧ Below w.heap.size w w' := by
  have HD := Lib.hid (fun w => div64_any ph pl d h hd hl w)
  generalize (ph * 18446744073709551616 + pl) / d = a at HD ⊢
  generalize (ph * 18446744073709551616 + pl) % d = b at HD ⊢
  clear hd hl
  have h' : ¬ d ≤ ph := by omega
  go_enter Try.func40, Try.ntmps40
  go_wp2_with fail
  refine (HD.out _).mono ?_
  rintro e w1 ⟨rfl, n, rfl⟩
  go_wp2
  go_ret3
  exact ⟨rfl, below_drewN ((Below.refl _ _).alloc (Nat.le_refl _) _) _⟩

end Go.Proofs.Yteiildeaccngjaa

namespace Go.Proofs.Yteiildeaccngjaa
open Go.RowKit

theorem mulU (a b : Nat) : (a : Int) * (b : Int) = ((a * b : Nat) : Int) := (Int.natCast_mul a b).symm
theorem wrapU (a : Nat) (ha : a < 18446744073709551616) : IntKind.u64.wrap (a : Int) = (a : Int) := by rw [IntKind.wrap_u64]; omega
set_option maxRecDepth 100000 in
theorem sqrt_neg (n : Int) (h : n < 0) (w : World) :
    Calls Try.prog 41 #[.int .i64 n] w fun e w' => e = .returned (.int .i64 0) ∧ w = w' := by
  go_enter Try.func41, Try.ntmps41
  go_wp2
  go_ret
  exact ⟨rfl, rfl⟩

/-- What holds while the root's loop goes round: of the bit B, and the root r so far. -/
def SqRel (n : Nat) (r B : Nat) : Prop := ∃ k, (B = 2 ^ k / 2) ∧ r % 2 ^ k = 0 ∧ r + 2 ^ k ≤ 4294967296 ∧ r * r ≤ n ∧ n < (r + 2 ^ k) * (r + 2 ^ k)

theorem SqRel.start (n : Nat) (hn : n < 9223372036854775808) : SqRel n 0 2147483648 := ⟨32, by decide, by decide, by decide, Nat.zero_le _, by simp; omega⟩
theorem SqRel.done {n r : Nat} (h : SqRel n r 0) (hn : n < 9223372036854775808) : isqrt n = r ∧ r < 4294967296 := by
  obtain ⟨k, hB, h1, h2, h3, h4⟩ := h
  have hk : k = 0 := by
    rcases k with _ | k
    · rfl
    · rw [Nat.pow_succ] at hB; have := Nat.two_pow_pos k; omega
  subst hk
  exact ⟨isqrt_unique n r (by omega) h3 h4, by omega⟩
theorem SqRel.round {n r B : Nat} (h : SqRel n r B) (hB : 0 < B) :
    bits .or .u64 (r : Int) (B : Int) = ((r + B : Nat) : Int) ∧ (r + B) * (r + B) < 18446744073709551616 ∧ ((r + B) * (r + B) ≤ n → SqRel n (r + B) (B / 2)) ∧ (¬ (r + B) * (r + B) ≤ n → SqRel n r (B / 2)) := by
  obtain ⟨k, rfl, h1, h2, h3, h4⟩ := h
  rcases k with _ | k
  · simp at hB
  · have e : 2 ^ (k + 1) / 2 = 2 ^ k := by rw [Nat.pow_succ]; omega
    have e2 : 2 ^ (k + 1) = 2 ^ k + 2 ^ k := by rw [Nat.pow_succ]; omega
    rw [e] at hB ⊢
    have m : r % 2 ^ k = 0 := by rw [e2, ← Nat.mul_two] at h1; exact Nat.mod_eq_zero_of_dvd (Nat.dvd_trans (Nat.dvd_mul_right _ _) (Nat.dvd_of_mod_eq_zero h1))
    rw [e2] at h1 h2 h4
    refine ⟨?_, ?_, fun h => ⟨k, rfl, ?_, by omega, h, ?_⟩, fun h => ⟨k, rfl, m, by omega, h3, by omega⟩⟩
    · rw [bits_or_u64_nat _ _ (by omega) (by omega), nat_join (k + 1) r _ (by rw [e2]; exact h1) (by omega)]
    · have := sq_le (a := r + 2 ^ k) (b := 4294967295) (by omega); omega
    · rw [Nat.add_mod_right]; exact m
    · rw [Nat.add_assoc]; exact h4

set_option maxHeartbeats 400000 in
set_option maxRecDepth 100000 in
theorem sqrt_any (n : Nat) (hn : n < 9223372036854775808) (w : World) :
    Calls Try.prog 41 #[.int .i64 n] w fun e w' => e = .returned (.int .i64 (isqrt n : Nat)) ∧ w = w' := by
  have H0 := Lib.hid (SqRel.start n hn)
  have HN := Lib.hid hn
  have en : IntKind.u64.wrap (n : Int) = (n : Int) := wrapU n (by omega)
  clear hn
  go_enter Try.func41, Try.ntmps41
  go_wp2_with fail
  go_loop [3, 4] (fun r b => ∃ R B : Nat, r = .int .u64 R ∧ b = .int .u64 B ∧ SqRel n R B) (fun _ b => (intOf b).toNat)
  case atStart => exact ⟨0, 2147483648, rfl, rfl, H0.out⟩
  case round =>
    obtain ⟨R, B, rfl, rfl, hR⟩ := hrel
    by_cases hB : 0 < B
    · obtain ⟨e1, h2, hy, hno⟩ := hR.round hB
      have e2 : IntKind.u64.wrap (((R + B : Nat) : Int) * ((R + B : Nat) : Int)) = (((R + B) * (R + B) : Nat) : Int) := by rw [mulU]; exact wrapU _ h2
      by_cases hc : (R + B) * (R + B) ≤ n
      · have h3 := Lib.hid (hy hc)
        clear hy hno h2
        generalize R + B = t at *
        generalize t * t = T at *
        go_wp2_with fail
        exact ⟨⟨t, B / 2, rfl, by rw [Int.natCast_ediv]; rfl, h3.out⟩, by simp [intOf]; omega⟩
      · have h3 := Lib.hid (hno hc)
        clear hy hno h2
        generalize R + B = t at *
        generalize t * t = T at *
        go_wp2_with fail
        exact ⟨⟨R, B / 2, rfl, by rw [Int.natCast_ediv]; rfl, h3.out⟩, by simp [intOf]; omega⟩
    · obtain rfl : B = 0 := by omega
      obtain ⟨h1, h2⟩ := hR.done HN.out
      have H1 := Lib.hid h1
      clear h1 hR
      go_wp2
      go_ret
      exact ⟨by rw [H1.out]; rfl, rfl⟩

end Go.Proofs.Yteiildeaccngjaa

namespace Go.Proofs.Yteiildeaccngjaa
open Go.RowKit

set_option maxHeartbeats 400000 in
set_option maxRecDepth 100000 in
theorem floor_any (a b : Int) (ha : -9223372036854775808 ≤ a ∧ a ≤ 9223372036854775807) (hb : 1 ≤ b ∧ b ≤ 9223372036854775807) (w : World) :
    Calls Try.prog 25 #[.int .i64 a, .int .i64 b] w fun e w' => e = .returned (.int .i64 (a / b)) ∧ w = w' := by
  obtain ⟨ha1, ha2⟩ := ha
  obtain ⟨hb1, hb2⟩ := hb
  have HB := Lib.hid (ediv_bounds a b ha1 ha2 hb1)
  have hz : (b == 0) = false := by simp; omega
  by_cases h : 0 ≤ a
  · have h2 := Int.emod_nonneg a (show b ≠ 0 by omega)
    go_enter Try.func25, Try.ntmps25
    go_wp2
    go_ret
    exact ⟨rfl, rfl⟩
  · have HF := Lib.hid (floor_neg a b (by omega) hb1)
    by_cases hm : 0 ≤ a.tmod b
    · go_enter Try.func25, Try.ntmps25
      go_wp2
      go_ret
      exact ⟨ret_int (HF.out.1 hm), rfl⟩
    · go_enter Try.func25, Try.ntmps25
      go_wp2
      go_ret
      exact ⟨ret_int (by rw [HF.out.2 (by omega)]; have := HB.out; unfold wrap64; omega), rfl⟩

end Go.Proofs.Yteiildeaccngjaa

namespace Go.Proofs.Yteiildeaccngjaa
open Go.RowKit

end Go.Proofs.Yteiildeaccngjaa

namespace Go.Proofs.Yteiildeaccngjaa
open Go.RowKit

set_option maxHeartbeats 400000 in
set_option maxRecDepth 100000 in
theorem scaled_wrong (a b t : Int) (h : t < 0 ∨ 1048576 < t ∨ a < 0 ∨ b < 1) (w : World) :
    Calls Try.prog 18 #[.agg #[.int .i64 a, .int .i64 b], .int .i64 t] w fun e w' => e = .returned (.int .i64 (-1)) ∧ Below w.heap.size w w' := by
  by_cases h1 : t < 0
  · clear h
    go_enter Try.func18, Try.ntmps18
    go_wp2
    go_ret
    exact ⟨rfl, (Below.refl _ _).alloc (Nat.le_refl _) _⟩
  by_cases h2 : 1048576 < t
  · clear h
    go_enter Try.func18, Try.ntmps18
    go_wp2
    go_ret
    exact ⟨rfl, (Below.refl _ _).alloc (Nat.le_refl _) _⟩
  by_cases h3 : a < 0
  · clear h
    go_enter Try.func18, Try.ntmps18
    go_wp2
    go_ret
    exact ⟨rfl, (Below.refl _ _).alloc (Nat.le_refl _) _⟩
  · have h4 : b < 1 := by omega
    clear h
    go_enter Try.func18, Try.ntmps18
    go_wp2
    go_ret
    exact ⟨rfl, (Below.refl _ _).alloc (Nat.le_refl _) _⟩

/-- What a division tells of a pair, and what is then told of the root. -/
def ScRes (q er : Nat) (r : Int) : Prop := (er ≠ 0 ∧ r = -1) ∨ (er = 0 ∧ 4611686018427387904 < q ∧ r = -1) ∨ (er = 0 ∧ q ≤ 4611686018427387904 ∧ r = (isqrt q : Nat))

set_option maxHeartbeats 1000000 in
set_option maxRecDepth 100000 in
theorem scaled_raw (a b t T hi lo q rr er : Nat) (r : Int) (ha : a < 9223372036854775808) (hb : b < 9223372036854775808) (hb1 : 1 ≤ b) (ht : t ≤ 1048576) (hT : T ≤ 1099511627776) (eT : (t : Int) * t = T)
    (HM : Hid (∀ w, Calls Try.prog 39 #[.int .u64 a, .int .u64 T] w fun e w' => e = .returned (.agg #[.int .u64 hi, .int .u64 lo]) ∧ Below w.heap.size w w'))
    (HD : Hid (∀ w, Calls Try.prog 40 #[.agg #[.int .u64 hi, .int .u64 lo], .int .u64 b] w fun e w' => e = .returned (.tuple #[.int .u64 q, .int .u64 rr, .int .i64 er]) ∧ Below w.heap.size w w'))
    (HR : Hid (ScRes q er r)) (w : World) :
    Calls Try.prog 18 #[.agg #[.int .i64 a, .int .i64 b], .int .i64 t] w fun e w' => e = .returned (.int .i64 r) ∧ Below w.heap.size w w' := by
  have e1 : IntKind.u64.wrap (a : Int) = (a : Int) := W.wrapN a (by omega)
  have e2 : IntKind.u64.wrap (T : Int) = (T : Int) := W.wrapN T (by omega)
  have e3 : IntKind.u64.wrap (b : Int) = (b : Int) := W.wrapN b (by omega)
  rcases HR.out with ⟨h1, rfl⟩ | ⟨h1, h2, rfl⟩ | ⟨h1, h2, rfl⟩
  · have h1' : ((er : Int) != 0) = true := by simp; omega
    have h1'' : ((er : Int) == 0) = false := by simp; omega
    clear h1 HR
    go_enter Try.func18, Try.ntmps18
    go_wp2_with fail
    refine (HM.out _).mono ?_
    rintro e w1 ⟨rfl, hb1⟩
    obtain ⟨hc, hf, hs⟩ := bcell hb1
    go_wp2_with fail
    refine (HD.out _).mono ?_
    rintro e w2 ⟨rfl, hb2⟩
    go_wp2
    go_ret
    have B1 := below2 ((Below.refl _ w).alloc (Nat.le_refl _) _) hb1
    exact ⟨rfl, below2 (B1.alloc B1.size _) hb2⟩
  · subst h1
    clear HR
    go_enter Try.func18, Try.ntmps18
    go_wp2_with fail
    refine (HM.out _).mono ?_
    rintro e w1 ⟨rfl, hb1⟩
    obtain ⟨hc, hf, hs⟩ := bcell hb1
    go_wp2_with fail
    refine (HD.out _).mono ?_
    rintro e w2 ⟨rfl, hb2⟩
    go_wp2
    go_ret
    have B1 := below2 ((Below.refl _ w).alloc (Nat.le_refl _) _) hb1
    exact ⟨rfl, below2 (B1.alloc B1.size _) hb2⟩
  · subst h1
    clear HR
    go_enter Try.func18, Try.ntmps18
    go_wp2_with fail
    refine (HM.out _).mono ?_
    rintro e w1 ⟨rfl, hb1⟩
    obtain ⟨hc, hf, hs⟩ := bcell hb1
    go_wp2_with fail
    refine (HD.out _).mono ?_
    rintro e w2 ⟨rfl, hb2⟩
    go_wp2_with fail
    refine (sqrt_any q (by omega) _).mono ?_
    rintro e w3 ⟨rfl, rfl⟩
    go_wp2
    go_ret
    have B1 := below2 ((Below.refl _ w).alloc (Nat.le_refl _) _) hb1
    exact ⟨rfl, below2 (B1.alloc B1.size _) hb2⟩

/-- What the document says of a fraction's root, so many times. -/
def scaledN (a b t : Nat) : Int := if a * (t * t) / b ≤ 4611686018427387904 then (isqrt (a * (t * t) / b) : Nat) else -1

/-- What a division of such a product tells. -/
theorem scDiv (a b t : Nat) (ha : a < 9223372036854775808) (hb : b < 9223372036854775808) (hb1 : 1 ≤ b) (ht : t ≤ 1048576) : ∃ hi lo q rr er : Nat, q < 18446744073709551616 ∧
    (∀ w, Calls Try.prog 39 #[.int .u64 a, .int .u64 ((t * t : Nat) : Int)] w fun e w' => e = .returned (.agg #[.int .u64 hi, .int .u64 lo]) ∧ Below w.heap.size w w') ∧
    (∀ w, Calls Try.prog 40 #[.agg #[.int .u64 hi, .int .u64 lo], .int .u64 b] w fun e w' => e = .returned (.tuple #[.int .u64 q, .int .u64 rr, .int .i64 er]) ∧ Below w.heap.size w w') ∧
    ScRes q er (scaledN a b t) ∧ (er = 0 → q = a * (t * t) / b) ∧ (er ≠ 0 → 18446744073709551616 ≤ a * (t * t) / b) := by
  have hT : t * t ≤ 1099511627776 := sq_le (a := t) (b := 1048576) ht
  unfold scaledN
  generalize t * t = T at *
  have hd := Nat.div_add_mod' (a * T) 18446744073709551616
  have hl : a * T % 18446744073709551616 < 18446744073709551616 := Nat.mod_lt _ (by omega)
  by_cases ho : b ≤ a * T / 18446744073709551616
  · have hq : 18446744073709551616 ≤ a * T / b := by
      rw [Nat.le_div_iff_mul_le (by omega)]
      have := Nat.mul_le_mul_right 18446744073709551616 ho
      omega
    refine ⟨_, _, 0, 0, 10, by omega, fun w => mul_any a T (by omega) (by omega) w, fun w => div_over _ _ b ho w, Or.inl ⟨by omega, ?_⟩, fun h => by omega, fun _ => hq⟩
    rw [if_neg (by omega)]
  · have hq : a * T / b < 18446744073709551616 := by
      rw [Nat.div_lt_iff_lt_mul (by omega)]
      have := Nat.mul_le_mul_right 18446744073709551616 (show a * T / 18446744073709551616 + 1 ≤ b by omega)
      omega
    have h := fun w => div_ok (a * T / 18446744073709551616) (a * T % 18446744073709551616) b (by omega) (by omega) hl w
    rw [hd] at h
    refine ⟨_, _, _, _, 0, hq, fun w => mul_any a T (by omega) (by omega) w, h, ?_, fun _ => rfl, fun h => absurd rfl h⟩
    by_cases hc : a * T / b ≤ 4611686018427387904
    · rw [if_pos hc]; exact Or.inr (Or.inr ⟨rfl, hc, rfl⟩)
    · rw [if_neg hc]; exact Or.inr (Or.inl ⟨rfl, by omega, rfl⟩)

theorem scaled_any (a b t : Nat) (ha : a < 9223372036854775808) (hb : b < 9223372036854775808) (hb1 : 1 ≤ b) (ht : t ≤ 1048576) (w : World) :
    Calls Try.prog 18 #[.agg #[.int .i64 a, .int .i64 b], .int .i64 t] w fun e w' => e = .returned (.int .i64 (scaledN a b t)) ∧ Below w.heap.size w w' := by
  obtain ⟨hi, lo, q, rr, er, _, hM, hD, hR, _, _⟩ := scDiv a b t ha hb hb1 ht
  exact scaled_raw a b t (t * t) hi lo q rr er _ ha hb hb1 ht (sq_le (a := t) (b := 1048576) ht) (Int.natCast_mul t t).symm (Lib.hid hM) (Lib.hid hD) (Lib.hid hR) w

end Go.Proofs.Yteiildeaccngjaa
