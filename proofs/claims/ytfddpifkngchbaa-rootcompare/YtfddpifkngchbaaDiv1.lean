/-
  What math/bits.Len64 and math/bits.LeadingZeros64 do to any world: contracts (no claim is made here).
-/
import Derived.Test.YtfddpifkngchbaaCmp1
import Derived.Lib.Strings
import Derived.Lib.Small
import Derived.Lib.Walk
import Derived.Lib.BitFns
namespace Go.Proofs.Ytfddpifkngchbaa
open Go.RowKit

theorem len_step (k x : Nat) (b : Int) (hk : k = 0 ∨ 2 ^ k ≤ x) (hx : x < 18446744073709551616) (hb : b = ((x / 2 ^ k : Nat) : Int)) (h8 : b ≤ 255) : (k : Int) + Lib.len8 b = (Lib.bitLen x : Nat) := by
  rw [Lib.len8_of b (by rw [hb]; exact Int.natCast_nonneg _) h8, hb, Int.toNat_natCast]
  rcases hk with rfl | hk
  · simp
  · rw [Lib.bitLen_shift k x hk hx, Int.natCast_add]
theorem len8_small (b : Int) (h0 : 0 ≤ b) (h8 : b ≤ 255) : 0 ≤ Lib.len8 b ∧ Lib.len8 b ≤ 8 := by
  rw [Lib.len8_of b h0 h8]
  have := Lib.bitLen_le8' b h0 h8
  omega

set_option maxHeartbeats 400000 in
set_option maxRecDepth 100000 in
theorem len64_56 (x : Int) (_h0 : 0 ≤ x) (h1 : 72057594037927936 ≤ x) (h2 : x < 18446744073709551616) (w : World) :
    Calls Try.prog 27 #[.int .u64 x] w fun e w' => e = .returned (.int .i64 (Lib.bitLen x.toNat : Nat)) ∧ w = w' := by
  have f0 : 0 ≤ x / 4294967296 / 65536 / 256 := by omega
  have f1 : x / 4294967296 / 65536 / 256 ≤ 255 := by omega
  obtain ⟨l0, l1⟩ := len8_small _ f0 f1
  have L := Lib.hid (len_step 56 x.toNat (x / 4294967296 / 65536 / 256) (by omega) (by omega) (by omega) f1)
  go_enter Try.func27, Try.ntmps27
  go_wp2
  go_ret
  refine ⟨ret_int ?_, rfl⟩
  rw [← L.out]
  first | rfl | omega | (simp; done) | (simp; omega)

set_option maxHeartbeats 400000 in
set_option maxRecDepth 100000 in
theorem len64_48 (x : Int) (_h0 : 0 ≤ x) (h1 : 281474976710656 ≤ x) (h2 : x < 72057594037927936) (w : World) :
    Calls Try.prog 27 #[.int .u64 x] w fun e w' => e = .returned (.int .i64 (Lib.bitLen x.toNat : Nat)) ∧ w = w' := by
  have f0 : 0 ≤ x / 4294967296 / 65536 := by omega
  have f1 : x / 4294967296 / 65536 ≤ 255 := by omega
  obtain ⟨l0, l1⟩ := len8_small _ f0 f1
  have L := Lib.hid (len_step 48 x.toNat (x / 4294967296 / 65536) (by omega) (by omega) (by omega) f1)
  go_enter Try.func27, Try.ntmps27
  go_wp2
  go_ret
  refine ⟨ret_int ?_, rfl⟩
  rw [← L.out]
  first | rfl | omega | (simp; done) | (simp; omega)

set_option maxHeartbeats 400000 in
set_option maxRecDepth 100000 in
theorem len64_40 (x : Int) (_h0 : 0 ≤ x) (h1 : 1099511627776 ≤ x) (h2 : x < 281474976710656) (w : World) :
    Calls Try.prog 27 #[.int .u64 x] w fun e w' => e = .returned (.int .i64 (Lib.bitLen x.toNat : Nat)) ∧ w = w' := by
  have f0 : 0 ≤ x / 4294967296 / 256 := by omega
  have f1 : x / 4294967296 / 256 ≤ 255 := by omega
  obtain ⟨l0, l1⟩ := len8_small _ f0 f1
  have L := Lib.hid (len_step 40 x.toNat (x / 4294967296 / 256) (by omega) (by omega) (by omega) f1)
  go_enter Try.func27, Try.ntmps27
  go_wp2
  go_ret
  refine ⟨ret_int ?_, rfl⟩
  rw [← L.out]
  first | rfl | omega | (simp; done) | (simp; omega)

set_option maxHeartbeats 400000 in
set_option maxRecDepth 100000 in
theorem len64_32 (x : Int) (_h0 : 0 ≤ x) (h1 : 4294967296 ≤ x) (h2 : x < 1099511627776) (w : World) :
    Calls Try.prog 27 #[.int .u64 x] w fun e w' => e = .returned (.int .i64 (Lib.bitLen x.toNat : Nat)) ∧ w = w' := by
  have f0 : 0 ≤ x / 4294967296 := by omega
  have f1 : x / 4294967296 ≤ 255 := by omega
  obtain ⟨l0, l1⟩ := len8_small _ f0 f1
  have L := Lib.hid (len_step 32 x.toNat (x / 4294967296) (by omega) (by omega) (by omega) f1)
  go_enter Try.func27, Try.ntmps27
  go_wp2
  go_ret
  refine ⟨ret_int ?_, rfl⟩
  rw [← L.out]
  first | rfl | omega | (simp; done) | (simp; omega)

set_option maxHeartbeats 400000 in
set_option maxRecDepth 100000 in
theorem len64_24 (x : Int) (_h0 : 0 ≤ x) (h1 : 16777216 ≤ x) (h2 : x < 4294967296) (w : World) :
    Calls Try.prog 27 #[.int .u64 x] w fun e w' => e = .returned (.int .i64 (Lib.bitLen x.toNat : Nat)) ∧ w = w' := by
  have f0 : 0 ≤ x / 65536 / 256 := by omega
  have f1 : x / 65536 / 256 ≤ 255 := by omega
  obtain ⟨l0, l1⟩ := len8_small _ f0 f1
  have L := Lib.hid (len_step 24 x.toNat (x / 65536 / 256) (by omega) (by omega) (by omega) f1)
  go_enter Try.func27, Try.ntmps27
  go_wp2
  go_ret
  refine ⟨ret_int ?_, rfl⟩
  rw [← L.out]
  first | rfl | omega | (simp; done) | (simp; omega)

set_option maxHeartbeats 400000 in
set_option maxRecDepth 100000 in
theorem len64_16 (x : Int) (_h0 : 0 ≤ x) (h1 : 65536 ≤ x) (h2 : x < 16777216) (w : World) :
    Calls Try.prog 27 #[.int .u64 x] w fun e w' => e = .returned (.int .i64 (Lib.bitLen x.toNat : Nat)) ∧ w = w' := by
  have f0 : 0 ≤ x / 65536 := by omega
  have f1 : x / 65536 ≤ 255 := by omega
  obtain ⟨l0, l1⟩ := len8_small _ f0 f1
  have L := Lib.hid (len_step 16 x.toNat (x / 65536) (by omega) (by omega) (by omega) f1)
  go_enter Try.func27, Try.ntmps27
  go_wp2
  go_ret
  refine ⟨ret_int ?_, rfl⟩
  rw [← L.out]
  first | rfl | omega | (simp; done) | (simp; omega)

set_option maxHeartbeats 400000 in
set_option maxRecDepth 100000 in
theorem len64_8 (x : Int) (_h0 : 0 ≤ x) (h1 : 256 ≤ x) (h2 : x < 65536) (w : World) :
    Calls Try.prog 27 #[.int .u64 x] w fun e w' => e = .returned (.int .i64 (Lib.bitLen x.toNat : Nat)) ∧ w = w' := by
  have f0 : 0 ≤ x / 256 := by omega
  have f1 : x / 256 ≤ 255 := by omega
  obtain ⟨l0, l1⟩ := len8_small _ f0 f1
  have L := Lib.hid (len_step 8 x.toNat (x / 256) (by omega) (by omega) (by omega) f1)
  go_enter Try.func27, Try.ntmps27
  go_wp2
  go_ret
  refine ⟨ret_int ?_, rfl⟩
  rw [← L.out]
  first | rfl | omega | (simp; done) | (simp; omega)

set_option maxHeartbeats 400000 in
set_option maxRecDepth 100000 in
theorem len64_0 (x : Int) (h0 : 0 ≤ x) (h1 : 0 ≤ x) (h2 : x < 256) (w : World) :
    Calls Try.prog 27 #[.int .u64 x] w fun e w' => e = .returned (.int .i64 (Lib.bitLen x.toNat : Nat)) ∧ w = w' := by
  have f0 : 0 ≤ x := by omega
  have f1 : x ≤ 255 := by omega
  obtain ⟨l0, l1⟩ := len8_small _ f0 f1
  have L := Lib.hid (len_step 0 x.toNat (x) (by omega) (by omega) (by omega) f1)
  go_enter Try.func27, Try.ntmps27
  go_wp2
  go_ret
  refine ⟨ret_int ?_, rfl⟩
  rw [← L.out]
  first | rfl | omega | (simp; done) | (simp; omega)

theorem len64_any (x : Int) (h0 : 0 ≤ x) (h2 : x < 18446744073709551616) (w : World) :
    Calls Try.prog 27 #[.int .u64 x] w fun e w' => e = .returned (.int .i64 (Lib.bitLen x.toNat : Nat)) ∧ w = w' := by
  by_cases c56 : 72057594037927936 ≤ x
  · exact len64_56 x h0 c56 h2 w
  by_cases c48 : 281474976710656 ≤ x
  · exact len64_48 x h0 c48 (by omega) w
  by_cases c40 : 1099511627776 ≤ x
  · exact len64_40 x h0 c40 (by omega) w
  by_cases c32 : 4294967296 ≤ x
  · exact len64_32 x h0 c32 (by omega) w
  by_cases c24 : 16777216 ≤ x
  · exact len64_24 x h0 c24 (by omega) w
  by_cases c16 : 65536 ≤ x
  · exact len64_16 x h0 c16 (by omega) w
  by_cases c8 : 256 ≤ x
  · exact len64_8 x h0 c8 (by omega) w
  · exact len64_0 x h0 h0 (by omega) w

theorem bitLen_le64 (x : Int) (h1 : x < 18446744073709551616) : Lib.bitLen x.toNat ≤ 64 := Lib.bitLen_le x.toNat 64 (by omega) (by omega)

set_option maxHeartbeats 400000 in
theorem zeros64_any (x : Int) (h0 : 0 ≤ x) (h1 : x < 18446744073709551616) (w : World) :
    Calls Try.prog 25 #[.int .u64 x] w fun e w' => e = .returned (.int .i64 (64 - (Lib.bitLen x.toNat : Nat))) ∧ w = w' := by
  have l := bitLen_le64 x h1
  have HL := Lib.hid (fun w => len64_any x h0 h1 w)
  go_enter Try.func25, Try.ntmps25
  go_wp2_with fail
  refine (HL.out _).mono ?_
  rintro e w1 ⟨rfl, rfl⟩
  go_wp2
  go_ret
  exact ⟨ret_int rfl, rfl⟩

end Go.Proofs.Ytfddpifkngchbaa
