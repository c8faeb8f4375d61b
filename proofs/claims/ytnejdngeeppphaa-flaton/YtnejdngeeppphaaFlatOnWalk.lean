/-
  The walk of punchcutlaw06.FlatOn (no claim is made here).
-/
import Derived.Test.YtnejdngeeppphaaFlt6
namespace Go.Proofs.Ytnejdngeeppphaa
open Go.RowKit

set_option maxRecDepth 100000 in
set_option maxHeartbeats 3200000 in
theorem flatOn_walk (s0 s1 s2 s3 s4 s5 : Int) (s6 : Bool) (k : Int) (w : World) (hk : 0 ≤ k ∧ k ≤ 255) :
    Calls Try.prog 3 #[.agg #[.int .i64 s0, .int .i64 s1, .int .i64 s2, .int .i64 s3, .int .i64 s4, .int .i64 s5, .bool s6], .int .u8 k] w fun e w' => e = .returned (.bool true) ∧ Below w.heap.size w w' := by
  have HA := Lib.hid awake6
  have HK := Lib.hid (Blk.new w 25 [.int .i64 s0, .int .i64 s1, .int .i64 s2, .int .i64 s3, .int .i64 s4, .int .i64 s5, .bool s6] rfl)
  have HB0 := Lib.hid ((Below.refl _ w).alloc (Nat.le_refl _) (.cells #[.int .i64 s0, .int .i64 s1, .int .i64 s2, .int .i64 s3, .int .i64 s4, .int .i64 s5, .bool s6] 25))
  go_enter Try.func3, Try.ntmps3
  go_wp2_with fail
  refine (HA.out _).mono ?_
  rintro e w2 ⟨rfl, hb2⟩
  have HK2 := Lib.hid (HK.out.keep hb2)
  have HB2 := Lib.hid (HB0.out.trans (hb2.mono HB0.out.size))
  clear hb2 HK HB0
  go_wp2_with fail
  have HC0 : Hid (CSt w (w2.alloc (.cells #[.pointer (some ⟨w.heap.size, 0, none⟩), .pointer (some ⟨w.heap.size, 2, none⟩), .pointer (some ⟨w.heap.size, 4, none⟩)] 27)) w.heap.size w2.heap.size (cutR ⟨⟨s0, s1⟩, ⟨s2, s3⟩, ⟨s4, s5⟩, s6⟩ 0)) := Lib.hid ⟨HK2.out.alloc _, Blk.new w2 27 [.pointer (some ⟨w.heap.size, 0, none⟩), .pointer (some ⟨w.heap.size, 2, none⟩), .pointer (some ⟨w.heap.size, 4, none⟩)] rfl, HB2.out.alloc HB2.out.size _⟩
  have hne : w.heap.size < w2.heap.size := HK2.out.lt
  go_loopw [14] (fun i wr => ∃ r : Nat, r ≤ 3 ∧ i = .int .i64 r ∧ Hid (CSt w wr w.heap.size w2.heap.size (cutR ⟨⟨s0, s1⟩, ⟨s2, s3⟩, ⟨s4, s5⟩, s6⟩ r))) (fun i _ => 3 - (intOf i).toNat)
  case atStart => exact ⟨0, by omega, rfl, HC0⟩
  case round =>
    obtain ⟨r, hr, rfl, HW⟩ := hrel
    clear HC0
    have c0 := HW.out.2.1.cell 0 rfl
    have c1 := HW.out.2.1.cell 1 rfl
    have c2 := HW.out.2.1.cell 2 rfl
    have cz := HW.out.2.1.lt
    have fz := HW.out.1.lt
    have fr := HW.out.1.frozen
    obtain rfl | rfl | rfl | rfl : r = 0 ∨ r = 1 ∨ r = 2 ∨ r = 3 := by omega
    · have d0 := HW.out.1.cell 0 rfl
      have d1 := HW.out.1.cell 1 rfl
      have f0 := fr 0
      have f1 := fr 1
      have HS := Lib.hid (HW.out.step hne (Nat.le_refl _) 0 (.int .i64 (s0.tmod 511)) (.int .i64 (s1.tmod 511)))
      clear fr
      go_wp2_with fail
      go_region
      go_wp2_with fail
      exact ⟨⟨1, by omega, rfl, HS⟩, by simp [intOf]⟩
    · have d0 := HW.out.1.cell 2 rfl
      have d1 := HW.out.1.cell 3 rfl
      have f0 := fr 2
      have f1 := fr 3
      have HS := Lib.hid (HW.out.step hne (Nat.le_refl _) 2 (.int .i64 (s2.tmod 511)) (.int .i64 (s3.tmod 511)))
      clear fr
      go_wp2_with fail
      go_region
      go_wp2_with fail
      exact ⟨⟨2, by omega, rfl, HS⟩, by simp [intOf]⟩
    · have d0 := HW.out.1.cell 4 rfl
      have d1 := HW.out.1.cell 5 rfl
      have f0 := fr 4
      have f1 := fr 5
      have HS := Lib.hid (HW.out.step hne (Nat.le_refl _) 4 (.int .i64 (s4.tmod 511)) (.int .i64 (s5.tmod 511)))
      clear fr
      go_wp2_with fail
      go_region
      go_wp2_with fail
      exact ⟨⟨3, by omega, rfl, HS⟩, by simp [intOf]⟩
    · have HCB := Lib.hid HW.out.2.2
      have hS0 := S7_blk HW.out.1
      have HIN := cutS_in ⟨⟨s0, s1⟩, ⟨s2, s3⟩, ⟨s4, s5⟩, s6⟩
      obtain ⟨kk, hkk, hk4⟩ : ∃ kk : Nat, k.tmod 5 = (kk : Int) ∧ kk ≤ 4 := ⟨(k.tmod 5).toNat, by have h1 := Int.tmod_nonneg 5 hk.1; omega, by have h1 := Int.tmod_lt_of_pos k (show (0 : Int) < 5 by omega); omega⟩
      obtain ⟨px, hpx⟩ : ∃ x, onX kk (cutX s0) (cutX s2) (cutX s4) = x := ⟨_, rfl⟩
      obtain ⟨py, hpy⟩ : ∃ x, onX kk (cutX s1) (cutX s3) (cutX s5) = x := ⟨_, rfl⟩
      have HP := Lib.hid (fun w => pon_at (cutX s0) (cutX s1) (cutX s2) (cutX s3) (cutX s4) (cutX s5) s6 kk kk rfl hk4 HIN px py hpx hpy w)
      have HQ := Lib.hid (fun w => lon_at (cutX s0) (cutX s1) (cutX s2) (cutX s3) (cutX s4) (cutX s5) s6 kk kk rfl hk4 HIN px py hpx hpy w)
      have HZ := Lib.hid (fun w => pon_at (cutX s0) (cutX s1) (cutX s2) (cutX s3) (cutX s4) (cutX s5) s6 0 0 rfl (by omega) HIN (16 * cutX s0) (16 * cutX s1) rfl rfl w)
      have hkw : IntKind.i64.wrap (kk : Int) = kk := by rw [IntKind.wrap_i64]; omega
      have m0 : IntKind.i64.wrap (16 * cutX s0) = 16 * cutX s0 := by have := cutX_in s0; rw [IntKind.wrap_i64]; omega
      have m1 : IntKind.i64.wrap (16 * cutX s1) = 16 * cutX s1 := by have := cutX_in s1; rw [IntKind.wrap_i64]; omega
      have hD : wr.drew.cell? ⟨w.heap.size, 0, none⟩ = some (.int .i64 (cutX s0)) ∧ wr.drew.cell? ⟨w.heap.size, 1, none⟩ = some (.int .i64 (cutX s1)) ∧ wr.drew.cell? ⟨w.heap.size, 2, none⟩ = some (.int .i64 (cutX s2)) ∧ wr.drew.cell? ⟨w.heap.size, 3, none⟩ = some (.int .i64 (cutX s3)) ∧ wr.drew.cell? ⟨w.heap.size, 4, none⟩ = some (.int .i64 (cutX s4)) ∧ wr.drew.cell? ⟨w.heap.size, 5, none⟩ = some (.int .i64 (cutX s5)) ∧ wr.drew.cell? ⟨w.heap.size, 6, none⟩ = some (.bool s6) ∧ Below wr.heap.size wr wr.drew := ⟨hS0.1, hS0.2.1, hS0.2.2.1, hS0.2.2.2.1, hS0.2.2.2.2.1, hS0.2.2.2.2.2.1, hS0.2.2.2.2.2.2, (Below.refl _ _).drew⟩
      clear hS0 c0 c1 c2 HW fr HIN hpx hpy
      go_wp2_with fail
      go_region_held3 (fun wx => wx.cell? ⟨w.heap.size, 0, none⟩ = some (.int .i64 (cutX s0)) ∧ wx.cell? ⟨w.heap.size, 1, none⟩ = some (.int .i64 (cutX s1)) ∧ wx.cell? ⟨w.heap.size, 2, none⟩ = some (.int .i64 (cutX s2)) ∧ wx.cell? ⟨w.heap.size, 3, none⟩ = some (.int .i64 (cutX s3)) ∧ wx.cell? ⟨w.heap.size, 4, none⟩ = some (.int .i64 (cutX s4)) ∧ wx.cell? ⟨w.heap.size, 5, none⟩ = some (.int .i64 (cutX s5)) ∧ wx.cell? ⟨w.heap.size, 6, none⟩ = some (.bool s6) ∧ Below wr.heap.size wr wx)
        (with_reducible assumption)
        (first
          | (go_at_call 10; (with_reducible refine (HP.out _).mono ?_); rintro e w4 ⟨rfl, hb⟩; have hS4 : w4.cell? ⟨w.heap.size, 0, none⟩ = some (.int .i64 (cutX s0)) ∧ w4.cell? ⟨w.heap.size, 1, none⟩ = some (.int .i64 (cutX s1)) ∧ w4.cell? ⟨w.heap.size, 2, none⟩ = some (.int .i64 (cutX s2)) ∧ w4.cell? ⟨w.heap.size, 3, none⟩ = some (.int .i64 (cutX s3)) ∧ w4.cell? ⟨w.heap.size, 4, none⟩ = some (.int .i64 (cutX s4)) ∧ w4.cell? ⟨w.heap.size, 5, none⟩ = some (.int .i64 (cutX s5)) ∧ w4.cell? ⟨w.heap.size, 6, none⟩ = some (.bool s6) ∧ Below wr.heap.size wr w4 := S7_call hb (by (repeat (first | with_reducible assumption | with_reducible refine S7_alloc _ ?_ | with_reducible refine S7_drew ?_))))
          | (go_at_call 11; (with_reducible refine (HQ.out _).mono ?_); rintro e w5 ⟨rfl, hb⟩; have hS5 : w5.cell? ⟨w.heap.size, 0, none⟩ = some (.int .i64 (cutX s0)) ∧ w5.cell? ⟨w.heap.size, 1, none⟩ = some (.int .i64 (cutX s1)) ∧ w5.cell? ⟨w.heap.size, 2, none⟩ = some (.int .i64 (cutX s2)) ∧ w5.cell? ⟨w.heap.size, 3, none⟩ = some (.int .i64 (cutX s3)) ∧ w5.cell? ⟨w.heap.size, 4, none⟩ = some (.int .i64 (cutX s4)) ∧ w5.cell? ⟨w.heap.size, 5, none⟩ = some (.int .i64 (cutX s5)) ∧ w5.cell? ⟨w.heap.size, 6, none⟩ = some (.bool s6) ∧ Below wr.heap.size wr w5 := S7_call hb (by (repeat (first | with_reducible assumption | with_reducible refine S7_alloc _ ?_ | with_reducible refine S7_drew ?_))))
          | (go_at_call 10; (with_reducible refine (HZ.out _).mono ?_); rintro e w6 ⟨rfl, hb⟩; have hS6 : w6.cell? ⟨w.heap.size, 0, none⟩ = some (.int .i64 (cutX s0)) ∧ w6.cell? ⟨w.heap.size, 1, none⟩ = some (.int .i64 (cutX s1)) ∧ w6.cell? ⟨w.heap.size, 2, none⟩ = some (.int .i64 (cutX s2)) ∧ w6.cell? ⟨w.heap.size, 3, none⟩ = some (.int .i64 (cutX s3)) ∧ w6.cell? ⟨w.heap.size, 4, none⟩ = some (.int .i64 (cutX s4)) ∧ w6.cell? ⟨w.heap.size, 5, none⟩ = some (.int .i64 (cutX s5)) ∧ w6.cell? ⟨w.heap.size, 6, none⟩ = some (.bool s6) ∧ Below wr.heap.size wr w6 := S7_call hb (by (repeat (first | with_reducible assumption | with_reducible refine S7_alloc _ ?_ | with_reducible refine S7_drew ?_))))
          | fail)
      have HF := Lib.hid (HCB.out.trans (hS6.2.2.2.2.2.2.2.mono HCB.out.size))
      clear hS4 hS5 hS6 hD
      go_wp2_with fail
      go_ret
      exact ⟨rfl, HF.out⟩

end Go.Proofs.Ytnejdngeeppphaa
