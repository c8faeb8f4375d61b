/-
  The walk of punchcutlaw06.FlatHull (no claim is made here).
-/
import Derived.Test.YtnejdngeeppphaaFlt6
import Derived.BigRegion
namespace Go.Proofs.Ytnejdngeeppphaa
open Go.RowKit

theorem hull (k : Nat) (hk : k ≤ 4) (a b c : Int) (ha : -510 ≤ a ∧ a ≤ 510) (hb : -510 ≤ b ∧ b ≤ 510) (hc : -510 ≤ c ∧ c ≤ 510) : 16 * mn3 a b c ≤ onX k a b c ∧ onX k a b c ≤ 16 * mx3 a b c ∧ (-510 ≤ mn3 a b c ∧ mn3 a b c ≤ 510) ∧ (-510 ≤ mx3 a b c ∧ mx3 a b c ≤ 510) := by
  rw [mn3_is, mx3_is]
  obtain rfl | rfl | rfl | rfl | rfl : k = 0 ∨ k = 1 ∨ k = 2 ∨ k = 3 ∨ k = 4 := by omega
  all_goals
    simp only [onX]
    omega

set_option maxRecDepth 100000 in
set_option maxHeartbeats 3200000 in
theorem flatHull_walk (s0 s1 s2 s3 s4 s5 : Int) (s6 : Bool) (k : Int) (w : World) (hk : 0 ≤ k ∧ k ≤ 255) :
    Calls Try.prog 7 #[.agg #[.int .i64 s0, .int .i64 s1, .int .i64 s2, .int .i64 s3, .int .i64 s4, .int .i64 s5, .bool s6], .int .u8 k] w fun e w' => e = .returned (.bool true) ∧ Below w.heap.size w w' := by
  have HA := Lib.hid awake6
  have HK := Lib.hid (Blk.new w 25 [.int .i64 s0, .int .i64 s1, .int .i64 s2, .int .i64 s3, .int .i64 s4, .int .i64 s5, .bool s6] rfl)
  have HB0 := Lib.hid ((Below.refl _ w).alloc (Nat.le_refl _) (.cells #[.int .i64 s0, .int .i64 s1, .int .i64 s2, .int .i64 s3, .int .i64 s4, .int .i64 s5, .bool s6] 25))
  go_enter Try.func7, Try.ntmps7
  go_wp2_with fail
  refine (HA.out _).mono ?_
  rintro e w2 ⟨rfl, hb2⟩
  have HK2 := Lib.hid (HK.out.keep hb2)
  have HB2 := Lib.hid (HB0.out.trans (hb2.mono HB0.out.size))
  clear hb2 HK HB0
  go_wp2_with fail
  have HC0 : Hid (CSt w (w2.alloc (.cells #[.pointer (some ⟨w.heap.size, 0, none⟩), .pointer (some ⟨w.heap.size, 2, none⟩), .pointer (some ⟨w.heap.size, 4, none⟩)] 27)) w.heap.size w2.heap.size (cutR ⟨⟨s0, s1⟩, ⟨s2, s3⟩, ⟨s4, s5⟩, s6⟩ 0)) := Lib.hid ⟨HK2.out.alloc _, Blk.new w2 27 [.pointer (some ⟨w.heap.size, 0, none⟩), .pointer (some ⟨w.heap.size, 2, none⟩), .pointer (some ⟨w.heap.size, 4, none⟩)] rfl, HB2.out.alloc HB2.out.size _⟩
  have hne : w.heap.size < w2.heap.size := HK2.out.lt
  go_loopw [19] (fun i wr => ∃ r : Nat, r ≤ 3 ∧ i = .int .i64 r ∧ Hid (CSt w wr w.heap.size w2.heap.size (cutR ⟨⟨s0, s1⟩, ⟨s2, s3⟩, ⟨s4, s5⟩, s6⟩ r))) (fun i _ => 3 - (intOf i).toNat)
  case atStart => exact ⟨0, by omega, rfl, HC0⟩
  case round =>
    obtain ⟨r, hr, rfl, HW⟩ := hrel
    clear HC0
    have c0 := HW.out.2.1.cell 0 rfl
    have c1 := HW.out.2.1.cell 1 rfl
    have c2 := HW.out.2.1.cell 2 rfl
    have cz := HW.out.2.1.lt
    have fz := HW.out.1.lt
    have fr := HW.out.1.frozen
    obtain rfl | rfl | rfl | rfl : r = 0 ∨ r = 1 ∨ r = 2 ∨ r = 3 := by omega
    · have d0 := HW.out.1.cell 0 rfl
      have d1 := HW.out.1.cell 1 rfl
      have f0 := fr 0
      have f1 := fr 1
      have HS := Lib.hid (HW.out.step hne (Nat.le_refl _) 0 (.int .i64 (s0.tmod 511)) (.int .i64 (s1.tmod 511)))
      clear fr
      go_wp2_with fail
      go_region
      go_wp2_with fail
      exact ⟨⟨1, by omega, rfl, HS⟩, by simp [intOf]⟩
    · have d0 := HW.out.1.cell 2 rfl
      have d1 := HW.out.1.cell 3 rfl
      have f0 := fr 2
      have f1 := fr 3
      have HS := Lib.hid (HW.out.step hne (Nat.le_refl _) 2 (.int .i64 (s2.tmod 511)) (.int .i64 (s3.tmod 511)))
      clear fr
      go_wp2_with fail
      go_region
      go_wp2_with fail
      exact ⟨⟨2, by omega, rfl, HS⟩, by simp [intOf]⟩
    · have d0 := HW.out.1.cell 4 rfl
      have d1 := HW.out.1.cell 5 rfl
      have f0 := fr 4
      have f1 := fr 5
      have HS := Lib.hid (HW.out.step hne (Nat.le_refl _) 4 (.int .i64 (s4.tmod 511)) (.int .i64 (s5.tmod 511)))
      clear fr
      go_wp2_with fail
      go_region
      go_wp2_with fail
      exact ⟨⟨3, by omega, rfl, HS⟩, by simp [intOf]⟩
    · have HCB := Lib.hid HW.out.2.2
      have hS0 := S7_blk HW.out.1
      have HBK := Lib.hid HW.out.1
      have HIN := cutS_in ⟨⟨s0, s1⟩, ⟨s2, s3⟩, ⟨s4, s5⟩, s6⟩
      obtain ⟨kk, hkk, hk4⟩ : ∃ kk : Nat, k.tmod 5 = (kk : Int) ∧ kk ≤ 4 := ⟨(k.tmod 5).toNat, by have h1 := Int.tmod_nonneg 5 hk.1; omega, by have h1 := Int.tmod_lt_of_pos k (show (0 : Int) < 5 by omega); omega⟩
      obtain ⟨px, hpx⟩ : ∃ x, onX kk (cutX s0) (cutX s2) (cutX s4) = x := ⟨_, rfl⟩
      obtain ⟨py, hpy⟩ : ∃ x, onX kk (cutX s1) (cutX s3) (cutX s5) = x := ⟨_, rfl⟩
      have HP := Lib.hid (fun w => pon_at (cutX s0) (cutX s1) (cutX s2) (cutX s3) (cutX s4) (cutX s5) s6 kk kk rfl hk4 HIN px py hpx hpy w)
      have hkw : IntKind.i64.wrap (kk : Int) = kk := by rw [IntKind.wrap_i64]; omega
      have h1 := hull kk hk4 (cutX s0) (cutX s2) (cutX s4) (cutX_in s0) (cutX_in s2) (cutX_in s4)
      have h2 := hull kk hk4 (cutX s1) (cutX s3) (cutX s5) (cutX_in s1) (cutX_in s3) (cutX_in s5)
      rw [hpx] at h1
      rw [hpy] at h2
      have m1 := run_mn (P := Try.prog) #[3, 3, 3] 3 (cutX s0) (cutX s2) (cutX s4)
      have m2 := run_mx (P := Try.prog) #[3, 3, 3] 3 (cutX s0) (cutX s2) (cutX s4)
      have m3 := run_mn (P := Try.prog) #[3, 3, 3] 3 (cutX s1) (cutX s3) (cutX s5)
      have m4 := run_mx (P := Try.prog) #[3, 3, 3] 3 (cutX s1) (cutX s3) (cutX s5)
      generalize mn3 (cutX s0) (cutX s2) (cutX s4) = lx at *
      generalize mx3 (cutX s0) (cutX s2) (cutX s4) = hx at *
      generalize mn3 (cutX s1) (cutX s3) (cutX s5) = ly at *
      generalize mx3 (cutX s1) (cutX s3) (cutX s5) = hy at *
      obtain ⟨g1, g2, g3, g4⟩ := h1
      obtain ⟨g5, g6, g7, g8⟩ := h2
      clear c0 c1 c2 HW fr HIN hpx hpy
      obtain ⟨d0, d1, d2, d3, d4, d5, d6⟩ := hS0
      go_wp2_with fail
      refine (HP.out _).mono ?_
      rintro e w4 ⟨rfl, hb4⟩
      have HB4 := Lib.hid (HCB.out.trans (hb4.mono HCB.out.size))
      have K4 := HBK.out.keep hb4
      obtain ⟨d0, d1, d2, d3, d4, d5, d6⟩ := S7_blk K4
      have dz := K4.lt
      have HQ4 := Lib.hid (Blk.new w4 23 [.int .i64 px, .int .i64 py] rfl)
      have HK4 := Lib.hid (K4.alloc (.cells #[.int .i64 px, .int .i64 py] 23))
      have HB5 := Lib.hid (HB4.out.alloc HB4.out.size (.cells #[.int .i64 px, .int .i64 py] 23))
      clear hb4 K4
      go_wp2_with fail
      go_cut [8, 9] (fun s8 s9 wx => s8 = .int .i64 lx ∧ s9 = .int .i64 hx ∧ Hid (Blk wx w.heap.size 25 (cutR ⟨⟨s0, s1⟩, ⟨s2, s3⟩, ⟨s4, s5⟩, s6⟩ 3)) ∧ Hid (Blk wx w4.heap.size 23 [.int .i64 px, .int .i64 py]) ∧ Hid (Below w.heap.size w wx))
      case first =>
        go_region
        go_wp2_with fail
        go_meet
        exact ⟨rfl, rfl, Lib.hid HK4.out.drew, Lib.hid HQ4.out.drew, Lib.hid HB5.out.drew⟩
      case rest =>
        obtain ⟨rfl, rfl, HK5, HQ5, HB6⟩ := hcut
        clear d0 d1 d2 d3 d4 d5 d6 dz HK4 HQ4 HB5 HB4 m1 m2
        obtain ⟨d0, d1, d2, d3, d4, d5, d6⟩ := S7_blk HK5.out
        have q0 := HQ5.out.cell 0 rfl
        have q1 := HQ5.out.cell 1 rfl
        as_aux_lemma =>
        go_wp2_with fail
        go_region
        have HB7 := Lib.hid HB6.out.drew
        go_wp2_with fail
        go_ret
        exact ⟨rfl, HB7.out⟩

end Go.Proofs.Ytnejdngeeppphaa
