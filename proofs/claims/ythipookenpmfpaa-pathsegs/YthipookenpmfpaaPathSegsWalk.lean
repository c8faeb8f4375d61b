/-
  What the law PathSegs does to any world (no claim is made here).
-/
import Derived.Test.YthipookenpmfpaaPth9
import Derived.Test.YthipookenpmfpaaPthO
namespace Go.Proofs.Ythipookenpmfpaa
open Go.RowKit

set_option maxRecDepth 100000 in
set_option maxHeartbeats 1600000 in
theorem pathSegs_walk (A : Option Addr) (n cap : Nat) (cs : List (List Dot)) (w : World) (hcs : DotRows w A n cap cs) :
    Calls Try.prog 3 #[.slice A n cap] w fun e w' => e = .returned (.bool true) ∧ Below w.heap.size w w' := by
  have HD := Lib.hid hcs
  have HSM := Lib.hid (outline_small cs)
  obtain ⟨o, ho⟩ : ∃ o, outlineS cs = o := ⟨_, rfl⟩
  rw [ho] at HSM
  have HO := Lib.hid ho
  clear hcs ho
  go_enter Try.func3, Try.ntmps3
  go_wp2_with fail
  refine (awake5 _).mono ?_
  rintro e w1 ⟨rfl, hb1⟩
  have HC := Lib.hid (outline_any A n cap cs w1 (HD.out.keep hb1))
  have HB1 := Lib.hid hb1
  clear hb1
  go_wp2_with fail
  refine HC.out.mono ?_
  rintro e w2 ⟨v, rfl, hol, hb2⟩
  rw [HO.out] at hol
  have HB2 := Lib.hid (HB1.out.trans (hb2.mono HB1.out.size))
  obtain ⟨Ao, capo, rfl⟩ := hol.form
  have HRD := Lib.hid hol.read
  obtain ⟨N, hN⟩ : ∃ N, o.length = N := ⟨_, rfl⟩
  rw [hN] at HRD
  rw [hN]
  have hN8 : N ≤ 8 := by rw [← hN]; exact HSM.out.1
  have HN := Lib.hid hN
  have hfld := fun w => run_contours (.slice Ao N capo) rfl w
  clear hol hb2 HC HB1 hN
  go_wp2_with fail
  go_loopw [11] (fun i wr => ∃ r : Nat, r ≤ N ∧ i = .int .i64 r ∧ Hid (Below w2.heap.size w2 wr)) (fun i _ => N - (intOf i).toNat)
  case atStart => exact ⟨0, Nat.zero_le _, rfl, Lib.hid (Below.refl _ _)⟩
  case round =>
    obtain ⟨r, hr, rfl, HW⟩ := hrel
    by_cases hrn : r < N
    · have hrb : decide ((r : Int) < N) = true := by simp; omega
      obtain ⟨c, hc⟩ : ∃ c, o[r]? = some c := ⟨_, List.getElem?_eq_getElem (by rw [HN.out]; exact hrn)⟩
      obtain ⟨a, u, rfl, hlt, hcell, hrow⟩ := (HRD.out.keep HW.out).at r c hc
      obtain ⟨hc1, hc2⟩ := HSM.out.2 c (List.mem_of_getElem? hc)
      have HS1 := Lib.hid (segs_any u c wr hrow hc1 hc2)
      have HROW := Lib.hid hrow
      have HLS := Lib.hid (segs_len c)
      have hc3 : c.length ≤ 1000 := hc1
      have HC1 := Lib.hid hc1
      have HC2 := Lib.hid hc2
      clear hc hrow hc1 hc2 hc3
      go_wp2_with fail
      refine HS1.out.mono ?_
      rintro e w3 ⟨u1, rfl, hu1, hb3⟩
      have HS2 := Lib.hid (lsegs_any u c w3 (HROW.out.keep hb3) HC1.out HC2.out)
      have HU1 := Lib.hid hu1
      have HB3 := Lib.hid (HW.out.trans (hb3.mono HW.out.size))
      clear hu1 hb3 HS1 hcell HW
      go_wp2_with fail
      refine HS2.out.mono ?_
      rintro e w4 ⟨u2, rfl, hu2, hb4⟩
      have HSA := Lib.hid (sameS_any u1 u2 (segsS c) w4 ((HU1.out.below hb4).read) hu2.read (by have h1 := HLS.out; have h2 := HC1.out; omega))
      have HB4 := Lib.hid (HB3.out.trans (hb4.mono HB3.out.size))
      clear hu2 hb4 HS2 HB3 HU1
      go_wp2_with fail
      refine HSA.out.mono ?_
      rintro e w5 ⟨rfl, hb5⟩
      have HB5 := Lib.hid (HB4.out.trans (hb5.mono HB4.out.size))
      clear hb5
      go_wp2_with fail
      exact ⟨⟨r + 1, by omega, by go_num, HB5⟩, by simp [intOf]; omega⟩
    · obtain rfl : r = N := by omega
      go_wp2_with fail
      refine (segs_nil none 0 _).mono ?_
      rintro e w3 ⟨rfl, hb3⟩
      have HF := Lib.hid (HB2.out.trans ((HW.out.trans (hb3.mono HW.out.size)).mono HB2.out.size))
      go_wp2
      go_ret
      exact ⟨rfl, HF.out⟩

end Go.Proofs.Ythipookenpmfpaa
