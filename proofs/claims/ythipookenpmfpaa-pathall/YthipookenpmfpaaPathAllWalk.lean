/-
  What the law PathAll does to any world (no claim is made here).
-/
import Derived.Test.YthipookenpmfpaaPth9
import Derived.Test.YthipookenpmfpaaPthA
namespace Go.Proofs.Ythipookenpmfpaa
open Go.RowKit

set_option maxRecDepth 100000 in
set_option maxHeartbeats 1600000 in
theorem pathAll_walk (A : Option Addr) (n cap : Nat) (cs : List (List Dot)) (w : World) (hcs : DotRows w A n cap cs) :
    Calls Try.prog 4 #[.slice A n cap] w fun e w' => e = .returned (.bool true) ∧ Below w.heap.size w w' := by
  have HD := Lib.hid hcs
  have HSM := Lib.hid (outline_small cs)
  obtain ⟨o, ho⟩ : ∃ o, outlineS cs = o := ⟨_, rfl⟩
  rw [ho] at HSM
  have HO := Lib.hid ho
  clear hcs ho
  go_enter Try.func4, Try.ntmps4
  go_wp2_with fail
  refine (awake5 _).mono ?_
  rintro e w1 ⟨rfl, hb1⟩
  have HC := Lib.hid (outline_any A n cap cs w1 (HD.out.keep hb1))
  have HB1 := Lib.hid hb1
  clear hb1
  go_wp2_with fail
  refine HC.out.mono ?_
  rintro e w2 ⟨v, rfl, hol, hb2⟩
  rw [HO.out] at hol
  have HB2 := HB1.out.trans (hb2.mono HB1.out.size)
  obtain ⟨Ao, capo, rfl⟩ := hol.form
  obtain ⟨N, hN⟩ : ∃ N, o.length = N := ⟨_, rfl⟩
  have hRD := hol.read.keep ((Below.refl _ w2).alloc (Nat.le_refl _) (.cells #[.slice Ao o.length capo] 26))
  have HA := Lib.hid (all_any _ o _ hRD HSM.out)
  rw [hN] at hRD HA
  rw [hN]
  have hN8 : N ≤ 8 := by rw [← hN]; exact HSM.out.1
  have HN := Lib.hid hN
  have O2 : One (w2.alloc (.cells #[.slice Ao N capo] 26)) w2.heap.size (.slice Ao N capo) := One.new _ _ rfl
  have HO2 := Lib.hid O2
  have HBA := Lib.hid (HB2.alloc HB2.size (.cells #[.slice Ao N capo] 26))
  have HRD := Lib.hid hRD
  clear hol hb2 HC HB1 hN HB2 O2 hRD
  go_wp2_with fail
  refine HA.out.mono ?_
  rintro e w3 ⟨Al, capl, rfl, hsr, hb3⟩
  have O3 := HO2.out.keep hb3
  have oz := O3.lt
  obtain ⟨oc, of⟩ := O3
  have HSR := Lib.hid hsr
  have HR3 := Lib.hid (HRD.out.keep hb3)
  have HB3 := Lib.hid (HBA.out.trans (hb3.mono HBA.out.size))
  clear hsr hb3 HA HO2 HBA HRD
  go_wp2_with fail
  clear oc of oz
  go_loopw [22] (fun i wr => ∃ r : Nat, r ≤ N ∧ i = .int .i64 r ∧ Hid (Below w3.heap.size w3 wr)) (fun i _ => N - (intOf i).toNat)
  case atStart => exact ⟨0, Nat.zero_le _, rfl, Lib.hid (Below.refl _ _)⟩
  case round =>
    obtain ⟨r, hr, rfl, HW⟩ := hrel
    by_cases hrn : r < N
    · have hrb : decide ((r : Int) < N) = true := by simp; omega
      have hrI : (r : Int) < N := by omega
      have hr0 : (0 : Int) ≤ r := by omega
      obtain ⟨c, hc⟩ : ∃ c, o[r]? = some c := ⟨_, List.getElem?_eq_getElem (by rw [HN.out]; exact hrn)⟩
      obtain ⟨a, u, rfl, hlt, hcell, hrow⟩ := (HR3.out.keep HW.out).at r c hc
      obtain ⟨hc1, hc2⟩ := HSM.out.2 c (List.mem_of_getElem? hc)
      obtain ⟨A', cap', e', -, h3⟩ := HSR.out.keep HW.out
      rw [List.length_map, HN.out] at e'
      simp only [Value.slice.injEq] at e'
      obtain ⟨rfl, -, rfl⟩ := e'
      obtain ⟨al, ul, rfl, hll, hlc, hls⟩ := h3 r (segsS c) (by rw [List.getElem?_map, hc]; rfl)
      have HLS : Hid ((segsS c).length ≤ 2000) := Lib.hid (by have := segs_len c; omega)
      have HROW := Lib.hid hrow
      have HC1 := Lib.hid hc1
      have HC2 := Lib.hid hc2
      have HSL := Lib.hid hls
      have SO : ∀ wx, Below wr.heap.size wr wx → wx.cell? (al.add r) = some ul ∧ Below wr.heap.size wr wx := fun wx hb => ⟨keepc hb hlc, hb⟩
      have HSO := Lib.hid SO
      have hD := SO wr.drew (Below.refl _ _).drew
      have HLG := Lib.hid (fun wx (hb : Below wr.heap.size wr wx) => lsegs_any u c wx (HROW.out.keep hb) HC1.out HC2.out)
      have HLD := Lib.hid (HLG.out wr.drew (Below.refl _ _).drew)
      clear hc hrow hc1 hc2 h3 hls hlc SO
      go_wp2_with fail
      clear hcell
      go_region_held3 (fun wx => wx.cell? (al.add r) = some ul ∧ Below wr.heap.size wr wx)
        (first
          | with_reducible assumption
          | fail)
        (first
          | (go_at_call 12; (with_reducible refine (HLD.out).mono ?_); rintro e w4 ⟨u2, rfl, hu2, hb4⟩; replace hb4 := undrew0 hb4; have hS4 := HSO.out _ hb4; have HSA := Lib.hid (sameS_any ul u2 (segsS c) w4 (HSL.out.keep hb4) hu2.read HLS.out))
          | (go_at_call 10; (with_reducible refine HSA.out.mono ?_); rintro e w5 ⟨rfl, hb5⟩; have E5 := below_w hb4 hb5 hb4.size; have hS5 := HSO.out _ E5))
      have HW5 := Lib.hid (HW.out.trans (E5.mono HW.out.size))
      clear hD hS4 hS5 hb4 hb5 E5 hu2 HSA
      go_wp2_with fail
      exact ⟨⟨r + 1, by omega, by go_num, HW5⟩, by simp [intOf]; omega⟩
    · obtain rfl : r = N := by omega
      have HF := Lib.hid (HB3.out.trans (HW.out.mono HB3.out.size))
      go_wp2
      go_ret
      exact ⟨rfl, HF.out⟩

end Go.Proofs.Ythipookenpmfpaa
