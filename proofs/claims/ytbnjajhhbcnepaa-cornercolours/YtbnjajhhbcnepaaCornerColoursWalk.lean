/-
  The walk of punchcutlaw11.CornerColours, over what the program is to do (no claim is made here).
-/
import Derived.Test.YtbnjajhhbcnepaaCorn5
namespace Go.Proofs.Ytbnjajhhbcnepaa
open Go.RowKit

set_option maxRecDepth 100000 in
set_option maxHeartbeats 3200000 in
theorem cornerColours_walk (H : CornOK) (A : Option Addr) (n cap : Nat) (cs : List (List Dot)) (w : World) (hcs : DotRows w A n cap cs) :
    Calls Try.prog 5 #[.slice A n cap] w fun e w' => e = .returned (.bool true) ∧ Below w.heap.size w w' := by
  have HD := Lib.hid hcs
  have HAW := Lib.hid (fun w => awake11 H w)
  have HN0 : Hid (∀ w : World, ERd w (.slice none 0 0) []) := Lib.hid (fun w => ⟨none, 0, rfl, Nat.le_refl _, fun i hi => absurd hi (Nat.not_lt_zero _)⟩)
  have HNP := Lib.hid (fun w => H.colours (.slice none 0 0) [] w (HN0.out w) (by simp) (fun _ h => by simp at h))
  clear hcs
  go_enter Try.func5, Try.ntmps5
  go_wp2_with fail
  refine (HAW.out _).mono ?_
  rintro e w1 ⟨rfl, hb1⟩
  have HC := Lib.hid (contours_any A n cap cs w1 (HD.out.keep hb1))
  have HB1 := Lib.hid hb1
  clear hb1 HD HAW
  go_wp2_with fail
  refine HC.out.mono ?_
  rintro e w2 ⟨v, rfl, hv, hb2⟩
  have HB2 := Lib.hid (below2 HB1.out hb2)
  obtain ⟨Ao, capo, rfl⟩ := hv.form
  obtain ⟨hs1, hs2⟩ := contE_small cs
  obtain ⟨o, ho⟩ : ∃ o, contE cs = o := ⟨_, rfl⟩
  rw [ho] at hv hs1 hs2
  rw [ho]
  obtain ⟨N, hN⟩ : ∃ N, o.length = N := ⟨_, rfl⟩
  have HNO := Lib.hid hN
  have HO := Lib.hid hv.read
  have HS := Lib.hid hs2
  rw [hN] at HO hs1
  rw [hN]
  clear hb2 HB1 HC hv hs2 ho hN
  go_wp2_with fail
  go_loopw [10] (fun i wr => ∃ r : Nat, r ≤ N ∧ i = .int .i64 r ∧ Hid (Below w2.heap.size w2 wr)) (fun i _ => N - (intOf i).toNat)
  case atStart => exact ⟨0, Nat.zero_le _, rfl, Lib.hid (Below.refl _ _)⟩
  case round =>
    obtain ⟨r, hr, rfl, HB⟩ := hrel
    by_cases hrN : r < N
    · have hrb : decide ((r : Int) < N) = true := by simp; omega
      obtain ⟨es, hes⟩ : ∃ c, o[r]? = some c := ⟨_, List.getElem?_eq_getElem (by rw [HNO.out]; exact hrN)⟩
      obtain ⟨a, u0, rfl, hal, hac, hrow⟩ := (HO.out.keep HB.out).at r es hes
      obtain ⟨he1, he2⟩ := HS.out es (List.mem_of_getElem? hes)
      have HE := Lib.hid hrow
      have he3 : es.length ≤ 200000 := by omega
      have HL1 := Lib.hid he1
      have HP := Lib.hid (fun w h => H.colours u0 es w h he3 he2)
      have HW := Lib.hid (fun w h => lcolours_any u0 es w h he3 he2)
      have hll : (coloursL es).length ≤ 1000000 := by rw [coloursL_length]; omega
      have HLL := Lib.hid hll
      clear hes hrow he1 he2 he3 hll
      go_wp2_with fail
      refine (HP.out _ HE.out).mono ?_
      rintro e w3 ⟨V, rfl, hV, hb3⟩
      obtain ⟨Av, capv, rfl⟩ := hV.form
      have HV := Lib.hid hV
      have HE3 := Lib.hid (HE.out.keep hb3)
      have HB3 := Lib.hid (below2 HB.out hb3)
      clear hV hb3 HE HB HP
      go_wp2_with fail
      refine (HW.out _ HE3.out).mono ?_
      rintro e w4 ⟨U, rfl, hU, hb4⟩
      obtain ⟨Au, capu, rfl⟩ := hU.form
      have HI := Lib.hid (ints_same _ _ _ w4 (HV.out.keep hb4).read hU.read HLL.out)
      have HB4 := Lib.hid (below2 HB3.out hb4)
      clear hU hb4 HE3 HB3 HW HV HLL
      go_wp2_with fail
      refine HI.out.mono ?_
      rintro e w5 ⟨rfl, hb5⟩
      have HB5 := Lib.hid (below2 HB4.out hb5)
      clear hb5 HI HB4
      go_wp2_with fail
      exact ⟨⟨r + 1, by omega, by go_num, HB5⟩, by simp [intOf]; omega⟩
    · obtain rfl : r = N := by omega
      go_wp2_with fail
      refine (HNP.out _).mono ?_
      rintro e w6 ⟨V, rfl, hV, hb6⟩
      obtain ⟨Av, capv, rfl⟩ := hV.form
      rw [show (coloursL []).length = 0 from rfl]
      have HB6 := Lib.hid (below2 (below2 HB2.out HB.out) hb6)
      clear hV hb6
      go_wp2_with fail
      go_ret
      exact ⟨rfl, HB6.out⟩

end Go.Proofs.Ytbnjajhhbcnepaa
