/-
  What the program's Colours of layer 11 does to any world: a contract (no claim is made here).
-/
import Derived.Test.YtbnjajhhbcnepaaCnpCor
import Derived.Test.YtbnjajhhbcnepaaCnpRep
import Derived.Test.YtbnjajhhbcnepaaCnpPcs
namespace Go.Proofs.Ytbnjajhhbcnepaa
open Go.RowKit

theorem col_none (es : List Ed) (h : (cornersL es).length = 0) : coloursL es = List.replicate es.length 7 := by
  unfold coloursL colC
  simp only [h, if_true]
  refine List.ext_getElem (by simp) (fun j h1 h2 => ?_)
  simp
theorem col_one (es : List Ed) (h : (cornersL es).length = 1) : coloursL es = (List.range es.length).map (oneC es.length ((cornersL es).getD 0 0)) := by
  unfold coloursL colC
  simp only [h, if_neg (show ¬(1 : Nat) = 0 by omega), if_true]
theorem col_many (es : List Ed) (h : 2 ≤ (cornersL es).length) : coloursL es = (List.range es.length).map fun k => colP (cornersL es).length (pieceC (cornersL es) k) := by
  unfold coloursL colC
  simp only [if_neg (show ¬(cornersL es).length = 0 by omega), if_neg (show ¬(cornersL es).length = 1 by omega)]

set_option maxRecDepth 100000 in
set_option maxHeartbeats 3200000 in
theorem pcolours_any (ve : Value) (es : List Ed) (w : World) (hv : ERd w ve es) (hl : es.length ≤ 200000) (hin : ∀ s ∈ es, InD s) :
    Calls Try.prog 17 #[ve] w fun e w' => ∃ V, e = .returned V ∧ NRow w' w.heap.size V (coloursL es) ∧ Below w.heap.size w w' := by
  obtain ⟨A, cap, he, hce, -⟩ := id hv
  subst he
  have HCO := Lib.hid (fun w h => pcorners_any (.slice A es.length cap) es w h hl hin)
  have hcl : (cornersL es).length ≤ es.length := cornersTo_len es es.length
  have H0 := Lib.hid (col_none es)
  have H1 := Lib.hid (col_one es)
  have H2 := Lib.hid (col_many es)
  have HS := Lib.hid (corners_sorted es)
  obtain ⟨n, hN⟩ : ∃ N, es.length = N := ⟨_, rfl⟩
  have HLT := Lib.hid (show ∀ c ∈ cornersL es, c < n from fun c h => by rw [← hN]; exact (mem_corners.1 h).1)
  rw [hN] at hv hl hce hcl HCO H0 H1 H2
  rw [hN]
  have HVm := Lib.hid hv
  clear hv hin hN
  go_enter Try.func17, Try.ntmps17
  go_wp2_with fail
  refine (HCO.out _ HVm.out).mono ?_
  rintro e w1 ⟨V, rfl, hV, hb⟩
  have HC1 := Lib.hid hV
  have HB1 := Lib.hid hb
  obtain ⟨Ac, capc, rfl⟩ := hV.form
  clear hV hb HVm HCO
  obtain ⟨m, hm⟩ : ∃ m, (cornersL es).length = m := ⟨_, rfl⟩
  have HML := Lib.hid hm
  rw [hm] at HC1 hcl H0 H1 H2
  rw [hm]
  generalize cornersL es = cs at *
  clear hm
  obtain rfl | rfl | h2 : m = 0 ∨ m = 1 ∨ 2 ≤ m := by omega
  · have HQ := Lib.hid (H0.out rfl)
    clear H0 H1 H2
    go_wp2_with fail
    refine (repeat_any n (by omega) _ 7 _ (by simp)).mono ?_
    rintro e w2 ⟨V, rfl, hV, hb⟩
    have HV2 := Lib.hid (hV.mono (show w.heap.size ≤ _ by have := HB1.out.size; simp; omega))
    obtain ⟨A2, cap2, rfl⟩ : ∃ A2 cap2, V = .slice A2 n cap2 := by obtain ⟨A2, cap2, e⟩ := hV.form; exact ⟨A2, cap2, by rw [e]; simp⟩
    clear hV
    have HB2 := Lib.hid (below2 (HB1.out.alloc HB1.out.size (.cells #[.int .i64 7] 3)) hb)
    clear hb HB1
    go_wp2_with fail
    go_ret
    exact ⟨_, rfl, by rw [HQ.out]; exact HV2.out, HB2.out⟩
  · have HQ := Lib.hid (H1.out rfl)
    clear H0 H1 H2
    obtain ⟨c, hc⟩ : ∃ c, cs[0]? = some c := ⟨_, List.getElem?_eq_getElem (by rw [HML.out]; omega)⟩
    have hcg : cs.getD 0 0 = c := by rw [List.getD_eq_getElem?_getD, hc]; rfl
    have hcn : c < n := HLT.out c (List.mem_of_getElem? hc)
    rw [hcg] at HQ
    obtain ⟨a, rfl, hal, a0⟩ := HC1.out.read.at 0 c hc
    rw [show a.add 0 = a from rfl] at a0
    clear hc hcg
    go_wp2_with fail
    refine (phalves_any n c (by omega) hcn _).mono ?_
    rintro e w2 ⟨V, rfl, hV, hb⟩
    have HV2 := Lib.hid (hV.mono HB1.out.size)
    obtain ⟨A2, cap2, rfl⟩ : ∃ A2 cap2, V = .slice A2 n cap2 := by obtain ⟨A2, cap2, e⟩ := hV.form; exact ⟨A2, cap2, by rw [e]; simp⟩
    clear hV
    have HB2 := Lib.hid (below2 HB1.out hb)
    clear hb HB1 a0
    go_wp2_with fail
    go_ret
    exact ⟨_, rfl, by rw [HQ.out]; exact HV2.out, HB2.out⟩
  · have HQ := Lib.hid (H2.out h2)
    clear H0 H1 H2
    have hb0 : ((m : Int) == 0) = false := by simp; omega
    have hb1 : ((m : Int) == 1) = false := by simp; omega
    go_wp2_with fail
    refine (ppieces_any n m (by omega) cs _ _ HC1.out.read HML.out h2 HS.out HLT.out).mono ?_
    rintro e w2 ⟨V, rfl, hV, hb⟩
    have HV2 := Lib.hid (hV.mono HB1.out.size)
    obtain ⟨A2, cap2, rfl⟩ : ∃ A2 cap2, V = .slice A2 n cap2 := by obtain ⟨A2, cap2, e⟩ := hV.form; exact ⟨A2, cap2, by rw [e]; simp⟩
    clear hV
    have HB2 := Lib.hid (below2 HB1.out hb)
    clear hb HB1
    go_wp2_with fail
    go_ret
    exact ⟨_, rfl, by rw [HQ.out]; exact HV2.out, HB2.out⟩

end Go.Proofs.Ytbnjajhhbcnepaa
