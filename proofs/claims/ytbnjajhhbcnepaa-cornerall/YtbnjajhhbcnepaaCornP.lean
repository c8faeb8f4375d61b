/-
  What the program's functions of layer 11 do to any world: as they are to (no claim is made here).
-/
import Derived.Test.YtbnjajhhbcnepaaCnpCol
import Derived.Test.YtbnjajhhbcnepaaCnpAll
import Derived.Test.YtbnjajhhbcnepaaCorn5
import Derived.Test.YtbnjajhhbcnepaaCorn6
namespace Go.Proofs.Ytbnjajhhbcnepaa
open Go.RowKit

set_option maxRecDepth 100000 in
set_option maxHeartbeats 3200000 in
theorem pall11_any (ve : Value) (o : List (List Ed)) (w : World) (ho : EORd w ve o) (hl : o.length ≤ 8) (hin : ∀ es ∈ o, es.length ≤ 5000 ∧ ∀ s ∈ es, InD s) :
    Calls Try.prog 19 #[ve] w fun e w' => ∃ V U, e = .returned (.tuple #[V, U]) ∧ ERow w' w.heap.size V o.flatten ∧ NRow w' w.heap.size U (o.map coloursL).flatten ∧ Below w.heap.size w w' := by
  obtain ⟨A, cap, rfl, hc, -⟩ := id ho
  have hsum : ∀ r, ((o.take r).map coloursL).flatten.length ≤ 5000 * r ∧ (o.take r).flatten.length ≤ 5000 * r := by
    intro r
    induction r with
    | zero => simp
    | succ r ih =>
      by_cases hr : r < o.length
      · have hE := List.getElem?_eq_getElem hr
        have h5 := (hin _ (List.getElem_mem hr)).1
        rw [take_push o r _ hE, List.map_append, List.flatten_append, List.flatten_append, List.length_append, List.length_append]
        simp only [List.map_cons, List.map_nil, List.flatten_cons, List.flatten_nil, List.append_nil, coloursL_length]
        omega
      · rw [List.take_of_length_le (by omega)] at ih ⊢
        omega
  have hfl : o.flatten.length ≤ 100000 := by
    have h := (hsum o.length).2
    rw [List.take_of_length_le (Nat.le_refl _)] at h
    omega
  have HCC := Lib.hid (fun w h => econcat_any (.slice A o.length cap) o w h (by omega) hfl)
  have HSU := Lib.hid hsum
  have HIN := Lib.hid hin
  obtain ⟨n, hn⟩ : ∃ n : Nat, o.length = n := ⟨_, rfl⟩
  have HN := Lib.hid hn
  rw [hn] at hc hl ho HCC
  rw [hn]
  have H3 := Lib.hid ho
  clear ho hn hfl hin hsum
  go_enter Try.func19, Try.ntmps19
  go_wp2_with fail
  go_loopw [9, 4] (fun i u wr => ∃ r : Nat, r ≤ n ∧ i = .int .i64 r ∧ Hid (NRow wr w.heap.size u ((o.take r).map coloursL).flatten) ∧ Hid (Below w.heap.size w wr)) (fun i _ _ => n - (intOf i).toNat)
  case atStart => exact ⟨0, Nat.zero_le _, rfl, Lib.hid (NRow.nil _ _), Lib.hid (Below.refl _ _)⟩
  case round =>
    obtain ⟨r, hr, rfl, HR, HB⟩ := hrel
    by_cases hrn : r < n
    · have hrb : decide ((r : Int) < n) = true := by simp; omega
      obtain ⟨c, hcr⟩ : ∃ c, o[r]? = some c := ⟨_, List.getElem?_eq_getElem (by have := HN.out; omega)⟩
      obtain ⟨a, u, rfl, hal, hac, hrow⟩ := (H3.out.keep HB.out).at r c hcr
      have hci := HIN.out c (List.mem_of_getElem? hcr)
      have HTK := Lib.hid (show ((o.take (r + 1)).map coloursL).flatten = ((o.take r).map coloursL).flatten ++ coloursL c by rw [take_push o r c hcr, List.map_append, List.flatten_append]; simp)
      have HW := Lib.hid hrow
      have HCL := Lib.hid (fun w v h => pcolours_any v c w h (by omega) hci.2)
      have HLN := Lib.hid (coloursL_length c)
      obtain ⟨m, hm⟩ : ∃ m, ((o.take r).map coloursL).flatten.length = m := ⟨_, rfl⟩
      have hmb : m ≤ 40000 := by have := (HSU.out r).1; rw [hm] at this; omega
      have HM := Lib.hid hm
      obtain ⟨Au, cu, rfl⟩ := HR.out.form
      rw [hm] at HR ⊢
      obtain ⟨L, hL⟩ : ∃ L, c.length = L := ⟨_, rfl⟩
      have hLb : L ≤ 5000 := by rw [← hL]; exact hci.1
      rw [hL] at HLN
      generalize coloursL c = lc at *
      generalize ((o.take r).map coloursL).flatten = ls at *
      clear hcr hm hL hrow hci
      go_wp2_with fail
      refine (HCL.out _ _ HW.out).mono ?_
      rintro e w2 ⟨V, rfl, hV, hb⟩
      obtain ⟨A2, cap2, rfl⟩ : ∃ A2 cap2, V = .slice A2 L cap2 := by obtain ⟨A2, cap2, e⟩ := hV.form; exact ⟨A2, cap2, by rw [e, HLN.out]⟩
      have HV2 := Lib.hid hV.read
      have HR2 := Lib.hid (HR.out.below hb)
      have HB2 := Lib.hid (below2 HB.out hb)
      have hbz := HB2.out.size
      clear hV hb HR HB HW HCL hac hal
      go_wp2_with (at_builtin; refine njoin_list (by rfl) _ _ (by rfl) w.heap.size _ _ m (by rfl) HR2.out HM.out A2 L cap2 lc (by rfl) HV2.out HLN.out (by omega) hbz ?_; intro A3 cap3 w3 hown hb3)
      exact ⟨⟨r + 1, by omega, by go_num, Lib.hid (by rw [HTK.out]; exact hown), Lib.hid (HB2.out.trans hb3)⟩, by simp [intOf]; omega⟩
    · obtain rfl : r = n := by omega
      have HR' := HR.out
      rw [List.take_of_length_le (by rw [HN.out]; omega)] at HR'
      have HRR := Lib.hid HR'
      have HE := Lib.hid (H3.out.keep HB.out)
      clear HR' HR
      obtain ⟨ls, hls⟩ : ∃ ls, (o.map coloursL).flatten = ls := ⟨_, rfl⟩
      have HLS := Lib.hid hls
      rw [hls] at HRR
      obtain ⟨K, hK⟩ : ∃ K, ls.length = K := ⟨_, rfl⟩
      obtain ⟨Au, cu, rfl⟩ := HRR.out.form
      rw [hK] at HRR ⊢
      clear hls hK
      go_wp2_with fail
      refine (HCC.out _ HE.out).mono ?_
      rintro e w2 ⟨V, rfl, hV, hb⟩
      have HV2 := Lib.hid (hV.mono HB.out.size)
      have HR2 := Lib.hid (HRR.out.below hb)
      have HB2 := Lib.hid (below2 HB.out hb)
      clear hV hb
      go_wp2_with fail
      go_ret2
      exact ⟨_, _, rfl, HV2.out, by rw [HLS.out]; exact HR2.out, HB2.out⟩

/-- P11.1 to P11.3, by the program. -/
theorem cornOK : CornOK where
  is := fun a b w ha hb => pis_any a b ha hb w
  corners := pcorners_any
  colours := pcolours_any
  all := pall11_any

end Go.Proofs.Ytbnjajhhbcnepaa
