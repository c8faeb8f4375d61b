/-
  What the law GlyfEncode does to any world (no claim is made here).
-/
import Derived.Test.YtgkhpnjfpahlgaaFew
import Derived.Test.YtgkhpnjfpahlgaaEnc1
namespace Go.Proofs.Ytgkhpnjfpahlgaa
open Go.RowKit

set_option maxRecDepth 100000 in
set_option maxHeartbeats 3200000 in
theorem glyfEncode_walk (A : Option Addr) (n cap : Nat) (cs : List (List Dot)) (A0 : Option Addr) (n0 cap0 : Nat) (o0 : List (List Vtx)) (w : World) (hcs : DotRows w A n cap cs) (h0 : ORd w (.slice A0 n0 cap0) o0) :
    Calls Try.prog 4 #[.slice A n cap, .slice A0 n0 cap0] w fun e w' => e = .returned (.bool true) ∧ Below w.heap.size w w' := by
  have HD := Lib.hid hcs
  have HCK := Lib.hid (outlineS_check cs)
  obtain ⟨oa, hoa⟩ : ∃ o, outlineS cs = o := ⟨_, rfl⟩
  rw [hoa] at HCK
  have HOA := Lib.hid hoa
  obtain ⟨A0', cap0', e, hcc, h3⟩ := h0
  simp only [Value.slice.injEq] at e
  obtain ⟨rfl, hn0, rfl⟩ := e
  have H3 := Lib.hid h3
  have HN0 := Lib.hid hn0
  rw [← hn0] at hcc
  obtain ⟨K, hK⟩ : ∃ K : Nat, K = min n0 12 := ⟨_, rfl⟩
  have hKn : K ≤ n0 := by omega
  have hK12 : K ≤ 12 := by omega
  have HFE : Hid (fewS o0 = (o0.take K).map (List.take 70)) := Lib.hid (by
    unfold fewS
    by_cases h12 : 12 ≤ o0.length
    · rw [show K = 12 by omega]
    · rw [List.take_of_length_le (by omega), List.take_of_length_le (by omega)])
  have hKI : (if (12 : Int) < (n0 : Int) then (12 : Int) else (n0 : Int)) = (K : Int) := by split <;> omega
  have hKR := fun w => run_min2 (P := Try.prog) #[3, 3] 3 _ _ _ hKI w
  clear hcs hoa h3 hn0 hK hKI
  go_enter Try.func4, Try.ntmps4
  go_wp2_with fail
  refine (awake_any _).mono ?_
  rintro e w1 ⟨rfl, hb1⟩
  have HC := Lib.hid (outline_any A n cap cs w1 (HD.out.keep hb1))
  have HB1 := Lib.hid hb1
  clear hb1
  go_wp2_with fail
  refine HC.out.mono ?_
  rintro e w2 ⟨va, rfl, hol, hb2⟩
  rw [HOA.out] at hol
  obtain ⟨na, hna⟩ : ∃ na, oa.length = na := ⟨_, rfl⟩
  obtain ⟨Aa, capa, rfl⟩ := hol.form
  rw [hna] at hol
  rw [hna]
  have HB2 := Lib.hid (HB1.out.trans (hb2.mono HB1.out.size))
  have hal : Below w2.heap.size w2 (w2.alloc (.cells #[.slice Aa na capa] 29)) := (Below.refl _ w2).alloc (Nat.le_refl _) _
  have HR2 := Lib.hid (hol.read.keep hal)
  have HO2 : Hid (One (w2.alloc (.cells #[.slice Aa na capa] 29)) w2.heap.size (.slice Aa na capa)) := Lib.hid (One.new _ _ rfl)
  have HB2a := Lib.hid (HB2.out.alloc HB2.out.size (.cells #[.slice Aa na capa] 29))
  have HE := Lib.hid (penc_ok _ oa _ HR2.out HCK.out)
  obtain ⟨L, hL⟩ : ∃ L, (encodeS oa).length = L := ⟨_, rfl⟩
  rw [hL] at HE
  obtain ⟨g2, hg2⟩ : ∃ g, w2.heap.size = g := ⟨_, rfl⟩
  rw [hg2] at HO2
  have HB2z := Lib.hid HB2.out.size
  clear hol hb2 HC HB1 HB2 hal hna hL
  go_wp2_with fail
  refine HE.out.mono ?_
  rintro e W ⟨Ab, capb, rfl, hb3, hrow⟩
  have O3 := HO2.out.keep hb3
  have HO3 := Lib.hid O3
  have HR3 := Lib.hid (HR2.out.keep hb3)
  have HB3 := Lib.hid (HB2a.out.trans (hb3.mono HB2a.out.size))
  have HBR := Lib.hid (hrow.read (encode_bytes oa HCK.out))
  obtain ⟨S, hS⟩ : ∃ S, strOf (encodeS oa) = S := ⟨_, rfl⟩
  have HST : Hid (∀ wx, Below W.heap.size W wx → (convert 34 9 (.slice Ab L capb)).run Try.prog wx = .ok (.string S) wx) := Lib.hid (fun wx hb => by rw [← hS]; exact run_strOf (HBR.out.keep hb))
  have HEN : Hid (∀ wx, Below W.heap.size W wx → Calls Try.prog 15 #[.agg #[.slice Aa na capa]] wx fun e w' => e = .returned (.string S) ∧ Below wx.heap.size wx w') := Lib.hid (fun wx hb => by rw [← hS]; exact encode_any _ oa wx (HR3.out.keep hb) HCK.out)
  obtain ⟨oc, of⟩ := O3
  have oz := HO3.out.lt
  have hcv := HST.out _ (Below.drew (Below.refl _ W))
  have HG2 : Hid (w.heap.size + 1 ≤ W.heap.size) := Lib.hid (by have h1 := HB2a.out.size; have h2 := hb3.size; have h4 := HB2z.out; simp at h2; omega)
  clear hS hb3 hrow HE HR2 HO2 HB2a hg2
  go_wp2_with fail
  go_region_held3 (fun wx => wx.cell? ⟨g2, 0, none⟩ = some (.slice Aa na capa) ∧ (convert 34 9 (.slice Ab L capb)).run Try.prog wx = .ok (.string S) wx ∧ Below W.heap.size W wx)
    (first | assumption | exact ⟨oc, HST.out _ (Below.drew (Below.refl _ _)), Below.drew (Below.refl _ _)⟩)
    (first
      | (go_at_call 15; with_reducible refine (HEN.out _ (Below.drew (Below.refl _ _))).mono ?_; rintro e w5 ⟨rfl, hb5⟩; replace hb5 := undrew hb5; have hS5 : w5.cell? ⟨g2, 0, none⟩ = some (.slice Aa na capa) ∧ (convert 34 9 (.slice Ab L capb)).run Try.prog w5 = .ok (.string S) w5 ∧ Below W.heap.size W w5 := ⟨keepc hb5 oc, HST.out _ hb5, hb5⟩))
  have HB := Lib.hid (HB3.out.trans (hb5.mono HB3.out.size))
  have hz1 : w.heap.size + 1 ≤ w5.heap.size := by
    have h1 := hb5.size
    have h2 := HG2.out
    omega
  have HT : Hid True := Lib.hid trivial
  clear hS5 hb5 oc of oz hcv HEN HST HBR HR3 HO3 HB3
  go_wp2_with fail
  go_loopw [38, 8] (fun i u wr => ∃ r : Nat, r ≤ K ∧ i = .int .i64 r ∧ Hid (FewV w wr (w.heap.size + 1) u ((o0.take r).map (List.take 70))) ∧ Hid True ∧ w.heap.size + 1 ≤ wr.heap.size ∧ Hid (Below w.heap.size w wr)) (fun i _ _ => K - (intOf i).toNat)
  case atStart => exact ⟨0, Nat.zero_le _, rfl, Lib.hid (FewV.nil _ _ _), HT, hz1, HB⟩
  case round =>
    clear HT hz1 HB
    obtain ⟨r, hr, rfl, HF, HT, hz, HB⟩ := hrel
    by_cases hrK : r < K
    · have hrb : decide ((r : Int) < K) = true := by simp; omega
      obtain ⟨a, u0, rfl, hal, hac, hrow⟩ := H3.out r (by have := HN0.out; omega)
      replace hac := (HB.out.cell (p := a.add r) (by rw [block_add]; exact hal)).trans hac
      obtain ⟨c, hcr⟩ : ∃ c, c = o0[r]'(by have := HN0.out; omega) := ⟨_, rfl⟩
      rw [← hcr] at hrow
      have HCR : Hid (o0[r]? = some c) := Lib.hid (by rw [hcr]; exact List.getElem?_eq_getElem _)
      obtain ⟨L, hL⟩ : ∃ L : Nat, c.length = L := ⟨_, rfl⟩
      obtain ⟨m, hm⟩ : ∃ m : Nat, m = min L 70 := ⟨_, rfl⟩
      have hrf : ∃ Ac capc, u0 = .slice Ac L capc ∧ L ≤ capc := by
        obtain ⟨Ac, capc, e, h1, _⟩ := hrow
        exact ⟨Ac, capc, by rw [← hL]; exact e, by omega⟩
      obtain ⟨Ac, capc, rfl, hLc⟩ := hrf
      have HV := Lib.hid (hrow.take m (by omega))
      have hmI : (if (70 : Int) < (L : Int) then (70 : Int) else (L : Int)) = (m : Int) := by split <;> omega
      have hmR := fun w => run_min2 (P := Try.prog) #[3, 3] 3 _ _ _ hmI w
      have HST := Lib.hid (fewS_step o0 r c HCR.out m (by rw [hL]; exact hm))
      have hmL : m ≤ L := by omega
      obtain ⟨us, g1, g2, g3⟩ := HF.out
      have hfl : ((o0.take r).map (List.take 70)).length = r := by rw [List.length_map, List.length_take]; have := HN0.out; omega
      rw [hfl] at g2
      have HG1 := Lib.hid g1
      have HG2 := Lib.hid g2
      have HG3 := Lib.hid g3
      have HFL := Lib.hid hfl
      have hnb : (wr.alloc (.cells #[.slice Ac m capc] 27)).heap[wr.heap.size]? = some (.cells #[.slice Ac m capc] 27 (0, 0)) := heap_alloc_new _ _
      have HNB := Lib.hid hnb
      have hne : some w.heap.size ≠ u8.ownBlock := fun e => by have := (g2.lt _ e.symm).1; omega
      have HNE := Lib.hid hne
      have huf := own_form g2
      obtain ⟨i0, hi0, hz0, hz1, hz2⟩ := infos rinfo
      clear hrow hcr hL hm hmI hnb hne g1 g2 g3 hfl HF
      obtain ⟨Au, capu, rfl⟩ := huf
      go_wp2_with (at_builtin; refine wpList_append_lies _ rfl _ _ _ (by rfl) (w.heap.size + 1) 27 i0 _ 1 24 Try.underlying22 hi0 hz0 hz1 hz2 (by rfl) (by omega) _ r _ (by rfl) (HG2.out.alloc _) ⟨wr.heap.size, 0, none⟩ 1 1 [.slice Ac m capc] (by rfl) (by rfl) (World.news_of_block HNB.out) (by simp [Value.oneCell']) (by omega) (by simp [maxLen]; omega) (by omega) (by simp; omega) (wr.heap.size + 1) (by simp) ?_; intro g cp w4 hown hgrow hat hlt)
      have FN := FewV.push (c := c.take m) HG1.out HG3.out HV.out HFL.out hown
      rw [← HST.out] at FN
      have BN := (HB.out.alloc HB.out.size (.cells #[.slice Ac m capc] 27)).grown hgrow (by have := HB.out.size; simp; omega) (fun q hq => by have := (HG2.out.lt q hq).1; omega)
      exact ⟨⟨r + 1, by omega, by go_num, Lib.hid FN, Lib.hid trivial, by have := hgrow.size; simp at this; omega, Lib.hid BN⟩, by simp [intOf]; omega⟩
    · obtain rfl : r = K := by omega
      have HFW : Hid (FewV w wr (w.heap.size + 1) u8 (fewS o0)) := Lib.hid (by rw [HFE.out]; exact HF.out)
      obtain ⟨nf, hnf⟩ : ∃ nf, (fewS o0).length = nf := ⟨_, rfl⟩
      obtain ⟨Af, capf, rfl⟩ := HFW.out.form
      rw [hnf] at HFW
      rw [hnf]
      clear HF hnf
      have RF := HFW.out.read HB.out
      have hl1 : ∀ c ∈ fewS o0, c.length ≤ 1000 := fun c hc => by have := (fewS_lens o0).2 c hc; omega
      have hl2 : (fewS o0).length ≤ 1000 := by have := (fewS_lens o0).1; omega
      have HPE := Lib.hid (pencode_any _ (fewS o0) wr RF hl1 hl2)
      have HRF := Lib.hid RF
      have HL1 := Lib.hid hl1
      have HL2 := Lib.hid hl2
      obtain ⟨C, hC⟩ : ∃ C, checkS (fewS o0) = C := ⟨_, rfl⟩
      rw [hC] at HPE
      have HC := Lib.hid hC
      clear RF hl1 hl2 hC HFW
      go_wp2_with fail
      refine HPE.out.mono ?_
      rintro e w7 ⟨u7, rfl, hb7, hrow7, hnil7⟩
      have HCC := Lib.hid (check_any _ (fewS o0) w7 (HRF.out.keep hb7) HL1.out HL2.out)
      rw [HC.out] at HCC
      have HB7 := Lib.hid (HB.out.trans (hb7.mono HB.out.size))
      have HRF7 := Lib.hid (HRF.out.keep hb7)
      have HROW := Lib.hid hrow7
      have HNIL := Lib.hid hnil7
      clear hrow7 hnil7 hb7 HRF HPE HB
      by_cases hC0 : C = 0
      · subst hC0
        have hrow := HROW.out rfl
        have HBR := Lib.hid (hrow.read (encode_bytes _ HC.out))
        obtain ⟨M, hM⟩ : ∃ M, (encodeS (fewS o0)).length = M := ⟨_, rfl⟩
        obtain ⟨Ac, capc, rfl⟩ := own_form (hrow.own hM)
        clear hrow HROW HNIL hM
        go_wp2_with fail
        refine HCC.out.mono ?_
        rintro e X ⟨rfl, hb8⟩
        have HB8 := Lib.hid (HB7.out.trans (hb8.mono HB7.out.size))
        obtain ⟨S2, hS2⟩ : ∃ S, strOf (encodeS (fewS o0)) = S := ⟨_, rfl⟩
        have HST2 : Hid (∀ wx, Below X.heap.size X wx → (convert 34 9 (.slice Ac M capc)).run Try.prog wx = .ok (.string S2) wx) := Lib.hid (fun wx hb => by rw [← hS2]; exact run_strOf ((HBR.out.keep hb8).keep hb))
        have HEN2 : Hid (∀ wx, Below X.heap.size X wx → Calls Try.prog 15 #[.agg #[.slice Af nf capf]] wx fun e w' => e = .returned (.string S2) ∧ Below wx.heap.size wx w') := Lib.hid (fun wx hb => by rw [← hS2]; exact encode_any _ (fewS o0) wx ((HRF7.out.keep hb8).keep hb) HC.out)
        clear hb8 hS2 HCC HBR HRF7 HB7
        go_wp2_with fail
        go_region_held3 (fun wx => (convert 34 9 (.slice Ac M capc)).run Try.prog wx = .ok (.string S2) wx ∧ Below X.heap.size X wx)
          (first | assumption | exact ⟨HST2.out _ (Below.drew (Below.refl _ _)), Below.drew (Below.refl _ _)⟩)
          (first
            | (go_at_call 15; with_reducible refine (HEN2.out _ (Below.drew (Below.refl _ _))).mono ?_; rintro e w9 ⟨rfl, hb9⟩; replace hb9 := undrew hb9; have hS9 : (convert 34 9 (.slice Ac M capc)).run Try.prog w9 = .ok (.string S2) w9 ∧ Below X.heap.size X w9 := ⟨HST2.out _ hb9, hb9⟩))
        have HFIN := Lib.hid (HB8.out.trans (hb9.mono HB8.out.size))
        clear hS9 hb9
        go_wp2
        go_ret
        exact ⟨rfl, HFIN.out⟩
      · have hu := HNIL.out hC0
        subst hu
        have hc' : ((C : Int) == 0) = false := by simp; omega
        have hc'' : ((C : Int) != 0) = true := by simp; omega
        clear HROW HNIL
        go_wp2_with fail
        refine HCC.out.mono ?_
        rintro e X ⟨rfl, hb8⟩
        have HB8 := Lib.hid (HB7.out.trans (hb8.mono HB7.out.size))
        go_wp2
        go_ret
        exact ⟨rfl, HB8.out⟩

end Go.Proofs.Ytgkhpnjfpahlgaa
