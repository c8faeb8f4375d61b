/-
  What the program's Same of layer 4 does to any world (no claim is made here).
-/
import Derived.Test.YtgkhpnjfpahlgaaVsame
namespace Go.Proofs.Ytgkhpnjfpahlgaa
open Go.RowKit

set_option maxHeartbeats 800000 in
theorem equal_any (u v : Value) (c d : List Vtx) (b : Bool) (hb : b = true ↔ c = d) (w : World) (hc : VRd w u c) (hd : VRd w v d) (hl : c.length ≤ 1000) :
    Calls Try.prog 30 #[u, v] w fun e w' => e = .returned (.bool b) ∧ Below w.heap.size w w' := by
  obtain ⟨A1, cap1, rfl, hcl, hd1⟩ := hc
  obtain ⟨A2, cap2, rfl, hcl', hd2⟩ := hd
  have HD := Lib.hid hd1
  have HD' := Lib.hid hd2
  have HBI := Lib.hid hb
  obtain ⟨L, hL⟩ : ∃ L : Nat, c.length = L := ⟨_, rfl⟩
  obtain ⟨M, hM⟩ : ∃ M : Nat, d.length = M := ⟨_, rfl⟩
  have HLn := Lib.hid hL
  have HMn := Lib.hid hM
  rw [hL] at hcl hl
  rw [hM] at hcl'
  rw [hL, hM]
  clear hd1 hd2 hb hL hM
  by_cases hLM : L = M
  · subst hLM
    go_enter Try.func30, Try.ntmps30
    go_wp2_with fail
    go_loopw [13] (fun i wr => ∃ j : Nat, j ≤ L ∧ i = .int .i64 j ∧ Hid (c.take j = d.take j) ∧ Hid (Below w.heap.size w wr)) (fun i _ => L - (intOf i).toNat)
    case atStart => exact ⟨0, Nat.zero_le _, rfl, Lib.hid rfl, Lib.hid (Below.refl _ _)⟩
    case round =>
      obtain ⟨j, hj, rfl, HG, HV⟩ := hrel
      by_cases hjL : j < L
      · have hjb : decide ((j : Int) < L) = true := by simp; omega
        have BX := HV.out
        obtain ⟨a1, rfl, ha1, x0, x1, x2⟩ := HD.out j (by have := HLn.out; omega)
        obtain ⟨a2, rfl, ha2, y0, y1, y2⟩ := HD'.out j (by have := HMn.out; omega)
        have kp : ∀ p : Addr, p.block = a1.block → wr.cell? p = w.cell? p := fun p hp => BX.cell (by rw [hp]; exact ha1)
        have kq : ∀ p : Addr, p.block = a2.block → wr.cell? p = w.cell? p := fun p hp => BX.cell (by rw [hp]; exact ha2)
        replace x0 := (kp _ (block_add _ _)).trans x0
        replace x1 := (kp _ (block_add _ _)).trans x1
        replace x2 := (kp _ (block_add _ _)).trans x2
        replace y0 := (kq _ (block_add _ _)).trans y0
        replace y1 := (kq _ (block_add _ _)).trans y1
        replace y2 := (kq _ (block_add _ _)).trans y2
        obtain ⟨p, hp⟩ : ∃ p, p = c[j]'(by have := HLn.out; omega) := ⟨_, rfl⟩
        obtain ⟨q, hq⟩ : ∃ q, q = d[j]'(by have := HMn.out; omega) := ⟨_, rfl⟩
        rw [← hp] at x0 x1 x2
        rw [← hq] at y0 y1 y2
        have HPJ : Hid (c[j]? = some p) := Lib.hid (by rw [hp]; exact List.getElem?_eq_getElem _)
        have HQJ : Hid (d[j]? = some q) := Lib.hid (by rw [hq]; exact List.getElem?_eq_getElem _)
        clear hp hq kp kq BX
        obtain ⟨px, py, pon⟩ := p
        obtain ⟨qx, qy, qon⟩ := q
        simp only [] at x0 x1 x2 y0 y1 y2
        rw [add_spell _ _ _ (by omega)] at x1 x2 y1 y2
        by_cases hpq : px = qx ∧ py = qy ∧ pon = qon
        · obtain ⟨rfl, rfl, rfl⟩ := hpq
          have HG' := Lib.hid (take_eq_push HG.out HPJ.out HQJ.out)
          go_wp2_with fail
          go_quiet (fail)
          go_wp2_with fail
          exact ⟨⟨j + 1, by omega, by go_num, HG', Lib.hid (belowDN HV.out nq)⟩, by simp [intOf]; omega⟩
        · have hcd : c ≠ d := ne_of_at HPJ.out HQJ.out (fun e => hpq (by injection e with e1 e2 e3; exact ⟨e1, e2, e3⟩))
          have hF : b = false := Bool.eq_false_iff.2 fun e => hcd (HBI.out.1 e)
          subst hF
          have BF := Lib.hid (belowDN HV.out)
          clear hcd HBI
          by_cases e1 : px = qx
          · subst e1
            by_cases e2 : py = qy
            · subst e2
              have e3 : (pon == qon) = false := by simp; exact fun e => hpq ⟨rfl, rfl, e⟩
              have e3' : ¬ pon = qon := fun e => hpq ⟨rfl, rfl, e⟩
              clear hpq
              go_wp2_with fail
              go_quiet (fail)
              go_wp2
              go_ret
              exact ⟨rfl, BF.out nq⟩
            · have e3 : (py == qy) = false := by simpa using e2
              clear hpq
              go_wp2_with fail
              go_quiet (fail)
              go_wp2
              go_ret
              exact ⟨rfl, BF.out nq⟩
          · have e3 : (px == qx) = false := by simpa using e1
            clear hpq
            go_wp2_with fail
            go_quiet (fail)
            go_wp2
            go_ret
            exact ⟨rfl, BF.out nq⟩
      · obtain rfl : j = L := by omega
        have hcd : c = d := by
          have := HG.out
          rwa [List.take_of_length_le (by rw [HLn.out]; omega), List.take_of_length_le (by rw [HMn.out]; omega)] at this
        have hT : b = true := HBI.out.2 hcd
        subst hT
        clear hcd HBI
        go_wp2
        go_ret
        exact ⟨rfl, HV.out⟩
  · have hF : b = false := Bool.eq_false_iff.2 fun e => hLM (by rw [← HLn.out, ← HMn.out, HBI.out.1 e])
    subst hF
    have hne : ((L : Int) != (M : Int)) = true := by simp; omega
    have hne' : ((L : Int) == (M : Int)) = false := by simp; omega
    clear HBI
    go_enter Try.func30, Try.ntmps30
    go_wp2
    go_ret
    exact ⟨rfl, Below.refl _ w⟩

set_option maxHeartbeats 800000 in
theorem equalFunc_any (va vb : Value) (oa ob : List (List Vtx)) (b : Bool) (hb : b = true ↔ oa = ob) (w : World) (ha : ORd w va oa) (hbb : ORd w vb ob) (hla : oa.length ≤ 1000) (hca : ∀ c ∈ oa, c.length ≤ 1000) :
    Calls Try.prog 29 #[va, vb, .func (.func 30) #[] #[]] w fun e w' => e = .returned (.bool b) ∧ Below w.heap.size w w' := by
  obtain ⟨A, cap, rfl, hc, h3⟩ := ha
  obtain ⟨B, capb, rfl, hcb, h3b⟩ := hbb
  have H3 := Lib.hid h3
  have H3b := Lib.hid h3b
  have HN := Lib.hid hca
  have HBI := Lib.hid hb
  obtain ⟨n, hn⟩ : ∃ n : Nat, oa.length = n := ⟨_, rfl⟩
  obtain ⟨m, hm⟩ : ∃ m : Nat, ob.length = m := ⟨_, rfl⟩
  have HNA := Lib.hid hn
  have HNB := Lib.hid hm
  rw [hn] at hc hla
  rw [hm] at hcb
  rw [hn, hm]
  clear h3 h3b hca hb hn hm
  by_cases hnm : n = m
  · subst hnm
    go_enter Try.func29, Try.ntmps29
    go_wp2_with fail
    go_loopw [17] (fun i wr => ∃ (r : Nat), r ≤ n ∧ i = .int .i64 r ∧ Hid (oa.take r = ob.take r) ∧ Hid (Below w.heap.size w wr)) (fun i _ => n - (intOf i).toNat)
    case atStart => exact ⟨0, Nat.zero_le _, rfl, Lib.hid rfl, Lib.hid (Below.refl _ _)⟩
    case round =>
      obtain ⟨r, hr, rfl, HT, HW⟩ := hrel
      by_cases hrn : r < n
      · have hrb : decide ((r : Int) < n) = true := by simp; omega
        obtain ⟨a, u, rfl, hal, hac, hrow⟩ := H3.out r (by have := HNA.out; omega)
        obtain ⟨a', u', rfl, hal', hac', hrow'⟩ := H3b.out r (by have := HNB.out; omega)
        replace hac := (HW.out.cell (p := a.add r) (by rw [block_add]; exact hal)).trans hac
        replace hac' := (HW.out.cell (p := a'.add r) (by rw [block_add]; exact hal')).trans hac'
        obtain ⟨c, hcr⟩ : ∃ c, c = oa[r]'(by have := HNA.out; omega) := ⟨_, rfl⟩
        obtain ⟨d, hdr⟩ : ∃ d, d = ob[r]'(by have := HNB.out; omega) := ⟨_, rfl⟩
        have hlc : c.length ≤ 1000 := HN.out c (by rw [hcr]; exact List.getElem_mem _)
        rw [← hcr] at hrow
        rw [← hdr] at hrow'
        have HCR : Hid (oa[r]? = some c) := Lib.hid (by rw [hcr]; exact List.getElem?_eq_getElem _)
        have HDR : Hid (ob[r]? = some d) := Lib.hid (by rw [hdr]; exact List.getElem?_eq_getElem _)
        obtain ⟨bv, hbv⟩ : ∃ bv : Bool, bv = true ↔ c = d := ⟨@decide (c = d) (Classical.propDecidable _), by simp⟩
        have HCALL := Lib.hid (equal_any u u' c d bv hbv wr (hrow.keep HW.out) (hrow'.keep HW.out) hlc)
        have HBV := Lib.hid hbv
        clear hbv hcr hdr hlc
        obtain ⟨A1, cap1, rfl, -, -⟩ := hrow
        obtain ⟨A2, cap2, rfl, -, -⟩ := hrow'
        go_wp2_with fail
        refine HCALL.out.mono ?_
        rintro e w2 ⟨rfl, hb2⟩
        have BB : Hid (Below w.heap.size w w2) := Lib.hid (HW.out.trans (hb2.mono HW.out.size))
        cases bv with
        | false =>
          have hcd : c ≠ d := fun e => by have := HBV.out.2 e; cases this
          have hF : b = false := Bool.eq_false_iff.2 fun e => ne_of_at HCR.out HDR.out hcd (HBI.out.1 e)
          subst hF
          clear hcd HBI HBV
          go_wp2
          go_ret
          exact ⟨rfl, BB.out⟩
        | true =>
          have HT' := Lib.hid (take_eq_push HT.out HCR.out (by rw [HBV.out.1 rfl]; exact HDR.out))
          clear HBV
          go_wp2_with fail
          exact ⟨⟨r + 1, by omega, by go_num, HT', BB⟩, by simp [intOf]; omega⟩
      · obtain rfl : r = n := by omega
        have hT : b = true := HBI.out.2 (by
          have := HT.out
          rwa [List.take_of_length_le (by rw [HNA.out]; omega), List.take_of_length_le (by rw [HNB.out]; omega)] at this)
        subst hT
        clear HBI
        go_wp2
        go_ret
        exact ⟨rfl, HW.out⟩
  · have hF : b = false := Bool.eq_false_iff.2 fun e => hnm (by rw [← HNA.out, ← HNB.out, HBI.out.1 e])
    subst hF
    have hne : ((n : Int) != (m : Int)) = true := by simp; omega
    have hne' : ((n : Int) == (m : Int)) = false := by simp; omega
    clear HBI
    go_enter Try.func29, Try.ntmps29
    go_wp2
    go_ret
    exact ⟨rfl, Below.refl _ w⟩

set_option maxHeartbeats 400000 in
theorem psame_any (va vb : Value) (oa ob : List (List Vtx)) (b : Bool) (hb : b = true ↔ oa = ob) (w : World) (ha : ORd w va oa) (hbb : ORd w vb ob) (hla : oa.length ≤ 1000) (hca : ∀ c ∈ oa, c.length ≤ 1000) :
    Calls Try.prog 19 #[.agg #[va], .agg #[vb]] w fun e w' => e = .returned (.bool b) ∧ Below w.heap.size w w' := by
  have B2 : Below w.heap.size w ((w.alloc (.cells #[va] 29)).alloc (.cells #[vb] 29)) := ((Below.refl _ w).alloc (Nat.le_refl _) _).alloc (by simp) _
  have H := Lib.hid (equalFunc_any va vb oa ob b hb _ (ha.keep B2) (hbb.keep B2) hla hca)
  have HB := Lib.hid B2
  obtain ⟨A, cap, rfl, -, -⟩ := ha
  obtain ⟨A', cap', rfl, -, -⟩ := hbb
  clear B2
  go_enter Try.func19, Try.ntmps19
  go_wp2_with fail
  refine H.out.mono ?_
  rintro e w2 ⟨rfl, hb2⟩
  go_wp2
  go_ret
  exact ⟨rfl, HB.out.trans (hb2.mono HB.out.size)⟩

end Go.Proofs.Ytgkhpnjfpahlgaa
