/-
  What the program's Check of layer 4 does to any world (no claim is made here).
-/
import Derived.Test.YtgkhpnjfpahlgaaBrows
namespace Go.Proofs.Ytgkhpnjfpahlgaa
open Go.RowKit

set_option maxHeartbeats 400000 in
theorem beyond_any (dx dy : Int) (don : Bool) (w : World) : Calls Try.prog 21 #[.agg #[.int .i64 dx, .int .i64 dy, .bool don]] w fun e w' => e = .returned (.bool (badV ⟨dx, dy, don⟩)) ∧ Below w.heap.size w w' := by
  go_enter Try.func21, Try.ntmps21
  go_wp2
  all_goals
    go_ret
    refine ⟨?_, (Below.refl _ w).alloc (Nat.le_refl _) _⟩
    refine congrArg (fun b => Ending.returned (Value.bool b)) ?_
    rw [Bool.eq_iff_iff]
    simp [badV]
    omega

set_option maxHeartbeats 400000 in
theorem indexv_any (v : Value) (c : List Vtx) (w : World) (h : VRd w v c) (hl : c.length ≤ 100000) :
    Calls Try.prog 31 #[v, .func (.func 21) #[] #[]] w fun e w' => ∃ k : Int, e = .returned (.int .i64 k) ∧ (c.any badV = decide (0 ≤ k)) ∧ Below w.heap.size w w' := by
  obtain ⟨A, cap, rfl, hc, h3⟩ := h
  have HD := Lib.hid h3
  obtain ⟨L, hL⟩ : ∃ L : Nat, c.length = L := ⟨_, rfl⟩
  have HLn := Lib.hid hL
  rw [hL] at hc hl
  rw [hL]
  clear h3 hL
  go_enter Try.func31, Try.ntmps31
  go_wp2_with fail
  go_loopw [8] (fun i wr => ∃ j : Nat, j ≤ L ∧ i = .int .i64 j ∧ Hid ((c.take j).any badV = false) ∧ Hid (Below w.heap.size w wr)) (fun i _ => L - (intOf i).toNat)
  case atStart => exact ⟨0, Nat.zero_le _, rfl, Lib.hid rfl, Lib.hid (Below.refl _ _)⟩
  case round =>
    obtain ⟨j, hj, rfl, HG, HW⟩ := hrel
    by_cases hjL : j < L
    · have hjb : decide ((j : Int) < L) = true := by simp; omega
      obtain ⟨a1, rfl, ha1, x0, x1, x2⟩ := HD.out j (by have := HLn.out; omega)
      have kp : ∀ p : Addr, p.block = a1.block → wr.cell? p = w.cell? p := fun p hp => HW.out.cell (by rw [hp]; exact ha1)
      replace x0 := (kp _ (block_add _ _)).trans x0
      replace x1 := (kp _ (block_add _ _)).trans x1
      replace x2 := (kp _ (block_add _ _)).trans x2
      obtain ⟨d, hdd⟩ : ∃ d, d = c[j]'(by have := HLn.out; omega) := ⟨_, rfl⟩
      rw [← hdd] at x0 x1 x2
      have HDJ : Hid (c[j]? = some d) := Lib.hid (by rw [hdd]; exact List.getElem?_eq_getElem _)
      obtain ⟨dx, dy, don⟩ := d
      simp only [] at x0 x1 x2
      rw [add_spell _ _ _ (by omega)] at x1 x2
      clear hdd kp
      have HBD := Lib.hid (beyond_any dx dy don)
      obtain ⟨bv, hbv⟩ : ∃ bv, badV ⟨dx, dy, don⟩ = bv := ⟨_, rfl⟩
      rw [hbv] at HBD
      have HBV := Lib.hid hbv
      clear hbv
      go_wp2_with fail
      refine (HBD.out _).mono ?_
      rintro e w1 ⟨rfl, hb1⟩
      have BB : Hid (Below w.heap.size w w1) := Lib.hid (HW.out.trans (hb1.mono HW.out.size))
      cases bv with
      | true =>
        go_wp2
        go_ret
        exact ⟨_, rfl, by rw [any_bad c j _ HDJ.out HBV.out]; symm; exact decide_eq_true (by omega), BB.out⟩
      | false =>
        have HG' := Lib.hid (any_push c j _ HDJ.out HG.out HBV.out)
        go_wp2_with fail
        exact ⟨⟨j + 1, by omega, by go_num, HG', BB⟩, by simp [intOf]; omega⟩
    · obtain rfl : j = L := by omega
      have hg : c.any badV = false := by
        have hg := HG.out
        rwa [List.take_of_length_le (by rw [HLn.out]; omega)] at hg
      have HG2 := Lib.hid hg
      clear hg
      go_wp2
      go_ret
      exact ⟨_, rfl, by rw [HG2.out]; rfl, HW.out⟩

set_option maxHeartbeats 400000 in
theorem contains_any (v : Value) (c : List Vtx) (w : World) (h : VRd w v c) (hl : c.length ≤ 100000) :
    Calls Try.prog 20 #[v, .func (.func 21) #[] #[]] w fun e w' => e = .returned (.bool (c.any badV)) ∧ Below w.heap.size w w' := by
  have H := Lib.hid (indexv_any v c w h hl)
  obtain ⟨A, cap, rfl, -, -⟩ := h
  go_enter Try.func20, Try.ntmps20
  go_wp2_with fail
  refine H.out.mono ?_
  rintro e w1 ⟨k, rfl, hk, hb1⟩
  have HK := Lib.hid hk
  clear hk
  go_wp2
  go_ret
  exact ⟨by rw [HK.out]; rfl, hb1⟩

set_option maxHeartbeats 400000 in
theorem pcheck_any (v : Value) (o : List (List Vtx)) (w : World) (ho : ORd w v o) (hl : ∀ c ∈ o, c.length ≤ 1000) (hn : o.length ≤ 1000) :
    Calls Try.prog 12 #[.agg #[v]] w fun e w' => e = .returned (.int .i64 (checkS o : Nat)) ∧ Below w.heap.size w w' := by
  obtain ⟨A, cap, rfl, hc, h3⟩ := ho
  have H3 := Lib.hid h3
  have HN := Lib.hid hl
  obtain ⟨n, hnn⟩ : ∃ n : Nat, o.length = n := ⟨_, rfl⟩
  rw [hnn] at hc hn
  obtain ⟨R, hR⟩ : ∃ R : Nat, checkS o = R := ⟨_, rfl⟩
  have HR := Lib.hid hR
  have HNN := Lib.hid hnn
  rw [hnn, hR]
  clear h3 hl hR hnn
  by_cases h8 : 8 < n
  · have h8' : (8 : Int) < n := by omega
    have e : R = 3 := by rw [← HR.out]; unfold checkS; rw [HNN.out, if_pos h8]
    subst e
    go_enter Try.func12, Try.ntmps12
    go_wp2
    go_ret
    exact ⟨rfl, (Below.refl _ _).alloc (Nat.le_refl _) _⟩
  · have h8' : (n : Int) ≤ 8 := by omega
    have HC : Hid (R = checkC 0 (o.drop 0)) := Lib.hid (by rw [← HR.out]; unfold checkS; rw [HNN.out, if_neg h8]; rfl)
    go_enter Try.func12, Try.ntmps12
    have h8b : decide ((8 : Int) < n) = false := by simp; omega
    clear h8
    go_wp2_with fail
    have B1 : Below w.heap.size w (w.alloc (.cells #[.slice A n cap] 29)) := (Below.refl _ w).alloc (Nat.le_refl _) _
    generalize w.alloc (.cells #[.slice A n cap] 29) = w1 at *
    go_loopw [13, 3] (fun i l wr => ∃ (r s : Nat), r ≤ n ∧ i = .int .i64 r ∧ l = .int .i64 s ∧ s ≤ 64 ∧ Hid (R = checkC s (o.drop r)) ∧ Hid (Below w.heap.size w wr)) (fun i _ _ => n - (intOf i).toNat)
    case atStart => exact ⟨0, 0, Nat.zero_le _, rfl, rfl, by omega, HC, Lib.hid B1⟩
    case round =>
      obtain ⟨r, s, hr, rfl, rfl, hs, HS, HB⟩ := hrel
      clear B1 HC HR
      by_cases hrn : r < n
      · have hrb : decide ((r : Int) < n) = true := by simp; omega
        obtain ⟨a, u, rfl, hal, hac, hrow⟩ := H3.out r (by have := HNN.out; omega)
        obtain ⟨c, hcr⟩ : ∃ c, c = o[r]'(by have := HNN.out; omega) := ⟨_, rfl⟩
        rw [← hcr] at hrow
        have HROW := Lib.hid (hrow.keep (w' := wr) (HB.out))
        obtain ⟨A1, cap1, rfl, hcl, hd⟩ := hrow
        have hac' := (HB.out.cell (p := a.add r) (by rw [block_add]; exact hal)).trans hac
        clear hac hd
        have HCR : Hid (o[r]? = some c) := Lib.hid (by rw [hcr]; exact List.getElem?_eq_getElem _)
        have hL1 : c.length ≤ 1000 := HN.out c (by rw [hcr]; exact List.getElem_mem _)
        have HCON := Lib.hid (contains_any _ c wr HROW.out (by omega))
        obtain ⟨L, hL⟩ : ∃ L : Nat, c.length = L := ⟨_, rfl⟩
        rw [hL] at hac' hcl hL1 HCON
        have HLn := Lib.hid hL
        have hst : R = if 64 < s + L then 3 else if c = [] then 2 else if c.any badV = true then 4 else checkC (s + L) (o.drop (r + 1)) := by
          rw [HS.out, drop_push o r c HCR.out, checkC, hL]
        have HST := Lib.hid hst
        clear hst hcr hL
        by_cases h64 : 64 < s + L
        · obtain rfl : R = 3 := by rw [HST.out, if_pos h64]
          have h64' : (64 : Int) < (s : Int) + L := by omega
          go_wp2
          go_ret
          exact ⟨rfl, HB.out⟩
        · have h64' : (s : Int) + L ≤ 64 := by omega
          have h64b : decide ((64 : Int) < (s : Int) + L) = false := by simp; omega
          by_cases h0 : L = 0
          · subst h0
            obtain rfl : R = 2 := by rw [HST.out, if_neg h64, if_pos (List.eq_nil_of_length_eq_zero HLn.out)]
            go_wp2
            go_ret
            exact ⟨rfl, HB.out⟩
          · have h0' : ((L : Int) == 0) = false := by simp; omega
            obtain ⟨bv, hbv⟩ : ∃ bv, c.any badV = bv := ⟨_, rfl⟩
            rw [hbv] at HCON
            have HBV := Lib.hid hbv
            clear hbv
            go_wp2_with fail
            refine HCON.out.mono ?_
            rintro e w2 ⟨rfl, hb2⟩
            have BB : Hid (Below w.heap.size w w2) := Lib.hid (HB.out.trans (hb2.mono HB.out.size))
            cases bv with
            | true =>
              obtain rfl : R = 4 := by rw [HST.out, if_neg h64, if_neg (fun e => h0 (by rw [← HLn.out, e]; rfl)), if_pos HBV.out]
              go_wp2
              go_ret
              exact ⟨rfl, BB.out⟩
            | false =>
              have HS' : Hid (R = checkC (s + L) (o.drop (r + 1))) := Lib.hid (by
                rw [HST.out, if_neg h64, if_neg (fun e => h0 (by rw [← HLn.out, e]; rfl)), if_neg (by rw [HBV.out]; decide)])
              clear HST
              go_wp2_with fail
              exact ⟨⟨r + 1, s + L, by omega, by go_num, by go_num, by omega, HS', BB⟩, by simp [intOf]; omega⟩
      · obtain rfl : r = n := by omega
        have e0 : R = 0 := by rw [HS.out, List.drop_eq_nil_of_le (by rw [HNN.out]; omega)]; rfl
        subst e0
        go_wp2
        go_ret
        exact ⟨rfl, HB.out⟩

end Go.Proofs.Ytgkhpnjfpahlgaa
