/-
  What the law's same of layer 4 does to any world (no claim is made here).
-/
import Derived.Test.YtgkhpnjfpahlgaaVrows
import Derived.BigQuiet
namespace Go.Proofs.Ytgkhpnjfpahlgaa
open Go.RowKit

theorem ne_of_at {α : Type} {a b : List α} {i : Nat} {x y : α} (hx : a[i]? = some x) (hy : b[i]? = some y) (h : x ≠ y) : a ≠ b := fun e => by
  subst e; rw [hx] at hy; injection hy with hy; exact h hy
theorem take_eq_push {α : Type} {a b : List α} {i : Nat} {x : α} (h : a.take i = b.take i) (hx : a[i]? = some x) (hy : b[i]? = some x) : a.take (i + 1) = b.take (i + 1) := by
  rw [take_push a i x hx, take_push b i x hy, h]

theorem keepc {W w' : World} (hb : Below W.heap.size W w') {a : Addr} {v : Value} (h : W.cell? a = some v) : w'.cell? a = some v := by rw [hb.cell (World.block_lt_of_cell? W a h)]; exact h
theorem belowDN {B : Nat} {a w : World} (h : Below B a w) (k : Nat) : Below B a (w.drewN k) := ⟨h.os, h.tape, h.output, h.size, h.block⟩
theorem One.drewN {w : World} {g : Nat} {v : Value} (h : One w g v) (k : Nat) : One (w.drewN k) g v := ⟨h.1, h.2⟩

set_option maxHeartbeats 800000 in
theorem same_any (va vb : Value) (oa ob : List (List Vtx)) (b : Bool) (hb : b = true ↔ oa = ob) (w : World) (ha : ORd w va oa) (hbb : ORd w vb ob) (hla : oa.length ≤ 1000) (hca : ∀ c ∈ oa, c.length ≤ 1000) :
    Calls Try.prog 18 #[.agg #[va], .agg #[vb]] w fun e w' => e = .returned (.bool b) ∧ Below w.heap.size w w' := by
  obtain ⟨A, cap, rfl, hc, h3⟩ := ha
  obtain ⟨B, capb, rfl, hcb, h3b⟩ := hbb
  have H3 := Lib.hid h3
  have H3b := Lib.hid h3b
  have HN := Lib.hid hca
  have HBI := Lib.hid hb
  obtain ⟨n, hn⟩ : ∃ n : Nat, oa.length = n := ⟨_, rfl⟩
  obtain ⟨m, hm⟩ : ∃ m : Nat, ob.length = m := ⟨_, rfl⟩
  have HNA := Lib.hid hn
  have HNB := Lib.hid hm
  rw [hn] at hc hla
  rw [hm] at hcb
  rw [hn, hm]
  clear h3 h3b hca hb hn hm
  by_cases hnm : n = m
  · subst hnm
    go_enter Try.func18, Try.ntmps18
    go_wp2_with fail
    have OA : One ((w.alloc (.cells #[.slice A n cap] 29)).alloc (.cells #[.slice B n capb] 29)) w.heap.size _ := (One.new _ _ rfl).alloc _
    have OB : One ((w.alloc (.cells #[.slice A n cap] 29)).alloc (.cells #[.slice B n capb] 29)) (w.heap.size + 1) _ := One.new _ _ (by simp)
    have B2 : Below w.heap.size w ((w.alloc (.cells #[.slice A n cap] 29)).alloc (.cells #[.slice B n capb] 29)) := ((Below.refl _ w).alloc (Nat.le_refl _) _).alloc (by simp) _
    generalize (w.alloc (.cells #[.slice A n cap] 29)).alloc (.cells #[.slice B n capb] 29) = w2 at *
    have B2H := Lib.hid B2
    go_loopw [17] (fun i wr => ∃ (r : Nat), r ≤ n ∧ i = .int .i64 r ∧ Hid (oa.take r = ob.take r) ∧ Hid (Below w2.heap.size w2 wr)) (fun i _ => n - (intOf i).toNat)
    case atStart => exact ⟨0, Nat.zero_le _, rfl, Lib.hid rfl, Lib.hid (Below.refl _ _)⟩
    case round =>
      obtain ⟨r, hr, rfl, HT, HW⟩ := hrel
      have BB : Hid (Below w.heap.size w wr) := Lib.hid (B2.trans (HW.out.mono B2.size))
      have OA' := OA.keep HW.out
      have OB' := OB.keep HW.out
      by_cases hrn : r < n
      · have hrb : decide ((r : Int) < n) = true := by simp; omega
        obtain ⟨a, u, rfl, hal, hac, hrow⟩ := H3.out r (by have := HNA.out; omega)
        obtain ⟨a', u', rfl, hal', hac', hrow'⟩ := H3b.out r (by have := HNB.out; omega)
        obtain ⟨A1, cap1, rfl, hcl, hd⟩ := hrow
        obtain ⟨A2, cap2, rfl, hcl', hd'⟩ := hrow'
        replace hac := (BB.out.cell (p := a.add r) (by rw [block_add]; exact hal)).trans hac
        replace hac' := (BB.out.cell (p := a'.add r) (by rw [block_add]; exact hal')).trans hac'
        obtain ⟨c, hcr⟩ : ∃ c, c = oa[r]'(by have := HNA.out; omega) := ⟨_, rfl⟩
        obtain ⟨d, hdr⟩ : ∃ d, d = ob[r]'(by have := HNB.out; omega) := ⟨_, rfl⟩
        rw [← hcr] at hac hcl hd
        rw [← hdr] at hac' hcl' hd'
        have HCR : Hid (oa[r]? = some c) := Lib.hid (by rw [hcr]; exact List.getElem?_eq_getElem _)
        have HDR : Hid (ob[r]? = some d) := Lib.hid (by rw [hdr]; exact List.getElem?_eq_getElem _)
        have hL1 : c.length ≤ 1000 := HN.out c (by rw [hcr]; exact List.getElem_mem _)
        obtain ⟨L, hL⟩ : ∃ L : Nat, c.length = L := ⟨_, rfl⟩
        obtain ⟨M, hM⟩ : ∃ M : Nat, d.length = M := ⟨_, rfl⟩
        rw [hL] at hac hcl hL1
        rw [hM] at hac' hcl'
        have HLn := Lib.hid hL
        have HMn := Lib.hid hM
        have HD := Lib.hid hd
        have HD' := Lib.hid hd'
        clear hcr hdr hd hd' hL hM OA OB B2
        obtain ⟨ca, fa⟩ := id OA'
        obtain ⟨cb, fb⟩ := id OB'
        by_cases hLM : L = M
        · subst hLM
          have hne : ((L : Int) != (L : Int)) = false := by simp
          go_wp2_with fail
          go_quiet (fail)
          have HW5 := Lib.hid (belowDN HW.out nq)
          have OA5 := OA'.drewN nq
          have OB5 := OB'.drewN nq
          have hac5 : (wr.drewN nq).cell? (a.add r) = some (.slice A1 L cap1) := hac
          have hac5' : (wr.drewN nq).cell? (a'.add r) = some (.slice A2 L cap2) := hac'
          clear BB OA' OB' hac hac' ca fa cb fb HW
          generalize wr.drewN nq = wi at *
          clear wr
          obtain ⟨ca, -⟩ := id OA5
          go_wp2_with fail
          clear ca
          go_loopw [39] (fun i wr => ∃ j : Nat, j ≤ L ∧ i = .int .i64 j ∧ Hid (c.take j = d.take j) ∧ Hid (Below wi.heap.size wi wr)) (fun i _ => L - (intOf i).toNat)
          case atStart => exact ⟨0, Nat.zero_le _, rfl, Lib.hid rfl, Lib.hid (Below.refl _ _)⟩
          case round =>
            obtain ⟨j, hj, rfl, HG, HV⟩ := hrel
            have HX : Hid (Below w2.heap.size w2 wr) := Lib.hid (HW5.out.trans (HV.out.mono HW5.out.size))
            by_cases hjL : j < L
            · have hjb : decide ((j : Int) < L) = true := by simp; omega
              have BX : Below w.heap.size w wr := B2H.out.trans (HX.out.mono B2H.out.size)
              obtain ⟨a1, rfl, ha1, x0, x1, x2⟩ := HD.out j (by have := HLn.out; omega)
              obtain ⟨a2, rfl, ha2, y0, y1, y2⟩ := HD'.out j (by have := HMn.out; omega)
              have kp : ∀ p : Addr, p.block = a1.block → wr.cell? p = w.cell? p := fun p hp => BX.cell (by rw [hp]; exact ha1)
              have kq : ∀ p : Addr, p.block = a2.block → wr.cell? p = w.cell? p := fun p hp => BX.cell (by rw [hp]; exact ha2)
              replace x0 := (kp _ (block_add _ _)).trans x0
              replace x1 := (kp _ (block_add _ _)).trans x1
              replace x2 := (kp _ (block_add _ _)).trans x2
              replace y0 := (kq _ (block_add _ _)).trans y0
              replace y1 := (kq _ (block_add _ _)).trans y1
              replace y2 := (kq _ (block_add _ _)).trans y2
              have r1 := keepc HV.out hac5
              have r2 := keepc HV.out hac5'
              obtain ⟨ca, -⟩ := OA5.keep HV.out
              obtain ⟨cb, -⟩ := OB5.keep HV.out
              obtain ⟨p, hp⟩ : ∃ p, p = c[j]'(by have := HLn.out; omega) := ⟨_, rfl⟩
              obtain ⟨q, hq⟩ : ∃ q, q = d[j]'(by have := HMn.out; omega) := ⟨_, rfl⟩
              rw [← hp] at x0 x1 x2
              rw [← hq] at y0 y1 y2
              have HPJ : Hid (c[j]? = some p) := Lib.hid (by rw [hp]; exact List.getElem?_eq_getElem _)
              have HQJ : Hid (d[j]? = some q) := Lib.hid (by rw [hq]; exact List.getElem?_eq_getElem _)
              clear hp hq kp kq BX
              obtain ⟨px, py, pon⟩ := p
              obtain ⟨qx, qy, qon⟩ := q
              simp only [] at x0 x1 x2 y0 y1 y2
              rw [add_spell _ _ _ (by omega)] at x1 x2 y1 y2
              by_cases hpq : px = qx ∧ py = qy ∧ pon = qon
              · obtain ⟨rfl, rfl, rfl⟩ := hpq
                have HG' := Lib.hid (take_eq_push HG.out HPJ.out HQJ.out)
                go_wp2_with fail
                go_quiet (fail)
                go_wp2_with fail
                exact ⟨⟨j + 1, by omega, by go_num, HG', Lib.hid (belowDN HV.out nq)⟩, by simp [intOf]; omega⟩
              · have hcd : c ≠ d := ne_of_at HPJ.out HQJ.out (fun e => hpq (by injection e with e1 e2 e3; exact ⟨e1, e2, e3⟩))
                have hF : b = false := Bool.eq_false_iff.2 fun e => ne_of_at HCR.out HDR.out hcd (HBI.out.1 e)
                subst hF
                have BF := Lib.hid (belowDN (B2H.out.trans (HX.out.mono B2H.out.size)))
                clear hcd HBI
                by_cases e1 : px = qx
                · subst e1
                  by_cases e2 : py = qy
                  · subst e2
                    have e3 : (pon == qon) = false := by simp; exact fun e => hpq ⟨rfl, rfl, e⟩
                    have e3' : ¬ pon = qon := fun e => hpq ⟨rfl, rfl, e⟩
                    clear hpq
                    go_wp2_with fail
                    go_quiet (fail)
                    go_wp2
                    go_ret
                    exact ⟨rfl, BF.out nq⟩
                  · have e3 : (py == qy) = false := by simpa using e2
                    clear hpq
                    go_wp2_with fail
                    go_quiet (fail)
                    go_wp2
                    go_ret
                    exact ⟨rfl, BF.out nq⟩
                · have e3 : (px == qx) = false := by simpa using e1
                  clear hpq
                  go_wp2_with fail
                  go_quiet (fail)
                  go_wp2
                  go_ret
                  exact ⟨rfl, BF.out nq⟩
            · obtain rfl : j = L := by omega
              have hcd : c = d := by
                have := HG.out
                rwa [List.take_of_length_le (by rw [HLn.out]; omega), List.take_of_length_le (by rw [HMn.out]; omega)] at this
              have HT' := Lib.hid (take_eq_push HT.out HCR.out (by rw [hcd]; exact HDR.out))
              clear hcd HG
              go_wp2_with fail
              exact ⟨⟨r + 1, by omega, by go_num, HT', HX⟩, by simp [intOf]; omega⟩
        · have hcd : c ≠ d := fun e => hLM (by rw [← HLn.out, ← HMn.out, e])
          have hF : b = false := Bool.eq_false_iff.2 fun e => ne_of_at HCR.out HDR.out hcd (HBI.out.1 e)
          subst hF
          have hne : ((L : Int) != (M : Int)) = true := by simp; omega
          have hne' : ((L : Int) == (M : Int)) = false := by simp; omega
          have BF := Lib.hid (belowDN BB.out)
          clear hcd HBI
          go_wp2_with fail
          go_quiet (fail)
          go_wp2
          go_ret
          exact ⟨rfl, BF.out nq⟩
      · obtain rfl : r = n := by omega
        have hT : b = true := HBI.out.2 (by
          have := HT.out
          rwa [List.take_of_length_le (by rw [HNA.out]; omega), List.take_of_length_le (by rw [HNB.out]; omega)] at this)
        subst hT
        clear HBI
        go_wp2
        go_ret
        exact ⟨rfl, BB.out⟩
  · have hF : b = false := Bool.eq_false_iff.2 fun e => hnm (by rw [← HNA.out, ← HNB.out, HBI.out.1 e])
    subst hF
    have hne : ((n : Int) != (m : Int)) = true := by simp; omega
    have hne' : ((n : Int) == (m : Int)) = false := by simp; omega
    clear HBI
    go_enter Try.func18, Try.ntmps18
    go_wp2
    go_ret
    exact ⟨rfl, ((Below.refl _ w).alloc (Nat.le_refl _) _).alloc (by simp) _⟩

end Go.Proofs.Ytgkhpnjfpahlgaa
