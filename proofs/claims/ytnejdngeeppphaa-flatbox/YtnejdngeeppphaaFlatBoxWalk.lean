/-
  What the law FlatBox does to any world (no claim is made here).
-/
import Derived.Test.YtnejdngeeppphaaFlt12
import Derived.Test.YtnejdngeeppphaaFlt13
import Derived.BigRegion
namespace Go.Proofs.Ytnejdngeeppphaa
open Go.RowKit

set_option maxRecDepth 100000 in
set_option maxHeartbeats 6400000 in
theorem flatBox_walk (A : Option Addr) (n cap : Nat) (cs : List (List Dot)) (w : World) (hcs : DotRows w A n cap cs) :
    Calls Try.prog 6 #[.slice A n cap] w fun e w' => e = .returned (.bool true) ∧ Below w.heap.size w w' := by
  have HD := Lib.hid hcs
  clear hcs
  go_enter Try.func6, Try.ntmps6
  go_wp2_with fail
  refine (awake6 _).mono ?_
  rintro e w1 ⟨rfl, hb1⟩
  have HC := Lib.hid (glyph_any A n cap cs w1 (HD.out.keep hb1))
  have HB1 := Lib.hid hb1
  clear hb1 HD
  go_wp2_with fail
  refine HC.out.mono ?_
  rintro e w2 ⟨u, es, rfl, hu, hln, hb2⟩
  have HB2 := Lib.hid (HB1.out.trans (hb2.mono HB1.out.size))
  have HU := ERow.read hu
  obtain ⟨Au, capu, e7⟩ := hu.form
  have hX := box_any u es w2 HU hln
  have HIB := Lib.hid (fun h => isBox es h)
  have hNil : es = [] → boxS es = (⟨0, 0⟩, ⟨0, 0⟩) := fun h => by rw [h]; rfl
  obtain ⟨⟨⟨l0, l1⟩, ⟨h0, h1⟩⟩, hbx⟩ : ∃ b, boxS es = b := ⟨_, rfl⟩
  rw [hbx] at hX hNil HIB
  simp only [ptA] at hX
  obtain ⟨N, hN⟩ : ∃ N, es.length = N := ⟨_, rfl⟩
  rw [hN] at e7 hln
  subst e7
  have HX := Lib.hid hX
  have HN := Lib.hid hN
  have HNI := Lib.hid hNil
  have HUU := Lib.hid HU
  have hcu : N ≤ capu := by obtain ⟨_, _, e, h, _⟩ := HU; injection e with _ _ e; omega
  clear hu hb2 HC HB1 hX hbx hN hNil HU
  go_wp2_with fail
  refine HX.out.mono ?_
  rintro e w3 ⟨rfl, hb3⟩
  have HB3 := Lib.hid (HB2.out.trans (hb3.mono HB2.out.size))
  have HU3 := Lib.hid (HUU.out.keep hb3)
  clear hb3 HX HB2 HUU
  have HL4 := Lib.hid ((Blk.new w3 23 [.int .i64 l0, .int .i64 l1] rfl).alloc (.cells #[.int .i64 h0, .int .i64 h1] 23))
  have HH4 := Lib.hid (Blk.new (w3.alloc (.cells #[.int .i64 l0, .int .i64 l1] 23)) 23 [.int .i64 h0, .int .i64 h1] (g := w3.heap.size + 1) (by simp))
  have HB4 := Lib.hid ((HB3.out.alloc HB3.out.size (.cells #[.int .i64 l0, .int .i64 l1] 23)).alloc (Nat.le_trans HB3.out.size (by simp)) (.cells #[.int .i64 h0, .int .i64 h1] 23))
  have HU4 := Lib.hid (HU3.out.keep (below_a2 w3 (.cells #[.int .i64 l0, .int .i64 l1] 23) (.cells #[.int .i64 h0, .int .i64 h1] 23)))
  by_cases hN0 : N = 0
  · subst hN0
    have he := HNI.out (List.eq_nil_of_length_eq_zero HN.out)
    injection he with he1 he2
    injection he1 with he3 he4
    injection he2 with he5 he6
    subst he3 he4 he5 he6
    go_wp2_with fail
    go_ret
    exact ⟨rfl, HB4.out⟩
  · have hNI : ¬ (N : Int) = 0 := by omega
    have hNz : ((N : Int) == 0) = false := by simp; omega
    have hBX := HIB.out (by intro e; rw [e] at HN; exact hN0 HN.out.symm)
    have HBX := Lib.hid hBX
    clear hBX HIB HNI HU3 HB3
    go_wp2_with fail
    obtain ⟨w4, hw4⟩ : ∃ x, x = (w3.alloc (.cells #[.int .i64 l0, .int .i64 l1] 23)).alloc (.cells #[.int .i64 h0, .int .i64 h1] 23) := ⟨_, rfl⟩
    rw [← hw4] at HL4 HH4 HB4 HU4 ⊢
    obtain ⟨gl, hgl⟩ : ∃ x, x = w3.heap.size := ⟨_, rfl⟩
    rw [← hgl] at HL4 HH4 ⊢
    clear hw4 hgl
    obtain ⟨gh, hgh⟩ : ∃ x, x = gl + 1 := ⟨_, rfl⟩
    rw [← hgh] at HH4 ⊢
    clear hgh
    go_loopw [36, 6, 7, 8, 9] (fun i f1 f2 f3 f4 wr => ∃ (r : Nat) (c1 c2 c3 c4 : Bool), r ≤ N ∧ i = .int .i64 r ∧ f1 = .bool c1 ∧ f2 = .bool c2 ∧ f3 = .bool c3 ∧ f4 = .bool c4 ∧ Hid ((endsS (es.take r)).any (fun p => p.x == l0) = c1) ∧ Hid ((endsS (es.take r)).any (fun p => p.x == h0) = c2) ∧ Hid ((endsS (es.take r)).any (fun p => p.y == l1) = c3) ∧ Hid ((endsS (es.take r)).any (fun p => p.y == h1) = c4) ∧ Hid (Below w4.heap.size w4 wr)) (fun i _ _ _ _ _ => N - (intOf i).toNat)
    case atStart => exact ⟨0, false, false, false, false, Nat.zero_le _, rfl, rfl, rfl, rfl, rfl, Lib.hid rfl, Lib.hid rfl, Lib.hid rfl, Lib.hid rfl, Lib.hid (Below.refl _ _)⟩
    case round =>
      obtain ⟨r, c1, c2, c3, c4, hr, rfl, rfl, rfl, rfl, rfl, HC1, HC2, HC3, HC4, HW⟩ := hrel
      by_cases hrN : r < N
      · have hrb : decide ((r : Int) < N) = true := by simp; omega
        obtain ⟨e, he⟩ : ∃ e, es[r]? = some e := ⟨_, List.getElem?_eq_getElem (by rw [HN.out]; exact hrN)⟩
        obtain ⟨a, rfl, ha, x0, x1, x2, x3⟩ := (HU4.out.keep HW.out).at r e he
        have HPS := Lib.hid (ends_push he)
        have HIN : Hid (∀ p ∈ [e.a, e.b], l0 ≤ p.x ∧ p.x ≤ h0 ∧ l1 ≤ p.y ∧ p.y ≤ h1) := Lib.hid (fun p hp => HBX.out.inn p (mem_ends.2 ⟨e, List.mem_of_getElem? he, by simpa using hp⟩))
        obtain ⟨⟨e0, e1⟩, ⟨e2, e3⟩⟩ := e
        simp only [] at x0 x1 x2 x3
        simp only [] at HPS HIN
        have HQ := Lib.hid (Blk.new (wr.alloc (.cells #[.int .i64 e0, .int .i64 e1, .int .i64 e2, .int .i64 e3] 44)) 23 [.int .i64 e0, .int .i64 e1, .int .i64 e2, .int .i64 e3] (g := wr.heap.size + 1) (by simp))
        have HWq := Lib.hid ((HW.out.alloc HW.out.size (.cells #[.int .i64 e0, .int .i64 e1, .int .i64 e2, .int .i64 e3] 44)).alloc (Nat.le_trans HW.out.size (by simp)) (.cells #[.int .i64 e0, .int .i64 e1, .int .i64 e2, .int .i64 e3] 23))
        clear he
        go_wp2_with fail
        obtain ⟨wq, hwq⟩ : ∃ x, x = (wr.alloc (.cells #[.int .i64 e0, .int .i64 e1, .int .i64 e2, .int .i64 e3] 44)).alloc (.cells #[.int .i64 e0, .int .i64 e1, .int .i64 e2, .int .i64 e3] 23) := ⟨_, rfl⟩
        obtain ⟨gq, hgq⟩ : ∃ x, x = wr.heap.size + 1 := ⟨_, rfl⟩
        rw [← hwq, ← hgq] at HQ
        rw [← hwq] at HWq
        rw [← hwq, ← hgq]
        obtain ⟨pts, hpts⟩ : ∃ pts : List Pt, [⟨e0, e1⟩, ⟨e2, e3⟩] = pts := ⟨_, rfl⟩
        have HQP : Hid (Blk wq gq 23 (pcells pts)) := Lib.hid (by rw [← hpts]; exact HQ.out)
        rw [hpts] at HPS HIN
        have HPL : Hid (pts.length = 2) := Lib.hid (by rw [← hpts]; rfl)
        have HD1 : Hid ((endsS (es.take r) ++ pts.take 0).any (fun p => p.x == l0) = c1) := Lib.hid (by rw [List.take_zero, List.append_nil]; exact HC1.out)
        have HD2 : Hid ((endsS (es.take r) ++ pts.take 0).any (fun p => p.x == h0) = c2) := Lib.hid (by rw [List.take_zero, List.append_nil]; exact HC2.out)
        have HD3 : Hid ((endsS (es.take r) ++ pts.take 0).any (fun p => p.y == l1) = c3) := Lib.hid (by rw [List.take_zero, List.append_nil]; exact HC3.out)
        have HD4 : Hid ((endsS (es.take r) ++ pts.take 0).any (fun p => p.y == h1) = c4) := Lib.hid (by rw [List.take_zero, List.append_nil]; exact HC4.out)
        clear hpts hwq hgq HQ x0 x1 x2 x3 ha HW
        go_loopw [46, 6, 7, 8, 9] (fun i f1 f2 f3 f4 wr => ∃ (j : Nat) (c1 c2 c3 c4 : Bool), j ≤ 2 ∧ i = .int .i64 j ∧ f1 = .bool c1 ∧ f2 = .bool c2 ∧ f3 = .bool c3 ∧ f4 = .bool c4 ∧ Hid ((endsS (es.take r) ++ pts.take j).any (fun p => p.x == l0) = c1) ∧ Hid ((endsS (es.take r) ++ pts.take j).any (fun p => p.x == h0) = c2) ∧ Hid ((endsS (es.take r) ++ pts.take j).any (fun p => p.y == l1) = c3) ∧ Hid ((endsS (es.take r) ++ pts.take j).any (fun p => p.y == h1) = c4) ∧ Hid (Below wq.heap.size wq wr)) (fun i _ _ _ _ _ => 2 - (intOf i).toNat)
        case atStart => exact ⟨0, c1, c2, c3, c4, Nat.zero_le _, rfl, rfl, rfl, rfl, rfl, HD1, HD2, HD3, HD4, Lib.hid (Below.refl _ _)⟩
        case round =>
          obtain ⟨j, b1, b2, b3, b4, hj, rfl, rfl, rfl, rfl, rfl, HF1, HF2, HF3, HF4, HV⟩ := hrel
          clear HC1 HC2 HC3 HC4 HD1 HD2 HD3 HD4
          by_cases hj2 : j < 2
          · have hjb : decide ((j : Int) < 2) = true := by simp; omega
            have hjI : (j : Int) < 2 := by omega
            obtain ⟨p, hp⟩ : ∃ p, pts[j]? = some p := ⟨_, List.getElem?_eq_getElem (by rw [HPL.out]; omega)⟩
            have K := HQP.out.keep HV.out
            have q0 := K.cell (j * 2) (pcells_at pts j 0 p hp (by omega))
            have q1 := K.cell (j * 2 + 1) (pcells_at pts j 1 p hp (by omega))
            have qz := K.lt
            have BW := HWq.out.trans (HV.out.mono HWq.out.size)
            have M1 := HL4.out.keep BW
            have M2 := HH4.out.keep BW
            have m0 := M1.cell 0 rfl
            have m1 := M1.cell 1 rfl
            have m2 := M2.cell 0 rfl
            have m3 := M2.cell 1 rfl
            have mz1 := M1.lt
            have mz2 := M2.lt
            obtain ⟨i1, i2, i3, i4⟩ := HIN.out p (List.mem_of_getElem? hp)
            have HA1 := Lib.hid (any_next (fun p => p.x == l0) (endsS (es.take r)) pts j p hp)
            have HA2 := Lib.hid (any_next (fun p => p.x == h0) (endsS (es.take r)) pts j p hp)
            have HA3 := Lib.hid (any_next (fun p => p.y == l1) (endsS (es.take r)) pts j p hp)
            have HA4 := Lib.hid (any_next (fun p => p.y == h1) (endsS (es.take r)) pts j p hp)
            obtain ⟨p0, p1⟩ := p
            simp only [] at q0 q1 i1 i2 i3 i4
            simp only [] at HA1 HA2 HA3 HA4
            rw [HF1.out] at HA1
            rw [HF2.out] at HA2
            rw [HF3.out] at HA3
            rw [HF4.out] at HA4
            have HV2 := Lib.hid (HV.out.alloc HV.out.size (.cells #[.int .i64 p0, .int .i64 p1] 23))
            clear hp K BW M1 M2 HF1 HF2 HF3 HF4
            go_wp2_with fail
            cases b1 <;> cases b2 <;> cases b3 <;> cases b4
            all_goals
              go_quiet (fail)
              have HV3 := Lib.hid (belowDN HV2.out nq)
              clear q0 q1 m0 m1 m2 m3 qz mz1 mz2
              go_wp2_with fail
              exact ⟨⟨j + 1, _, _, _, _, by omega, by go_num, rfl, rfl, rfl, rfl, Lib.hid (HA1.out.trans rfl), Lib.hid (HA2.out.trans rfl), Lib.hid (HA3.out.trans rfl), Lib.hid (HA4.out.trans rfl), HV3⟩, by simp [intOf]; omega⟩
          · obtain rfl : j = 2 := by omega
            rw [List.take_of_length_le (l := pts) (by rw [HPL.out]; exact Nat.le_refl _)] at HF1 HF2 HF3 HF4
            rw [← HPS.out] at HF1 HF2 HF3 HF4
            have HW2 := Lib.hid (HWq.out.trans (HV.out.mono HWq.out.size))
            go_wp2_with fail
            exact ⟨⟨r + 1, b1, b2, b3, b4, by omega, by go_num, rfl, rfl, rfl, rfl, HF1, HF2, HF3, HF4, HW2⟩, by simp [intOf]; omega⟩
      · obtain rfl : r = N := by omega
        rw [List.take_of_length_le (by rw [HN.out]; exact Nat.le_refl _)] at HC1 HC2 HC3 HC4
        obtain rfl : c1 = true := HC1.out.symm.trans HBX.out.left
        obtain rfl : c2 = true := HC2.out.symm.trans HBX.out.right
        obtain rfl : c3 = true := HC3.out.symm.trans HBX.out.low
        obtain rfl : c4 = true := HC4.out.symm.trans HBX.out.high
        have HF := Lib.hid (HB4.out.trans (HW.out.mono HB4.out.size))
        clear HC1 HC2 HC3 HC4
        go_wp2_with fail
        go_ret
        exact ⟨rfl, HF.out⟩

end Go.Proofs.Ytnejdngeeppphaa
