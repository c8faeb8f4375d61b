/-
  The walk of punchcutlaw12.MsdfWhite, over what the program is to do (no claim is made here).
-/
import Derived.Test.YtnpklcmbiamocaaMsd2
import Derived.Test.YtnpklcmbiamocaaMgrd
import Derived.Test.YtnpklcmbiamocaaMsd4
namespace Go.Proofs.Ytnpklcmbiamocaa
open Go.RowKit

set_option maxRecDepth 100000 in
set_option maxHeartbeats 3200000 in
theorem msdfWhite_walk (H : CornOK) (S : SdfOK) (K : MsdfOK) (A : Option Addr) (n cap : Nat) (cs : List (List Dot)) (s0 s1 s2 s3 s4 s5 : Int) (w : World) (hcs : DotRows w A n cap cs) (hs : (0 ≤ s0 ∧ s0 ≤ 255) ∧ (0 ≤ s1 ∧ s1 ≤ 255) ∧ (0 ≤ s2 ∧ s2 ≤ 255) ∧ (0 ≤ s3 ∧ s3 ≤ 255) ∧ (0 ≤ s4 ∧ s4 ≤ 255) ∧ (0 ≤ s5 ∧ s5 ≤ 255)) :
    Calls Try.prog 7 #[.slice A n cap, .agg #[.int .u8 s0, .int .u8 s1, .int .u8 s2, .int .u8 s3, .int .u8 s4, .int .u8 s5]] w fun e w' => e = .returned (.bool true) ∧ Below w.heap.size w w' := by
  have HD := Lib.hid hcs
  have HAW := Lib.hid (fun w => awake12 H K w)
  obtain ⟨h0, h1, h2, h3, h4, h5⟩ := hs
  have HS := Lib.hid (fun w => sgrid_any s0 s1 s2 s3 s4 s5 h0 h1 h2 h3 h4 h5 w)
  have HB0 := Lib.hid ((Below.refl _ w).alloc (Nat.le_refl _) (.cells #[.int .u8 s0, .int .u8 s1, .int .u8 s2, .int .u8 s3, .int .u8 s4, .int .u8 s5] 24))
  have HK0 := Lib.hid (Blk.new w 24 [.int .u8 s0, .int .u8 s1, .int .u8 s2, .int .u8 s3, .int .u8 s4, .int .u8 s5] rfl)
  have hck : checkG (s0 - 128) (s1 - 128) (1 + s2 % 16) (1 + s3 % 10) (1 + s4 % 10) (1 + s5 % 64) = 0 := by unfold checkG; rw [if_neg (by omega), if_neg (by omega)]
  obtain ⟨u, hu⟩ : ∃ u : Nat, 1 + s3 % 10 = u := ⟨(1 + s3 % 10).toNat, by omega⟩
  obtain ⟨v, hv⟩ : ∃ v : Nat, 1 + s4 % 10 = v := ⟨(1 + s4 % 10).toNat, by omega⟩
  rw [hu, hv] at hck HS
  have bu : 1 ≤ u ∧ u ≤ 10 := by omega
  have bv : 1 ≤ v ∧ v ≤ 10 := by omega
  have bx : -128 ≤ s0 - 128 ∧ s0 - 128 ≤ 127 := by omega
  have by' : -128 ≤ s1 - 128 ∧ s1 - 128 ≤ 127 := by omega
  have bp : 1 ≤ 1 + s2 % 16 ∧ 1 + s2 % 16 ≤ 16 := by omega
  have bs : 1 ≤ 1 + s5 % 64 ∧ 1 + s5 % 64 ≤ 64 := by omega
  clear h0 h1 h2 h3 h4 h5 hu hv hcs
  generalize s0 - 128 = x at *
  generalize s1 - 128 = y at *
  generalize 1 + s2 % 16 = p at *
  generalize 1 + s5 % 64 = s at *
  go_enter Try.func7, Try.ntmps7
  go_wp2_with fail
  refine (HAW.out _).mono ?_
  rintro e w1 ⟨rfl, hb⟩
  have HK1 := Lib.hid (HK0.out.keep hb)
  have HB1 := Lib.hid (below2 HB0.out hb)
  have HC := Lib.hid (contours_any A n cap cs w1 (HD.out.keep HB1.out))
  clear hb HK0 HB0 HD HAW
  go_wp2_with fail
  refine HC.out.mono ?_
  rintro e w2 ⟨vo, rfl, hvo, hb⟩
  have HK2 := Lib.hid (HK1.out.keep hb)
  have HB2 := Lib.hid (below2 HB1.out hb)
  have HAL := Lib.hid (H.all vo (contE cs) w2 hvo.read (contE_small cs).1 (contE_small cs).2)
  clear hb HK1 HB1 hvo HC
  go_wp2_with fail
  refine HAL.out.mono ?_
  rintro e w3 ⟨V, U, rfl, hV, hU, hb⟩
  obtain ⟨f1, f2, f3, f4⟩ := cont_facts cs
  obtain ⟨es, hes⟩ : ∃ es, (contE cs).flatten = es := ⟨_, rfl⟩
  obtain ⟨l, hl⟩ : ∃ l, ((contE cs).map coloursL).flatten = l := ⟨_, rfl⟩
  rw [hes] at hV f1 f2 f3
  rw [hl] at hU f3 f4
  have HK3 := Lib.hid (HK2.out.keep hb)
  have HB3 := Lib.hid (below2 HB2.out hb)
  have HV3 := Lib.hid hV
  have hk2 : w.heap.size < w2.heap.size := HK2.out.lt
  have HL3 := Lib.hid hU
  obtain ⟨Au, capu, rfl⟩ := hV.form
  obtain ⟨Al, capl, rfl⟩ := hU.form
  obtain ⟨N, hN⟩ : ∃ N, es.length = N := ⟨_, rfl⟩
  rw [hN] at f1 f3
  unfold NRow at HL3
  rw [f3] at HL3 ⊢
  replace HL3 : Hid (NRow w3 w2.heap.size (.slice Al N capl) l) := Lib.hid (by unfold NRow; rw [f3]; exact HL3.out)
  unfold ERow at HV3
  rw [hN] at HV3 ⊢
  have HN := Lib.hid hN
  have HLN : Hid (es.length ≤ 200000) := Lib.hid (by rw [hN]; omega)
  have HLL : Hid (l.length ≤ 2000000) := Lib.hid (by rw [f3]; omega)
  have HML := Lib.hid f3
  replace HV3 : Hid (ERow w3 w2.heap.size (.slice Au N capu) es) := Lib.hid (by unfold ERow; rw [hN]; exact HV3.out)
  have HIN := Lib.hid f2
  have HLB := Lib.hid f4
  have hNb := f1
  clear hb HK2 HB2 hV hU HAL hes hl hN f1 f2 f3 f4
  go_wp2_with fail
  go_loopw [25] (fun i wr => ∃ r : Nat, r ≤ N ∧ i = .int .i64 r ∧ Hid (NRow wr w2.heap.size (.slice Al N capl) (whitesL l r)) ∧ Hid (ERow wr w2.heap.size (.slice Au N capu) es) ∧ Hid (Blk wr w.heap.size 24 [.int .u8 s0, .int .u8 s1, .int .u8 s2, .int .u8 s3, .int .u8 s4, .int .u8 s5]) ∧ Hid (Below w.heap.size w wr)) (fun i _ => N - (intOf i).toNat)
  case atStart => exact ⟨0, Nat.zero_le _, rfl, Lib.hid (by rw [whites_zero]; exact HL3.out), HV3, HK3, HB3⟩
  case round =>
    clear HL3 HV3 HK3 HB3
    obtain ⟨r, hr, rfl, HL, HV, HK, HB⟩ := hrel
    by_cases hrn : r < N
    · have hrb : decide ((r : Int) < N) = true := by simp; omega
      have hwl : (whitesL l r).length = N := by rw [whites_len l r (by rw [HML.out]; omega), HML.out]
      obtain ⟨g, rfl, hg1, hg2, ⟨x0, m0⟩, mf, hput⟩ := HL.out.put hwl r hrn
      have hL2 := hput 7
      rw [whites_set l r (by rw [HML.out]; exact hrn)] at hL2
      have HL2 := Lib.hid hL2
      have HV2 := Lib.hid (HV.out.aside (k := r) HL.out (.int .i64 7))
      have HK2 := Lib.hid (HK.out.other (k := g) r (.int .i64 7) (by omega))
      have HB2 := Lib.hid (HB.out.setCell (p := ⟨g, r, none⟩) (show w.heap.size ≤ g by omega) (.int .i64 7))
      clear hput hL2 hwl
      go_wp2_with fail
      exact ⟨⟨r + 1, hrn, by go_num, HL2, HV2, HK2, HB2⟩, by simp [intOf]; omega⟩
    · obtain rfl : r = N := by omega
      have HLw : Hid (NRd wr (.slice Al r capl) (List.replicate r 7)) := Lib.hid (by have h := HL.out; rw [← HML.out, whites_full, HML.out] at h; rw [← HML.out]; rw [← HML.out] at h; exact h.read)
      have HUw := Lib.hid HV.out.read
      clear HL HV
      have k0 := HK.out.cell 0 rfl
      have k1 := HK.out.cell 1 rfl
      have k2 := HK.out.cell 2 rfl
      have k3 := HK.out.cell 3 rfl
      have k4 := HK.out.cell 4 rfl
      have k5 := HK.out.cell 5 rfl
      have kl := HK.out.lt
      go_wp2_with fail
      refine (HS.out _).mono ?_
      rintro e w5 ⟨rfl, hb⟩
      have hal : Below w5.heap.size w5 (w5.alloc (.cells #[.int .i64 x, .int .i64 y, .int .i64 p, .int .i64 u, .int .i64 v, .int .i64 s] 35)) := (Below.refl _ _).alloc (Nat.le_refl _) _
      have HU6 := Lib.hid ((HUw.out.keep hb).keep hal)
      have HL6 := Lib.hid ((HLw.out.keep hb).keep hal)
      have HB6 := Lib.hid (below2 (below2 HB.out hb) hal)
      have HG6 := Lib.hid (Blk.new w5 35 [.int .i64 x, .int .i64 y, .int .i64 p, .int .i64 u, .int .i64 v, .int .i64 s] rfl)
      clear hb hal HK HUw HLw HB HS k0 k1 k2 k3 k4 k5 kl
      go_upto_region 9 with fail
      generalize w5.alloc (.cells #[.int .i64 x, .int .i64 y, .int .i64 p, .int .i64 u, .int .i64 v, .int .i64 s] 35) = w6 at *
      generalize w5.heap.size = G at *
      have hw7 : ∀ x ∈ List.replicate r 7, x = 7 := fun x hx => (List.mem_replicate.1 hx).2
      have HMK := Lib.hid (fun w h1 h2 => K.make (.slice Au r capu) (.slice Al r capl) es (List.replicate r 7) x y p s u v w h1 HLN.out HIN.out h2 (by rw [List.length_replicate]; omega) (fun x hx => by rw [hw7 x hx]; decide) hck)
      rw [fldC_white _ _ _ _ _ _ _ 0 _ hw7, fldC_white _ _ _ _ _ _ _ 1 _ hw7, fldC_white _ _ _ _ _ _ _ 2 _ hw7] at HMK
      have HSM := Lib.hid (fun w h => S.make (.slice Au r capu) es x y p s u v w h HLN.out HIN.out hck)
      have HLT := Lib.hid (fldN_lt es x y p s u (u * v) bs.1)
      have HLQ := Lib.hid (fldN_length es x y p s u (u * v))
      generalize fldN es x y p s u (u * v) = bb at *
      have HMG := Lib.hid (fun w T0 T1 T2 h0 h1 h2 => K.merge u v T0 T1 T2 bb bb bb w (by omega) (by omega) h0 h1 h2 HLQ.out HLQ.out HLQ.out)
      rw [medL_same] at HMG
      clear hw7 hck
      refine (HMK.out _ HU6.out HL6.out).mono ?_
      rintro e w7 ⟨T0, T1, T2, rfl, h0, h1, h2, hb⟩
      obtain ⟨A0, c0, rfl⟩ := h0.form
      obtain ⟨A1, c1, rfl⟩ := h1.form
      obtain ⟨A2, c2, rfl⟩ := h2.form
      have hr0 := h0.read HLT.out
      have hr1 := h1.read HLT.out
      have hr2 := h2.read HLT.out
      obtain ⟨L, hL⟩ : ∃ L, bb.length = L := ⟨_, rfl⟩
      have HLL2 := Lib.hid hL
      rw [hL] at hr0 hr1 hr2 ⊢
      have hal : Below w7.heap.size w7 (w7.alloc (.cells #[.int .i64 u, .int .i64 v, .slice A0 L c0, .int .i64 u, .int .i64 v, .slice A1 L c1, .int .i64 u, .int .i64 v, .slice A2 L c2] 39)) := (Below.refl _ _).alloc (Nat.le_refl _) _
      have HN8 := Lib.hid (Blk.new w7 39 [.int .i64 u, .int .i64 v, .slice A0 L c0, .int .i64 u, .int .i64 v, .slice A1 L c1, .int .i64 u, .int .i64 v, .slice A2 L c2] rfl)
      have HU8 := Lib.hid ((HU6.out.keep hb).keep hal)
      have HG8 := Lib.hid ((HG6.out.keep hb).keep hal)
      have HB8 := Lib.hid (below2 (below2 HB6.out hb) hal)
      have HD0 := Lib.hid (hr0.keep hal)
      have HD1 := Lib.hid (hr1.keep hal)
      have HD2 := Lib.hid (hr2.keep hal)
      clear h0 h1 h2 hr0 hr1 hr2 hb hal hL HU6 HL6 HG6 HB6 HMK
      go_upto_region 11 with fail
      generalize w7.alloc (.cells #[.int .i64 u, .int .i64 v, .slice A0 L c0, .int .i64 u, .int .i64 v, .slice A1 L c1, .int .i64 u, .int .i64 v, .slice A2 L c2] 39) = w8 at *
      generalize w7.heap.size = F at *
      have n0 := HN8.out.cell 0 rfl
      have n1 := HN8.out.cell 1 rfl
      have n2 := HN8.out.cell 2 rfl
      have n3 := HN8.out.cell 3 rfl
      have n4 := HN8.out.cell 4 rfl
      have n5 := HN8.out.cell 5 rfl
      have n6 := HN8.out.cell 6 rfl
      have n7 := HN8.out.cell 7 rfl
      have n8 := HN8.out.cell 8 rfl
      have nl := HN8.out.lt
      go_wp2_with fail
      refine (HMG.out _ _ _ _ HD0.out HD1.out HD2.out).mono ?_
      rintro e w9 ⟨T, rfl, h0, hb⟩
      obtain ⟨A3, c3, rfl⟩ := h0.form
      have hr0 := h0.read HLT.out
      rw [HLL2.out] at hr0 ⊢
      have hal : Below w9.heap.size w9 (w9.alloc (.cells #[.int .i64 u, .int .i64 v, .slice A3 L c3] 38)) := (Below.refl _ _).alloc (Nat.le_refl _) _
      have HM10 := Lib.hid (Blk.new w9 38 [.int .i64 u, .int .i64 v, .slice A3 L c3] rfl)
      have HU10 := Lib.hid ((HU8.out.keep hb).keep hal)
      have HG10 := Lib.hid ((HG8.out.keep hb).keep hal)
      have HN10 := Lib.hid ((HN8.out.keep hb).keep hal)
      have HB10 := Lib.hid (below2 (below2 HB8.out hb) hal)
      replace HD0 := Lib.hid ((HD0.out.keep hb).keep hal)
      replace HD2 := Lib.hid ((HD2.out.keep hb).keep hal)
      have HD3 := Lib.hid (hr0.keep hal)
      clear h0 hr0 hb hal HU8 HG8 HN8 HB8 HMG HD1 n0 n1 n2 n3 n4 n5 n6 n7 n8 nl
      go_upto_region 12 with fail
      generalize w9.alloc (.cells #[.int .i64 u, .int .i64 v, .slice A3 L c3] 38) = w10 at *
      generalize w9.heap.size = M at *
      have k0 := HG10.out.cell 0 rfl
      have k1 := HG10.out.cell 1 rfl
      have k2 := HG10.out.cell 2 rfl
      have k3 := HG10.out.cell 3 rfl
      have k4 := HG10.out.cell 4 rfl
      have k5 := HG10.out.cell 5 rfl
      have kl := HG10.out.lt
      go_wp2_with fail
      refine (HSM.out _ HU10.out).mono ?_
      rintro e w11 ⟨T, rfl, h0, hb⟩
      obtain ⟨A4, c4, rfl⟩ := h0.form
      have hr0 := h0.read HLT.out
      rw [HLL2.out] at hr0 ⊢
      have hal : Below w11.heap.size w11 (w11.alloc (.cells #[.int .i64 u, .int .i64 v, .slice A4 L c4] 38)) := (Below.refl _ _).alloc (Nat.le_refl _) _
      have HW12 := Lib.hid (Blk.new w11 38 [.int .i64 u, .int .i64 v, .slice A4 L c4] rfl)
      have HM12 := Lib.hid ((HM10.out.keep hb).keep hal)
      have HN12 := Lib.hid ((HN10.out.keep hb).keep hal)
      have HB12 := Lib.hid (below2 (below2 HB10.out hb) hal)
      replace HD0 := Lib.hid ((HD0.out.keep hb).keep hal)
      replace HD2 := Lib.hid ((HD2.out.keep hb).keep hal)
      replace HD3 := Lib.hid ((HD3.out.keep hb).keep hal)
      have HD4 := Lib.hid (hr0.keep hal)
      clear h0 hr0 hb hal HU10 HG10 HM10 HN10 HB10 HSM k0 k1 k2 k3 k4 k5 kl
      go_upto_region 13 with fail
      generalize w11.alloc (.cells #[.int .i64 u, .int .i64 v, .slice A4 L c4] 38) = w12 at *
      generalize w11.heap.size = R at *
      have m0 := HM12.out.cell 0 rfl
      have r0 := HW12.out.cell 0 rfl
      have m1 := HM12.out.cell 1 rfl
      have r1 := HW12.out.cell 1 rfl
      have m2 := HM12.out.cell 2 rfl
      have r2 := HW12.out.cell 2 rfl
      have ml := HM12.out.lt
      have rl := HW12.out.lt
      have n0 := HN12.out.cell 0 rfl
      have n1 := HN12.out.cell 1 rfl
      have n2 := HN12.out.cell 2 rfl
      have n3 := HN12.out.cell 3 rfl
      have n4 := HN12.out.cell 4 rfl
      have n5 := HN12.out.cell 5 rfl
      have n6 := HN12.out.cell 6 rfl
      have n7 := HN12.out.cell 7 rfl
      have n8 := HN12.out.cell 8 rfl
      have nl := HN12.out.lt
      go_wp2_with fail
      refine (same10_any _ _ _ _ _ _ HD3.out HD4.out).mono ?_
      rintro e w13 ⟨rfl, hb⟩
      have HM13 := Lib.hid (HM12.out.keep hb)
      have HW13 := Lib.hid (HW12.out.keep hb)
      have HN13 := Lib.hid (HN12.out.keep hb)
      have HB13 := Lib.hid (below2 HB12.out hb)
      replace HD0 := Lib.hid (HD0.out.keep hb)
      replace HD2 := Lib.hid (HD2.out.keep hb)
      replace HD4 := Lib.hid (HD4.out.keep hb)
      clear hb HM12 HW12 HN12 HB12
      clear m0 r0 m1 r1 m2 r2 ml rl n0 n1 n2 n3 n4 n5 n6 n7 n8 nl
      have m0 := HM13.out.cell 0 rfl
      have r0 := HW13.out.cell 0 rfl
      have m1 := HM13.out.cell 1 rfl
      have r1 := HW13.out.cell 1 rfl
      have m2 := HM13.out.cell 2 rfl
      have r2 := HW13.out.cell 2 rfl
      have ml := HM13.out.lt
      have rl := HW13.out.lt
      have n0 := HN13.out.cell 0 rfl
      have n1 := HN13.out.cell 1 rfl
      have n2 := HN13.out.cell 2 rfl
      have n3 := HN13.out.cell 3 rfl
      have n4 := HN13.out.cell 4 rfl
      have n5 := HN13.out.cell 5 rfl
      have n6 := HN13.out.cell 6 rfl
      have n7 := HN13.out.cell 7 rfl
      have n8 := HN13.out.cell 8 rfl
      have nl := HN13.out.lt
      go_wp2_with fail
      refine (same10_any _ _ _ _ _ _ HD0.out HD4.out).mono ?_
      rintro e w14 ⟨rfl, hb⟩
      have HM14 := Lib.hid (HM13.out.keep hb)
      have HW14 := Lib.hid (HW13.out.keep hb)
      have HN14 := Lib.hid (HN13.out.keep hb)
      have HB14 := Lib.hid (below2 HB13.out hb)
      replace HD0 := Lib.hid (HD0.out.keep hb)
      replace HD2 := Lib.hid (HD2.out.keep hb)
      replace HD4 := Lib.hid (HD4.out.keep hb)
      clear hb HM13 HW13 HN13 HB13
      clear m0 r0 m1 r1 m2 r2 ml rl n0 n1 n2 n3 n4 n5 n6 n7 n8 nl
      have m0 := HM14.out.cell 0 rfl
      have r0 := HW14.out.cell 0 rfl
      have m1 := HM14.out.cell 1 rfl
      have r1 := HW14.out.cell 1 rfl
      have m2 := HM14.out.cell 2 rfl
      have r2 := HW14.out.cell 2 rfl
      have ml := HM14.out.lt
      have rl := HW14.out.lt
      have n0 := HN14.out.cell 0 rfl
      have n1 := HN14.out.cell 1 rfl
      have n2 := HN14.out.cell 2 rfl
      have n3 := HN14.out.cell 3 rfl
      have n4 := HN14.out.cell 4 rfl
      have n5 := HN14.out.cell 5 rfl
      have n6 := HN14.out.cell 6 rfl
      have n7 := HN14.out.cell 7 rfl
      have n8 := HN14.out.cell 8 rfl
      have nl := HN14.out.lt
      go_wp2_with fail
      refine (same10_any _ _ _ _ _ _ HD2.out HD4.out).mono ?_
      rintro e w15 ⟨rfl, hb⟩
      have HB15 := Lib.hid (below2 HB14.out hb)
      clear hb
      clear m0 r0 m1 r1 m2 r2 ml rl n0 n1 n2 n3 n4 n5 n6 n7 n8 nl
      go_wp2_with fail
      go_ret
      exact ⟨rfl, HB15.out⟩
end Go.Proofs.Ytnpklcmbiamocaa
