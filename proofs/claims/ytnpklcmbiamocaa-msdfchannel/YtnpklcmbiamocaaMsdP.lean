/-
  What the program's Make of layer 12 does to any world, and all four contracts as one (no claim is made here).
-/
import Derived.Test.YtnpklcmbiamocaaMsdPb
import Derived.Test.YtnpklcmbiamocaaMsdPc
import Derived.Test.YtnpklcmbiamocaaMsd2
import Derived.Test.YtnpklcmbiamocaaMcnp
namespace Go.Proofs.Ytnpklcmbiamocaa
open Go.RowKit

/-- The three fields, of which r are there. -/
def mk3 (r u v : Nat) (T0 T1 T2 : Value) : List Value := match r with
  | 0 => [.int .i64 0, .int .i64 0, .slice none 0 0, .int .i64 0, .int .i64 0, .slice none 0 0, .int .i64 0, .int .i64 0, .slice none 0 0]
  | 1 => [.int .i64 u, .int .i64 v, T0, .int .i64 0, .int .i64 0, .slice none 0 0, .int .i64 0, .int .i64 0, .slice none 0 0]
  | 2 => [.int .i64 u, .int .i64 v, T0, .int .i64 u, .int .i64 v, T1, .int .i64 0, .int .i64 0, .slice none 0 0]
  | _ => [.int .i64 u, .int .i64 v, T0, .int .i64 u, .int .i64 v, T1, .int .i64 u, .int .i64 v, T2]

set_option maxRecDepth 100000 in
set_option maxHeartbeats 3200000 in
theorem pmake12_any (ve vl : Value) (es : List Ed) (l : List Nat) (x y p s : Int) (u v : Nat) (w : World) (hv : ERd w ve es) (hl : es.length ≤ 200000) (hin : ∀ s ∈ es, InD s) (hvl : NRd w vl l) (hll : l.length ≤ 2000000) (hlb : ∀ x ∈ l, x < 16) (hg : checkG x y p u v s = 0) :
    Calls Try.prog 14 #[ve, vl, .agg #[.int .i64 x, .int .i64 y, .int .i64 p, .int .i64 u, .int .i64 v, .int .i64 s]] w fun e w' => ∃ T0 T1 T2, e = .returned (.tuple #[.agg #[.int .i64 u, .int .i64 v, T0, .int .i64 u, .int .i64 v, T1, .int .i64 u, .int .i64 v, T2], .int .i64 0]) ∧
      BRow w' w.heap.size T0 (fldC es l x y p s u 0 (u * v)) ∧ BRow w' w.heap.size T1 (fldC es l x y p s u 1 (u * v)) ∧ BRow w' w.heap.size T2 (fldC es l x y p s u 2 (u * v)) ∧ Below w.heap.size w w' := by
  have HV := Lib.hid hv
  have HL := Lib.hid hvl
  have HFD := Lib.hid (fun w c h1 h2 hc => pfield_any ve vl es l x y p s u v c w h1 hl hin h2 hll hlb hg hc)
  have HCK := Lib.hid (fun w => gcheck_any x y p u v s w)
  rw [hg] at HCK
  obtain ⟨Ae, cape, rfl, hce, -⟩ := id hv
  obtain ⟨Al, capl, rfl, hcl, -⟩ := id hvl
  obtain ⟨N, hN⟩ : ∃ N, es.length = N := ⟨_, rfl⟩
  obtain ⟨NL, hNL⟩ : ∃ N, l.length = N := ⟨_, rfl⟩
  rw [hN] at HV HFD
  rw [hNL] at HL HFD
  rw [hN, hNL]
  clear hN hNL hv hvl hin hlb hg hce hcl hl hll
  obtain ⟨R, hR⟩ : ∃ R : Nat → List Nat, (fun c => fldC es l x y p s u c (u * v)) = R := ⟨_, rfl⟩
  have HRC := Lib.hid (fun c => congrFun hR c)
  rw [HRC.out 0, HRC.out 1, HRC.out 2]
  replace HFD := Lib.hid (fun w c h1 h2 hc => by have h := HFD.out w c h1 h2 hc; rw [HRC.out c] at h; exact h)
  clear hR HRC
  go_enter Try.func14, Try.ntmps14
  have HB0 := Lib.hid (alloc2 w (.cells #[.int .i64 x, .int .i64 y, .int .i64 p, .int .i64 u, .int .i64 v, .int .i64 s] 35) (.cells #[.int .i64 0, .int .i64 0, .slice none 0 0, .int .i64 0, .int .i64 0, .slice none 0 0, .int .i64 0, .int .i64 0, .slice none 0 0] 39))
  have HG0 := Lib.hid ((Blk.new w 35 [.int .i64 x, .int .i64 y, .int .i64 p, .int .i64 u, .int .i64 v, .int .i64 s] rfl).alloc (.cells #[.int .i64 0, .int .i64 0, .slice none 0 0, .int .i64 0, .int .i64 0, .slice none 0 0, .int .i64 0, .int .i64 0, .slice none 0 0] 39))
  have HR0 := Lib.hid (Blk.new (w.alloc (.cells #[.int .i64 x, .int .i64 y, .int .i64 p, .int .i64 u, .int .i64 v, .int .i64 s] 35)) 39 [.int .i64 0, .int .i64 0, .slice none 0 0, .int .i64 0, .int .i64 0, .slice none 0 0, .int .i64 0, .int .i64 0, .slice none 0 0] (g := w.heap.size + 1) (by simp))
  go_wp2_with fail
  refine (HCK.out _).mono ?_
  rintro e w1 ⟨rfl, hb⟩
  have hal : Below w1.heap.size w1 (w1.alloc (.cells #[.int .i64 0, .int .i64 0, .slice none 0 0, .int .i64 0, .int .i64 0, .slice none 0 0, .int .i64 0, .int .i64 0, .slice none 0 0] 39)) := (Below.refl _ _).alloc (Nat.le_refl _) _
  have HB1 := Lib.hid (below2 (below2 HB0.out hb) hal)
  have HG1 := Lib.hid ((HG0.out.keep hb).keep hal)
  have HR1 := Lib.hid ((HR0.out.keep hb).keep hal)
  have HF1 := Lib.hid (Blk.new w1 39 [.int .i64 0, .int .i64 0, .slice none 0 0, .int .i64 0, .int .i64 0, .slice none 0 0, .int .i64 0, .int .i64 0, .slice none 0 0] rfl)
  have HSZ : Hid (w.heap.size + 1 < w1.heap.size) := Lib.hid (HR0.out.keep hb).lt
  clear hb hal HB0 HG0 HR0 HCK
  go_wp2_with fail
  generalize w1.alloc (.cells #[.int .i64 0, .int .i64 0, .slice none 0 0, .int .i64 0, .int .i64 0, .slice none 0 0, .int .i64 0, .int .i64 0, .slice none 0 0] 39) = w2 at *
  generalize w1.heap.size = F at *
  go_loopw [17] (fun i wr => ∃ (r : Nat) (T0 T1 T2 : Value), r ≤ 3 ∧ i = .int .i64 r ∧ Hid (Blk wr F 39 (mk3 r u v T0 T1 T2)) ∧ Hid ((1 ≤ r → BRow wr (F + 1) T0 (R 0)) ∧ (2 ≤ r → BRow wr (F + 1) T1 (R 1)) ∧ (3 ≤ r → BRow wr (F + 1) T2 (R 2))) ∧ Hid (Below F w2 wr)) (fun i _ => 3 - (intOf i).toNat)
  case atStart => exact ⟨0, undef, undef, undef, Nat.zero_le _, rfl, HF1, Lib.hid ⟨fun h => by omega, fun h => by omega, fun h => by omega⟩, Lib.hid (Below.refl _ _)⟩
  case round =>
    clear HF1
    obtain ⟨r, T0, T1, T2, hr, rfl, HM, HT, HW⟩ := hrel
    obtain rfl | rfl | rfl | rfl : r = 0 ∨ r = 1 ∨ r = 2 ∨ r = 3 := by omega
    · replace HM : Hid (Blk wr F 39 [.int .i64 0, .int .i64 0, .slice none 0 0, .int .i64 0, .int .i64 0, .slice none 0 0, .int .i64 0, .int .i64 0, .slice none 0 0]) := HM
      have HGr := Lib.hid (HG1.out.heap (HW.out.block _ (show w.heap.size < F by have := HSZ.out; omega)))
      have HBr := Lib.hid (HB1.out.trans (HW.out.mono (by have := HSZ.out; omega)))
      have HFr := Lib.hid (HFD.out wr 0 (HV.out.keep HBr.out) (HL.out.keep HBr.out) (by decide))
      have hFl := HM.out.lt
      have g0 := HGr.out.cell 0 rfl
      have g1 := HGr.out.cell 1 rfl
      have g2 := HGr.out.cell 2 rfl
      have g3 := HGr.out.cell 3 rfl
      have g4 := HGr.out.cell 4 rfl
      have g5 := HGr.out.cell 5 rfl
      have gl := HGr.out.lt
      go_wp2_with fail
      refine HFr.out.mono ?_
      rintro e wn ⟨T0, rfl, hrow, hbn⟩
      obtain ⟨Ax, capx, rfl⟩ := hrow.form
      obtain ⟨nx, hnx⟩ : ∃ nx, (R 0).length = nx := ⟨_, rfl⟩
      rw [hnx] at hrow ⊢
      have HM2 := Lib.hid (HM.out.keep hbn)
      have m0 := HM2.out.cell 0 rfl
      have m1 := HM2.out.cell 1 rfl
      have m2 := HM2.out.cell 2 rfl
      have mf := HM2.out.frozen
      have ml := HM2.out.lt
      have HM3 := Lib.hid (((HM2.out.set 0 (.int .i64 u)).set 1 (.int .i64 v)).set 2 (.slice Ax nx capx))
      have hrow2 : BRow wn (F + 1) (.slice Ax nx capx) (R 0) := hrow.mono (by omega)
      have HT0 := Lib.hid (((hrow2.set (p := ⟨F, 0, none⟩) (Nat.lt_succ_self F) (.int .i64 u)).set (p := ⟨F, 1, none⟩) (Nat.lt_succ_self F) (.int .i64 v)).set (p := ⟨F, 2, none⟩) (Nat.lt_succ_self F) (.slice Ax nx capx))
      have HW2 := Lib.hid ((((HW.out.trans (hbn.mono (Nat.le_of_lt hFl))).setCell (p := ⟨F, 0, none⟩) (Nat.le_refl F) (.int .i64 u)).setCell (p := ⟨F, 1, none⟩) (Nat.le_refl F) (.int .i64 v)).setCell (p := ⟨F, 2, none⟩) (Nat.le_refl F) (.slice Ax nx capx))
      clear hrow hrow2 hnx hbn HM HGr HBr HFr HW HT g0 g1 g2 g3 g4 g5 gl hFl
      go_wp2_with fail
      exact ⟨⟨1, .slice Ax nx capx, undef, undef, by decide, by go_num, HM3, Lib.hid ⟨fun _ => HT0.out, fun h => by omega, fun h => by omega⟩, HW2⟩, by simp [intOf]⟩
    · replace HM : Hid (Blk wr F 39 [.int .i64 u, .int .i64 v, T0, .int .i64 0, .int .i64 0, .slice none 0 0, .int .i64 0, .int .i64 0, .slice none 0 0]) := HM
      have HGr := Lib.hid (HG1.out.heap (HW.out.block _ (show w.heap.size < F by have := HSZ.out; omega)))
      have HBr := Lib.hid (HB1.out.trans (HW.out.mono (by have := HSZ.out; omega)))
      have HFr := Lib.hid (HFD.out wr 1 (HV.out.keep HBr.out) (HL.out.keep HBr.out) (by decide))
      have hFl := HM.out.lt
      have g0 := HGr.out.cell 0 rfl
      have g1 := HGr.out.cell 1 rfl
      have g2 := HGr.out.cell 2 rfl
      have g3 := HGr.out.cell 3 rfl
      have g4 := HGr.out.cell 4 rfl
      have g5 := HGr.out.cell 5 rfl
      have gl := HGr.out.lt
      go_wp2_with fail
      refine HFr.out.mono ?_
      rintro e wn ⟨T1, rfl, hrow, hbn⟩
      obtain ⟨Ax, capx, rfl⟩ := hrow.form
      obtain ⟨nx, hnx⟩ : ∃ nx, (R 1).length = nx := ⟨_, rfl⟩
      rw [hnx] at hrow ⊢
      have HM2 := Lib.hid (HM.out.keep hbn)
      have m0 := HM2.out.cell 3 rfl
      have m1 := HM2.out.cell 4 rfl
      have m2 := HM2.out.cell 5 rfl
      have mf := HM2.out.frozen
      have ml := HM2.out.lt
      have HM3 := Lib.hid (((HM2.out.set 3 (.int .i64 u)).set 4 (.int .i64 v)).set 5 (.slice Ax nx capx))
      have hrow2 : BRow wn (F + 1) (.slice Ax nx capx) (R 1) := hrow.mono (by omega)
      have HT0 := Lib.hid (((((HT.out.1 (by decide)).keep hbn).set (p := ⟨F, 3, none⟩) (Nat.lt_succ_self F) (.int .i64 u)).set (p := ⟨F, 4, none⟩) (Nat.lt_succ_self F) (.int .i64 v)).set (p := ⟨F, 5, none⟩) (Nat.lt_succ_self F) (.slice Ax nx capx))
      have HT1 := Lib.hid (((hrow2.set (p := ⟨F, 3, none⟩) (Nat.lt_succ_self F) (.int .i64 u)).set (p := ⟨F, 4, none⟩) (Nat.lt_succ_self F) (.int .i64 v)).set (p := ⟨F, 5, none⟩) (Nat.lt_succ_self F) (.slice Ax nx capx))
      have HW2 := Lib.hid ((((HW.out.trans (hbn.mono (Nat.le_of_lt hFl))).setCell (p := ⟨F, 3, none⟩) (Nat.le_refl F) (.int .i64 u)).setCell (p := ⟨F, 4, none⟩) (Nat.le_refl F) (.int .i64 v)).setCell (p := ⟨F, 5, none⟩) (Nat.le_refl F) (.slice Ax nx capx))
      clear hrow hrow2 hnx hbn HM HGr HBr HFr HW HT g0 g1 g2 g3 g4 g5 gl hFl
      go_wp2_with fail
      exact ⟨⟨2, T0, .slice Ax nx capx, undef, by decide, by go_num, HM3, Lib.hid ⟨fun _ => HT0.out, fun _ => HT1.out, fun h => by omega⟩, HW2⟩, by simp [intOf]⟩
    · replace HM : Hid (Blk wr F 39 [.int .i64 u, .int .i64 v, T0, .int .i64 u, .int .i64 v, T1, .int .i64 0, .int .i64 0, .slice none 0 0]) := HM
      have HGr := Lib.hid (HG1.out.heap (HW.out.block _ (show w.heap.size < F by have := HSZ.out; omega)))
      have HBr := Lib.hid (HB1.out.trans (HW.out.mono (by have := HSZ.out; omega)))
      have HFr := Lib.hid (HFD.out wr 2 (HV.out.keep HBr.out) (HL.out.keep HBr.out) (by decide))
      have hFl := HM.out.lt
      have g0 := HGr.out.cell 0 rfl
      have g1 := HGr.out.cell 1 rfl
      have g2 := HGr.out.cell 2 rfl
      have g3 := HGr.out.cell 3 rfl
      have g4 := HGr.out.cell 4 rfl
      have g5 := HGr.out.cell 5 rfl
      have gl := HGr.out.lt
      go_wp2_with fail
      refine HFr.out.mono ?_
      rintro e wn ⟨T2, rfl, hrow, hbn⟩
      obtain ⟨Ax, capx, rfl⟩ := hrow.form
      obtain ⟨nx, hnx⟩ : ∃ nx, (R 2).length = nx := ⟨_, rfl⟩
      rw [hnx] at hrow ⊢
      have HM2 := Lib.hid (HM.out.keep hbn)
      have m0 := HM2.out.cell 6 rfl
      have m1 := HM2.out.cell 7 rfl
      have m2 := HM2.out.cell 8 rfl
      have mf := HM2.out.frozen
      have ml := HM2.out.lt
      have HM3 := Lib.hid (((HM2.out.set 6 (.int .i64 u)).set 7 (.int .i64 v)).set 8 (.slice Ax nx capx))
      have hrow2 : BRow wn (F + 1) (.slice Ax nx capx) (R 2) := hrow.mono (by omega)
      have HT0 := Lib.hid (((((HT.out.1 (by decide)).keep hbn).set (p := ⟨F, 6, none⟩) (Nat.lt_succ_self F) (.int .i64 u)).set (p := ⟨F, 7, none⟩) (Nat.lt_succ_self F) (.int .i64 v)).set (p := ⟨F, 8, none⟩) (Nat.lt_succ_self F) (.slice Ax nx capx))
      have HT1 := Lib.hid (((((HT.out.2.1 (by decide)).keep hbn).set (p := ⟨F, 6, none⟩) (Nat.lt_succ_self F) (.int .i64 u)).set (p := ⟨F, 7, none⟩) (Nat.lt_succ_self F) (.int .i64 v)).set (p := ⟨F, 8, none⟩) (Nat.lt_succ_self F) (.slice Ax nx capx))
      have HT2 := Lib.hid (((hrow2.set (p := ⟨F, 6, none⟩) (Nat.lt_succ_self F) (.int .i64 u)).set (p := ⟨F, 7, none⟩) (Nat.lt_succ_self F) (.int .i64 v)).set (p := ⟨F, 8, none⟩) (Nat.lt_succ_self F) (.slice Ax nx capx))
      have HW2 := Lib.hid ((((HW.out.trans (hbn.mono (Nat.le_of_lt hFl))).setCell (p := ⟨F, 6, none⟩) (Nat.le_refl F) (.int .i64 u)).setCell (p := ⟨F, 7, none⟩) (Nat.le_refl F) (.int .i64 v)).setCell (p := ⟨F, 8, none⟩) (Nat.le_refl F) (.slice Ax nx capx))
      clear hrow hrow2 hnx hbn HM HGr HBr HFr HW HT g0 g1 g2 g3 g4 g5 gl hFl
      go_wp2_with fail
      exact ⟨⟨3, T0, T1, .slice Ax nx capx, by decide, by go_num, HM3, Lib.hid ⟨fun _ => HT0.out, fun _ => HT1.out, fun _ => HT2.out⟩, HW2⟩, by simp [intOf]⟩
    · replace HM : Hid (Blk wr F 39 [.int .i64 u, .int .i64 v, T0, .int .i64 u, .int .i64 v, T1, .int .i64 u, .int .i64 v, T2]) := HM
      have HBr := Lib.hid (HB1.out.trans (HW.out.mono (by have := HSZ.out; omega)))
      have HRr := Lib.hid (HR1.out.heap (HW.out.block _ (show w.heap.size + 1 < F from HSZ.out)))
      have HT0 := Lib.hid (HT.out.1 (by decide))
      have HT1 := Lib.hid (HT.out.2.1 (by decide))
      have HT2 := Lib.hid (HT.out.2.2 (by decide))
      obtain ⟨A0, q0, rfl⟩ := HT0.out.form
      obtain ⟨A1, q1, rfl⟩ := HT1.out.form
      obtain ⟨A2, q2, rfl⟩ := HT2.out.form
      generalize (R 0).length = n0 at *
      generalize (R 1).length = n1 at *
      generalize (R 2).length = n2 at *
      have hg : w.heap.size + 1 < F + 1 := by have := HSZ.out; omega
      have HQ := Lib.hid (((((((((HRr.out.set 0 (.int .i64 u)).set 1 (.int .i64 v)).set 2 (.slice A0 n0 q0)).set 3 (.int .i64 u)).set 4 (.int .i64 v)).set 5 (.slice A1 n1 q1)).set 6 (.int .i64 u)).set 7 (.int .i64 v)).set 8 (.slice A2 n2 q2))
      have HBQ := Lib.hid (((((((((HBr.out.setCell (p := ⟨w.heap.size + 1, 0, none⟩) (show w.heap.size ≤ w.heap.size + 1 by omega) (.int .i64 u)).setCell (p := ⟨w.heap.size + 1, 1, none⟩) (show w.heap.size ≤ w.heap.size + 1 by omega) (.int .i64 v)).setCell (p := ⟨w.heap.size + 1, 2, none⟩) (show w.heap.size ≤ w.heap.size + 1 by omega) (.slice A0 n0 q0)).setCell (p := ⟨w.heap.size + 1, 3, none⟩) (show w.heap.size ≤ w.heap.size + 1 by omega) (.int .i64 u)).setCell (p := ⟨w.heap.size + 1, 4, none⟩) (show w.heap.size ≤ w.heap.size + 1 by omega) (.int .i64 v)).setCell (p := ⟨w.heap.size + 1, 5, none⟩) (show w.heap.size ≤ w.heap.size + 1 by omega) (.slice A1 n1 q1)).setCell (p := ⟨w.heap.size + 1, 6, none⟩) (show w.heap.size ≤ w.heap.size + 1 by omega) (.int .i64 u)).setCell (p := ⟨w.heap.size + 1, 7, none⟩) (show w.heap.size ≤ w.heap.size + 1 by omega) (.int .i64 v)).setCell (p := ⟨w.heap.size + 1, 8, none⟩) (show w.heap.size ≤ w.heap.size + 1 by omega) (.slice A2 n2 q2))
      have HU0 := Lib.hid (((((((((HT0.out.set (p := ⟨w.heap.size + 1, 0, none⟩) hg (.int .i64 u)).set (p := ⟨w.heap.size + 1, 1, none⟩) hg (.int .i64 v)).set (p := ⟨w.heap.size + 1, 2, none⟩) hg (.slice A0 n0 q0)).set (p := ⟨w.heap.size + 1, 3, none⟩) hg (.int .i64 u)).set (p := ⟨w.heap.size + 1, 4, none⟩) hg (.int .i64 v)).set (p := ⟨w.heap.size + 1, 5, none⟩) hg (.slice A1 n1 q1)).set (p := ⟨w.heap.size + 1, 6, none⟩) hg (.int .i64 u)).set (p := ⟨w.heap.size + 1, 7, none⟩) hg (.int .i64 v)).set (p := ⟨w.heap.size + 1, 8, none⟩) hg (.slice A2 n2 q2))
      have HU1 := Lib.hid (((((((((HT1.out.set (p := ⟨w.heap.size + 1, 0, none⟩) hg (.int .i64 u)).set (p := ⟨w.heap.size + 1, 1, none⟩) hg (.int .i64 v)).set (p := ⟨w.heap.size + 1, 2, none⟩) hg (.slice A0 n0 q0)).set (p := ⟨w.heap.size + 1, 3, none⟩) hg (.int .i64 u)).set (p := ⟨w.heap.size + 1, 4, none⟩) hg (.int .i64 v)).set (p := ⟨w.heap.size + 1, 5, none⟩) hg (.slice A1 n1 q1)).set (p := ⟨w.heap.size + 1, 6, none⟩) hg (.int .i64 u)).set (p := ⟨w.heap.size + 1, 7, none⟩) hg (.int .i64 v)).set (p := ⟨w.heap.size + 1, 8, none⟩) hg (.slice A2 n2 q2))
      have HU2 := Lib.hid (((((((((HT2.out.set (p := ⟨w.heap.size + 1, 0, none⟩) hg (.int .i64 u)).set (p := ⟨w.heap.size + 1, 1, none⟩) hg (.int .i64 v)).set (p := ⟨w.heap.size + 1, 2, none⟩) hg (.slice A0 n0 q0)).set (p := ⟨w.heap.size + 1, 3, none⟩) hg (.int .i64 u)).set (p := ⟨w.heap.size + 1, 4, none⟩) hg (.int .i64 v)).set (p := ⟨w.heap.size + 1, 5, none⟩) hg (.slice A1 n1 q1)).set (p := ⟨w.heap.size + 1, 6, none⟩) hg (.int .i64 u)).set (p := ⟨w.heap.size + 1, 7, none⟩) hg (.int .i64 v)).set (p := ⟨w.heap.size + 1, 8, none⟩) hg (.slice A2 n2 q2))
      have m0 := HM.out.cell 0 rfl
      have m1 := HM.out.cell 1 rfl
      have m2 := HM.out.cell 2 rfl
      have m3 := HM.out.cell 3 rfl
      have m4 := HM.out.cell 4 rfl
      have m5 := HM.out.cell 5 rfl
      have m6 := HM.out.cell 6 rfl
      have m7 := HM.out.cell 7 rfl
      have m8 := HM.out.cell 8 rfl
      have ml := HM.out.lt
      have r0 := HRr.out.cell 0 rfl
      have r1 := HRr.out.cell 1 rfl
      have r2 := HRr.out.cell 2 rfl
      have r3 := HRr.out.cell 3 rfl
      have r4 := HRr.out.cell 4 rfl
      have r5 := HRr.out.cell 5 rfl
      have r6 := HRr.out.cell 6 rfl
      have r7 := HRr.out.cell 7 rfl
      have r8 := HRr.out.cell 8 rfl
      have rf := HRr.out.frozen
      have rl := HRr.out.lt
      clear HM HT HT0 HT1 HT2 HRr HBr HW
      go_wp2_with fail
      have p0 := HQ.out.cell 0 rfl
      have p1 := HQ.out.cell 1 rfl
      have p2 := HQ.out.cell 2 rfl
      have p3 := HQ.out.cell 3 rfl
      have p4 := HQ.out.cell 4 rfl
      have p5 := HQ.out.cell 5 rfl
      have p6 := HQ.out.cell 6 rfl
      have p7 := HQ.out.cell 7 rfl
      have p8 := HQ.out.cell 8 rfl
      exact bodyPost_ret (v := .tuple #[.agg #[.int .i64 u, .int .i64 v, .slice A0 n0 q0, .int .i64 u, .int .i64 v, .slice A1 n1 q1, .int .i64 u, .int .i64 v, .slice A2 n2 q2], .int .i64 0]) (by simp [results, Try.results14, go_sem, p0, p1, p2, p3, p4, p5, p6, p7, p8]) rfl ⟨_, _, _, rfl, HU0.out.mono (by omega), HU1.out.mono (by omega), HU2.out.mono (by omega), HBQ.out⟩

/-- P12.1 to P12.3: the program's functions of layer 12. -/
theorem msdfOK : MsdfOK where
  channel := fun ve vl es l x y p s u v i k c w hv hl hin hvl hll hlb hg hi hk hc => pchannel_any ve vl es l x y p s u v i k c w hv hl hin hvl hll hlb hg hi hk hc
  make := fun ve vl es l x y p s u v w hv hl hin hvl hll hlb hg => pmake12_any ve vl es l x y p s u v w hv hl hin hvl hll hlb hg
  median := fun a b c w _ _ _ => pmedian_any a b c w
  merge := fun u v T0 T1 T2 a b c w hu hv ha hb hc la lb lc => (pmerge_core u v u v u v T0 T1 T2 a b c w hu hv ha hb hc).mono (by
    rintro e w' (⟨_, h⟩ | ⟨h, _⟩)
    · exact h
    · exact absurd ⟨rfl, rfl, rfl, rfl, la, lb, lc⟩ h)
  unlike := fun u0 v0 u1 v1 u2 v2 T0 T1 T2 a b c w hu0 hv0 _ _ _ _ ha hb hc hn => (pmerge_core u0 v0 u1 v1 u2 v2 T0 T1 T2 a b c w hu0 hv0 ha hb hc).mono (by
    rintro e w' (⟨h, _⟩ | ⟨_, h⟩)
    · exact absurd h hn
    · exact h)

end Go.Proofs.Ytnpklcmbiamocaa
