/-
  What the law DistEight does to any world (no claim is made here).
-/
import Derived.Test.YtkolfdoclchaaaaDst2
import Derived.OpenShut
namespace Go.Proofs.Ytkolfdoclchaaaa
open Go.RowKit

set_option maxRecDepth 100000 in
set_option maxHeartbeats 6400000 in
theorem distEight_walk (A : Option Addr) (n cap : Nat) (cs : List (List Dot)) (m p0 p1 : Int) (w : World) (hcs : DotRows w A n cap cs) (hm : 0 ≤ m ∧ m ≤ 65535) (hp0 : (Lit.int .i16 p0).wf = true) (hp1 : (Lit.int .i16 p1).wf = true) :
    Calls Try.prog 5 #[.slice A n cap, .int .u16 m, .agg #[.int .i16 p0, .int .i16 p1]] w fun e w' => e = .returned (.bool true) ∧ Below w.heap.size w w' := by
  have HD := Lib.hid hcs
  have b0 := bounds_i16 hp0
  have b1 := bounds_i16 hp1
  have HP := Lib.hid (show p0.natAbs ≤ 32768 ∧ p1.natAbs ≤ 32768 by omega)
  have HM := Lib.hid (show 0 ≤ m ∧ m < 65536 by omega)
  clear hcs hp0 hp1 b0 b1 hm
  have HB0 := Lib.hid ((Below.refl _ w).alloc (Nat.le_refl _) (.cells #[.int .i16 p0, .int .i16 p1] 26))
  have HP0 := Lib.hid (Blk.new w 26 [.int .i16 p0, .int .i16 p1] rfl)
  go_enter Try.func5, Try.ntmps5
  go_wp2_with fail
  refine (awake8 _).mono ?_
  rintro e w1 ⟨rfl, hb1⟩
  have HP1 := Lib.hid (HP0.out.keep hb1)
  have HB1 := Lib.hid (HB0.out.trans (hb1.mono HB0.out.size))
  have HC := Lib.hid (glyph7 A n cap cs w1 (HD.out.keep HB1.out))
  clear hb1 HP0 HB0 HD
  go_wp2_with fail
  refine HC.out.mono ?_
  rintro e w2 ⟨u, es, rfl, hu, hln, hin, hcl, hb2⟩
  have HP2 := Lib.hid (HP1.out.keep hb2)
  have HB2 := Lib.hid (HB1.out.trans (hb2.mono HB1.out.size))
  have HU := Lib.hid (ERow.read hu)
  have HIN := Lib.hid hin
  have hln2 : es.length ≤ 200000 := by omega
  have HX := Lib.hid (spot_any u es m p0 p1 w2 HU.out hin HM.out HP.out)
  obtain ⟨Au, capu, rfl⟩ := hu.form
  have HLN := Lib.hid hln2
  obtain ⟨N, hN⟩ : ∃ N, es.length = N := ⟨_, rfl⟩
  rw [hN] at HU HX hln
  rw [hN]
  have HN := Lib.hid hN
  have hcu : N ≤ capu := by obtain ⟨_, _, e, h, _⟩ := HU.out; injection e with _ _ e; omega
  have q0 := HP2.out.cell 0 rfl
  have q1 := HP2.out.cell 1 rfl
  have qn := HP2.out.lt
  clear hu hin hcl hb2 HC HB1 hN HP1 hln2
  go_wp2_with fail
  refine HX.out.mono ?_
  rintro e w3 ⟨x, y, rfl, hxy, hb3⟩
  have HB3 := Lib.hid (HB2.out.trans (hb3.mono HB2.out.size))
  have HU3 := Lib.hid (HU.out.keep hb3)
  have HXY := Lib.hid hxy
  clear hb3 HX HB2 HP2 HU q0 q1 qn HM HP hxy
  have HB4 := Lib.hid (HB3.out.alloc HB3.out.size (.cells #[.int .i64 x, .int .i64 y] 31))
  have HQ4 := Lib.hid (Blk.new w3 31 [.int .i64 x, .int .i64 y] rfl)
  have HU4 := Lib.hid (HU3.out.keep ((Below.refl _ w3).alloc (Nat.le_refl _) (.cells #[.int .i64 x, .int .i64 y] 31)))
  clear HU3 HB3
  go_wp2_with fail
  generalize hw4 : w3.alloc (.cells #[.int .i64 x, .int .i64 y] 31) = w4 at *
  generalize hgx : w3.heap.size = gx at *
  have hS0 := S2_blk HQ4.out
  have hSD := S2_drew hS0
  have qn := HQ4.out.lt
  clear hw4 hgx HQ4
  have H1 := Lib.hid (fun w (h : ERd w (.slice Au N capu) es) => eight_any _ es x y w h HLN.out HIN.out HXY.out)
  have H2 := Lib.hid (fun w (h : ERd w (.slice Au N capu) es) => near_any _ es x y w h HLN.out HIN.out HXY.out)
  have q0 := hS0.1
  have q1 := hS0.2.1
  clear hSD
  go_wp2_with fail
  refine (H1.out _ HU4.out).mono ?_
  rintro e w5 ⟨rfl, hb5⟩
  have hE := E8.is es ⟨x, y⟩
  generalize eightS es ⟨x, y⟩ = d at *
  have HE := Lib.hid hE
  have hd := hE.small HIN.out HXY.out
  have HU5 := Lib.hid (HU4.out.keep hb5)
  have HB5 := Lib.hid (HB4.out.trans (hb5.mono HB4.out.size))
  have r0 := keep hb5 q0
  have r1 := keep hb5 q1
  clear hb5 q0 q1 hS0 HU4 HB4 H1 hE
  go_wp2_with fail
  refine (H2.out _ HU5.out).mono ?_
  rintro e w6 ⟨f0, f1, k, rfl, hK, hb6⟩
  have HB6 := Lib.hid (HB5.out.trans (hb6.mono HB5.out.size))
  have HK := Lib.hid hK
  clear hb6 r0 r1 HB5 H2 hK HU5
  by_cases hk : k < 0
  · have hes := HK.out.none.1 hk
    obtain rfl : d = -1 := E8.unique HE.out (.inl ⟨hes, rfl⟩)
    have HB7 := Lib.hid (HB6.out.alloc HB6.out.size (.cells #[.int .i64 f0, .int .i64 f1] 34))
    go_wp2
    go_ret
    exact ⟨rfl, HB7.out⟩
  · have hk0 : 0 ≤ k := by omega
    have hsm := near_small HK.out hk0 HIN.out HXY.out
    have hde : d = e8 (f0, f1) := by
      have h := E8.unique HE.out (HK.out.eight (fit_of HIN.out HXY.out))
      rw [if_neg hk] at h
      exact h
    obtain ⟨d0, d1, d2⟩ := e8_spec (f := (f0, f1)) hsm.1.1 hsm.2.1.1 (by have h := hsm.2.2; have h' := hsm.2.1.1; simp only []; omega)
    rw [← hde] at d0 d1 d2
    simp only [] at d1 d2
    clear hde
    have s1 := absB (show d.natAbs ≤ 463409 by omega)
    have s2 := absB (show (d + 1).natAbs ≤ 463410 by omega)
    have s3 := sqNN d
    have s4 := sqNN (d + 1)
    obtain ⟨dd, hdd⟩ : ∃ z, d * d = z := ⟨_, rfl⟩
    obtain ⟨ee, hee⟩ : ∃ z, (d + 1) * (d + 1) = z := ⟨_, rfl⟩
    rw [hdd] at s1 s3 d1
    rw [hee] at s2 s4 d2
    have HL1 := Lib.hid (fun w => less_int dd 64 f0 f1 (by omega) (by omega) (by omega) (by omega) w)
    have HL2 := Lib.hid (fun w => less_int ee 64 f0 f1 (by omega) (by omega) (by omega) (by omega) w)
    have c1 : cmpI (dd * f1) (f0 * 64) ≤ 0 := by unfold cmpI; split <;> (try split) <;> omega
    have c2 : 0 < cmpI (ee * f1) (f0 * 64) := by
      unfold cmpI
      rw [Int.mul_comm f1 ee] at d2
      rw [if_neg (by omega), if_pos (by omega)]
      omega
    generalize cmpI (dd * f1) (f0 * 64) = R1 at *
    generalize cmpI (ee * f1) (f0 * 64) = R2 at *
    have y1 : IntKind.i64.wrap dd = dd := wI (by omega) (by omega)
    have y2 : IntKind.i64.wrap ee = ee := wI (by omega) (by omega)
    clear d1 d2 hsm s1 s2 s3 s4 HE HK hk
    go_wp2_with fail
    refine (HL1.out _).mono ?_
    rintro e w7 ⟨rfl, hb7⟩
    obtain ⟨z0, z1, zn⟩ := two_kept rfl hb7
    have HB7 := Lib.hid ((HB6.out.alloc HB6.out.size _).trans (hb7.mono (Nat.le_trans HB6.out.size (by simp))))
    clear hb7
    go_wp2_with fail
    refine (HL2.out _).mono ?_
    rintro e w8 ⟨rfl, hb8⟩
    have HB8 := Lib.hid (HB7.out.trans (hb8.mono HB7.out.size))
    clear hb8
    go_wp2
    go_ret
    exact ⟨rfl, HB8.out⟩

end Go.Proofs.Ytkolfdoclchaaaa
