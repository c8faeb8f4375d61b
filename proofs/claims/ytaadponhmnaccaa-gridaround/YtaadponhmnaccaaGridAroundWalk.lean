/-
  The walk of punchcutlaw09.GridAround (no claim is made here).
-/
import Derived.Test.YtaadponhmnaccaaAwake9
import Derived.Test.YtaadponhmnaccaaGrd4
import Derived.Deep.RegionHeld3
namespace Go.Proofs.Ytaadponhmnaccaa
open Go.RowKit

theorem Blk.other6 {w : World} {g k : Nat} {t : TypeId} {vs : List Value} (h : Blk w g t vs) (hne : g ≠ k) (x0 x1 x2 x3 x4 x5 : Value) :
    Blk ((((((w.setCell ⟨k, 0, none⟩ x0).setCell ⟨k, 1, none⟩ x1).setCell ⟨k, 2, none⟩ x2).setCell ⟨k, 3, none⟩ x3).setCell ⟨k, 4, none⟩ x4).setCell ⟨k, 5, none⟩ x5) g t vs :=
  (((((h.other 0 x0 hne).other 1 x1 hne).other 2 x2 hne).other 3 x3 hne).other 4 x4 hne).other 5 x5 hne
theorem first_lo (X p m : Int) (hp : 1 ≤ p) (hm : 0 ≤ m) : 32 * (firstG X p m * p) ≤ X := by
  have h1 := Int.ediv_mul_le X (show p * 32 ≠ 0 by omega)
  have h2 := Int.mul_nonneg hm (show 0 ≤ p by omega)
  unfold firstG
  generalize X / (p * 32) = d at *
  grind
theorem count_hi (X X1 p m : Int) (hp : 1 ≤ p) (hm : 0 ≤ m) : X1 < 32 * (firstG X p m * p + p * countG X X1 p m) := by
  have h1 := Int.lt_ediv_add_one_mul_self X1 (show 0 < p * 32 by omega)
  have h2 := Int.mul_nonneg hm (show 0 ≤ p by omega)
  unfold countG
  generalize firstG X p m = f at *
  generalize X1 / (p * 32) = d at *
  grind

/-- The numbers of one direction. -/
theorem one_way (X X1 p m W : Int) (hX : X.natAbs ≤ 20000) (hX1 : X1.natAbs ≤ 20000) (hp : 1 ≤ p ∧ p ≤ 16) (hm : 0 ≤ m ∧ m ≤ 4) (hW : 32 * p = W) :
    ∃ f c g k a b : Int, firstG X p m = f ∧ countG X X1 p m = c ∧ f * p = g ∧ X / W = a ∧ X1 / W = b ∧ IntKind.i64.wrap (f * p) = g ∧ IntKind.i64.wrap (p * c) = k ∧ IntKind.i64.wrap (a - m) = f ∧ IntKind.i64.wrap (b + m + 1 - f) = c ∧
      32 * g ≤ X ∧ X < 20001 ∧ X1 < 32 * (g + k) ∧ -20001 < X1 ∧ (-40000 ≤ a ∧ a ≤ 40000) ∧ (-40000 ≤ b ∧ b ≤ 40000) ∧ (-50000 ≤ f ∧ f ≤ 50000) ∧ (-150000 ≤ c ∧ c ≤ 150000) ∧ (-1000000 ≤ g ∧ g ≤ 1000000) ∧ -3000000 ≤ k ∧ k ≤ 3000000 := by
  have l1 := first_lo X p m hp.1 hm.1
  have l3 := count_hi X X1 p m hp.1 hm.1
  have q1 := ediv_small' X W (by omega) (by omega)
  have q3 := ediv_small' X1 W (by omega) (by omega)
  have d1 : firstG X p m = X / W - m := by unfold firstG; rw [Int.mul_comm p 32, hW]
  have d3 : countG X X1 p m = X1 / W + m + 1 - firstG X p m := by unfold countG; rw [Int.mul_comm p 32, hW]
  generalize firstG X p m = f at *
  generalize countG X X1 p m = c at *
  generalize X / W = a at *
  generalize X1 / W = b at *
  have bf : f.natAbs ≤ 50000 := by omega
  have bc : c.natAbs ≤ 150000 := by omega
  have m0 : (f * p).natAbs ≤ 50000 * 16 := by rw [Int.natAbs_mul]; exact Nat.mul_le_mul bf (by omega)
  have m2 : (p * c).natAbs ≤ 16 * 150000 := by rw [Int.natAbs_mul]; exact Nat.mul_le_mul (by omega) bc
  refine ⟨f, c, f * p, p * c, a, b, rfl, rfl, rfl, rfl, rfl, ?_, ?_, ?_, ?_, l1, ?_, l3, ?_, ?_, ?_, ?_, ?_, ?_, ?_⟩
  · exact wI (by omega) (by omega)
  · exact wI (by omega) (by omega)
  · rw [← d1]; exact wI (by omega) (by omega)
  · rw [← d3]; exact wI (by omega) (by omega)
  all_goals omega

set_option maxRecDepth 100000 in
set_option maxHeartbeats 1600000 in
theorem gridAround_walk (x y w1 h1 p s : Int) (w : World) (hx : -32768 ≤ x ∧ x ≤ 32767) (hy : -32768 ≤ y ∧ y ≤ 32767) (hw1 : 0 ≤ w1 ∧ w1 ≤ 65535) (hh1 : 0 ≤ h1 ∧ h1 ≤ 65535) (hp : -128 ≤ p ∧ p ≤ 127) (hs : 0 ≤ s ∧ s ≤ 255) :
    Calls Try.prog 8 #[.int .i16 x, .int .i16 y, .int .u16 w1, .int .u16 h1, .int .i8 p, .int .u8 s] w fun e w' => e = .returned (.bool true) ∧ Below w.heap.size w w' := by
  obtain ⟨X0, hX0⟩ : ∃ z, x.tdiv 2 = z := ⟨_, rfl⟩
  obtain ⟨Y0, hY0⟩ : ∃ z, y.tdiv 2 = z := ⟨_, rfl⟩
  have bX : X0.natAbs ≤ 16384 := by rw [← hX0, Int.natAbs_tdiv]; show x.natAbs / 2 ≤ 16384; omega
  have bY : Y0.natAbs ≤ 16384 := by rw [← hY0, Int.natAbs_tdiv]; show y.natAbs / 2 ≤ 16384; omega
  have hXw : IntKind.i64.wrap (x.tdiv 2) = X0 := by rw [hX0]; exact wI (by omega) (by omega)
  have hYw : IntKind.i64.wrap (y.tdiv 2) = Y0 := by rw [hY0]; exact wI (by omega) (by omega)
  have bw : 0 ≤ w1 % 2048 ∧ w1 % 2048 ≤ 2047 := by omega
  have bh : 0 ≤ h1 % 2048 ∧ h1 % 2048 ≤ 2047 := by omega
  have bm : 0 ≤ s % 5 ∧ s % 5 ≤ 4 := by omega
  clear hX0 hY0
  go_enter Try.func8, Try.ntmps8
  go_wp2_with fail
  refine (awake9 _).mono ?_
  rintro e w2 ⟨rfl, hb⟩
  have HB2 := Lib.hid hb
  clear hb
  go_wp2_with fail
  have bX1 : (X0 + w1 % 2048).natAbs ≤ 20000 := by omega
  have bY1 : (Y0 + h1 % 2048).natAbs ≤ 20000 := by omega
  generalize X0 + w1 % 2048 = X1 at *
  generalize Y0 + h1 % 2048 = Y1 at *
  have HL2 := Lib.hid ((Blk.new w2 35 [.int .i64 X0, .int .i64 Y0] rfl).alloc (.cells #[.int .i64 X1, .int .i64 Y1] 35))
  have HH2 := Lib.hid (Blk.new (w2.alloc (.cells #[.int .i64 X0, .int .i64 Y0] 35)) 35 [.int .i64 X1, .int .i64 Y1] (g := w2.heap.size + 1) (by simp))
  have HB3 := Lib.hid (below2 HB2.out (alloc2 w2 (.cells #[.int .i64 X0, .int .i64 Y0] 35) (.cells #[.int .i64 X1, .int .i64 Y1] 35)))
  generalize (w2.alloc (.cells #[.int .i64 X0, .int .i64 Y0] 35)).alloc (.cells #[.int .i64 X1, .int .i64 Y1] 35) = w3 at *
  generalize w2.heap.size = L at *
  clear HB2
  by_cases hpw : p < 1 ∨ 16 < p
  · refine (around_wrong X0 Y0 X1 Y1 p s (s % 5) hpw w3).mono ?_
    rintro e w4 ⟨rfl, hb⟩
    have HB4 := Lib.hid (below2 HB3.out hb)
    have HB5 := Lib.hid (HB4.out.alloc HB4.out.size (.cells #[.int .i64 0, .int .i64 0, .int .i64 0, .int .i64 0, .int .i64 0, .int .i64 0] 23))
    clear hb HL2 HH2 HB3
    go_wp2
    all_goals go_ret
    all_goals exact ⟨rfl, HB5.out⟩
  · have bp : 1 ≤ p ∧ p ≤ 16 := by omega
    have HAR := Lib.hid (around_any X0 Y0 X1 Y1 p s (s % 5) (by omega) (by omega) (by omega) (by omega) bp (by omega) w3)
    obtain ⟨W, hW⟩ : ∃ W, 32 * p = W := ⟨_, rfl⟩
    have bW : 1 ≤ W ∧ W ≤ 512 := by omega
    have hWw : IntKind.i64.wrap (32 * p) = W := by rw [hW]; exact wI (by omega) (by omega)
    have D1 := Lib.hid (fun w => down_any X0 W (by omega) (by omega) w)
    have D2 := Lib.hid (fun w => down_any Y0 W (by omega) (by omega) w)
    have D3 := Lib.hid (fun w => down_any X1 W (by omega) (by omega) w)
    have D4 := Lib.hid (fun w => down_any Y1 W (by omega) (by omega) w)
    obtain ⟨f0, c0, g0, k0, e0, e2, i1, i2, i3, i4, i5, v0, v2, y0, y2, l1, l5, l3, l6, r0, r1, r2, r3, r4, r5⟩ := one_way X0 X1 p (s % 5) W (by omega) bX1 bp bm hW
    obtain ⟨f1, c1, g1, k1, e1, e3, j1, j2, j3, j4, j5, v1, v3, y1, y3, l2, l7, l4, l8, t0, t1, t2, t3, t4, t5⟩ := one_way Y0 Y1 p (s % 5) W (by omega) bY1 bp bm hW
    rw [i1, i2, j1, j2, i3, j3] at HAR
    rw [i4] at D1
    rw [j4] at D2
    rw [i5] at D3
    rw [j5] at D4
    have HC := Lib.hid (fun w => lcheck_any g0 g1 p c0 c1 s w)
    generalize checkG g0 g1 p c0 c1 s = R at *
    have HNL := Lib.hid (show 32 * g0 ≤ X0 ∧ 32 * g1 ≤ Y0 ∧ X1 < 32 * (g0 + k0) ∧ Y1 < 32 * (g1 + k1) from ⟨l1, l2, l3, l4⟩)
    clear i1 i2 i3 i4 i5 j1 j2 j3 j4 j5 hW hpw bX bY bX1 bY1 l1 l2 l3 l4 l5 l6 l7 l8 bw bh hx hy hw1 hh1 hXw hYw
    obtain ⟨Z0, Z1, Z2, Z3, Z4, Z5, E, hz, hzd⟩ : ∃ Z0 Z1 Z2 Z3 Z4 Z5 E : Int, (if R = 0 then Value.tuple #[.agg #[.int .i64 g0, .int .i64 g1, .int .i64 p, .int .i64 c0, .int .i64 c1, .int .i64 s], .int .i64 0] else Value.tuple #[.agg #[.int .i64 0, .int .i64 0, .int .i64 0, .int .i64 0, .int .i64 0, .int .i64 0], .int .i64 R]) = .tuple #[.agg #[.int .i64 Z0, .int .i64 Z1, .int .i64 Z2, .int .i64 Z3, .int .i64 Z4, .int .i64 Z5], .int .i64 E] ∧
        ((R = 0 ∧ Z0 = g0 ∧ Z1 = g1 ∧ Z2 = p ∧ Z3 = c0 ∧ Z4 = c1 ∧ Z5 = s ∧ E = 0) ∨ (R ≠ 0 ∧ Z0 = 0 ∧ Z1 = 0 ∧ Z2 = 0 ∧ Z3 = 0 ∧ Z4 = 0 ∧ Z5 = 0 ∧ E = R)) := by
      by_cases hR : R = 0
      · exact ⟨g0, g1, p, c0, c1, s, 0, if_pos hR, .inl ⟨hR, rfl, rfl, rfl, rfl, rfl, rfl, rfl⟩⟩
      · exact ⟨0, 0, 0, 0, 0, 0, R, if_neg hR, .inr ⟨hR, rfl, rfl, rfl, rfl, rfl, rfl, rfl⟩⟩
    have HZD := Lib.hid hzd
    rw [hz] at HAR
    clear hz hzd
    refine HAR.out.mono ?_
    rintro e w4 ⟨rfl, hb⟩
    have HL4 := Lib.hid ((HL2.out.keep hb).alloc (.cells #[.int .i64 Z0, .int .i64 Z1, .int .i64 Z2, .int .i64 Z3, .int .i64 Z4, .int .i64 Z5] 23))
    have HH4 := Lib.hid ((HH2.out.keep hb).alloc (.cells #[.int .i64 Z0, .int .i64 Z1, .int .i64 Z2, .int .i64 Z3, .int .i64 Z4, .int .i64 Z5] 23))
    have HG4 := Lib.hid (Blk.new w4 23 [.int .i64 Z0, .int .i64 Z1, .int .i64 Z2, .int .i64 Z3, .int .i64 Z4, .int .i64 Z5] rfl)
    have hb4 := below2 HB3.out hb
    have HB4 := Lib.hid (hb4.alloc hb4.size (.cells #[.int .i64 Z0, .int .i64 Z1, .int .i64 Z2, .int .i64 Z3, .int .i64 Z4, .int .i64 Z5] 23))
    clear hb hb4 HL2 HH2 HB3 HAR
    go_wp2_with fail
    generalize w4.alloc (.cells #[.int .i64 Z0, .int .i64 Z1, .int .i64 Z2, .int .i64 Z3, .int .i64 Z4, .int .i64 Z5] 23) = w5 at *
    generalize w4.heap.size = G at *
    have HL0 := HL4
    replace HL4 := Lib.hid (HL4.out.drew)
    refine wp_region_held_drew (S := fun wx => wx.cell? ⟨L, 0, none⟩ = some (.int .i64 X0) ∧ wx.cell? ⟨L, 1, none⟩ = some (.int .i64 Y0)) (by kernel_rfl) (⟨HL4.out.cell 0 rfl, HL4.out.cell 1 rfl⟩) (fun hHeld => ?_)
    refine wpAnyH_take (i := 0) (v := ?_) rfl (by kernel_rfl) (by kernel_rfl) (by kernel_rfl) (fun _ _ _ h => h) (Or.inl ⟨by rfl, ?_⟩) hHeld ?_
    rotate_left
    · intro w hSw
      (try dsimp only at hSw)
      (try simp only [List.getElem_toArray, List.getElem_cons_zero])
      go_simp
      all_goals with_reducible rfl
    try simp only [List.getElem_toArray, List.getElem_cons_zero, Act.put, List.setIfInBounds_toArray, List.set_cons_zero, List.set_cons_succ]
    refine wpAnyH_take (i := 1) (v := ?_) rfl (by kernel_rfl) (by kernel_rfl) (by kernel_rfl) (fun _ _ _ h => h) (Or.inl ⟨by rfl, ?_⟩) hHeld ?_
    rotate_left
    · intro w hSw
      (try dsimp only at hSw)
      (try simp only [List.getElem_toArray, List.getElem_cons_zero, List.getElem_cons_succ])
      go_simp
      all_goals with_reducible rfl
    try simp only [List.getElem_toArray, List.getElem_cons_zero, List.getElem_cons_succ, Act.put, List.setIfInBounds_toArray, List.set_cons_zero, List.set_cons_succ]
    refine wpAnyH_take (i := 2) (v := ?_) rfl (by kernel_rfl) (by kernel_rfl) (by kernel_rfl) (fun _ _ _ h => h) (Or.inl ⟨by rfl, ?_⟩) hHeld ?_
    rotate_left
    · intro w hSw
      (try dsimp only at hSw)
      (try simp only [List.getElem_toArray, List.getElem_cons_zero, List.getElem_cons_succ])
      go_simp
      all_goals with_reducible rfl
    try simp only [List.getElem_toArray, List.getElem_cons_zero, List.getElem_cons_succ, Act.put, List.setIfInBounds_toArray, List.set_cons_zero, List.set_cons_succ]
    refine wpAnyH_take (i := 4) (v := ?_) rfl (by kernel_rfl) (by kernel_rfl) (by kernel_rfl) (fun _ _ _ h => h) (Or.inl ⟨by rfl, ?_⟩) hHeld ?_
    rotate_left
    · intro w hSw
      (try dsimp only at hSw)
      (try simp only [List.getElem_toArray, List.getElem_cons_zero, List.getElem_cons_succ])
      go_simp
      all_goals with_reducible rfl
    try simp only [List.getElem_toArray, List.getElem_cons_zero, List.getElem_cons_succ, Act.put, List.setIfInBounds_toArray, List.set_cons_zero, List.set_cons_succ]
    refine wpAnyH_take (i := 6) (v := ?_) rfl (by kernel_rfl) (by kernel_rfl) (by kernel_rfl) (fun _ _ _ h => h) (Or.inl ⟨by rfl, ?_⟩) hHeld ?_
    rotate_left
    · intro w hSw
      (try dsimp only at hSw)
      (try simp only [List.getElem_toArray, List.getElem_cons_zero, List.getElem_cons_succ])
      go_simp
      all_goals with_reducible rfl
    try simp only [List.getElem_toArray, List.getElem_cons_zero, List.getElem_cons_succ, Act.put, List.setIfInBounds_toArray, List.set_cons_zero, List.set_cons_succ]
    refine wpAnyH_take (i := 7) (v := ?_) rfl (by kernel_rfl) (by kernel_rfl) (by kernel_rfl) (fun _ _ _ h => h) (Or.inl ⟨by rfl, ?_⟩) hHeld ?_
    rotate_left
    · intro w hSw
      (try dsimp only at hSw)
      (try simp only [List.getElem_toArray, List.getElem_cons_zero, List.getElem_cons_succ])
      go_simp
      all_goals with_reducible rfl
    try simp only [List.getElem_toArray, List.getElem_cons_zero, List.getElem_cons_succ, Act.put, List.setIfInBounds_toArray, List.set_cons_zero, List.set_cons_succ]
    refine wpAnyH_take (i := 8) (v := ?_) rfl (by kernel_rfl) (by kernel_rfl) (by kernel_rfl) (fun _ _ _ h => h) (Or.inl ⟨by rfl, ?_⟩) hHeld ?_
    rotate_left
    · intro w hSw
      (try dsimp only at hSw)
      (try simp only [List.getElem_toArray, List.getElem_cons_zero, List.getElem_cons_succ])
      go_simp
      all_goals with_reducible rfl
    try simp only [List.getElem_toArray, List.getElem_cons_zero, List.getElem_cons_succ, Act.put, List.setIfInBounds_toArray, List.set_cons_zero, List.set_cons_succ]
    refine wpAnyH_take (i := 10) (v := ?_) rfl (by kernel_rfl) (by kernel_rfl) (by kernel_rfl) (fun _ _ _ h => h) (Or.inl ⟨by rfl, ?_⟩) hHeld ?_
    rotate_left
    · intro w hSw
      (try dsimp only at hSw)
      (try simp only [List.getElem_toArray, List.getElem_cons_zero, List.getElem_cons_succ])
      go_simp
      all_goals with_reducible rfl
    try simp only [List.getElem_toArray, List.getElem_cons_zero, List.getElem_cons_succ, Act.put, List.setIfInBounds_toArray, List.set_cons_zero, List.set_cons_succ]
    refine wpAnyH_ready (rs := [3]) (by kernel_rfl) (by simp) ?_
    refine AllReadyH.cons rfl (fun K hK => ?_) AllReadyH.nil
    try simp only [List.getElem_toArray, List.getElem_cons_zero, List.getElem_cons_succ]
    go_simp
    refine (D1.out _).mono ?_
    rintro e wn ⟨rfl, rfl⟩
    go_wp2_with fail
    refine hK.out _ _ (⟨HL4.out.cell 0 rfl, HL4.out.cell 1 rfl⟩) (fun hHeld => ?_)
    clear hK K
    try simp only [List.getElem_toArray, List.getElem_cons_zero, List.getElem_cons_succ, Act.put, List.setIfInBounds_toArray, List.set_cons_zero, List.set_cons_succ]
    refine wpAnyH_take (i := 5) (v := ?_) rfl (by kernel_rfl) (by kernel_rfl) (by kernel_rfl) (fun _ _ _ h => h) (Or.inl ⟨by rfl, ?_⟩) hHeld ?_
    rotate_left
    · intro w hSw
      (try dsimp only at hSw)
      (try simp only [List.getElem_toArray, List.getElem_cons_zero, List.getElem_cons_succ])
      go_simp
      all_goals with_reducible rfl
    try simp only [List.getElem_toArray, List.getElem_cons_zero, List.getElem_cons_succ, Act.put, List.setIfInBounds_toArray, List.set_cons_zero, List.set_cons_succ]
    refine wpAnyH_ready (rs := [9]) (by kernel_rfl) (by simp) ?_
    refine AllReadyH.cons rfl (fun K hK => ?_) AllReadyH.nil
    try simp only [List.getElem_toArray, List.getElem_cons_zero, List.getElem_cons_succ]
    go_simp
    refine (D2.out _).mono ?_
    rintro e wn ⟨rfl, rfl⟩
    go_wp2_with fail
    refine hK.out _ _ (⟨HL4.out.cell 0 rfl, HL4.out.cell 1 rfl⟩) (fun hHeld => ?_)
    clear hK K
    try simp only [List.getElem_toArray, List.getElem_cons_zero, List.getElem_cons_succ, Act.put, List.setIfInBounds_toArray, List.set_cons_zero, List.set_cons_succ]
    refine wpAnyH_take (i := 11) (v := ?_) rfl (by kernel_rfl) (by kernel_rfl) (by kernel_rfl) (fun _ _ _ h => h) (Or.inl ⟨by rfl, ?_⟩) hHeld ?_
    rotate_left
    · intro w hSw
      (try dsimp only at hSw)
      (try simp only [List.getElem_toArray, List.getElem_cons_zero, List.getElem_cons_succ])
      go_simp
      all_goals with_reducible rfl
    try simp only [List.getElem_toArray, List.getElem_cons_zero, List.getElem_cons_succ, Act.put, List.setIfInBounds_toArray, List.set_cons_zero, List.set_cons_succ]
    refine wpAnyH_take (i := 12) (v := ?_) rfl (by kernel_rfl) (by kernel_rfl) (by kernel_rfl) (fun _ _ _ h => h) (Or.inl ⟨by rfl, ?_⟩) hHeld ?_
    rotate_left
    · intro w hSw
      (try dsimp only at hSw)
      (try simp only [List.getElem_toArray, List.getElem_cons_zero, List.getElem_cons_succ])
      go_simp
      all_goals with_reducible rfl
    try simp only [List.getElem_toArray, List.getElem_cons_zero, List.getElem_cons_succ, Act.put, List.setIfInBounds_toArray, List.set_cons_zero, List.set_cons_succ]
    refine wpAnyH_take (i := 13) (v := ?_) rfl (by kernel_rfl) (by kernel_rfl) (by kernel_rfl) (fun _ _ _ h => h) (Or.inl ⟨by rfl, ?_⟩) hHeld ?_
    rotate_left
    · intro w hSw
      (try dsimp only at hSw)
      (try simp only [List.getElem_toArray, List.getElem_cons_zero, List.getElem_cons_succ])
      go_simp
      all_goals with_reducible rfl
    try simp only [List.getElem_toArray, List.getElem_cons_zero, List.getElem_cons_succ, Act.put, List.setIfInBounds_toArray, List.set_cons_zero, List.set_cons_succ]
    refine wpAnyH_done (by kernel_rfl) ?_ _
    clear hHeld HL0
    replace HH4 := Lib.hid (HH4.out.drew)
    replace HG4 := Lib.hid (HG4.out.drew)
    replace HB4 := Lib.hid (HB4.out.drew)
    go_wp2_with fail
    generalize w5.drew = wz at *
    have z0 : IntKind.i64.wrap p = p := wI (by omega) (by omega)
    have z1 : IntKind.i64.wrap s = s := wI (by omega) (by omega)
    have z2 : IntKind.i64.wrap (e2 + s % 5) = e2 + s % 5 := wI (by omega) (by omega)
    have z3 : IntKind.i64.wrap (e2 + s % 5 + 1) = e2 + s % 5 + 1 := wI (by omega) (by omega)
    have z4 : IntKind.i64.wrap (e3 + s % 5) = e3 + s % 5 := wI (by omega) (by omega)
    have z5 : IntKind.i64.wrap (e3 + s % 5 + 1) = e3 + s % 5 + 1 := wI (by omega) (by omega)
    have hLz := HL4.out.lt
    have hHz := HH4.out.lt
    have hGz := HG4.out.lt
    have hWz := HB4.out.size
    have HLz := HL4
    have HHz := HH4
    have HGz := HG4
    replace HL4 := Lib.hid (HL4.out.drew)
    replace HH4 := Lib.hid (HH4.out.drew)
    replace HG4 := Lib.hid (HG4.out.drew)
    refine wp_region_held_drew (S := fun wx => wx.cell? ⟨L + 1, 0, none⟩ = some (.int .i64 X1) ∧ wx.cell? ⟨L + 1, 1, none⟩ = some (.int .i64 Y1)) (by kernel_rfl) (⟨HH4.out.cell 0 rfl, HH4.out.cell 1 rfl⟩) (fun hHeld => ?_)
    refine wpAnyH_take (i := 0) (v := ?_) rfl (by kernel_rfl) (by kernel_rfl) (by kernel_rfl) (fun _ _ _ h => h) (Or.inl ⟨by rfl, ?_⟩) hHeld ?_
    rotate_left
    · intro w hSw
      (try dsimp only at hSw)
      (try simp only [List.getElem_toArray, List.getElem_cons_zero])
      go_simp
      all_goals with_reducible rfl
    try simp only [List.getElem_toArray, List.getElem_cons_zero, Act.put, List.setIfInBounds_toArray, List.set_cons_zero, List.set_cons_succ]
    refine wpAnyH_take (i := 1) (v := ?_) rfl (by kernel_rfl) (by kernel_rfl) (by kernel_rfl) (fun _ _ _ h => h) (Or.inl ⟨by rfl, ?_⟩) hHeld ?_
    rotate_left
    · intro w hSw
      (try dsimp only at hSw)
      (try simp only [List.getElem_toArray, List.getElem_cons_zero, List.getElem_cons_succ])
      go_simp
      all_goals with_reducible rfl
    try simp only [List.getElem_toArray, List.getElem_cons_zero, List.getElem_cons_succ, Act.put, List.setIfInBounds_toArray, List.set_cons_zero, List.set_cons_succ]
    refine wpAnyH_take (i := 2) (v := ?_) rfl (by kernel_rfl) (by kernel_rfl) (by kernel_rfl) (fun _ _ _ h => h) (Or.inl ⟨by rfl, ?_⟩) hHeld ?_
    rotate_left
    · intro w hSw
      (try dsimp only at hSw)
      (try simp only [List.getElem_toArray, List.getElem_cons_zero, List.getElem_cons_succ])
      go_simp
      all_goals with_reducible rfl
    try simp only [List.getElem_toArray, List.getElem_cons_zero, List.getElem_cons_succ, Act.put, List.setIfInBounds_toArray, List.set_cons_zero, List.set_cons_succ]
    refine wpAnyH_take (i := 3) (v := ?_) rfl (by kernel_rfl) (by kernel_rfl) (by kernel_rfl) (fun _ _ _ h => h) (Or.inl ⟨by rfl, ?_⟩) hHeld ?_
    rotate_left
    · intro w hSw
      (try dsimp only at hSw)
      (try simp only [List.getElem_toArray, List.getElem_cons_zero, List.getElem_cons_succ])
      go_simp
      all_goals with_reducible rfl
    try simp only [List.getElem_toArray, List.getElem_cons_zero, List.getElem_cons_succ, Act.put, List.setIfInBounds_toArray, List.set_cons_zero, List.set_cons_succ]
    refine wpAnyH_take (i := 4) (v := ?_) rfl (by kernel_rfl) (by kernel_rfl) (by kernel_rfl) (fun _ _ _ h => h) (Or.inl ⟨by rfl, ?_⟩) hHeld ?_
    rotate_left
    · intro w hSw
      (try dsimp only at hSw)
      (try simp only [List.getElem_toArray, List.getElem_cons_zero, List.getElem_cons_succ])
      go_simp
      all_goals with_reducible rfl
    try simp only [List.getElem_toArray, List.getElem_cons_zero, List.getElem_cons_succ, Act.put, List.setIfInBounds_toArray, List.set_cons_zero, List.set_cons_succ]
    refine wpAnyH_take (i := 5) (v := ?_) rfl (by kernel_rfl) (by kernel_rfl) (by kernel_rfl) (fun _ _ _ h => h) (Or.inl ⟨by rfl, ?_⟩) hHeld ?_
    rotate_left
    · intro w hSw
      (try dsimp only at hSw)
      (try simp only [List.getElem_toArray, List.getElem_cons_zero, List.getElem_cons_succ])
      go_simp
      all_goals with_reducible rfl
    try simp only [List.getElem_toArray, List.getElem_cons_zero, List.getElem_cons_succ, Act.put, List.setIfInBounds_toArray, List.set_cons_zero, List.set_cons_succ]
    refine wpAnyH_take (i := 6) (v := ?_) rfl (by kernel_rfl) (by kernel_rfl) (by kernel_rfl) (fun _ _ _ h => h) (Or.inl ⟨by rfl, ?_⟩) hHeld ?_
    rotate_left
    · intro w hSw
      (try dsimp only at hSw)
      (try simp only [List.getElem_toArray, List.getElem_cons_zero, List.getElem_cons_succ])
      go_simp
      all_goals with_reducible rfl
    try simp only [List.getElem_toArray, List.getElem_cons_zero, List.getElem_cons_succ, Act.put, List.setIfInBounds_toArray, List.set_cons_zero, List.set_cons_succ]
    refine wpAnyH_take (i := 7) (v := ?_) rfl (by kernel_rfl) (by kernel_rfl) (by kernel_rfl) (fun _ _ _ h => h) (Or.inl ⟨by rfl, ?_⟩) hHeld ?_
    rotate_left
    · intro w hSw
      (try dsimp only at hSw)
      (try simp only [List.getElem_toArray, List.getElem_cons_zero, List.getElem_cons_succ])
      go_simp
      all_goals with_reducible rfl
    try simp only [List.getElem_toArray, List.getElem_cons_zero, List.getElem_cons_succ, Act.put, List.setIfInBounds_toArray, List.set_cons_zero, List.set_cons_succ]
    refine wpAnyH_take (i := 8) (v := ?_) rfl (by kernel_rfl) (by kernel_rfl) (by kernel_rfl) (fun _ _ _ h => h) (Or.inl ⟨by rfl, ?_⟩) hHeld ?_
    rotate_left
    · intro w hSw
      (try dsimp only at hSw)
      (try simp only [List.getElem_toArray, List.getElem_cons_zero, List.getElem_cons_succ])
      go_simp
      all_goals with_reducible rfl
    try simp only [List.getElem_toArray, List.getElem_cons_zero, List.getElem_cons_succ, Act.put, List.setIfInBounds_toArray, List.set_cons_zero, List.set_cons_succ]
    refine wpAnyH_take (i := 9) (v := ?_) rfl (by kernel_rfl) (by kernel_rfl) (by kernel_rfl) (fun _ _ _ h => h) (Or.inl ⟨by rfl, ?_⟩) hHeld ?_
    rotate_left
    · intro w hSw
      (try dsimp only at hSw)
      (try simp only [List.getElem_toArray, List.getElem_cons_zero, List.getElem_cons_succ])
      go_simp
      all_goals with_reducible rfl
    try simp only [List.getElem_toArray, List.getElem_cons_zero, List.getElem_cons_succ, Act.put, List.setIfInBounds_toArray, List.set_cons_zero, List.set_cons_succ]
    refine wpAnyH_take (i := 10) (v := ?_) rfl (by kernel_rfl) (by kernel_rfl) (by kernel_rfl) (fun _ _ _ h => h) (Or.inl ⟨by rfl, ?_⟩) hHeld ?_
    rotate_left
    · intro w hSw
      (try dsimp only at hSw)
      (try simp only [List.getElem_toArray, List.getElem_cons_zero, List.getElem_cons_succ])
      go_simp
      all_goals with_reducible rfl
    try simp only [List.getElem_toArray, List.getElem_cons_zero, List.getElem_cons_succ, Act.put, List.setIfInBounds_toArray, List.set_cons_zero, List.set_cons_succ]
    refine wpAnyH_take (i := 11) (v := ?_) rfl (by kernel_rfl) (by kernel_rfl) (by kernel_rfl) (fun _ _ _ h => h) (Or.inl ⟨by rfl, ?_⟩) hHeld ?_
    rotate_left
    · intro w hSw
      (try dsimp only at hSw)
      (try simp only [List.getElem_toArray, List.getElem_cons_zero, List.getElem_cons_succ])
      go_simp
      all_goals with_reducible rfl
    try simp only [List.getElem_toArray, List.getElem_cons_zero, List.getElem_cons_succ, Act.put, List.setIfInBounds_toArray, List.set_cons_zero, List.set_cons_succ]
    refine wpAnyH_take (i := 12) (v := ?_) rfl (by kernel_rfl) (by kernel_rfl) (by kernel_rfl) (fun _ _ _ h => h) (Or.inl ⟨by rfl, ?_⟩) hHeld ?_
    rotate_left
    · intro w hSw
      (try dsimp only at hSw)
      (try simp only [List.getElem_toArray, List.getElem_cons_zero, List.getElem_cons_succ])
      go_simp
      all_goals with_reducible rfl
    try simp only [List.getElem_toArray, List.getElem_cons_zero, List.getElem_cons_succ, Act.put, List.setIfInBounds_toArray, List.set_cons_zero, List.set_cons_succ]
    refine wpAnyH_take (i := 14) (v := ?_) rfl (by kernel_rfl) (by kernel_rfl) (by kernel_rfl) (fun _ _ _ h => h) (Or.inl ⟨by rfl, ?_⟩) hHeld ?_
    rotate_left
    · intro w hSw
      (try dsimp only at hSw)
      (try simp only [List.getElem_toArray, List.getElem_cons_zero, List.getElem_cons_succ])
      go_simp
      all_goals with_reducible rfl
    try simp only [List.getElem_toArray, List.getElem_cons_zero, List.getElem_cons_succ, Act.put, List.setIfInBounds_toArray, List.set_cons_zero, List.set_cons_succ]
    refine wpAnyH_take (i := 17) (v := ?_) rfl (by kernel_rfl) (by kernel_rfl) (by kernel_rfl) (fun _ _ _ h => h) (Or.inl ⟨by rfl, ?_⟩) hHeld ?_
    rotate_left
    · intro w hSw
      (try dsimp only at hSw)
      (try simp only [List.getElem_toArray, List.getElem_cons_zero, List.getElem_cons_succ])
      go_simp
      all_goals with_reducible rfl
    try simp only [List.getElem_toArray, List.getElem_cons_zero, List.getElem_cons_succ, Act.put, List.setIfInBounds_toArray, List.set_cons_zero, List.set_cons_succ]
    refine wpAnyH_take (i := 19) (v := ?_) rfl (by kernel_rfl) (by kernel_rfl) (by kernel_rfl) (fun _ _ _ h => h) (Or.inl ⟨by rfl, ?_⟩) hHeld ?_
    rotate_left
    · intro w hSw
      (try dsimp only at hSw)
      (try simp only [List.getElem_toArray, List.getElem_cons_zero, List.getElem_cons_succ])
      go_simp
      all_goals with_reducible rfl
    try simp only [List.getElem_toArray, List.getElem_cons_zero, List.getElem_cons_succ, Act.put, List.setIfInBounds_toArray, List.set_cons_zero, List.set_cons_succ]
    refine wpAnyH_take (i := 20) (v := ?_) rfl (by kernel_rfl) (by kernel_rfl) (by kernel_rfl) (fun _ _ _ h => h) (Or.inl ⟨by rfl, ?_⟩) hHeld ?_
    rotate_left
    · intro w hSw
      (try dsimp only at hSw)
      (try simp only [List.getElem_toArray, List.getElem_cons_zero, List.getElem_cons_succ])
      go_simp
      all_goals with_reducible rfl
    try simp only [List.getElem_toArray, List.getElem_cons_zero, List.getElem_cons_succ, Act.put, List.setIfInBounds_toArray, List.set_cons_zero, List.set_cons_succ]
    refine wpAnyH_take (i := 21) (v := ?_) rfl (by kernel_rfl) (by kernel_rfl) (by kernel_rfl) (fun _ _ _ h => h) (Or.inl ⟨by rfl, ?_⟩) hHeld ?_
    rotate_left
    · intro w hSw
      (try dsimp only at hSw)
      (try simp only [List.getElem_toArray, List.getElem_cons_zero, List.getElem_cons_succ])
      go_simp
      all_goals with_reducible rfl
    try simp only [List.getElem_toArray, List.getElem_cons_zero, List.getElem_cons_succ, Act.put, List.setIfInBounds_toArray, List.set_cons_zero, List.set_cons_succ]
    refine wpAnyH_take (i := 23) (v := ?_) rfl (by kernel_rfl) (by kernel_rfl) (by kernel_rfl) (fun _ _ _ h => h) (Or.inl ⟨by rfl, ?_⟩) hHeld ?_
    rotate_left
    · intro w hSw
      (try dsimp only at hSw)
      (try simp only [List.getElem_toArray, List.getElem_cons_zero, List.getElem_cons_succ])
      go_simp
      all_goals with_reducible rfl
    try simp only [List.getElem_toArray, List.getElem_cons_zero, List.getElem_cons_succ, Act.put, List.setIfInBounds_toArray, List.set_cons_zero, List.set_cons_succ]
    refine wpAnyH_take (i := 26) (v := ?_) rfl (by kernel_rfl) (by kernel_rfl) (by kernel_rfl) (fun _ _ _ h => h) (Or.inl ⟨by rfl, ?_⟩) hHeld ?_
    rotate_left
    · intro w hSw
      (try dsimp only at hSw)
      (try simp only [List.getElem_toArray, List.getElem_cons_zero, List.getElem_cons_succ])
      go_simp
      all_goals with_reducible rfl
    try simp only [List.getElem_toArray, List.getElem_cons_zero, List.getElem_cons_succ, Act.put, List.setIfInBounds_toArray, List.set_cons_zero, List.set_cons_succ]
    refine wpAnyH_take (i := 28) (v := ?_) rfl (by kernel_rfl) (by kernel_rfl) (by kernel_rfl) (fun _ _ _ h => h) (Or.inl ⟨by rfl, ?_⟩) hHeld ?_
    rotate_left
    · intro w hSw
      (try dsimp only at hSw)
      (try simp only [List.getElem_toArray, List.getElem_cons_zero, List.getElem_cons_succ])
      go_simp
      all_goals with_reducible rfl
    try simp only [List.getElem_toArray, List.getElem_cons_zero, List.getElem_cons_succ, Act.put, List.setIfInBounds_toArray, List.set_cons_zero, List.set_cons_succ]
    refine wpAnyH_take (i := 29) (v := ?_) rfl (by kernel_rfl) (by kernel_rfl) (by kernel_rfl) (fun _ _ _ h => h) (Or.inl ⟨by rfl, ?_⟩) hHeld ?_
    rotate_left
    · intro w hSw
      (try dsimp only at hSw)
      (try simp only [List.getElem_toArray, List.getElem_cons_zero, List.getElem_cons_succ])
      go_simp
      all_goals with_reducible rfl
    try simp only [List.getElem_toArray, List.getElem_cons_zero, List.getElem_cons_succ, Act.put, List.setIfInBounds_toArray, List.set_cons_zero, List.set_cons_succ]
    refine wpAnyH_ready (rs := [13, 31]) (by kernel_rfl) (by simp) ?_
    refine AllReadyH.cons rfl (fun K hK => ?_) (AllReadyH.cons rfl (fun K hK => ?_) AllReadyH.nil)
    · try simp only [List.getElem_toArray, List.getElem_cons_zero, List.getElem_cons_succ]
      go_simp
      refine (D3.out _).mono ?_
      rintro e wn ⟨rfl, rfl⟩
      go_wp2_with fail
      refine hK.out _ _ (⟨HH4.out.cell 0 rfl, HH4.out.cell 1 rfl⟩) (fun hHeld => ?_)
      clear hK K
      try simp only [List.getElem_toArray, List.getElem_cons_zero, List.getElem_cons_succ, Act.put, List.setIfInBounds_toArray, List.set_cons_zero, List.set_cons_succ]
      refine wpAnyH_take (i := 15) (v := ?_) rfl (by kernel_rfl) (by kernel_rfl) (by kernel_rfl) (fun _ _ _ h => h) (Or.inl ⟨by rfl, ?_⟩) hHeld ?_
      rotate_left
      · intro w hSw
        (try dsimp only at hSw)
        (try simp only [List.getElem_toArray, List.getElem_cons_zero, List.getElem_cons_succ])
        go_simp
        all_goals with_reducible rfl
      try simp only [List.getElem_toArray, List.getElem_cons_zero, List.getElem_cons_succ, Act.put, List.setIfInBounds_toArray, List.set_cons_zero, List.set_cons_succ]
      refine wpAnyH_take (i := 16) (v := ?_) rfl (by kernel_rfl) (by kernel_rfl) (by kernel_rfl) (fun _ _ _ h => h) (Or.inl ⟨by rfl, ?_⟩) hHeld ?_
      rotate_left
      · intro w hSw
        (try dsimp only at hSw)
        (try simp only [List.getElem_toArray, List.getElem_cons_zero, List.getElem_cons_succ])
        go_simp
        all_goals with_reducible rfl
      try simp only [List.getElem_toArray, List.getElem_cons_zero, List.getElem_cons_succ, Act.put, List.setIfInBounds_toArray, List.set_cons_zero, List.set_cons_succ]
      refine wpAnyH_take (i := 18) (v := ?_) rfl (by kernel_rfl) (by kernel_rfl) (by kernel_rfl) (fun _ _ _ h => h) (Or.inl ⟨by rfl, ?_⟩) hHeld ?_
      rotate_left
      · intro w hSw
        (try dsimp only at hSw)
        (try simp only [List.getElem_toArray, List.getElem_cons_zero, List.getElem_cons_succ])
        go_simp
        all_goals with_reducible rfl
      try simp only [List.getElem_toArray, List.getElem_cons_zero, List.getElem_cons_succ, Act.put, List.setIfInBounds_toArray, List.set_cons_zero, List.set_cons_succ]
      refine wpAnyH_ready (rs := [22, 31]) (by kernel_rfl) (by simp) ?_
      refine AllReadyH.cons rfl (fun K hK => ?_) (AllReadyH.cons rfl (fun K hK => ?_) AllReadyH.nil)
      · try simp only [List.getElem_toArray, List.getElem_cons_zero, List.getElem_cons_succ]
        go_simp
        refine (D4.out _).mono ?_
        rintro e wn ⟨rfl, rfl⟩
        go_wp2_with fail
        refine hK.out _ _ (⟨HH4.out.cell 0 rfl, HH4.out.cell 1 rfl⟩) (fun hHeld => ?_)
        clear hK K
        try simp only [List.getElem_toArray, List.getElem_cons_zero, List.getElem_cons_succ, Act.put, List.setIfInBounds_toArray, List.set_cons_zero, List.set_cons_succ]
        refine wpAnyH_take (i := 24) (v := ?_) rfl (by kernel_rfl) (by kernel_rfl) (by kernel_rfl) (fun _ _ _ h => h) (Or.inl ⟨by rfl, ?_⟩) hHeld ?_
        rotate_left
        · intro w hSw
          (try dsimp only at hSw)
          (try simp only [List.getElem_toArray, List.getElem_cons_zero, List.getElem_cons_succ])
          go_simp
          all_goals with_reducible rfl
        try simp only [List.getElem_toArray, List.getElem_cons_zero, List.getElem_cons_succ, Act.put, List.setIfInBounds_toArray, List.set_cons_zero, List.set_cons_succ]
        refine wpAnyH_take (i := 25) (v := ?_) rfl (by kernel_rfl) (by kernel_rfl) (by kernel_rfl) (fun _ _ _ h => h) (Or.inl ⟨by rfl, ?_⟩) hHeld ?_
        rotate_left
        · intro w hSw
          (try dsimp only at hSw)
          (try simp only [List.getElem_toArray, List.getElem_cons_zero, List.getElem_cons_succ])
          go_simp
          all_goals with_reducible rfl
        try simp only [List.getElem_toArray, List.getElem_cons_zero, List.getElem_cons_succ, Act.put, List.setIfInBounds_toArray, List.set_cons_zero, List.set_cons_succ]
        refine wpAnyH_take (i := 27) (v := ?_) rfl (by kernel_rfl) (by kernel_rfl) (by kernel_rfl) (fun _ _ _ h => h) (Or.inl ⟨by rfl, ?_⟩) hHeld ?_
        rotate_left
        · intro w hSw
          (try dsimp only at hSw)
          (try simp only [List.getElem_toArray, List.getElem_cons_zero, List.getElem_cons_succ])
          go_simp
          all_goals with_reducible rfl
        try simp only [List.getElem_toArray, List.getElem_cons_zero, List.getElem_cons_succ, Act.put, List.setIfInBounds_toArray, List.set_cons_zero, List.set_cons_succ]
        refine wpAnyH_take (i := 30) (v := ?_) rfl (by kernel_rfl) (by kernel_rfl) (by kernel_rfl) (fun _ _ _ h => h) (Or.inl ⟨by rfl, ?_⟩) hHeld ?_
        rotate_left
        · intro w hSw
          (try dsimp only at hSw)
          (try simp only [List.getElem_toArray, List.getElem_cons_zero, List.getElem_cons_succ])
          go_simp
          all_goals with_reducible rfl
        try simp only [List.getElem_toArray, List.getElem_cons_zero, List.getElem_cons_succ, Act.put, List.setIfInBounds_toArray, List.set_cons_zero, List.set_cons_succ]
        refine wpAnyH_ready (rs := [31]) (by kernel_rfl) (by simp) ?_
        refine AllReadyH.cons rfl (fun K hK => ?_) AllReadyH.nil
        try simp only [List.getElem_toArray, List.getElem_cons_zero, List.getElem_cons_succ]
        go_simp
        have HW := Lib.hid (Blk.new wz 23 [.int .i64 0, .int .i64 0, .int .i64 0, .int .i64 0, .int .i64 0, .int .i64 0] (g := wz.heap.size) rfl)
        replace HW := Lib.hid HW.out.drew
        replace HL4 := Lib.hid ((HLz.out.alloc (.cells #[.int .i64 0, .int .i64 0, .int .i64 0, .int .i64 0, .int .i64 0, .int .i64 0] 23)).drew)
        replace HH4 := Lib.hid ((HHz.out.alloc (.cells #[.int .i64 0, .int .i64 0, .int .i64 0, .int .i64 0, .int .i64 0, .int .i64 0] 23)).drew)
        replace HG4 := Lib.hid ((HGz.out.alloc (.cells #[.int .i64 0, .int .i64 0, .int .i64 0, .int .i64 0, .int .i64 0, .int .i64 0] 23)).drew)
        have AB := (HB4.out.alloc HB4.out.size (.cells #[.int .i64 0, .int .i64 0, .int .i64 0, .int .i64 0, .int .i64 0, .int .i64 0] 23)).drew
        generalize (wz.alloc (.cells #[.int .i64 0, .int .i64 0, .int .i64 0, .int .i64 0, .int .i64 0, .int .i64 0] 23)).drew = wa at *
        have l0 := HW.out.cell 0 rfl
        have l1 := HW.out.cell 1 rfl
        have l2 := HW.out.cell 2 rfl
        have l3 := HW.out.cell 3 rfl
        have l4 := HW.out.cell 4 rfl
        have l5 := HW.out.cell 5 rfl
        have lf := HW.out.frozen
        have ln := HW.out.lt
        refine hK.out _ _ (⟨HH4.out.cell 0 rfl, HH4.out.cell 1 rfl⟩) (fun hHeld => ?_)
        clear hK K
        try simp only [List.getElem_toArray, List.getElem_cons_zero, List.getElem_cons_succ, Act.put, List.setIfInBounds_toArray, List.set_cons_zero, List.set_cons_succ]
        refine wpAnyH_ready (rs := [32]) (by kernel_rfl) (by simp) ?_
        refine AllReadyH.cons rfl (fun K hK => ?_) AllReadyH.nil
        try simp only [List.getElem_toArray, List.getElem_cons_zero, List.getElem_cons_succ]
        go_simp
        try simp only [z0, z1, z2, z3, z4, z5, v0, v1, y2, y3]
        obtain ⟨F1, F2⟩ := HW.out.six AB hWz (.int .i64 g0) (.int .i64 g1) (.int .i64 p) (.int .i64 c0) (.int .i64 c1) (.int .i64 s)
        replace HW := Lib.hid F1
        replace HL4 := Lib.hid (HL4.out.other6 (k := wz.heap.size) (by omega) (.int .i64 g0) (.int .i64 g1) (.int .i64 p) (.int .i64 c0) (.int .i64 c1) (.int .i64 s))
        replace HH4 := Lib.hid (HH4.out.other6 (k := wz.heap.size) (by omega) (.int .i64 g0) (.int .i64 g1) (.int .i64 p) (.int .i64 c0) (.int .i64 c1) (.int .i64 s))
        replace HG4 := Lib.hid (HG4.out.other6 (k := wz.heap.size) (by omega) (.int .i64 g0) (.int .i64 g1) (.int .i64 p) (.int .i64 c0) (.int .i64 c1) (.int .i64 s))
        replace AB := F2
        clear F1 F2 l0 l1 l2 l3 l4 l5 lf ln
        refine hK.out _ _ (⟨HH4.out.cell 0 rfl, HH4.out.cell 1 rfl⟩) (fun hHeld => ?_)
        clear hK K
        try simp only [List.getElem_toArray, List.getElem_cons_zero, List.getElem_cons_succ, Act.put, List.setIfInBounds_toArray, List.set_cons_zero, List.set_cons_succ]
        refine wpAnyH_done (by kernel_rfl) ?_ _
        have HB6 := Lib.hid AB
        clear AB hHeld HB4 z0 z1 z2 z3 z4 z5 D1 D2 D3 D4 hLz hHz hGz hWz HLz HHz HGz
        generalize ((((((wa.setCell ⟨wz.heap.size, 0, none⟩ (.int .i64 g0)).setCell ⟨wz.heap.size, 1, none⟩ (.int .i64 g1)).setCell ⟨wz.heap.size, 2, none⟩ (.int .i64 p)).setCell ⟨wz.heap.size, 3, none⟩ (.int .i64 c0)).setCell ⟨wz.heap.size, 4, none⟩ (.int .i64 c1)).setCell ⟨wz.heap.size, 5, none⟩ (.int .i64 s)) = w6 at *
        generalize wz.heap.size = Wn at *
        have a0 := HW.out.cell 0 rfl
        have a1 := HW.out.cell 1 rfl
        have a2 := HW.out.cell 2 rfl
        have a3 := HW.out.cell 3 rfl
        have a4 := HW.out.cell 4 rfl
        have a5 := HW.out.cell 5 rfl
        have al := HW.out.lt
        go_wp2_with fail
        refine (HC.out _).mono ?_
        rintro e w7 ⟨rfl, hb⟩
        replace HW := Lib.hid (HW.out.keep hb)
        replace HL4 := Lib.hid (HL4.out.keep hb)
        replace HH4 := Lib.hid (HH4.out.keep hb)
        replace HG4 := Lib.hid (HG4.out.keep hb)
        replace HB6 := Lib.hid (below2 HB6.out hb)
        clear hb a0 a1 a2 a3 a4 a5 al HC
        have o0 := HL4.out.cell 0 rfl
        have o1 := HL4.out.cell 1 rfl
        have o2 := HL4.out.lt
        have o3 := HH4.out.cell 0 rfl
        have o4 := HH4.out.cell 1 rfl
        have o5 := HH4.out.lt
        have o6 := HG4.out.lt
        have o7 := HW.out.lt
        have b0 := HG4.out.cell 0 rfl
        have b1 := HG4.out.cell 1 rfl
        have b2 := HG4.out.cell 2 rfl
        have b3 := HG4.out.cell 3 rfl
        have b4 := HG4.out.cell 4 rfl
        have b5 := HG4.out.cell 5 rfl
        have a0 := HW.out.cell 0 rfl
        have a1 := HW.out.cell 1 rfl
        have a2 := HW.out.cell 2 rfl
        have a3 := HW.out.cell 3 rfl
        have a4 := HW.out.cell 4 rfl
        have a5 := HW.out.cell 5 rfl
        obtain ⟨n1, n2, n3, n4⟩ := HNL.out
        rcases HZD.out with ⟨rfl, rfl, rfl, rfl, rfl, rfl, rfl, rfl⟩ | ⟨hR, rfl, rfl, rfl, rfl, rfl, rfl, rfl⟩
        · go_wp2
          go_ret
          exact ⟨rfl, HB6.out⟩
        · have hR2 : (E == 0) = false := by simp [hR]
          go_wp2
          go_ret
          exact ⟨rfl, HB6.out⟩
      · try simp only [List.getElem_toArray, List.getElem_cons_zero, List.getElem_cons_succ]
        go_simp
        have HW := Lib.hid (Blk.new wz 23 [.int .i64 0, .int .i64 0, .int .i64 0, .int .i64 0, .int .i64 0, .int .i64 0] (g := wz.heap.size) rfl)
        replace HW := Lib.hid HW.out.drew
        replace HL4 := Lib.hid ((HLz.out.alloc (.cells #[.int .i64 0, .int .i64 0, .int .i64 0, .int .i64 0, .int .i64 0, .int .i64 0] 23)).drew)
        replace HH4 := Lib.hid ((HHz.out.alloc (.cells #[.int .i64 0, .int .i64 0, .int .i64 0, .int .i64 0, .int .i64 0, .int .i64 0] 23)).drew)
        replace HG4 := Lib.hid ((HGz.out.alloc (.cells #[.int .i64 0, .int .i64 0, .int .i64 0, .int .i64 0, .int .i64 0, .int .i64 0] 23)).drew)
        have AB := (HB4.out.alloc HB4.out.size (.cells #[.int .i64 0, .int .i64 0, .int .i64 0, .int .i64 0, .int .i64 0, .int .i64 0] 23)).drew
        generalize (wz.alloc (.cells #[.int .i64 0, .int .i64 0, .int .i64 0, .int .i64 0, .int .i64 0, .int .i64 0] 23)).drew = wa at *
        have l0 := HW.out.cell 0 rfl
        have l1 := HW.out.cell 1 rfl
        have l2 := HW.out.cell 2 rfl
        have l3 := HW.out.cell 3 rfl
        have l4 := HW.out.cell 4 rfl
        have l5 := HW.out.cell 5 rfl
        have lf := HW.out.frozen
        have ln := HW.out.lt
        refine hK.out _ _ (⟨HH4.out.cell 0 rfl, HH4.out.cell 1 rfl⟩) (fun hHeld => ?_)
        clear hK K
        try simp only [List.getElem_toArray, List.getElem_cons_zero, List.getElem_cons_succ, Act.put, List.setIfInBounds_toArray, List.set_cons_zero, List.set_cons_succ]
        refine wpAnyH_ready (rs := [22]) (by kernel_rfl) (by simp) ?_
        refine AllReadyH.cons rfl (fun K hK => ?_) AllReadyH.nil
        try simp only [List.getElem_toArray, List.getElem_cons_zero, List.getElem_cons_succ]
        go_simp
        refine (D4.out _).mono ?_
        rintro e wn ⟨rfl, rfl⟩
        go_wp2_with fail
        refine hK.out _ _ (⟨HH4.out.cell 0 rfl, HH4.out.cell 1 rfl⟩) (fun hHeld => ?_)
        clear hK K
        try simp only [List.getElem_toArray, List.getElem_cons_zero, List.getElem_cons_succ, Act.put, List.setIfInBounds_toArray, List.set_cons_zero, List.set_cons_succ]
        refine wpAnyH_take (i := 24) (v := ?_) rfl (by kernel_rfl) (by kernel_rfl) (by kernel_rfl) (fun _ _ _ h => h) (Or.inl ⟨by rfl, ?_⟩) hHeld ?_
        rotate_left
        · intro w hSw
          (try dsimp only at hSw)
          (try simp only [List.getElem_toArray, List.getElem_cons_zero, List.getElem_cons_succ])
          go_simp
          all_goals with_reducible rfl
        try simp only [List.getElem_toArray, List.getElem_cons_zero, List.getElem_cons_succ, Act.put, List.setIfInBounds_toArray, List.set_cons_zero, List.set_cons_succ]
        refine wpAnyH_take (i := 25) (v := ?_) rfl (by kernel_rfl) (by kernel_rfl) (by kernel_rfl) (fun _ _ _ h => h) (Or.inl ⟨by rfl, ?_⟩) hHeld ?_
        rotate_left
        · intro w hSw
          (try dsimp only at hSw)
          (try simp only [List.getElem_toArray, List.getElem_cons_zero, List.getElem_cons_succ])
          go_simp
          all_goals with_reducible rfl
        try simp only [List.getElem_toArray, List.getElem_cons_zero, List.getElem_cons_succ, Act.put, List.setIfInBounds_toArray, List.set_cons_zero, List.set_cons_succ]
        refine wpAnyH_take (i := 27) (v := ?_) rfl (by kernel_rfl) (by kernel_rfl) (by kernel_rfl) (fun _ _ _ h => h) (Or.inl ⟨by rfl, ?_⟩) hHeld ?_
        rotate_left
        · intro w hSw
          (try dsimp only at hSw)
          (try simp only [List.getElem_toArray, List.getElem_cons_zero, List.getElem_cons_succ])
          go_simp
          all_goals with_reducible rfl
        try simp only [List.getElem_toArray, List.getElem_cons_zero, List.getElem_cons_succ, Act.put, List.setIfInBounds_toArray, List.set_cons_zero, List.set_cons_succ]
        refine wpAnyH_take (i := 30) (v := ?_) rfl (by kernel_rfl) (by kernel_rfl) (by kernel_rfl) (fun _ _ _ h => h) (Or.inl ⟨by rfl, ?_⟩) hHeld ?_
        rotate_left
        · intro w hSw
          (try dsimp only at hSw)
          (try simp only [List.getElem_toArray, List.getElem_cons_zero, List.getElem_cons_succ])
          go_simp
          all_goals with_reducible rfl
        try simp only [List.getElem_toArray, List.getElem_cons_zero, List.getElem_cons_succ, Act.put, List.setIfInBounds_toArray, List.set_cons_zero, List.set_cons_succ]
        refine wpAnyH_ready (rs := [32]) (by kernel_rfl) (by simp) ?_
        refine AllReadyH.cons rfl (fun K hK => ?_) AllReadyH.nil
        try simp only [List.getElem_toArray, List.getElem_cons_zero, List.getElem_cons_succ]
        go_simp
        try simp only [z0, z1, z2, z3, z4, z5, v0, v1, y2, y3]
        obtain ⟨F1, F2⟩ := HW.out.six AB hWz (.int .i64 g0) (.int .i64 g1) (.int .i64 p) (.int .i64 c0) (.int .i64 c1) (.int .i64 s)
        replace HW := Lib.hid F1
        replace HL4 := Lib.hid (HL4.out.other6 (k := wz.heap.size) (by omega) (.int .i64 g0) (.int .i64 g1) (.int .i64 p) (.int .i64 c0) (.int .i64 c1) (.int .i64 s))
        replace HH4 := Lib.hid (HH4.out.other6 (k := wz.heap.size) (by omega) (.int .i64 g0) (.int .i64 g1) (.int .i64 p) (.int .i64 c0) (.int .i64 c1) (.int .i64 s))
        replace HG4 := Lib.hid (HG4.out.other6 (k := wz.heap.size) (by omega) (.int .i64 g0) (.int .i64 g1) (.int .i64 p) (.int .i64 c0) (.int .i64 c1) (.int .i64 s))
        replace AB := F2
        clear F1 F2 l0 l1 l2 l3 l4 l5 lf ln
        refine hK.out _ _ (⟨HH4.out.cell 0 rfl, HH4.out.cell 1 rfl⟩) (fun hHeld => ?_)
        clear hK K
        try simp only [List.getElem_toArray, List.getElem_cons_zero, List.getElem_cons_succ, Act.put, List.setIfInBounds_toArray, List.set_cons_zero, List.set_cons_succ]
        refine wpAnyH_done (by kernel_rfl) ?_ _
        have HB6 := Lib.hid AB
        clear AB hHeld HB4 z0 z1 z2 z3 z4 z5 D1 D2 D3 D4 hLz hHz hGz hWz HLz HHz HGz
        generalize ((((((wa.setCell ⟨wz.heap.size, 0, none⟩ (.int .i64 g0)).setCell ⟨wz.heap.size, 1, none⟩ (.int .i64 g1)).setCell ⟨wz.heap.size, 2, none⟩ (.int .i64 p)).setCell ⟨wz.heap.size, 3, none⟩ (.int .i64 c0)).setCell ⟨wz.heap.size, 4, none⟩ (.int .i64 c1)).setCell ⟨wz.heap.size, 5, none⟩ (.int .i64 s)) = w6 at *
        generalize wz.heap.size = Wn at *
        have a0 := HW.out.cell 0 rfl
        have a1 := HW.out.cell 1 rfl
        have a2 := HW.out.cell 2 rfl
        have a3 := HW.out.cell 3 rfl
        have a4 := HW.out.cell 4 rfl
        have a5 := HW.out.cell 5 rfl
        have al := HW.out.lt
        go_wp2_with fail
        refine (HC.out _).mono ?_
        rintro e w7 ⟨rfl, hb⟩
        replace HW := Lib.hid (HW.out.keep hb)
        replace HL4 := Lib.hid (HL4.out.keep hb)
        replace HH4 := Lib.hid (HH4.out.keep hb)
        replace HG4 := Lib.hid (HG4.out.keep hb)
        replace HB6 := Lib.hid (below2 HB6.out hb)
        clear hb a0 a1 a2 a3 a4 a5 al HC
        have o0 := HL4.out.cell 0 rfl
        have o1 := HL4.out.cell 1 rfl
        have o2 := HL4.out.lt
        have o3 := HH4.out.cell 0 rfl
        have o4 := HH4.out.cell 1 rfl
        have o5 := HH4.out.lt
        have o6 := HG4.out.lt
        have o7 := HW.out.lt
        have b0 := HG4.out.cell 0 rfl
        have b1 := HG4.out.cell 1 rfl
        have b2 := HG4.out.cell 2 rfl
        have b3 := HG4.out.cell 3 rfl
        have b4 := HG4.out.cell 4 rfl
        have b5 := HG4.out.cell 5 rfl
        have a0 := HW.out.cell 0 rfl
        have a1 := HW.out.cell 1 rfl
        have a2 := HW.out.cell 2 rfl
        have a3 := HW.out.cell 3 rfl
        have a4 := HW.out.cell 4 rfl
        have a5 := HW.out.cell 5 rfl
        obtain ⟨n1, n2, n3, n4⟩ := HNL.out
        rcases HZD.out with ⟨rfl, rfl, rfl, rfl, rfl, rfl, rfl, rfl⟩ | ⟨hR, rfl, rfl, rfl, rfl, rfl, rfl, rfl⟩
        · go_wp2
          go_ret
          exact ⟨rfl, HB6.out⟩
        · have hR2 : (E == 0) = false := by simp [hR]
          go_wp2
          go_ret
          exact ⟨rfl, HB6.out⟩
    · try simp only [List.getElem_toArray, List.getElem_cons_zero, List.getElem_cons_succ]
      go_simp
      have HW := Lib.hid (Blk.new wz 23 [.int .i64 0, .int .i64 0, .int .i64 0, .int .i64 0, .int .i64 0, .int .i64 0] (g := wz.heap.size) rfl)
      replace HW := Lib.hid HW.out.drew
      replace HL4 := Lib.hid ((HLz.out.alloc (.cells #[.int .i64 0, .int .i64 0, .int .i64 0, .int .i64 0, .int .i64 0, .int .i64 0] 23)).drew)
      replace HH4 := Lib.hid ((HHz.out.alloc (.cells #[.int .i64 0, .int .i64 0, .int .i64 0, .int .i64 0, .int .i64 0, .int .i64 0] 23)).drew)
      replace HG4 := Lib.hid ((HGz.out.alloc (.cells #[.int .i64 0, .int .i64 0, .int .i64 0, .int .i64 0, .int .i64 0, .int .i64 0] 23)).drew)
      have AB := (HB4.out.alloc HB4.out.size (.cells #[.int .i64 0, .int .i64 0, .int .i64 0, .int .i64 0, .int .i64 0, .int .i64 0] 23)).drew
      generalize (wz.alloc (.cells #[.int .i64 0, .int .i64 0, .int .i64 0, .int .i64 0, .int .i64 0, .int .i64 0] 23)).drew = wa at *
      have l0 := HW.out.cell 0 rfl
      have l1 := HW.out.cell 1 rfl
      have l2 := HW.out.cell 2 rfl
      have l3 := HW.out.cell 3 rfl
      have l4 := HW.out.cell 4 rfl
      have l5 := HW.out.cell 5 rfl
      have lf := HW.out.frozen
      have ln := HW.out.lt
      refine hK.out _ _ (⟨HH4.out.cell 0 rfl, HH4.out.cell 1 rfl⟩) (fun hHeld => ?_)
      clear hK K
      try simp only [List.getElem_toArray, List.getElem_cons_zero, List.getElem_cons_succ, Act.put, List.setIfInBounds_toArray, List.set_cons_zero, List.set_cons_succ]
      refine wpAnyH_ready (rs := [13]) (by kernel_rfl) (by simp) ?_
      refine AllReadyH.cons rfl (fun K hK => ?_) AllReadyH.nil
      try simp only [List.getElem_toArray, List.getElem_cons_zero, List.getElem_cons_succ]
      go_simp
      refine (D3.out _).mono ?_
      rintro e wn ⟨rfl, rfl⟩
      go_wp2_with fail
      refine hK.out _ _ (⟨HH4.out.cell 0 rfl, HH4.out.cell 1 rfl⟩) (fun hHeld => ?_)
      clear hK K
      try simp only [List.getElem_toArray, List.getElem_cons_zero, List.getElem_cons_succ, Act.put, List.setIfInBounds_toArray, List.set_cons_zero, List.set_cons_succ]
      refine wpAnyH_take (i := 15) (v := ?_) rfl (by kernel_rfl) (by kernel_rfl) (by kernel_rfl) (fun _ _ _ h => h) (Or.inl ⟨by rfl, ?_⟩) hHeld ?_
      rotate_left
      · intro w hSw
        (try dsimp only at hSw)
        (try simp only [List.getElem_toArray, List.getElem_cons_zero, List.getElem_cons_succ])
        go_simp
        all_goals with_reducible rfl
      try simp only [List.getElem_toArray, List.getElem_cons_zero, List.getElem_cons_succ, Act.put, List.setIfInBounds_toArray, List.set_cons_zero, List.set_cons_succ]
      refine wpAnyH_take (i := 16) (v := ?_) rfl (by kernel_rfl) (by kernel_rfl) (by kernel_rfl) (fun _ _ _ h => h) (Or.inl ⟨by rfl, ?_⟩) hHeld ?_
      rotate_left
      · intro w hSw
        (try dsimp only at hSw)
        (try simp only [List.getElem_toArray, List.getElem_cons_zero, List.getElem_cons_succ])
        go_simp
        all_goals with_reducible rfl
      try simp only [List.getElem_toArray, List.getElem_cons_zero, List.getElem_cons_succ, Act.put, List.setIfInBounds_toArray, List.set_cons_zero, List.set_cons_succ]
      refine wpAnyH_take (i := 18) (v := ?_) rfl (by kernel_rfl) (by kernel_rfl) (by kernel_rfl) (fun _ _ _ h => h) (Or.inl ⟨by rfl, ?_⟩) hHeld ?_
      rotate_left
      · intro w hSw
        (try dsimp only at hSw)
        (try simp only [List.getElem_toArray, List.getElem_cons_zero, List.getElem_cons_succ])
        go_simp
        all_goals with_reducible rfl
      try simp only [List.getElem_toArray, List.getElem_cons_zero, List.getElem_cons_succ, Act.put, List.setIfInBounds_toArray, List.set_cons_zero, List.set_cons_succ]
      refine wpAnyH_ready (rs := [22]) (by kernel_rfl) (by simp) ?_
      refine AllReadyH.cons rfl (fun K hK => ?_) AllReadyH.nil
      try simp only [List.getElem_toArray, List.getElem_cons_zero, List.getElem_cons_succ]
      go_simp
      refine (D4.out _).mono ?_
      rintro e wn ⟨rfl, rfl⟩
      go_wp2_with fail
      refine hK.out _ _ (⟨HH4.out.cell 0 rfl, HH4.out.cell 1 rfl⟩) (fun hHeld => ?_)
      clear hK K
      try simp only [List.getElem_toArray, List.getElem_cons_zero, List.getElem_cons_succ, Act.put, List.setIfInBounds_toArray, List.set_cons_zero, List.set_cons_succ]
      refine wpAnyH_take (i := 24) (v := ?_) rfl (by kernel_rfl) (by kernel_rfl) (by kernel_rfl) (fun _ _ _ h => h) (Or.inl ⟨by rfl, ?_⟩) hHeld ?_
      rotate_left
      · intro w hSw
        (try dsimp only at hSw)
        (try simp only [List.getElem_toArray, List.getElem_cons_zero, List.getElem_cons_succ])
        go_simp
        all_goals with_reducible rfl
      try simp only [List.getElem_toArray, List.getElem_cons_zero, List.getElem_cons_succ, Act.put, List.setIfInBounds_toArray, List.set_cons_zero, List.set_cons_succ]
      refine wpAnyH_take (i := 25) (v := ?_) rfl (by kernel_rfl) (by kernel_rfl) (by kernel_rfl) (fun _ _ _ h => h) (Or.inl ⟨by rfl, ?_⟩) hHeld ?_
      rotate_left
      · intro w hSw
        (try dsimp only at hSw)
        (try simp only [List.getElem_toArray, List.getElem_cons_zero, List.getElem_cons_succ])
        go_simp
        all_goals with_reducible rfl
      try simp only [List.getElem_toArray, List.getElem_cons_zero, List.getElem_cons_succ, Act.put, List.setIfInBounds_toArray, List.set_cons_zero, List.set_cons_succ]
      refine wpAnyH_take (i := 27) (v := ?_) rfl (by kernel_rfl) (by kernel_rfl) (by kernel_rfl) (fun _ _ _ h => h) (Or.inl ⟨by rfl, ?_⟩) hHeld ?_
      rotate_left
      · intro w hSw
        (try dsimp only at hSw)
        (try simp only [List.getElem_toArray, List.getElem_cons_zero, List.getElem_cons_succ])
        go_simp
        all_goals with_reducible rfl
      try simp only [List.getElem_toArray, List.getElem_cons_zero, List.getElem_cons_succ, Act.put, List.setIfInBounds_toArray, List.set_cons_zero, List.set_cons_succ]
      refine wpAnyH_take (i := 30) (v := ?_) rfl (by kernel_rfl) (by kernel_rfl) (by kernel_rfl) (fun _ _ _ h => h) (Or.inl ⟨by rfl, ?_⟩) hHeld ?_
      rotate_left
      · intro w hSw
        (try dsimp only at hSw)
        (try simp only [List.getElem_toArray, List.getElem_cons_zero, List.getElem_cons_succ])
        go_simp
        all_goals with_reducible rfl
      try simp only [List.getElem_toArray, List.getElem_cons_zero, List.getElem_cons_succ, Act.put, List.setIfInBounds_toArray, List.set_cons_zero, List.set_cons_succ]
      refine wpAnyH_ready (rs := [32]) (by kernel_rfl) (by simp) ?_
      refine AllReadyH.cons rfl (fun K hK => ?_) AllReadyH.nil
      try simp only [List.getElem_toArray, List.getElem_cons_zero, List.getElem_cons_succ]
      go_simp
      try simp only [z0, z1, z2, z3, z4, z5, v0, v1, y2, y3]
      obtain ⟨F1, F2⟩ := HW.out.six AB hWz (.int .i64 g0) (.int .i64 g1) (.int .i64 p) (.int .i64 c0) (.int .i64 c1) (.int .i64 s)
      replace HW := Lib.hid F1
      replace HL4 := Lib.hid (HL4.out.other6 (k := wz.heap.size) (by omega) (.int .i64 g0) (.int .i64 g1) (.int .i64 p) (.int .i64 c0) (.int .i64 c1) (.int .i64 s))
      replace HH4 := Lib.hid (HH4.out.other6 (k := wz.heap.size) (by omega) (.int .i64 g0) (.int .i64 g1) (.int .i64 p) (.int .i64 c0) (.int .i64 c1) (.int .i64 s))
      replace HG4 := Lib.hid (HG4.out.other6 (k := wz.heap.size) (by omega) (.int .i64 g0) (.int .i64 g1) (.int .i64 p) (.int .i64 c0) (.int .i64 c1) (.int .i64 s))
      replace AB := F2
      clear F1 F2 l0 l1 l2 l3 l4 l5 lf ln
      refine hK.out _ _ (⟨HH4.out.cell 0 rfl, HH4.out.cell 1 rfl⟩) (fun hHeld => ?_)
      clear hK K
      try simp only [List.getElem_toArray, List.getElem_cons_zero, List.getElem_cons_succ, Act.put, List.setIfInBounds_toArray, List.set_cons_zero, List.set_cons_succ]
      refine wpAnyH_done (by kernel_rfl) ?_ _
      have HB6 := Lib.hid AB
      clear AB hHeld HB4 z0 z1 z2 z3 z4 z5 D1 D2 D3 D4 hLz hHz hGz hWz HLz HHz HGz
      generalize ((((((wa.setCell ⟨wz.heap.size, 0, none⟩ (.int .i64 g0)).setCell ⟨wz.heap.size, 1, none⟩ (.int .i64 g1)).setCell ⟨wz.heap.size, 2, none⟩ (.int .i64 p)).setCell ⟨wz.heap.size, 3, none⟩ (.int .i64 c0)).setCell ⟨wz.heap.size, 4, none⟩ (.int .i64 c1)).setCell ⟨wz.heap.size, 5, none⟩ (.int .i64 s)) = w6 at *
      generalize wz.heap.size = Wn at *
      have a0 := HW.out.cell 0 rfl
      have a1 := HW.out.cell 1 rfl
      have a2 := HW.out.cell 2 rfl
      have a3 := HW.out.cell 3 rfl
      have a4 := HW.out.cell 4 rfl
      have a5 := HW.out.cell 5 rfl
      have al := HW.out.lt
      go_wp2_with fail
      refine (HC.out _).mono ?_
      rintro e w7 ⟨rfl, hb⟩
      replace HW := Lib.hid (HW.out.keep hb)
      replace HL4 := Lib.hid (HL4.out.keep hb)
      replace HH4 := Lib.hid (HH4.out.keep hb)
      replace HG4 := Lib.hid (HG4.out.keep hb)
      replace HB6 := Lib.hid (below2 HB6.out hb)
      clear hb a0 a1 a2 a3 a4 a5 al HC
      have o0 := HL4.out.cell 0 rfl
      have o1 := HL4.out.cell 1 rfl
      have o2 := HL4.out.lt
      have o3 := HH4.out.cell 0 rfl
      have o4 := HH4.out.cell 1 rfl
      have o5 := HH4.out.lt
      have o6 := HG4.out.lt
      have o7 := HW.out.lt
      have b0 := HG4.out.cell 0 rfl
      have b1 := HG4.out.cell 1 rfl
      have b2 := HG4.out.cell 2 rfl
      have b3 := HG4.out.cell 3 rfl
      have b4 := HG4.out.cell 4 rfl
      have b5 := HG4.out.cell 5 rfl
      have a0 := HW.out.cell 0 rfl
      have a1 := HW.out.cell 1 rfl
      have a2 := HW.out.cell 2 rfl
      have a3 := HW.out.cell 3 rfl
      have a4 := HW.out.cell 4 rfl
      have a5 := HW.out.cell 5 rfl
      obtain ⟨n1, n2, n3, n4⟩ := HNL.out
      rcases HZD.out with ⟨rfl, rfl, rfl, rfl, rfl, rfl, rfl, rfl⟩ | ⟨hR, rfl, rfl, rfl, rfl, rfl, rfl, rfl⟩
      · go_wp2
        go_ret
        exact ⟨rfl, HB6.out⟩
      · have hR2 : (E == 0) = false := by simp [hR]
        go_wp2
        go_ret
        exact ⟨rfl, HB6.out⟩

end Go.Proofs.Ytaadponhmnaccaa
