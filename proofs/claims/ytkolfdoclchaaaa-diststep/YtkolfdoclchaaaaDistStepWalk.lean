/-
  What the law DistStep does to any world (no claim is made here).
-/
import Derived.Test.YtkolfdoclchaaaaDst2
import Derived.OpenShut
namespace Go.Proofs.Ytkolfdoclchaaaa
open Go.RowKit

theorem tdiv2_inP {x : Int} (h : -32768 ≤ x ∧ x ≤ 32768) : -16384 ≤ x.tdiv 2 ∧ x.tdiv 2 ≤ 16384 := by
  rcases Int.le_total 0 x with h0 | h0
  · rw [Int.tdiv_eq_ediv_of_nonneg h0]; omega
  · obtain ⟨y, rfl⟩ : ∃ y, x = -y := ⟨-x, by omega⟩
    rw [Int.neg_tdiv, Int.tdiv_eq_ediv_of_nonneg (by omega)]; omega

set_option maxRecDepth 100000 in
set_option maxHeartbeats 6400000 in
theorem distStep_walk (A : Option Addr) (n cap : Nat) (cs : List (List Dot)) (m p0 p1 dx dy : Int) (w : World) (hcs : DotRows w A n cap cs) (hm : 0 ≤ m ∧ m ≤ 65535) (hp0 : (Lit.int .i16 p0).wf = true) (hp1 : (Lit.int .i16 p1).wf = true) (hdx : -128 ≤ dx ∧ dx ≤ 127) (hdy : -128 ≤ dy ∧ dy ≤ 127) :
    Calls Try.prog 7 #[.slice A n cap, .int .u16 m, .agg #[.int .i16 p0, .int .i16 p1], .int .i8 dx, .int .i8 dy] w fun e w' => e = .returned (.bool true) ∧ Below w.heap.size w w' := by
  have HD := Lib.hid hcs
  have b0 := bounds_i16 hp0
  have b1 := bounds_i16 hp1
  have HP := Lib.hid (show p0.natAbs ≤ 32768 ∧ p1.natAbs ≤ 32768 by omega)
  have HM := Lib.hid (show 0 ≤ m ∧ m < 65536 by omega)
  clear hcs hp0 hp1 b0 b1 hm
  have HB0 := Lib.hid ((Below.refl _ w).alloc (Nat.le_refl _) (.cells #[.int .i16 p0, .int .i16 p1] 26))
  have HP0 := Lib.hid (Blk.new w 26 [.int .i16 p0, .int .i16 p1] rfl)
  go_enter Try.func7, Try.ntmps7
  go_wp2_with fail
  refine (awake8 _).mono ?_
  rintro e w1 ⟨rfl, hb1⟩
  have HP1 := Lib.hid (HP0.out.keep hb1)
  have HB1 := Lib.hid (HB0.out.trans (hb1.mono HB0.out.size))
  have HC := Lib.hid (glyph7 A n cap cs w1 (HD.out.keep HB1.out))
  clear hb1 HP0 HB0 HD
  go_wp2_with fail
  refine HC.out.mono ?_
  rintro e w2 ⟨u, es, rfl, hu, hln, hin, hcl, hb2⟩
  have HP2 := Lib.hid (HP1.out.keep hb2)
  have HB2 := Lib.hid (HB1.out.trans (hb2.mono HB1.out.size))
  have HU := Lib.hid (ERow.read hu)
  have HIN := Lib.hid hin
  have hln2 : es.length ≤ 200000 := by omega
  have HX := Lib.hid (spot_any u es m p0 p1 w2 HU.out hin HM.out HP.out)
  obtain ⟨Au, capu, rfl⟩ := hu.form
  have HLN := Lib.hid hln2
  obtain ⟨N, hN⟩ : ∃ N, es.length = N := ⟨_, rfl⟩
  rw [hN] at HU HX hln
  rw [hN]
  have HN := Lib.hid hN
  have hcu : N ≤ capu := by obtain ⟨_, _, e, h, _⟩ := HU.out; injection e with _ _ e; omega
  have q0 := HP2.out.cell 0 rfl
  have q1 := HP2.out.cell 1 rfl
  have qn := HP2.out.lt
  clear hu hin hcl hb2 HC HB1 hN HP1 hln2
  go_wp2_with fail
  refine HX.out.mono ?_
  rintro e w3 ⟨x, y, rfl, hxy, hb3⟩
  have HB3 := Lib.hid (HB2.out.trans (hb3.mono HB2.out.size))
  have HU3 := Lib.hid (HU.out.keep hb3)
  have HXY := Lib.hid hxy
  clear hb3 HX HB2 HP2 HU q0 q1 qn HM HP hxy
  obtain ⟨t0, ht0⟩ : ∃ t, x.tdiv 2 = t := ⟨_, rfl⟩
  obtain ⟨t1, ht1⟩ : ∃ t, y.tdiv 2 = t := ⟨_, rfl⟩
  have hb0 : -16384 ≤ t0 ∧ t0 ≤ 16384 := by rw [← ht0]; exact tdiv2_inP (by have h := HXY.out.1; simp only [] at h; omega)
  have hb1 : -16384 ≤ t1 ∧ t1 ≤ 16384 := by rw [← ht1]; exact tdiv2_inP (by have h := HXY.out.2; simp only [] at h; omega)
  obtain ⟨s0, hs0⟩ : ∃ s, t0 + dx = s := ⟨_, rfl⟩
  obtain ⟨s1, hs1⟩ : ∃ s, t1 + dy = s := ⟨_, rfl⟩
  have hc0 : -16512 ≤ s0 ∧ s0 ≤ 16511 := by omega
  have hc1 : -16512 ≤ s1 ∧ s1 ≤ 16511 := by omega
  go_wp2_with fail
  have hBA := alloc2 w3 (.cells #[.int .i64 t0, .int .i64 t1] 31) (.cells #[.int .i64 s0, .int .i64 s1] 31)
  have KA := (Blk.new w3 31 [.int .i64 t0, .int .i64 t1] rfl).alloc (.cells #[.int .i64 s0, .int .i64 s1] 31)
  have KB := Blk.new (w3.alloc (.cells #[.int .i64 t0, .int .i64 t1] 31)) 31 [.int .i64 s0, .int .i64 s1] (g := w3.heap.size + 1) (by simp)
  have HB5 := Lib.hid (HB3.out.trans (hBA.mono HB3.out.size))
  have HU5 := Lib.hid (HU3.out.keep hBA)
  clear hBA
  have a0 := KA.cell 0 rfl
  have a1 := KA.cell 1 rfl
  have a2 := KB.cell 0 rfl
  have a3 := KB.cell 1 rfl
  clear KA KB
  generalize (w3.alloc (.cells #[.int .i64 t0, .int .i64 t1] 31)).alloc (.cells #[.int .i64 s0, .int .i64 s1] 31) = w4 at *
  generalize w3.heap.size + 1 = gb at *
  generalize w3.heap.size = ga at *
  have hPa : InP ⟨t0, t1⟩ := by unfold InP; simp only []; omega
  have hPb : InP ⟨s0, s1⟩ := by unfold InP; simp only []; omega
  have H1 := Lib.hid (fun w (h : ERd w (.slice Au N capu) es) => eight_any _ es t0 t1 w h HLN.out HIN.out hPa)
  have H2 := Lib.hid (fun w (h : ERd w (.slice Au N capu) es) => eight_any _ es s0 s1 w h HLN.out HIN.out hPb)
  have E1 := E8.is es ⟨t0, t1⟩
  have E2 := E8.is es ⟨s0, s1⟩
  have m1 := absB (show dx.natAbs ≤ 128 by omega)
  have m2 := absB (show dy.natAbs ≤ 128 by omega)
  have m3 := sqNN dx
  have m4 := sqNN dy
  obtain ⟨sx, hsx⟩ : ∃ z, dx * dx = z := ⟨_, rfl⟩
  obtain ⟨sy, hsy⟩ : ∃ z, dy * dy = z := ⟨_, rfl⟩
  rw [hsx] at m1 m3
  rw [hsy] at m2 m4
  obtain ⟨L, hL⟩ : ∃ z : Nat, 64 * (sx + sy) = (z : Int) := ⟨(64 * (sx + sy)).toNat, by omega⟩
  have hL2 : L ≤ 2097152 := by omega
  have hq := isqrt_spec L (by omega)
  have HQ := Lib.hid (fun w => sqrt_any L (by omega) w)
  have hW2 : (64 : Int) * (dx * dx + dy * dy) < ((isqrt L : Nat) + 1) * ((isqrt L : Nat) + 1) := by
    rw [hsx, hsy, hL]
    exact_mod_cast hq.2
  have hW3 : isqrt L < 3037000500 := isqrt_lt L (by omega)
  have k1 := E8.step (fit_of HIN.out hPa) (fit_of HIN.out hPb) E1 E2 (W := (isqrt L : Nat)) (by omega) (by
    simp only []
    rw [show t0 - s0 = -dx by omega, show t1 - s1 = -dy by omega, Int.neg_mul_neg, Int.neg_mul_neg]
    exact hW2)
  have k2 := E8.step (fit_of HIN.out hPb) (fit_of HIN.out hPa) E2 E1 (W := (isqrt L : Nat)) (by omega) (by
    simp only []
    rw [show s0 - t0 = dx by omega, show s1 - t1 = dy by omega]
    exact hW2)
  have c1 := E1.small HIN.out hPa
  have c2 := E2.small HIN.out hPb
  generalize eightS es ⟨t0, t1⟩ = X at *
  generalize eightS es ⟨s0, s1⟩ = Y at *
  generalize isqrt L = W at *
  have y1 : IntKind.i64.wrap sx = sx := wI (by omega) (by omega)
  have y2 : IntKind.i64.wrap sy = sy := wI (by omega) (by omega)
  have z1 : X - Y ≤ (W : Int) + 2 := by omega
  have z2 : Y - X ≤ (W : Int) + 2 := by omega
  clear HXY hPa hPb E1 E2 hq hW2 ht0 ht1 hs0 hs1 hb0 hb1 hc0 hc1 k1 k2 HU3 HB3
  have AB : Below w4.heap.size w4 w4.drew := (Below.refl _ _).drew
  refine wp_region_held_drew (S := fun wx => wx.cell? ⟨ga, 0, none⟩ = some (.int .i64 t0) ∧ wx.cell? ⟨ga, 1, none⟩ = some (.int .i64 t1) ∧ wx.cell? ⟨gb, 0, none⟩ = some (.int .i64 s0) ∧ wx.cell? ⟨gb, 1, none⟩ = some (.int .i64 s1) ∧ Below w4.heap.size w4 wx) (by kernel_rfl) (S4_of a0 a1 a2 a3 AB) (fun hHeld => ?_)
  refine wpAnyH_take (i := 0) (v := ?_) rfl (by kernel_rfl) (by kernel_rfl) (by kernel_rfl) (fun _ _ _ h => h) (Or.inl ⟨by rfl, ?_⟩) hHeld ?_
  rotate_left
  · intro w hSw
    (try dsimp only at hSw)
    (try simp only [List.getElem_toArray, List.getElem_cons_zero])
    go_simp
    all_goals with_reducible rfl
  try simp only [List.getElem_toArray, List.getElem_cons_zero, Act.put, List.setIfInBounds_toArray, List.set_cons_zero, List.set_cons_succ]
  refine wpAnyH_take (i := 1) (v := ?_) rfl (by kernel_rfl) (by kernel_rfl) (by kernel_rfl) (fun _ _ _ h => h) (Or.inl ⟨by rfl, ?_⟩) hHeld ?_
  rotate_left
  · intro w hSw
    (try dsimp only at hSw)
    (try simp only [List.getElem_toArray, List.getElem_cons_zero, List.getElem_cons_succ])
    go_simp
    all_goals with_reducible rfl
  try simp only [List.getElem_toArray, List.getElem_cons_zero, List.getElem_cons_succ, Act.put, List.setIfInBounds_toArray, List.set_cons_zero, List.set_cons_succ]
  refine wpAnyH_take (i := 3) (v := ?_) rfl (by kernel_rfl) (by kernel_rfl) (by kernel_rfl) (fun _ _ _ h => h) (Or.inl ⟨by rfl, ?_⟩) hHeld ?_
  rotate_left
  · intro w hSw
    (try dsimp only at hSw)
    (try simp only [List.getElem_toArray, List.getElem_cons_zero, List.getElem_cons_succ])
    go_simp
    all_goals with_reducible rfl
  try simp only [List.getElem_toArray, List.getElem_cons_zero, List.getElem_cons_succ, Act.put, List.setIfInBounds_toArray, List.set_cons_zero, List.set_cons_succ]
  refine wpAnyH_take (i := 4) (v := ?_) rfl (by kernel_rfl) (by kernel_rfl) (by kernel_rfl) (fun _ _ _ h => h) (Or.inl ⟨by rfl, ?_⟩) hHeld ?_
  rotate_left
  · intro w hSw
    (try dsimp only at hSw)
    (try simp only [List.getElem_toArray, List.getElem_cons_zero, List.getElem_cons_succ])
    go_simp
    all_goals with_reducible rfl
  try simp only [List.getElem_toArray, List.getElem_cons_zero, List.getElem_cons_succ, Act.put, List.setIfInBounds_toArray, List.set_cons_zero, List.set_cons_succ]
  refine wpAnyH_ready (rs := [2]) (by kernel_rfl) (by simp) ?_
  refine AllReadyH.cons rfl (fun K hK => ?_) AllReadyH.nil
  try simp only [List.getElem_toArray, List.getElem_cons_zero, List.getElem_cons_succ]
  go_simp
  refine (H1.out _ (HU5.out.keep AB)).mono ?_
  rintro e wn ⟨rfl, hbn⟩
  have AB := AB.trans (hbn.mono AB.size)
  clear hbn
  go_wp2_with fail
  refine hK.out _ _ (S4_of a0 a1 a2 a3 AB) (fun hHeld => ?_)
  clear hK K
  try simp only [List.getElem_toArray, List.getElem_cons_zero, List.getElem_cons_succ, Act.put, List.setIfInBounds_toArray, List.set_cons_zero, List.set_cons_succ]
  refine wpAnyH_ready (rs := [5]) (by kernel_rfl) (by simp) ?_
  refine AllReadyH.cons rfl (fun K hK => ?_) AllReadyH.nil
  try simp only [List.getElem_toArray, List.getElem_cons_zero, List.getElem_cons_succ]
  go_simp
  refine (H2.out _ (HU5.out.keep AB)).mono ?_
  rintro e wn ⟨rfl, hbn⟩
  have AB := AB.trans (hbn.mono AB.size)
  clear hbn
  go_wp2_with fail
  refine hK.out _ _ (S4_of a0 a1 a2 a3 AB) (fun hHeld => ?_)
  clear hK K
  try simp only [List.getElem_toArray, List.getElem_cons_zero, List.getElem_cons_succ, Act.put, List.setIfInBounds_toArray, List.set_cons_zero, List.set_cons_succ]
  refine wpAnyH_take (i := 6) (v := ?_) rfl (by kernel_rfl) (by kernel_rfl) (by kernel_rfl) (fun _ _ _ h => h) (Or.inl ⟨by rfl, ?_⟩) hHeld ?_
  rotate_left
  · intro w hSw
    (try dsimp only at hSw)
    (try simp only [List.getElem_toArray, List.getElem_cons_zero, List.getElem_cons_succ])
    go_simp
    all_goals with_reducible rfl
  try simp only [List.getElem_toArray, List.getElem_cons_zero, List.getElem_cons_succ, Act.put, List.setIfInBounds_toArray, List.set_cons_zero, List.set_cons_succ]
  refine wpAnyH_take (i := 7) (v := ?_) rfl (by kernel_rfl) (by kernel_rfl) (by kernel_rfl) (fun _ _ _ h => h) (Or.inl ⟨by rfl, ?_⟩) hHeld ?_
  rotate_left
  · intro w hSw
    (try dsimp only at hSw)
    (try simp only [List.getElem_toArray, List.getElem_cons_zero, List.getElem_cons_succ])
    go_simp
    all_goals with_reducible rfl
  try simp only [List.getElem_toArray, List.getElem_cons_zero, List.getElem_cons_succ, Act.put, List.setIfInBounds_toArray, List.set_cons_zero, List.set_cons_succ]
  refine wpAnyH_done (by kernel_rfl) ?_ _
  have HF := Lib.hid (HB5.out.trans (AB.mono HB5.out.size))
  clear AB hHeld a0 a1 a2 a3
  go_wp2_with fail
  refine (HQ.out _).mono ?_
  rintro e w9 ⟨rfl, rfl⟩
  go_wp2
  go_ret
  exact ⟨rfl, HF.out⟩

end Go.Proofs.Ytkolfdoclchaaaa
