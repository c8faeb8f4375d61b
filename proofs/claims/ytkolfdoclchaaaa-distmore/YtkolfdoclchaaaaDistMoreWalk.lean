/-
  What the law DistMore does to any world (no claim is made here).
-/
import Derived.Test.YtkolfdoclchaaaaDst2
import Derived.Test.YtkolfdoclchaaaaJoin
import Derived.Laws.OwnMore
import Derived.OpenShut
namespace Go.Proofs.Ytkolfdoclchaaaa
open Go.RowKit

set_option maxRecDepth 100000 in
set_option maxHeartbeats 6400000 in
theorem distMore_walk (A : Option Addr) (n cap : Nat) (cs : List (List Dot)) (D : Option Addr) (nd capd : Nat) (ds : List (List Dot)) (m p0 p1 : Int) (w : World) (hcs : DotRows w A n cap cs) (hds : DotRows w D nd capd ds) (hm : 0 ≤ m ∧ m ≤ 65535) (hp0 : (Lit.int .i16 p0).wf = true) (hp1 : (Lit.int .i16 p1).wf = true) :
    Calls Try.prog 8 #[.slice A n cap, .slice D nd capd, .int .u16 m, .agg #[.int .i16 p0, .int .i16 p1]] w fun e w' => e = .returned (.bool true) ∧ Below w.heap.size w w' := by
  have HD := Lib.hid hcs
  have HD2 := Lib.hid hds
  have b0 := bounds_i16 hp0
  have b1 := bounds_i16 hp1
  have HP := Lib.hid (show p0.natAbs ≤ 32768 ∧ p1.natAbs ≤ 32768 by omega)
  have HM := Lib.hid (show 0 ≤ m ∧ m < 65536 by omega)
  clear hcs hds hp0 hp1 b0 b1 hm
  have HB0 := Lib.hid ((Below.refl _ w).alloc (Nat.le_refl _) (.cells #[.int .i16 p0, .int .i16 p1] 26))
  have HP0 := Lib.hid (Blk.new w 26 [.int .i16 p0, .int .i16 p1] rfl)
  go_enter Try.func8, Try.ntmps8
  go_wp2_with fail
  refine (awake8 _).mono ?_
  rintro e w1 ⟨rfl, hb1⟩
  have HP1 := Lib.hid (HP0.out.keep hb1)
  have HB1 := Lib.hid (HB0.out.trans (hb1.mono HB0.out.size))
  have HC := Lib.hid (glyph7 A n cap cs w1 (HD.out.keep HB1.out))
  clear hb1 HP0 HB0 HD
  go_wp2_with fail
  refine HC.out.mono ?_
  rintro e w2 ⟨u, es, rfl, hu, hln, hin, hcl, hb2⟩
  have HP2 := Lib.hid (HP1.out.keep hb2)
  have HB2 := Lib.hid (HB1.out.trans (hb2.mono HB1.out.size))
  have HU := Lib.hid (hu.mono HB1.out.size)
  have HIN := Lib.hid hin
  obtain ⟨Au, capu, rfl⟩ := hu.form
  obtain ⟨N, hN⟩ : ∃ N, es.length = N := ⟨_, rfl⟩
  rw [hN] at HU hln
  rw [hN]
  have HN := Lib.hid hN
  have HC2 := Lib.hid (glyph7 D nd capd ds w2 (HD2.out.keep HB2.out))
  clear hu hin hcl hb2 HC HB1 hN HP1 HD2
  go_wp2_with fail
  refine HC2.out.mono ?_
  rintro e w3 ⟨u, fs, rfl, hu, hlm, hin, hcl, hb2⟩
  have HP3 := Lib.hid (HP2.out.keep hb2)
  have HB3 := Lib.hid (HB2.out.trans (hb2.mono HB2.out.size))
  have HF := Lib.hid (hu.mono HB2.out.size)
  have HU3 := Lib.hid (HU.out.below hb2)
  have HIN2 := Lib.hid hin
  obtain ⟨Af, capf, rfl⟩ := hu.form
  obtain ⟨M, hM⟩ : ∃ N, fs.length = N := ⟨_, rfl⟩
  rw [hM] at HF hlm
  rw [hM]
  have HM2 := Lib.hid hM
  have HX := Lib.hid (spot_any (.slice Au N capu) es m p0 p1 w3 (ERow.read HU3.out) HIN.out HM.out HP.out)
  have q0 := HP3.out.cell 0 rfl
  have q1 := HP3.out.cell 1 rfl
  have qn := HP3.out.lt
  clear hu hin hcl hb2 HC2 HB2 hM HP2 HU
  go_wp2_with fail
  refine HX.out.mono ?_
  rintro e w4 ⟨x, y, rfl, hxy, hb3⟩
  have HB4 := Lib.hid (HB3.out.trans (hb3.mono HB3.out.size))
  have HU4 := Lib.hid (HU3.out.below hb3)
  have HF4 := Lib.hid (HF.out.below hb3)
  have HXY := Lib.hid hxy
  clear hb3 HX HB3 HP3 HU3 HF q0 q1 qn HM HP hxy
  go_upto_region 5 with fail
  have HB5 := Lib.hid (HB4.out.alloc HB4.out.size (.cells #[.int .i64 x, .int .i64 y] 31))
  have HQ5 := Lib.hid (Blk.new w4 31 [.int .i64 x, .int .i64 y] rfl)
  have HVa := Lib.hid (ERow.read (HU4.out.alloc (.cells #[.int .i64 x, .int .i64 y] 31)))
  have HVb := Lib.hid (ERow.read (HF4.out.alloc (.cells #[.int .i64 x, .int .i64 y] 31)))
  generalize w4.alloc (.cells #[.int .i64 x, .int .i64 y] 31) = w5 at *
  generalize w4.heap.size = gx at *
  have h0 := HQ5.out.cell 0 rfl
  have h1 := HQ5.out.cell 1 rfl
  have hi3 : ∀ s ∈ es ++ fs, InD s := fun s hs => (List.mem_append.1 hs).elim (HIN.out s) (HIN2.out s)
  have hl1 : es.length ≤ 200000 := by rw [HN.out]; omega
  have hl2 : fs.length ≤ 200000 := by rw [HM2.out]; omega
  have hl3 : (es ++ fs).length ≤ 200000 := by rw [List.length_append, HN.out, HM2.out]; omega
  have H1 := Lib.hid (fun w h => eight_any (.slice Au N capu) es x y w h hl1 HIN.out HXY.out)
  have H2 := Lib.hid (fun w h => eight_any (.slice Af M capf) fs x y w h hl2 HIN2.out HXY.out)
  have H3 := Lib.hid (fun A c w h => eight_any (.slice A (N + M) c) (es ++ fs) x y w h hl3 hi3 HXY.out)
  have E1 := E8.is es ⟨x, y⟩
  have E2 := E8.is fs ⟨x, y⟩
  have E3 := E8.is (es ++ fs) ⟨x, y⟩
  have k1 := E8.more E1 E2 E3
  have c1 := E1.small HIN.out HXY.out
  have c2 := E2.small HIN2.out HXY.out
  have c3 := E3.small hi3 HXY.out
  generalize eightS es ⟨x, y⟩ = I at *
  generalize eightS fs ⟨x, y⟩ = J at *
  generalize eightS (es ++ fs) ⟨x, y⟩ = Kk at *
  clear HB4 HU4 HF4 HQ5 hi3 hl1 hl2 hl3 E1 E2 E3 HXY HIN HIN2
  have AB : Below w5.heap.size w5 w5.drew := (Below.refl _ _).drew
  refine wp_region_held_drew (S := fun wx => wx.cell? ⟨gx, 0, none⟩ = some (.int .i64 x) ∧ wx.cell? ⟨gx, 1, none⟩ = some (.int .i64 y) ∧ Below w5.heap.size w5 wx) (by kernel_rfl) (S2_of h0 h1 AB) (fun hHeld => ?_)
  refine wpAnyH_take (i := 0) (v := ?_) rfl (by kernel_rfl) (by kernel_rfl) (by kernel_rfl) (fun _ _ _ h => h) (Or.inl ⟨by rfl, ?_⟩) hHeld ?_
  rotate_left
  · intro w hSw
    (try dsimp only at hSw)
    (try simp only [List.getElem_toArray, List.getElem_cons_zero])
    go_simp
    all_goals with_reducible rfl
  try simp only [List.getElem_toArray, List.getElem_cons_zero, Act.put, List.setIfInBounds_toArray, List.set_cons_zero, List.set_cons_succ]
  refine wpAnyH_take (i := 1) (v := ?_) rfl (by kernel_rfl) (by kernel_rfl) (by kernel_rfl) (fun _ _ _ h => h) (Or.inl ⟨by rfl, ?_⟩) hHeld ?_
  rotate_left
  · intro w hSw
    (try dsimp only at hSw)
    (try simp only [List.getElem_toArray, List.getElem_cons_zero, List.getElem_cons_succ])
    go_simp
    all_goals with_reducible rfl
  try simp only [List.getElem_toArray, List.getElem_cons_zero, List.getElem_cons_succ, Act.put, List.setIfInBounds_toArray, List.set_cons_zero, List.set_cons_succ]
  refine wpAnyH_take (i := 3) (v := ?_) rfl (by kernel_rfl) (by kernel_rfl) (by kernel_rfl) (fun _ _ _ h => h) (Or.inl ⟨by rfl, ?_⟩) hHeld ?_
  rotate_left
  · intro w hSw
    (try dsimp only at hSw)
    (try simp only [List.getElem_toArray, List.getElem_cons_zero, List.getElem_cons_succ])
    go_simp
    all_goals with_reducible rfl
  try simp only [List.getElem_toArray, List.getElem_cons_zero, List.getElem_cons_succ, Act.put, List.setIfInBounds_toArray, List.set_cons_zero, List.set_cons_succ]
  refine wpAnyH_take (i := 4) (v := ?_) rfl (by kernel_rfl) (by kernel_rfl) (by kernel_rfl) (fun _ _ _ h => h) (Or.inl ⟨by rfl, ?_⟩) hHeld ?_
  rotate_left
  · intro w hSw
    (try dsimp only at hSw)
    (try simp only [List.getElem_toArray, List.getElem_cons_zero, List.getElem_cons_succ])
    go_simp
    all_goals with_reducible rfl
  try simp only [List.getElem_toArray, List.getElem_cons_zero, List.getElem_cons_succ, Act.put, List.setIfInBounds_toArray, List.set_cons_zero, List.set_cons_succ]
  refine wpAnyH_take (i := 6) (v := ?_) rfl (by kernel_rfl) (by kernel_rfl) (by kernel_rfl) (fun _ _ _ h => h) (Or.inl ⟨by rfl, ?_⟩) hHeld ?_
  rotate_left
  · intro w hSw
    (try dsimp only at hSw)
    (try simp only [List.getElem_toArray, List.getElem_cons_zero, List.getElem_cons_succ])
    go_simp
    all_goals with_reducible rfl
  try simp only [List.getElem_toArray, List.getElem_cons_zero, List.getElem_cons_succ, Act.put, List.setIfInBounds_toArray, List.set_cons_zero, List.set_cons_succ]
  refine wpAnyH_take (i := 8) (v := ?_) rfl (by kernel_rfl) (by kernel_rfl) (by kernel_rfl) (fun _ _ _ h => h) (Or.inl ⟨by rfl, ?_⟩) hHeld ?_
  rotate_left
  · intro w hSw
    (try dsimp only at hSw)
    (try simp only [List.getElem_toArray, List.getElem_cons_zero, List.getElem_cons_succ])
    go_simp
    all_goals with_reducible rfl
  try simp only [List.getElem_toArray, List.getElem_cons_zero, List.getElem_cons_succ, Act.put, List.setIfInBounds_toArray, List.set_cons_zero, List.set_cons_succ]
  refine wpAnyH_take (i := 10) (v := ?_) rfl (by kernel_rfl) (by kernel_rfl) (by kernel_rfl) (fun _ _ _ h => h) (Or.inl ⟨by rfl, ?_⟩) hHeld ?_
  rotate_left
  · intro w hSw
    (try dsimp only at hSw)
    (try simp only [List.getElem_toArray, List.getElem_cons_zero, List.getElem_cons_succ])
    go_simp
    all_goals with_reducible rfl
  try simp only [List.getElem_toArray, List.getElem_cons_zero, List.getElem_cons_succ, Act.put, List.setIfInBounds_toArray, List.set_cons_zero, List.set_cons_succ]
  refine wpAnyH_ready (rs := [2]) (by kernel_rfl) (by simp) ?_
  refine AllReadyH.cons rfl (fun K hK => ?_) AllReadyH.nil
  try simp only [List.getElem_toArray, List.getElem_cons_zero, List.getElem_cons_succ]
  go_simp
  refine (H1.out _ (HVa.out.keep AB)).mono ?_
  rintro e wn ⟨rfl, hbn⟩
  have AB := AB.trans (hbn.mono AB.size)
  clear hbn
  go_wp2_with fail
  refine hK.out _ _ (S2_of h0 h1 AB) (fun hHeld => ?_)
  clear hK K
  try simp only [List.getElem_toArray, List.getElem_cons_zero, List.getElem_cons_succ, Act.put, List.setIfInBounds_toArray, List.set_cons_zero, List.set_cons_succ]
  refine wpAnyH_ready (rs := [5]) (by kernel_rfl) (by simp) ?_
  refine AllReadyH.cons rfl (fun K hK => ?_) AllReadyH.nil
  try simp only [List.getElem_toArray, List.getElem_cons_zero, List.getElem_cons_succ]
  go_simp
  refine (H2.out _ (HVb.out.keep AB)).mono ?_
  rintro e wn ⟨rfl, hbn⟩
  have AB := AB.trans (hbn.mono AB.size)
  clear hbn
  go_wp2_with fail
  refine hK.out _ _ (S2_of h0 h1 AB) (fun hHeld => ?_)
  clear hK K
  try simp only [List.getElem_toArray, List.getElem_cons_zero, List.getElem_cons_succ, Act.put, List.setIfInBounds_toArray, List.set_cons_zero, List.set_cons_succ]
  refine wpAnyH_ready (rs := [7]) (by kernel_rfl) (by simp) ?_
  refine AllReadyH.cons rfl (fun K hK => ?_) AllReadyH.nil
  try simp only [List.getElem_toArray, List.getElem_cons_zero, List.getElem_cons_succ]
  refine step_if (by kernel_rfl) ?_
  refine join_wp (.const (.slice none 0 0)) (.tmp 31) ?_ w5.heap.size (.slice none 0 0) [] 0 ?_ (ERow.nil _ _) rfl Au N capu es ?_ (HVa.out.keep AB) HN.out ?_ ?_ ?_
  · rfl
  · rfl
  · kernel_rfl
  · omega
  · exact AB.size
  intro A6 c6 wn hE6 hb6
  rw [Nat.zero_add, List.nil_append] at hE6
  rw [Nat.zero_add]
  have HE6 := Lib.hid hE6
  have AB := AB.trans hb6
  clear hb6 hE6
  refine hK.out _ _ (S2_of h0 h1 AB) (fun hHeld => ?_)
  clear hK K
  try simp only [Act.put, List.setIfInBounds_toArray, List.set_cons_zero, List.set_cons_succ]
  refine wpAnyH_ready (rs := [9]) (by kernel_rfl) (by simp) ?_
  refine AllReadyH.cons rfl (fun K hK => ?_) AllReadyH.nil
  try simp only [List.getElem_toArray, List.getElem_cons_zero, List.getElem_cons_succ]
  refine step_if (by kernel_rfl) ?_
  refine join_wp (.tmp 32) (.tmp 33) ?_ w5.heap.size (.slice A6 N c6) es N ?_ HE6.out HN.out Af M capf fs ?_ (HVb.out.keep AB) HM2.out ?_ ?_ ?_
  · rfl
  · kernel_rfl
  · kernel_rfl
  · omega
  · exact AB.size
  intro A7 c7 wn hE7 hb7
  have HE7 := Lib.hid hE7
  have AB := AB.trans hb7
  clear hb7 hE7 HE6
  refine hK.out _ _ (S2_of h0 h1 AB) (fun hHeld => ?_)
  clear hK K
  try simp only [Act.put, List.setIfInBounds_toArray, List.set_cons_zero, List.set_cons_succ]
  refine wpAnyH_ready (rs := [11]) (by kernel_rfl) (by simp) ?_
  refine AllReadyH.cons rfl (fun K hK => ?_) AllReadyH.nil
  try simp only [List.getElem_toArray, List.getElem_cons_zero, List.getElem_cons_succ]
  go_simp
  refine (H3.out _ _ _ (ERow.read HE7.out)).mono ?_
  rintro e wn ⟨rfl, hbn⟩
  have AB := AB.trans (hbn.mono AB.size)
  clear hbn
  go_wp2_with fail
  refine hK.out _ _ (S2_of h0 h1 AB) (fun hHeld => ?_)
  clear hK K
  try simp only [List.getElem_toArray, List.getElem_cons_zero, List.getElem_cons_succ, Act.put, List.setIfInBounds_toArray, List.set_cons_zero, List.set_cons_succ]
  refine wpAnyH_take (i := 12) (v := ?_) rfl (by kernel_rfl) (by kernel_rfl) (by kernel_rfl) (fun _ _ _ h => h) (Or.inl ⟨by rfl, ?_⟩) hHeld ?_
  rotate_left
  · intro w hSw
    (try dsimp only at hSw)
    (try simp only [List.getElem_toArray, List.getElem_cons_zero, List.getElem_cons_succ])
    go_simp
    all_goals with_reducible rfl
  try simp only [List.getElem_toArray, List.getElem_cons_zero, List.getElem_cons_succ, Act.put, List.setIfInBounds_toArray, List.set_cons_zero, List.set_cons_succ]
  refine wpAnyH_take (i := 13) (v := ?_) rfl (by kernel_rfl) (by kernel_rfl) (by kernel_rfl) (fun _ _ _ h => h) (Or.inl ⟨by rfl, ?_⟩) hHeld ?_
  rotate_left
  · intro w hSw
    (try dsimp only at hSw)
    (try simp only [List.getElem_toArray, List.getElem_cons_zero, List.getElem_cons_succ])
    go_simp
    all_goals with_reducible rfl
  try simp only [List.getElem_toArray, List.getElem_cons_zero, List.getElem_cons_succ, Act.put, List.setIfInBounds_toArray, List.set_cons_zero, List.set_cons_succ]
  refine wpAnyH_take (i := 14) (v := ?_) rfl (by kernel_rfl) (by kernel_rfl) (by kernel_rfl) (fun _ _ _ h => h) (Or.inl ⟨by rfl, ?_⟩) hHeld ?_
  rotate_left
  · intro w hSw
    (try dsimp only at hSw)
    (try simp only [List.getElem_toArray, List.getElem_cons_zero, List.getElem_cons_succ])
    go_simp
    all_goals with_reducible rfl
  try simp only [List.getElem_toArray, List.getElem_cons_zero, List.getElem_cons_succ, Act.put, List.setIfInBounds_toArray, List.set_cons_zero, List.set_cons_succ]
  refine wpAnyH_done (by kernel_rfl) ?_ _
  have HF := Lib.hid (HB5.out.trans (AB.mono HB5.out.size))
  clear AB hHeld h0 h1 HVa HVb H1 H2 H3 HE7
  by_cases hij : I < 0 ∨ J < 0
  · have hk := k1.1 hij
    have hmx := run_max2i (P := Try.prog) #[3, 3] 3 I J
    rw [← hk] at hmx
    clear k1 hk
    by_cases hi : I < 0
    · clear hij
      go_wp2
      go_ret
      exact ⟨rfl, HF.out⟩
    · have hj : J < 0 := by omega
      clear hij
      go_wp2
      go_ret
      exact ⟨rfl, HF.out⟩
  · have hk := k1.2 (by omega) (by omega)
    have hmn := run_min2i (P := Try.prog) #[3, 3] 3 I J
    rw [← hk] at hmn
    have hi : ¬ I < 0 := by omega
    have hj : ¬ J < 0 := by omega
    clear k1 hk hij
    go_wp2
    go_ret
    exact ⟨rfl, HF.out⟩

end Go.Proofs.Ytkolfdoclchaaaa
