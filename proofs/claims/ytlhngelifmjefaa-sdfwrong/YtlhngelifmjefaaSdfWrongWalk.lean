/-
  The walk of punchcutlaw10.SdfWrong, over what the program is to do (no claim is made here).
-/
import Derived.Test.YtlhngelifmjefaaSdf1
import Derived.Test.YtlhngelifmjefaaGrd4
namespace Go.Proofs.Ytlhngelifmjefaa
open Go.RowKit

/-- Make, of any grid. -/
theorem make_both (H : SdfOK) (ve : Value) (es : List Ed) (x y p u v s : Int) (w : World) (h : ERd w ve es) (hl : es.length ≤ 200000) (hin : ∀ s ∈ es, InD s) :
    Calls Try.prog 12 #[ve, .agg #[.int .i64 x, .int .i64 y, .int .i64 p, .int .i64 u, .int .i64 v, .int .i64 s]] w fun e w' => ∃ (X Y : Int) (A : Option Addr) (L cap : Nat), e = .returned (.tuple #[.agg #[.int .i64 X, .int .i64 Y, .slice A L cap], .int .i64 (checkG x y p u v s)]) ∧
      (checkG x y p u v s ≠ 0 → X = 0 ∧ L = 0) ∧ (checkG x y p u v s = 0 → (L : Int) = u * v ∧ (0 ≤ u ∧ u ≤ 24) ∧ 0 ≤ v ∧ v ≤ 24) ∧ Below w.heap.size w w' := by
  by_cases hC : checkG x y p u v s = 0
  · have hb : (1 ≤ u ∧ u ≤ 24) ∧ 1 ≤ v ∧ v ≤ 24 := by
      unfold checkG at hC
      by_cases k : u < 1 ∨ v < 1 ∨ 24 < u ∨ 24 < v
      · rw [if_pos k] at hC; omega
      · omega
    obtain ⟨⟨u1, u2⟩, v1, v2⟩ := hb
    obtain ⟨u, rfl⟩ : ∃ n : Nat, u = n := ⟨u.toNat, by omega⟩
    obtain ⟨v, rfl⟩ : ∃ n : Nat, v = n := ⟨v.toNat, by omega⟩
    refine (H.make ve es x y p s u v w h hl hin hC).mono ?_
    rintro e w' ⟨V, rfl, hV, hb⟩
    obtain ⟨A, cap, rfl⟩ := hV.form
    rw [fldN_length]
    exact ⟨u, v, A, u * v, cap, by rw [hC], fun h => absurd hC h, fun _ => ⟨by push_cast; rfl, by omega, by omega⟩, hb⟩
  · refine (H.wrong ve es x y p u v s w h hC).mono ?_
    rintro e w' ⟨rfl, hb⟩
    exact ⟨0, 0, none, 0, 0, rfl, fun _ => ⟨rfl, rfl⟩, fun h => absurd h hC, hb⟩

set_option maxRecDepth 100000 in
set_option maxHeartbeats 3200000 in
theorem sdfWrong_walk (H : SdfOK) (A : Option Addr) (n cap : Nat) (cs : List (List Dot)) (a0 a1 a2 a3 a4 a5 : Int) (w : World) (hcs : DotRows w A n cap cs) :
    Calls Try.prog 5 #[.slice A n cap, .agg #[.int .i64 a0, .int .i64 a1, .int .i64 a2, .int .i64 a3, .int .i64 a4, .int .i64 a5]] w fun e w' => e = .returned (.bool true) ∧ Below w.heap.size w w' := by
  have HD := Lib.hid hcs
  have HAW := Lib.hid (fun w => awake10 H w)
  have HB0 := Lib.hid ((Below.refl _ w).alloc (Nat.le_refl _) (.cells #[.int .i64 a0, .int .i64 a1, .int .i64 a2, .int .i64 a3, .int .i64 a4, .int .i64 a5] 35))
  have HG0 := Lib.hid (Blk.new w 35 [.int .i64 a0, .int .i64 a1, .int .i64 a2, .int .i64 a3, .int .i64 a4, .int .i64 a5] rfl)
  have HMK := Lib.hid (fun w ve es h hl hin => make_both H ve es a0 a1 a2 a3 a4 a5 w h hl hin)
  have HCK := Lib.hid (fun w => gcheck_any a0 a1 a2 a3 a4 a5 w)
  generalize checkG a0 a1 a2 a3 a4 a5 = C at *
  clear hcs
  go_enter Try.func5, Try.ntmps5
  go_wp2_with fail
  refine (HAW.out _).mono ?_
  rintro e w1 ⟨rfl, hb⟩
  have HG1 := Lib.hid (HG0.out.keep hb)
  have HB1 := Lib.hid (below2 HB0.out hb)
  have HC := Lib.hid (fun wx (h : Below w.heap.size w wx) => glyph7 A n cap cs wx (HD.out.keep h))
  clear hb HG0 HB0 HD HAW
  go_wp2_with fail
  have HGz := HG1
  have HBz := HB1
  have AB := HB1.out.drew
  replace HG1 := Lib.hid (HG1.out.drew)
  have HU := HG1
  have HW := HG1
  refine wp_region_held_drew (S := fun wx => wx.cell? ⟨w.heap.size, 0, none⟩ = some (.int .i64 a0) ∧ wx.cell? ⟨w.heap.size, 1, none⟩ = some (.int .i64 a1) ∧ wx.cell? ⟨w.heap.size, 2, none⟩ = some (.int .i64 a2) ∧ wx.cell? ⟨w.heap.size, 3, none⟩ = some (.int .i64 a3) ∧ wx.cell? ⟨w.heap.size, 4, none⟩ = some (.int .i64 a4) ∧ wx.cell? ⟨w.heap.size, 5, none⟩ = some (.int .i64 a5)) (by kernel_rfl) (⟨HG1.out.cell 0 rfl, HG1.out.cell 1 rfl, HG1.out.cell 2 rfl, HG1.out.cell 3 rfl, HG1.out.cell 4 rfl, HG1.out.cell 5 rfl⟩) (fun hHeld => ?_)
  refine wpAnyH_take (i := 0) (v := ?_) rfl (by kernel_rfl) (by kernel_rfl) (by kernel_rfl) (fun _ _ _ h => h) (Or.inl ⟨by rfl, ?_⟩) hHeld ?_
  rotate_left
  · intro w hSw
    (try dsimp only at hSw)
    (try simp only [List.getElem_toArray, List.getElem_cons_zero])
    go_simp
    all_goals with_reducible rfl
  try simp only [List.getElem_toArray, List.getElem_cons_zero, Act.put, List.setIfInBounds_toArray, List.set_cons_zero, List.set_cons_succ]
  refine wpAnyH_take (i := 2) (v := ?_) rfl (by kernel_rfl) (by kernel_rfl) (by kernel_rfl) (fun _ _ _ h => h) (Or.inl ⟨by rfl, ?_⟩) hHeld ?_
  rotate_left
  · intro w hSw
    (try dsimp only at hSw)
    (try simp only [List.getElem_toArray, List.getElem_cons_zero, List.getElem_cons_succ])
    go_simp
    all_goals with_reducible rfl
  try simp only [List.getElem_toArray, List.getElem_cons_zero, List.getElem_cons_succ, Act.put, List.setIfInBounds_toArray, List.set_cons_zero, List.set_cons_succ]
  refine wpAnyH_ready (rs := [1, 7]) (by kernel_rfl) (by simp) ?_
  refine AllReadyH.cons rfl (fun K hK => ?_) (AllReadyH.cons rfl (fun K hK => ?_) AllReadyH.nil)
  · try simp only [List.getElem_toArray, List.getElem_cons_zero, List.getElem_cons_succ]
    go_simp
    refine (HC.out _ AB).mono ?_
    rintro e wn ⟨U, es, rfl, hU, hln, hin, -, hbn⟩
    have AB := AB.trans (hbn.mono (AB.size))
    replace HG1 := Lib.hid (HG1.out.keep hbn)
    replace HU := Lib.hid (HU.out.keep hbn)
    replace HW := Lib.hid (HW.out.keep hbn)
    replace HU := Lib.hid hU.read
    have HIN := Lib.hid hin
    have HLN := Lib.hid (show es.length ≤ 200000 by omega)
    clear hU hln hin
    have l0 := HW.out.cell 0 rfl
    have l1 := HW.out.cell 1 rfl
    have l2 := HW.out.cell 2 rfl
    have lf := HW.out.frozen
    have ln := HW.out.lt
    clear hbn
    go_wp2_with fail
    refine hK.out _ _ (⟨HG1.out.cell 0 rfl, HG1.out.cell 1 rfl, HG1.out.cell 2 rfl, HG1.out.cell 3 rfl, HG1.out.cell 4 rfl, HG1.out.cell 5 rfl⟩) (fun hHeld => ?_)
    clear hK K
    try simp only [List.getElem_toArray, List.getElem_cons_zero, List.getElem_cons_succ, Act.put, List.setIfInBounds_toArray, List.set_cons_zero, List.set_cons_succ]
    refine wpAnyH_ready (rs := [3, 7]) (by kernel_rfl) (by simp) ?_
    refine AllReadyH.cons rfl (fun K hK => ?_) (AllReadyH.cons rfl (fun K hK => ?_) AllReadyH.nil)
    · try simp only [List.getElem_toArray, List.getElem_cons_zero, List.getElem_cons_succ]
      go_simp
      refine (HMK.out _ _ _ HU.out HLN.out HIN.out).mono ?_
      rintro e wn ⟨X, Y, A2, L, cp, rfl, hne, heq, hbn⟩
      have AB := AB.trans (hbn.mono (AB.size))
      replace HG1 := Lib.hid (HG1.out.keep hbn)
      replace HU := Lib.hid (HU.out.keep hbn)
      replace HW := Lib.hid (HW.out.keep hbn)
      have HNE := Lib.hid hne
      have HEQ := Lib.hid heq
      clear hne heq
      have l0 := HW.out.cell 0 rfl
      have l1 := HW.out.cell 1 rfl
      have l2 := HW.out.cell 2 rfl
      have lf := HW.out.frozen
      have ln := HW.out.lt
      clear hbn
      go_wp2_with fail
      refine hK.out _ _ (⟨HG1.out.cell 0 rfl, HG1.out.cell 1 rfl, HG1.out.cell 2 rfl, HG1.out.cell 3 rfl, HG1.out.cell 4 rfl, HG1.out.cell 5 rfl⟩) (fun hHeld => ?_)
      clear hK K
      try simp only [List.getElem_toArray, List.getElem_cons_zero, List.getElem_cons_succ, Act.put, List.setIfInBounds_toArray, List.set_cons_zero, List.set_cons_succ]
      refine wpAnyH_take (i := 4) (v := ?_) rfl (by kernel_rfl) (by kernel_rfl) (by kernel_rfl) (fun _ _ _ h => h) (Or.inl ⟨by rfl, ?_⟩) hHeld ?_
      rotate_left
      · intro w hSw
        (try dsimp only at hSw)
        (try simp only [List.getElem_toArray, List.getElem_cons_zero, List.getElem_cons_succ])
        go_simp
        all_goals with_reducible rfl
      try simp only [List.getElem_toArray, List.getElem_cons_zero, List.getElem_cons_succ, Act.put, List.setIfInBounds_toArray, List.set_cons_zero, List.set_cons_succ]
      refine wpAnyH_take (i := 5) (v := ?_) rfl (by kernel_rfl) (by kernel_rfl) (by kernel_rfl) (fun _ _ _ h => h) (Or.inl ⟨by rfl, ?_⟩) hHeld ?_
      rotate_left
      · intro w hSw
        (try dsimp only at hSw)
        (try simp only [List.getElem_toArray, List.getElem_cons_zero, List.getElem_cons_succ])
        go_simp
        all_goals with_reducible rfl
      try simp only [List.getElem_toArray, List.getElem_cons_zero, List.getElem_cons_succ, Act.put, List.setIfInBounds_toArray, List.set_cons_zero, List.set_cons_succ]
      refine wpAnyH_take (i := 6) (v := ?_) rfl (by kernel_rfl) (by kernel_rfl) (by kernel_rfl) (fun _ _ _ h => h) (Or.inl ⟨by rfl, ?_⟩) hHeld ?_
      rotate_left
      · intro w hSw
        (try dsimp only at hSw)
        (try simp only [List.getElem_toArray, List.getElem_cons_zero, List.getElem_cons_succ])
        go_simp
        all_goals with_reducible rfl
      try simp only [List.getElem_toArray, List.getElem_cons_zero, List.getElem_cons_succ, Act.put, List.setIfInBounds_toArray, List.set_cons_zero, List.set_cons_succ]
      refine wpAnyH_ready (rs := [7]) (by kernel_rfl) (by simp) ?_
      refine AllReadyH.cons rfl (fun K hK => ?_) AllReadyH.nil
      try simp only [List.getElem_toArray, List.getElem_cons_zero, List.getElem_cons_succ]
      go_simp
      have lw := HG1.out.lt
      replace HW := Lib.hid (Blk.new wn 30 [.int .i64 0, .int .i64 0, .slice none 0 0] rfl)
      replace HU := Lib.hid (HU.out.keep ((Below.refl _ wn).alloc (Nat.le_refl _) (.cells #[.int .i64 0, .int .i64 0, .slice none 0 0] 30)))
      replace HG1 := Lib.hid ((HG1.out.alloc (.cells #[.int .i64 0, .int .i64 0, .slice none 0 0] 30)))
      replace AB := (AB.alloc AB.size (.cells #[.int .i64 0, .int .i64 0, .slice none 0 0] 30))
      generalize (wn.alloc (.cells #[.int .i64 0, .int .i64 0, .slice none 0 0] 30)) = wa at *
      generalize wn.heap.size = Fz at *
      have l0 := HW.out.cell 0 rfl
      have l1 := HW.out.cell 1 rfl
      have l2 := HW.out.cell 2 rfl
      have lf := HW.out.frozen
      have ln := HW.out.lt
      refine hK.out _ _ (⟨HG1.out.cell 0 rfl, HG1.out.cell 1 rfl, HG1.out.cell 2 rfl, HG1.out.cell 3 rfl, HG1.out.cell 4 rfl, HG1.out.cell 5 rfl⟩) (fun hHeld => ?_)
      clear hK K
      try simp only [List.getElem_toArray, List.getElem_cons_zero, List.getElem_cons_succ, Act.put, List.setIfInBounds_toArray, List.set_cons_zero, List.set_cons_succ]
      refine wpAnyH_ready (rs := [8]) (by kernel_rfl) (by simp) ?_
      refine AllReadyH.cons rfl (fun K hK => ?_) AllReadyH.nil
      try simp only [List.getElem_toArray, List.getElem_cons_zero, List.getElem_cons_succ]
      go_simp
      have lw2 := AB.size
      have HF := Lib.hid (((HW.out.set 0 (.int .i64 X)).set 1 (.int .i64 Y)).set 2 (.slice A2 L cp))
      replace HG1 := Lib.hid (((HG1.out.other (k := Fz) 0 (.int .i64 X) (by omega)).other (k := Fz) 1 (.int .i64 Y) (by omega)).other (k := Fz) 2 (.slice A2 L cp) (by omega))
      replace AB := ((AB.setCell (p := ⟨Fz, 0, none⟩) (show w.heap.size ≤ Fz by omega) (.int .i64 X)).setCell (p := ⟨Fz, 1, none⟩) (show w.heap.size ≤ Fz by omega) (.int .i64 Y)).setCell (p := ⟨Fz, 2, none⟩) (show w.heap.size ≤ Fz by omega) (.slice A2 L cp)
      clear l0 l1 l2 lf ln lw2 HW HU
      refine hK.out _ _ (⟨HG1.out.cell 0 rfl, HG1.out.cell 1 rfl, HG1.out.cell 2 rfl, HG1.out.cell 3 rfl, HG1.out.cell 4 rfl, HG1.out.cell 5 rfl⟩) (fun hHeld => ?_)
      clear hK K
      try simp only [List.getElem_toArray, List.getElem_cons_zero, List.getElem_cons_succ, Act.put, List.setIfInBounds_toArray, List.set_cons_zero, List.set_cons_succ]
      refine wpAnyH_take (i := 9) (v := ?_) rfl (by kernel_rfl) (by kernel_rfl) (by kernel_rfl) (fun _ _ _ h => h) (Or.inl ⟨by rfl, ?_⟩) hHeld ?_
      rotate_left
      · intro w hSw
        (try dsimp only at hSw)
        (try simp only [List.getElem_toArray, List.getElem_cons_zero, List.getElem_cons_succ])
        go_simp
        all_goals with_reducible rfl
      try simp only [List.getElem_toArray, List.getElem_cons_zero, List.getElem_cons_succ, Act.put, List.setIfInBounds_toArray, List.set_cons_zero, List.set_cons_succ]
      refine wpAnyH_done (by kernel_rfl) ?_ _
      have HB5 := Lib.hid AB
      clear AB hHeld HB1 HBz HGz
      go_upto_region 4 with fail
      have g0 := HG1.out.cell 0 rfl
      have g1 := HG1.out.cell 1 rfl
      have g2 := HG1.out.cell 2 rfl
      have g3 := HG1.out.cell 3 rfl
      have g4 := HG1.out.cell 4 rfl
      have g5 := HG1.out.cell 5 rfl
      have gl := HG1.out.lt
      go_wp2_with fail
      refine (HCK.out _).mono ?_
      rintro e w9 ⟨rfl, hb⟩
      have HG9 := Lib.hid (HG1.out.keep hb)
      have HF9 := Lib.hid (HF.out.keep hb)
      have HB9 := Lib.hid (below2 HB5.out hb)
      clear hb g0 g1 g2 g3 g4 g5 gl HG1 HF HB5
      have g3 := HG9.out.cell 3 rfl
      have g4 := HG9.out.cell 4 rfl
      have gl := HG9.out.lt
      have f0 := HF9.out.cell 0 rfl
      have f1 := HF9.out.cell 1 rfl
      have f2 := HF9.out.cell 2 rfl
      have fl := HF9.out.lt
      by_cases hC : C = 0
      · subst hC
        obtain ⟨hL, b1, b2⟩ := HEQ.out rfl
        have hm : (a3 * a4).natAbs ≤ 24 * 24 := by rw [Int.natAbs_mul]; exact Nat.mul_le_mul (by omega) (by omega)
        have hLw : IntKind.i64.wrap (a3 * a4) = (L : Int) := by rw [hL]; exact wI (by omega) (by omega)
        clear hL hm
        go_wp2
        go_ret
        exact ⟨rfl, HB9.out⟩
      · obtain ⟨rfl, rfl⟩ := HNE.out hC
        have hC2 : (C == 0) = false := by simp [hC]
        go_wp2
        go_ret
        exact ⟨rfl, HB9.out⟩
    · try simp only [List.getElem_toArray, List.getElem_cons_zero, List.getElem_cons_succ]
      go_simp
      have lw := HG1.out.lt
      replace HW := Lib.hid (Blk.new wn 30 [.int .i64 0, .int .i64 0, .slice none 0 0] rfl)
      replace HU := Lib.hid (HU.out.keep ((Below.refl _ wn).alloc (Nat.le_refl _) (.cells #[.int .i64 0, .int .i64 0, .slice none 0 0] 30)))
      replace HG1 := Lib.hid ((HG1.out.alloc (.cells #[.int .i64 0, .int .i64 0, .slice none 0 0] 30)))
      replace AB := (AB.alloc AB.size (.cells #[.int .i64 0, .int .i64 0, .slice none 0 0] 30))
      generalize (wn.alloc (.cells #[.int .i64 0, .int .i64 0, .slice none 0 0] 30)) = wa at *
      generalize wn.heap.size = Fz at *
      have l0 := HW.out.cell 0 rfl
      have l1 := HW.out.cell 1 rfl
      have l2 := HW.out.cell 2 rfl
      have lf := HW.out.frozen
      have ln := HW.out.lt
      refine hK.out _ _ (⟨HG1.out.cell 0 rfl, HG1.out.cell 1 rfl, HG1.out.cell 2 rfl, HG1.out.cell 3 rfl, HG1.out.cell 4 rfl, HG1.out.cell 5 rfl⟩) (fun hHeld => ?_)
      clear hK K
      try simp only [List.getElem_toArray, List.getElem_cons_zero, List.getElem_cons_succ, Act.put, List.setIfInBounds_toArray, List.set_cons_zero, List.set_cons_succ]
      refine wpAnyH_ready (rs := [3]) (by kernel_rfl) (by simp) ?_
      refine AllReadyH.cons rfl (fun K hK => ?_) AllReadyH.nil
      try simp only [List.getElem_toArray, List.getElem_cons_zero, List.getElem_cons_succ]
      go_simp
      refine (HMK.out _ _ _ HU.out HLN.out HIN.out).mono ?_
      rintro e wn ⟨X, Y, A2, L, cp, rfl, hne, heq, hbn⟩
      have AB := AB.trans (hbn.mono (AB.size))
      replace HG1 := Lib.hid (HG1.out.keep hbn)
      replace HU := Lib.hid (HU.out.keep hbn)
      replace HW := Lib.hid (HW.out.keep hbn)
      have HNE := Lib.hid hne
      have HEQ := Lib.hid heq
      clear hne heq
      have l0 := HW.out.cell 0 rfl
      have l1 := HW.out.cell 1 rfl
      have l2 := HW.out.cell 2 rfl
      have lf := HW.out.frozen
      have ln := HW.out.lt
      clear hbn
      go_wp2_with fail
      refine hK.out _ _ (⟨HG1.out.cell 0 rfl, HG1.out.cell 1 rfl, HG1.out.cell 2 rfl, HG1.out.cell 3 rfl, HG1.out.cell 4 rfl, HG1.out.cell 5 rfl⟩) (fun hHeld => ?_)
      clear hK K
      try simp only [List.getElem_toArray, List.getElem_cons_zero, List.getElem_cons_succ, Act.put, List.setIfInBounds_toArray, List.set_cons_zero, List.set_cons_succ]
      refine wpAnyH_take (i := 4) (v := ?_) rfl (by kernel_rfl) (by kernel_rfl) (by kernel_rfl) (fun _ _ _ h => h) (Or.inl ⟨by rfl, ?_⟩) hHeld ?_
      rotate_left
      · intro w hSw
        (try dsimp only at hSw)
        (try simp only [List.getElem_toArray, List.getElem_cons_zero, List.getElem_cons_succ])
        go_simp
        all_goals with_reducible rfl
      try simp only [List.getElem_toArray, List.getElem_cons_zero, List.getElem_cons_succ, Act.put, List.setIfInBounds_toArray, List.set_cons_zero, List.set_cons_succ]
      refine wpAnyH_take (i := 5) (v := ?_) rfl (by kernel_rfl) (by kernel_rfl) (by kernel_rfl) (fun _ _ _ h => h) (Or.inl ⟨by rfl, ?_⟩) hHeld ?_
      rotate_left
      · intro w hSw
        (try dsimp only at hSw)
        (try simp only [List.getElem_toArray, List.getElem_cons_zero, List.getElem_cons_succ])
        go_simp
        all_goals with_reducible rfl
      try simp only [List.getElem_toArray, List.getElem_cons_zero, List.getElem_cons_succ, Act.put, List.setIfInBounds_toArray, List.set_cons_zero, List.set_cons_succ]
      refine wpAnyH_take (i := 6) (v := ?_) rfl (by kernel_rfl) (by kernel_rfl) (by kernel_rfl) (fun _ _ _ h => h) (Or.inl ⟨by rfl, ?_⟩) hHeld ?_
      rotate_left
      · intro w hSw
        (try dsimp only at hSw)
        (try simp only [List.getElem_toArray, List.getElem_cons_zero, List.getElem_cons_succ])
        go_simp
        all_goals with_reducible rfl
      try simp only [List.getElem_toArray, List.getElem_cons_zero, List.getElem_cons_succ, Act.put, List.setIfInBounds_toArray, List.set_cons_zero, List.set_cons_succ]
      refine wpAnyH_ready (rs := [8]) (by kernel_rfl) (by simp) ?_
      refine AllReadyH.cons rfl (fun K hK => ?_) AllReadyH.nil
      try simp only [List.getElem_toArray, List.getElem_cons_zero, List.getElem_cons_succ]
      go_simp
      have lw2 := AB.size
      have HF := Lib.hid (((HW.out.set 0 (.int .i64 X)).set 1 (.int .i64 Y)).set 2 (.slice A2 L cp))
      replace HG1 := Lib.hid (((HG1.out.other (k := Fz) 0 (.int .i64 X) (by omega)).other (k := Fz) 1 (.int .i64 Y) (by omega)).other (k := Fz) 2 (.slice A2 L cp) (by omega))
      replace AB := ((AB.setCell (p := ⟨Fz, 0, none⟩) (show w.heap.size ≤ Fz by omega) (.int .i64 X)).setCell (p := ⟨Fz, 1, none⟩) (show w.heap.size ≤ Fz by omega) (.int .i64 Y)).setCell (p := ⟨Fz, 2, none⟩) (show w.heap.size ≤ Fz by omega) (.slice A2 L cp)
      clear l0 l1 l2 lf ln lw2 HW HU
      refine hK.out _ _ (⟨HG1.out.cell 0 rfl, HG1.out.cell 1 rfl, HG1.out.cell 2 rfl, HG1.out.cell 3 rfl, HG1.out.cell 4 rfl, HG1.out.cell 5 rfl⟩) (fun hHeld => ?_)
      clear hK K
      try simp only [List.getElem_toArray, List.getElem_cons_zero, List.getElem_cons_succ, Act.put, List.setIfInBounds_toArray, List.set_cons_zero, List.set_cons_succ]
      refine wpAnyH_take (i := 9) (v := ?_) rfl (by kernel_rfl) (by kernel_rfl) (by kernel_rfl) (fun _ _ _ h => h) (Or.inl ⟨by rfl, ?_⟩) hHeld ?_
      rotate_left
      · intro w hSw
        (try dsimp only at hSw)
        (try simp only [List.getElem_toArray, List.getElem_cons_zero, List.getElem_cons_succ])
        go_simp
        all_goals with_reducible rfl
      try simp only [List.getElem_toArray, List.getElem_cons_zero, List.getElem_cons_succ, Act.put, List.setIfInBounds_toArray, List.set_cons_zero, List.set_cons_succ]
      refine wpAnyH_done (by kernel_rfl) ?_ _
      have HB5 := Lib.hid AB
      clear AB hHeld HB1 HBz HGz
      go_upto_region 4 with fail
      have g0 := HG1.out.cell 0 rfl
      have g1 := HG1.out.cell 1 rfl
      have g2 := HG1.out.cell 2 rfl
      have g3 := HG1.out.cell 3 rfl
      have g4 := HG1.out.cell 4 rfl
      have g5 := HG1.out.cell 5 rfl
      have gl := HG1.out.lt
      go_wp2_with fail
      refine (HCK.out _).mono ?_
      rintro e w9 ⟨rfl, hb⟩
      have HG9 := Lib.hid (HG1.out.keep hb)
      have HF9 := Lib.hid (HF.out.keep hb)
      have HB9 := Lib.hid (below2 HB5.out hb)
      clear hb g0 g1 g2 g3 g4 g5 gl HG1 HF HB5
      have g3 := HG9.out.cell 3 rfl
      have g4 := HG9.out.cell 4 rfl
      have gl := HG9.out.lt
      have f0 := HF9.out.cell 0 rfl
      have f1 := HF9.out.cell 1 rfl
      have f2 := HF9.out.cell 2 rfl
      have fl := HF9.out.lt
      by_cases hC : C = 0
      · subst hC
        obtain ⟨hL, b1, b2⟩ := HEQ.out rfl
        have hm : (a3 * a4).natAbs ≤ 24 * 24 := by rw [Int.natAbs_mul]; exact Nat.mul_le_mul (by omega) (by omega)
        have hLw : IntKind.i64.wrap (a3 * a4) = (L : Int) := by rw [hL]; exact wI (by omega) (by omega)
        clear hL hm
        go_wp2
        go_ret
        exact ⟨rfl, HB9.out⟩
      · obtain ⟨rfl, rfl⟩ := HNE.out hC
        have hC2 : (C == 0) = false := by simp [hC]
        go_wp2
        go_ret
        exact ⟨rfl, HB9.out⟩
  · try simp only [List.getElem_toArray, List.getElem_cons_zero, List.getElem_cons_succ]
    go_simp
    have lw := HGz.out.lt
    replace HW := Lib.hid (Blk.new w1 30 [.int .i64 0, .int .i64 0, .slice none 0 0] rfl)
    replace HW := Lib.hid HW.out.drew
    replace HU := Lib.hid (HGz.out.keep ((Below.refl _ w1).alloc (Nat.le_refl _) (.cells #[.int .i64 0, .int .i64 0, .slice none 0 0] 30)))
    replace HU := HW
    replace HG1 := Lib.hid ((HGz.out.alloc (.cells #[.int .i64 0, .int .i64 0, .slice none 0 0] 30)).drew)
    replace AB := (HBz.out.alloc HBz.out.size (.cells #[.int .i64 0, .int .i64 0, .slice none 0 0] 30)).drew
    generalize (w1.alloc (.cells #[.int .i64 0, .int .i64 0, .slice none 0 0] 30)).drew = wa at *
    generalize w1.heap.size = Fz at *
    have l0 := HW.out.cell 0 rfl
    have l1 := HW.out.cell 1 rfl
    have l2 := HW.out.cell 2 rfl
    have lf := HW.out.frozen
    have ln := HW.out.lt
    refine hK.out _ _ (⟨HG1.out.cell 0 rfl, HG1.out.cell 1 rfl, HG1.out.cell 2 rfl, HG1.out.cell 3 rfl, HG1.out.cell 4 rfl, HG1.out.cell 5 rfl⟩) (fun hHeld => ?_)
    clear hK K
    try simp only [List.getElem_toArray, List.getElem_cons_zero, List.getElem_cons_succ, Act.put, List.setIfInBounds_toArray, List.set_cons_zero, List.set_cons_succ]
    refine wpAnyH_ready (rs := [1]) (by kernel_rfl) (by simp) ?_
    refine AllReadyH.cons rfl (fun K hK => ?_) AllReadyH.nil
    try simp only [List.getElem_toArray, List.getElem_cons_zero, List.getElem_cons_succ]
    go_simp
    refine (HC.out _ AB).mono ?_
    rintro e wn ⟨U, es, rfl, hU, hln, hin, -, hbn⟩
    have AB := AB.trans (hbn.mono (AB.size))
    replace HG1 := Lib.hid (HG1.out.keep hbn)
    replace HU := Lib.hid (HU.out.keep hbn)
    replace HW := Lib.hid (HW.out.keep hbn)
    replace HU := Lib.hid hU.read
    have HIN := Lib.hid hin
    have HLN := Lib.hid (show es.length ≤ 200000 by omega)
    clear hU hln hin
    have l0 := HW.out.cell 0 rfl
    have l1 := HW.out.cell 1 rfl
    have l2 := HW.out.cell 2 rfl
    have lf := HW.out.frozen
    have ln := HW.out.lt
    clear hbn
    go_wp2_with fail
    refine hK.out _ _ (⟨HG1.out.cell 0 rfl, HG1.out.cell 1 rfl, HG1.out.cell 2 rfl, HG1.out.cell 3 rfl, HG1.out.cell 4 rfl, HG1.out.cell 5 rfl⟩) (fun hHeld => ?_)
    clear hK K
    try simp only [List.getElem_toArray, List.getElem_cons_zero, List.getElem_cons_succ, Act.put, List.setIfInBounds_toArray, List.set_cons_zero, List.set_cons_succ]
    refine wpAnyH_ready (rs := [3]) (by kernel_rfl) (by simp) ?_
    refine AllReadyH.cons rfl (fun K hK => ?_) AllReadyH.nil
    try simp only [List.getElem_toArray, List.getElem_cons_zero, List.getElem_cons_succ]
    go_simp
    refine (HMK.out _ _ _ HU.out HLN.out HIN.out).mono ?_
    rintro e wn ⟨X, Y, A2, L, cp, rfl, hne, heq, hbn⟩
    have AB := AB.trans (hbn.mono (AB.size))
    replace HG1 := Lib.hid (HG1.out.keep hbn)
    replace HU := Lib.hid (HU.out.keep hbn)
    replace HW := Lib.hid (HW.out.keep hbn)
    have HNE := Lib.hid hne
    have HEQ := Lib.hid heq
    clear hne heq
    have l0 := HW.out.cell 0 rfl
    have l1 := HW.out.cell 1 rfl
    have l2 := HW.out.cell 2 rfl
    have lf := HW.out.frozen
    have ln := HW.out.lt
    clear hbn
    go_wp2_with fail
    refine hK.out _ _ (⟨HG1.out.cell 0 rfl, HG1.out.cell 1 rfl, HG1.out.cell 2 rfl, HG1.out.cell 3 rfl, HG1.out.cell 4 rfl, HG1.out.cell 5 rfl⟩) (fun hHeld => ?_)
    clear hK K
    try simp only [List.getElem_toArray, List.getElem_cons_zero, List.getElem_cons_succ, Act.put, List.setIfInBounds_toArray, List.set_cons_zero, List.set_cons_succ]
    refine wpAnyH_take (i := 4) (v := ?_) rfl (by kernel_rfl) (by kernel_rfl) (by kernel_rfl) (fun _ _ _ h => h) (Or.inl ⟨by rfl, ?_⟩) hHeld ?_
    rotate_left
    · intro w hSw
      (try dsimp only at hSw)
      (try simp only [List.getElem_toArray, List.getElem_cons_zero, List.getElem_cons_succ])
      go_simp
      all_goals with_reducible rfl
    try simp only [List.getElem_toArray, List.getElem_cons_zero, List.getElem_cons_succ, Act.put, List.setIfInBounds_toArray, List.set_cons_zero, List.set_cons_succ]
    refine wpAnyH_take (i := 5) (v := ?_) rfl (by kernel_rfl) (by kernel_rfl) (by kernel_rfl) (fun _ _ _ h => h) (Or.inl ⟨by rfl, ?_⟩) hHeld ?_
    rotate_left
    · intro w hSw
      (try dsimp only at hSw)
      (try simp only [List.getElem_toArray, List.getElem_cons_zero, List.getElem_cons_succ])
      go_simp
      all_goals with_reducible rfl
    try simp only [List.getElem_toArray, List.getElem_cons_zero, List.getElem_cons_succ, Act.put, List.setIfInBounds_toArray, List.set_cons_zero, List.set_cons_succ]
    refine wpAnyH_take (i := 6) (v := ?_) rfl (by kernel_rfl) (by kernel_rfl) (by kernel_rfl) (fun _ _ _ h => h) (Or.inl ⟨by rfl, ?_⟩) hHeld ?_
    rotate_left
    · intro w hSw
      (try dsimp only at hSw)
      (try simp only [List.getElem_toArray, List.getElem_cons_zero, List.getElem_cons_succ])
      go_simp
      all_goals with_reducible rfl
    try simp only [List.getElem_toArray, List.getElem_cons_zero, List.getElem_cons_succ, Act.put, List.setIfInBounds_toArray, List.set_cons_zero, List.set_cons_succ]
    refine wpAnyH_ready (rs := [8]) (by kernel_rfl) (by simp) ?_
    refine AllReadyH.cons rfl (fun K hK => ?_) AllReadyH.nil
    try simp only [List.getElem_toArray, List.getElem_cons_zero, List.getElem_cons_succ]
    go_simp
    have lw2 := AB.size
    have HF := Lib.hid (((HW.out.set 0 (.int .i64 X)).set 1 (.int .i64 Y)).set 2 (.slice A2 L cp))
    replace HG1 := Lib.hid (((HG1.out.other (k := Fz) 0 (.int .i64 X) (by omega)).other (k := Fz) 1 (.int .i64 Y) (by omega)).other (k := Fz) 2 (.slice A2 L cp) (by omega))
    replace AB := ((AB.setCell (p := ⟨Fz, 0, none⟩) (show w.heap.size ≤ Fz by omega) (.int .i64 X)).setCell (p := ⟨Fz, 1, none⟩) (show w.heap.size ≤ Fz by omega) (.int .i64 Y)).setCell (p := ⟨Fz, 2, none⟩) (show w.heap.size ≤ Fz by omega) (.slice A2 L cp)
    clear l0 l1 l2 lf ln lw2 HW HU
    refine hK.out _ _ (⟨HG1.out.cell 0 rfl, HG1.out.cell 1 rfl, HG1.out.cell 2 rfl, HG1.out.cell 3 rfl, HG1.out.cell 4 rfl, HG1.out.cell 5 rfl⟩) (fun hHeld => ?_)
    clear hK K
    try simp only [List.getElem_toArray, List.getElem_cons_zero, List.getElem_cons_succ, Act.put, List.setIfInBounds_toArray, List.set_cons_zero, List.set_cons_succ]
    refine wpAnyH_take (i := 9) (v := ?_) rfl (by kernel_rfl) (by kernel_rfl) (by kernel_rfl) (fun _ _ _ h => h) (Or.inl ⟨by rfl, ?_⟩) hHeld ?_
    rotate_left
    · intro w hSw
      (try dsimp only at hSw)
      (try simp only [List.getElem_toArray, List.getElem_cons_zero, List.getElem_cons_succ])
      go_simp
      all_goals with_reducible rfl
    try simp only [List.getElem_toArray, List.getElem_cons_zero, List.getElem_cons_succ, Act.put, List.setIfInBounds_toArray, List.set_cons_zero, List.set_cons_succ]
    refine wpAnyH_done (by kernel_rfl) ?_ _
    have HB5 := Lib.hid AB
    clear AB hHeld HB1 HBz HGz
    go_upto_region 4 with fail
    have g0 := HG1.out.cell 0 rfl
    have g1 := HG1.out.cell 1 rfl
    have g2 := HG1.out.cell 2 rfl
    have g3 := HG1.out.cell 3 rfl
    have g4 := HG1.out.cell 4 rfl
    have g5 := HG1.out.cell 5 rfl
    have gl := HG1.out.lt
    go_wp2_with fail
    refine (HCK.out _).mono ?_
    rintro e w9 ⟨rfl, hb⟩
    have HG9 := Lib.hid (HG1.out.keep hb)
    have HF9 := Lib.hid (HF.out.keep hb)
    have HB9 := Lib.hid (below2 HB5.out hb)
    clear hb g0 g1 g2 g3 g4 g5 gl HG1 HF HB5
    have g3 := HG9.out.cell 3 rfl
    have g4 := HG9.out.cell 4 rfl
    have gl := HG9.out.lt
    have f0 := HF9.out.cell 0 rfl
    have f1 := HF9.out.cell 1 rfl
    have f2 := HF9.out.cell 2 rfl
    have fl := HF9.out.lt
    by_cases hC : C = 0
    · subst hC
      obtain ⟨hL, b1, b2⟩ := HEQ.out rfl
      have hm : (a3 * a4).natAbs ≤ 24 * 24 := by rw [Int.natAbs_mul]; exact Nat.mul_le_mul (by omega) (by omega)
      have hLw : IntKind.i64.wrap (a3 * a4) = (L : Int) := by rw [hL]; exact wI (by omega) (by omega)
      clear hL hm
      go_wp2
      go_ret
      exact ⟨rfl, HB9.out⟩
    · obtain ⟨rfl, rfl⟩ := HNE.out hC
      have hC2 : (C == 0) = false := by simp [hC]
      go_wp2
      go_ret
      exact ⟨rfl, HB9.out⟩

end Go.Proofs.Ytlhngelifmjefaa
