/-
  What the program's Is of layer 11 does to any world: a contract (no claim is made here).
-/
import Derived.Test.YtbnjajhhbcnepaaCorn0
import Derived.Deep.RegionLaw
import Derived.OpenShut
namespace Go.Proofs.Ytbnjajhhbcnepaa
open Go.RowKit

/-- A new block, its number named. -/
theorem pnew_ex {w W : World} {n : Nat} (AB : Below n w W) (hn : n ≤ w.heap.size) (t : TypeId) (vs : List Value) : ∃ g, W.heap.size = g ∧ n ≤ g ∧ Blk (W.alloc (.cells vs.toArray t)) g t vs ∧ Below n w (W.alloc (.cells vs.toArray t)) ∧ Below W.heap.size W (W.alloc (.cells vs.toArray t)) :=
  ⟨_, rfl, Nat.le_trans hn AB.size, Blk.new _ _ _ rfl, AB.alloc (Nat.le_trans hn AB.size) _, (Below.refl _ _).alloc (Nat.le_refl _) _⟩
theorem blk_put2 {w : World} {g : Nat} {t : TypeId} {a b x y : Value} (h : Blk w g t [a, b]) : Blk ((w.setCell ⟨g, 0, none⟩ x).setCell ⟨g, 1, none⟩ y) g t [x, y] := (h.set 0 x).set 1 y
theorem blk_oth2 {w : World} {g k : Nat} {t : TypeId} {vs : List Value} {x y : Value} (h : Blk w k t vs) (hne : k ≠ g) : Blk ((w.setCell ⟨g, 0, none⟩ x).setCell ⟨g, 1, none⟩ y) k t vs := (h.other 0 x hne).other 1 y hne
theorem below_put2 {w W : World} {n g : Nat} {x y : Value} (h : Below n w W) (hg : n ≤ g) : Below n w ((W.setCell ⟨g, 0, none⟩ x).setCell ⟨g, 1, none⟩ y) := (h.setCell (p := ⟨g, 0, none⟩) hg x).setCell (p := ⟨g, 1, none⟩) hg y

theorem is_word (a b : Ed) : (decide (dtC a b ≤ 0) || decide (dtC a b < 2 * max (crC a b) (-crC a b))) = isC a b := by
  unfold isC
  rw [Bool.eq_iff_iff]
  simp only [Bool.or_eq_true, decide_eq_true_eq]
  omega

set_option maxHeartbeats 1600000 in
set_option maxRecDepth 100000 in
theorem pis_raw (a0 a1 a2 a3 b0 b1 b2 b3 u0 u1 v0 v1 C D : Int)
    (HS1 : Hid (∀ w, Calls Try.prog 22 #[.agg #[.int .i64 a2, .int .i64 a3], .agg #[.int .i64 a0, .int .i64 a1]] w fun e w' => e = .returned (.agg #[.int .i64 u0, .int .i64 u1]) ∧ Below w.heap.size w w'))
    (HS2 : Hid (∀ w, Calls Try.prog 22 #[.agg #[.int .i64 b2, .int .i64 b3], .agg #[.int .i64 b0, .int .i64 b1]] w fun e w' => e = .returned (.agg #[.int .i64 v0, .int .i64 v1]) ∧ Below w.heap.size w w'))
    (HC : Hid (∀ w, Calls Try.prog 23 #[.agg #[.int .i64 u0, .int .i64 u1], .agg #[.int .i64 v0, .int .i64 v1]] w fun e w' => e = .returned (.int .i64 C) ∧ Below w.heap.size w w'))
    (HD : Hid (∀ w, Calls Try.prog 24 #[.agg #[.int .i64 u0, .int .i64 u1], .agg #[.int .i64 v0, .int .i64 v1]] w fun e w' => e = .returned (.int .i64 D) ∧ Below w.heap.size w w'))
    (hC : C.natAbs ≤ 1000000000) (w : World) :
    Calls Try.prog 11 #[.agg #[.int .i64 a0, .int .i64 a1, .int .i64 a2, .int .i64 a3], .agg #[.int .i64 b0, .int .i64 b1, .int .i64 b2, .int .i64 b3]] w fun e w' => e = .returned (.bool (decide (D ≤ 0) || decide (D < 2 * max C (-C)))) ∧ Below w.heap.size w w' := by
  have HB0 := Lib.hid (alloc2 w (.cells #[.int .i64 a0, .int .i64 a1, .int .i64 a2, .int .i64 a3] 29) (.cells #[.int .i64 b0, .int .i64 b1, .int .i64 b2, .int .i64 b3] 29))
  have HA1 := Lib.hid ((Blk.new w 29 [.int .i64 a0, .int .i64 a1, .int .i64 a2, .int .i64 a3] rfl).alloc (.cells #[.int .i64 b0, .int .i64 b1, .int .i64 b2, .int .i64 b3] 29))
  have HP1 := Lib.hid (Blk.new (w.alloc (.cells #[.int .i64 a0, .int .i64 a1, .int .i64 a2, .int .i64 a3] 29)) 29 [.int .i64 b0, .int .i64 b1, .int .i64 b2, .int .i64 b3] (g := w.heap.size + 1) (by simp))
  have m1 : IntKind.i64.wrap (-C) = -C := wI (by omega) (by omega)
  have m2 : IntKind.i64.wrap (2 * max C (-C)) = 2 * max C (-C) := wI (by omega) (by omega)
  go_enter Try.func11, Try.ntmps11
  go_upto_region 1 with fail
  go_cut [5, 6] (fun sx sy wx => ∃ gx gy : Nat, sx = .pointer (some ⟨gx, 0, none⟩) ∧ sy = .pointer (some ⟨gy, 0, none⟩) ∧ Hid (Blk wx gx 27 [.int .i64 u0, .int .i64 u1]) ∧ Hid (Blk wx gy 27 [.int .i64 v0, .int .i64 v1]) ∧ Hid (Below w.heap.size w wx))
  case first =>
    have hd : Below ((w.alloc (.cells #[.int .i64 a0, .int .i64 a1, .int .i64 a2, .int .i64 a3] 29)).alloc (.cells #[.int .i64 b0, .int .i64 b1, .int .i64 b2, .int .i64 b3] 29)).heap.size ((w.alloc (.cells #[.int .i64 a0, .int .i64 a1, .int .i64 a2, .int .i64 a3] 29)).alloc (.cells #[.int .i64 b0, .int .i64 b1, .int .i64 b2, .int .i64 b3] 29)) ((w.alloc (.cells #[.int .i64 a0, .int .i64 a1, .int .i64 a2, .int .i64 a3] 29)).alloc (.cells #[.int .i64 b0, .int .i64 b1, .int .i64 b2, .int .i64 b3] 29)).drew := (Below.refl _ ((w.alloc (.cells #[.int .i64 a0, .int .i64 a1, .int .i64 a2, .int .i64 a3] 29)).alloc (.cells #[.int .i64 b0, .int .i64 b1, .int .i64 b2, .int .i64 b3] 29))).drew
    have AB := HB0.out.drew
    replace HA1 := Lib.hid (HA1.out.keep hd)
    replace HP1 := Lib.hid (HP1.out.keep hd)
    clear hd HB0
    refine wp_region_held_drew (S := fun wx => wx.cell? ⟨w.heap.size, 0, none⟩ = some (.int .i64 a0) ∧ wx.cell? ⟨w.heap.size, 1, none⟩ = some (.int .i64 a1) ∧ wx.cell? ⟨w.heap.size, 2, none⟩ = some (.int .i64 a2) ∧ wx.cell? ⟨w.heap.size, 3, none⟩ = some (.int .i64 a3) ∧ wx.cell? ⟨w.heap.size + 1, 0, none⟩ = some (.int .i64 b0) ∧ wx.cell? ⟨w.heap.size + 1, 1, none⟩ = some (.int .i64 b1) ∧ wx.cell? ⟨w.heap.size + 1, 2, none⟩ = some (.int .i64 b2) ∧ wx.cell? ⟨w.heap.size + 1, 3, none⟩ = some (.int .i64 b3)) (by kernel_rfl) (⟨HA1.out.cell 0 rfl, HA1.out.cell 1 rfl, HA1.out.cell 2 rfl, HA1.out.cell 3 rfl, HP1.out.cell 0 rfl, HP1.out.cell 1 rfl, HP1.out.cell 2 rfl, HP1.out.cell 3 rfl⟩) (fun hHeld => ?_)
    generalize ((w.alloc (.cells #[.int .i64 a0, .int .i64 a1, .int .i64 a2, .int .i64 a3] 29)).alloc (.cells #[.int .i64 b0, .int .i64 b1, .int .i64 b2, .int .i64 b3] 29)).drew = w2 at *
    refine wpAnyH_take (i := 0) (v := ?_) rfl (by kernel_rfl) (by kernel_rfl) (by kernel_rfl) (fun _ _ _ h => h) (Or.inl ⟨by rfl, ?_⟩) hHeld ?_
    rotate_left
    · intro w hSw
      (try dsimp only at hSw)
      (try simp only [List.getElem_toArray, List.getElem_cons_zero])
      go_simp
      all_goals with_reducible rfl
    try simp only [List.getElem_toArray, List.getElem_cons_zero, Act.put, List.setIfInBounds_toArray, List.set_cons_zero, List.set_cons_succ]
    refine wpAnyH_take (i := 1) (v := ?_) rfl (by kernel_rfl) (by kernel_rfl) (by kernel_rfl) (fun _ _ _ h => h) (Or.inl ⟨by rfl, ?_⟩) hHeld ?_
    rotate_left
    · intro w hSw
      (try dsimp only at hSw)
      (try simp only [List.getElem_toArray, List.getElem_cons_zero, List.getElem_cons_succ])
      go_simp
      all_goals with_reducible rfl
    try simp only [List.getElem_toArray, List.getElem_cons_zero, List.getElem_cons_succ, Act.put, List.setIfInBounds_toArray, List.set_cons_zero, List.set_cons_succ]
    refine wpAnyH_take (i := 2) (v := ?_) rfl (by kernel_rfl) (by kernel_rfl) (by kernel_rfl) (fun _ _ _ h => h) (Or.inl ⟨by rfl, ?_⟩) hHeld ?_
    rotate_left
    · intro w hSw
      (try dsimp only at hSw)
      (try simp only [List.getElem_toArray, List.getElem_cons_zero, List.getElem_cons_succ])
      go_simp
      all_goals with_reducible rfl
    try simp only [List.getElem_toArray, List.getElem_cons_zero, List.getElem_cons_succ, Act.put, List.setIfInBounds_toArray, List.set_cons_zero, List.set_cons_succ]
    refine wpAnyH_take (i := 3) (v := ?_) rfl (by kernel_rfl) (by kernel_rfl) (by kernel_rfl) (fun _ _ _ h => h) (Or.inl ⟨by rfl, ?_⟩) hHeld ?_
    rotate_left
    · intro w hSw
      (try dsimp only at hSw)
      (try simp only [List.getElem_toArray, List.getElem_cons_zero, List.getElem_cons_succ])
      go_simp
      all_goals with_reducible rfl
    try simp only [List.getElem_toArray, List.getElem_cons_zero, List.getElem_cons_succ, Act.put, List.setIfInBounds_toArray, List.set_cons_zero, List.set_cons_succ]
    refine wpAnyH_take (i := 5) (v := ?_) rfl (by kernel_rfl) (by kernel_rfl) (by kernel_rfl) (fun _ _ _ h => h) (Or.inl ⟨by rfl, ?_⟩) hHeld ?_
    rotate_left
    · intro w hSw
      (try dsimp only at hSw)
      (try simp only [List.getElem_toArray, List.getElem_cons_zero, List.getElem_cons_succ])
      go_simp
      all_goals with_reducible rfl
    try simp only [List.getElem_toArray, List.getElem_cons_zero, List.getElem_cons_succ, Act.put, List.setIfInBounds_toArray, List.set_cons_zero, List.set_cons_succ]
    refine wpAnyH_take (i := 6) (v := ?_) rfl (by kernel_rfl) (by kernel_rfl) (by kernel_rfl) (fun _ _ _ h => h) (Or.inl ⟨by rfl, ?_⟩) hHeld ?_
    rotate_left
    · intro w hSw
      (try dsimp only at hSw)
      (try simp only [List.getElem_toArray, List.getElem_cons_zero, List.getElem_cons_succ])
      go_simp
      all_goals with_reducible rfl
    try simp only [List.getElem_toArray, List.getElem_cons_zero, List.getElem_cons_succ, Act.put, List.setIfInBounds_toArray, List.set_cons_zero, List.set_cons_succ]
    refine wpAnyH_take (i := 7) (v := ?_) rfl (by kernel_rfl) (by kernel_rfl) (by kernel_rfl) (fun _ _ _ h => h) (Or.inl ⟨by rfl, ?_⟩) hHeld ?_
    rotate_left
    · intro w hSw
      (try dsimp only at hSw)
      (try simp only [List.getElem_toArray, List.getElem_cons_zero, List.getElem_cons_succ])
      go_simp
      all_goals with_reducible rfl
    try simp only [List.getElem_toArray, List.getElem_cons_zero, List.getElem_cons_succ, Act.put, List.setIfInBounds_toArray, List.set_cons_zero, List.set_cons_succ]
    refine wpAnyH_take (i := 8) (v := ?_) rfl (by kernel_rfl) (by kernel_rfl) (by kernel_rfl) (fun _ _ _ h => h) (Or.inl ⟨by rfl, ?_⟩) hHeld ?_
    rotate_left
    · intro w hSw
      (try dsimp only at hSw)
      (try simp only [List.getElem_toArray, List.getElem_cons_zero, List.getElem_cons_succ])
      go_simp
      all_goals with_reducible rfl
    try simp only [List.getElem_toArray, List.getElem_cons_zero, List.getElem_cons_succ, Act.put, List.setIfInBounds_toArray, List.set_cons_zero, List.set_cons_succ]
    refine wpAnyH_ready (rs := [4, 10, 11]) (by kernel_rfl) (by simp) ?_
    refine AllReadyH.cons rfl (fun K hK => ?_) (AllReadyH.cons rfl (fun K hK => ?_) (AllReadyH.cons rfl (fun K hK => ?_) AllReadyH.nil))
    · try simp only [List.getElem_toArray, List.getElem_cons_zero, List.getElem_cons_succ]
      go_simp
      refine (HS1.out _).mono ?_
      rintro e wn ⟨rfl, hbn⟩
      have AB := AB.trans (hbn.mono (AB.size))
      replace HA1 := Lib.hid (HA1.out.keep hbn)
      replace HP1 := Lib.hid (HP1.out.keep hbn)
      try replace HXB := Lib.hid (HXB.out.keep hbn)
      try replace HYB := Lib.hid (HYB.out.keep hbn)
      clear hbn
      go_wp2_with fail
      refine hK.out _ _ (⟨HA1.out.cell 0 rfl, HA1.out.cell 1 rfl, HA1.out.cell 2 rfl, HA1.out.cell 3 rfl, HP1.out.cell 0 rfl, HP1.out.cell 1 rfl, HP1.out.cell 2 rfl, HP1.out.cell 3 rfl⟩) (fun hHeld => ?_)
      clear hK K
      try simp only [List.getElem_toArray, List.getElem_cons_zero, List.getElem_cons_succ, Act.put, List.setIfInBounds_toArray, List.set_cons_zero, List.set_cons_succ]
      refine wpAnyH_ready (rs := [9, 10, 11]) (by kernel_rfl) (by simp) ?_
      refine AllReadyH.cons rfl (fun K hK => ?_) (AllReadyH.cons rfl (fun K hK => ?_) (AllReadyH.cons rfl (fun K hK => ?_) AllReadyH.nil))
      · try simp only [List.getElem_toArray, List.getElem_cons_zero, List.getElem_cons_succ]
        go_simp
        refine (HS2.out _).mono ?_
        rintro e wn ⟨rfl, hbn⟩
        have AB := AB.trans (hbn.mono (AB.size))
        replace HA1 := Lib.hid (HA1.out.keep hbn)
        replace HP1 := Lib.hid (HP1.out.keep hbn)
        try replace HXB := Lib.hid (HXB.out.keep hbn)
        try replace HYB := Lib.hid (HYB.out.keep hbn)
        clear hbn
        go_wp2_with fail
        refine hK.out _ _ (⟨HA1.out.cell 0 rfl, HA1.out.cell 1 rfl, HA1.out.cell 2 rfl, HA1.out.cell 3 rfl, HP1.out.cell 0 rfl, HP1.out.cell 1 rfl, HP1.out.cell 2 rfl, HP1.out.cell 3 rfl⟩) (fun hHeld => ?_)
        clear hK K
        try simp only [List.getElem_toArray, List.getElem_cons_zero, List.getElem_cons_succ, Act.put, List.setIfInBounds_toArray, List.set_cons_zero, List.set_cons_succ]
        refine wpAnyH_ready (rs := [10, 11]) (by kernel_rfl) (by simp) ?_
        refine AllReadyH.cons rfl (fun K hK => ?_) (AllReadyH.cons rfl (fun K hK => ?_) AllReadyH.nil)
        · try simp only [List.getElem_toArray, List.getElem_cons_zero, List.getElem_cons_succ]
          go_simp
          obtain ⟨gX, hgX, hgX1, hBn, hAn, hKn⟩ := pnew_ex AB (Nat.le_refl _) 27 [.int .i64 0, .int .i64 0]
          have hgX2 : w.heap.size + 1 < gX := by rw [← hgX]; exact HP1.out.lt
          try simp only [World.size_alloc] at hgX
          rw [hgX]
          have HXB := Lib.hid hBn
          replace HA1 := Lib.hid (HA1.out.keep hKn)
          replace HP1 := Lib.hid (HP1.out.keep hKn)
          have AB := hAn
          clear hBn hAn hKn hgX
          refine hK.out _ _ (⟨HA1.out.cell 0 rfl, HA1.out.cell 1 rfl, HA1.out.cell 2 rfl, HA1.out.cell 3 rfl, HP1.out.cell 0 rfl, HP1.out.cell 1 rfl, HP1.out.cell 2 rfl, HP1.out.cell 3 rfl⟩) (fun hHeld => ?_)
          clear hK K
          try simp only [List.getElem_toArray, List.getElem_cons_zero, List.getElem_cons_succ, Act.put, List.setIfInBounds_toArray, List.set_cons_zero, List.set_cons_succ]
          refine wpAnyH_ready (rs := [11]) (by kernel_rfl) (by simp) ?_
          refine AllReadyH.cons rfl (fun K hK => ?_) AllReadyH.nil
          try simp only [List.getElem_toArray, List.getElem_cons_zero, List.getElem_cons_succ]
          go_simp
          obtain ⟨gY, hgY, hgY1, hBn, hAn, hKn⟩ := pnew_ex AB (Nat.le_refl _) 27 [.int .i64 0, .int .i64 0]
          have hgY2 : w.heap.size + 1 < gY := by rw [← hgY]; exact HP1.out.lt
          have hgxy : gX < gY := by rw [← hgY]; exact HXB.out.lt
          replace HXB := Lib.hid (HXB.out.keep hKn)
          try simp only [World.size_alloc] at hgY
          rw [hgY]
          have HYB := Lib.hid hBn
          replace HA1 := Lib.hid (HA1.out.keep hKn)
          replace HP1 := Lib.hid (HP1.out.keep hKn)
          have AB := hAn
          clear hBn hAn hKn hgY
          refine hK.out _ _ (⟨HA1.out.cell 0 rfl, HA1.out.cell 1 rfl, HA1.out.cell 2 rfl, HA1.out.cell 3 rfl, HP1.out.cell 0 rfl, HP1.out.cell 1 rfl, HP1.out.cell 2 rfl, HP1.out.cell 3 rfl⟩) (fun hHeld => ?_)
          clear hK K
          try simp only [List.getElem_toArray, List.getElem_cons_zero, List.getElem_cons_succ, Act.put, List.setIfInBounds_toArray, List.set_cons_zero, List.set_cons_succ]
          refine wpAnyH_ready (rs := [12]) (by kernel_rfl) (by simp) ?_
          refine AllReadyH.cons rfl (fun K hK => ?_) AllReadyH.nil
          try simp only [List.getElem_toArray, List.getElem_cons_zero, List.getElem_cons_succ]
          have x0 := HXB.out.cell 0 rfl
          have x1 := HXB.out.cell 1 rfl
          have xf := HXB.out.frozen
          have xl := HXB.out.lt
          go_simp
          replace HXB : Hid (Blk _ gX 27 [.int .i64 u0, .int .i64 u1]) := Lib.hid (blk_put2 HXB.out)
          replace HYB := Lib.hid (blk_oth2 (g := gX) (x := .int .i64 u0) (y := .int .i64 u1) HYB.out (by omega))
          replace HA1 := Lib.hid (blk_oth2 (g := gX) (x := .int .i64 u0) (y := .int .i64 u1) HA1.out (by omega))
          replace HP1 := Lib.hid (blk_oth2 (g := gX) (x := .int .i64 u0) (y := .int .i64 u1) HP1.out (by omega))
          have AB := below_put2 (g := gX) (x := .int .i64 u0) (y := .int .i64 u1) AB hgX1
          clear x0 x1 xf xl
          refine hK.out _ _ (⟨HA1.out.cell 0 rfl, HA1.out.cell 1 rfl, HA1.out.cell 2 rfl, HA1.out.cell 3 rfl, HP1.out.cell 0 rfl, HP1.out.cell 1 rfl, HP1.out.cell 2 rfl, HP1.out.cell 3 rfl⟩) (fun hHeld => ?_)
          clear hK K
          try simp only [List.getElem_toArray, List.getElem_cons_zero, List.getElem_cons_succ, Act.put, List.setIfInBounds_toArray, List.set_cons_zero, List.set_cons_succ]
          refine wpAnyH_ready (rs := [13]) (by kernel_rfl) (by simp) ?_
          refine AllReadyH.cons rfl (fun K hK => ?_) AllReadyH.nil
          try simp only [List.getElem_toArray, List.getElem_cons_zero, List.getElem_cons_succ]
          have x0 := HYB.out.cell 0 rfl
          have x1 := HYB.out.cell 1 rfl
          have xf := HYB.out.frozen
          have xl := HYB.out.lt
          go_simp
          replace HYB : Hid (Blk _ gY 27 [.int .i64 v0, .int .i64 v1]) := Lib.hid (blk_put2 HYB.out)
          replace HXB := Lib.hid (blk_oth2 (g := gY) (x := .int .i64 v0) (y := .int .i64 v1) HXB.out (by omega))
          replace HA1 := Lib.hid (blk_oth2 (g := gY) (x := .int .i64 v0) (y := .int .i64 v1) HA1.out (by omega))
          replace HP1 := Lib.hid (blk_oth2 (g := gY) (x := .int .i64 v0) (y := .int .i64 v1) HP1.out (by omega))
          have AB := below_put2 (g := gY) (x := .int .i64 v0) (y := .int .i64 v1) AB hgY1
          clear x0 x1 xf xl
          refine hK.out _ _ (⟨HA1.out.cell 0 rfl, HA1.out.cell 1 rfl, HA1.out.cell 2 rfl, HA1.out.cell 3 rfl, HP1.out.cell 0 rfl, HP1.out.cell 1 rfl, HP1.out.cell 2 rfl, HP1.out.cell 3 rfl⟩) (fun hHeld => ?_)
          clear hK K
          try simp only [List.getElem_toArray, List.getElem_cons_zero, List.getElem_cons_succ, Act.put, List.setIfInBounds_toArray, List.set_cons_zero, List.set_cons_succ]
          refine wpAnyH_done (by kernel_rfl) ?_ _
          go_wp2_with fail
          go_meet
          exact ⟨gX, gY, rfl, rfl, HXB, HYB, Lib.hid AB⟩
        · try simp only [List.getElem_toArray, List.getElem_cons_zero, List.getElem_cons_succ]
          go_simp
          obtain ⟨gY, hgY, hgY1, hBn, hAn, hKn⟩ := pnew_ex AB (Nat.le_refl _) 27 [.int .i64 0, .int .i64 0]
          have hgY2 : w.heap.size + 1 < gY := by rw [← hgY]; exact HP1.out.lt
          try simp only [World.size_alloc] at hgY
          rw [hgY]
          have HYB := Lib.hid hBn
          replace HA1 := Lib.hid (HA1.out.keep hKn)
          replace HP1 := Lib.hid (HP1.out.keep hKn)
          have AB := hAn
          clear hBn hAn hKn hgY
          refine hK.out _ _ (⟨HA1.out.cell 0 rfl, HA1.out.cell 1 rfl, HA1.out.cell 2 rfl, HA1.out.cell 3 rfl, HP1.out.cell 0 rfl, HP1.out.cell 1 rfl, HP1.out.cell 2 rfl, HP1.out.cell 3 rfl⟩) (fun hHeld => ?_)
          clear hK K
          try simp only [List.getElem_toArray, List.getElem_cons_zero, List.getElem_cons_succ, Act.put, List.setIfInBounds_toArray, List.set_cons_zero, List.set_cons_succ]
          refine wpAnyH_ready (rs := [10]) (by kernel_rfl) (by simp) ?_
          refine AllReadyH.cons rfl (fun K hK => ?_) AllReadyH.nil
          try simp only [List.getElem_toArray, List.getElem_cons_zero, List.getElem_cons_succ]
          go_simp
          obtain ⟨gX, hgX, hgX1, hBn, hAn, hKn⟩ := pnew_ex AB (Nat.le_refl _) 27 [.int .i64 0, .int .i64 0]
          have hgX2 : w.heap.size + 1 < gX := by rw [← hgX]; exact HP1.out.lt
          have hgxy : gY < gX := by rw [← hgX]; exact HYB.out.lt
          replace HYB := Lib.hid (HYB.out.keep hKn)
          try simp only [World.size_alloc] at hgX
          rw [hgX]
          have HXB := Lib.hid hBn
          replace HA1 := Lib.hid (HA1.out.keep hKn)
          replace HP1 := Lib.hid (HP1.out.keep hKn)
          have AB := hAn
          clear hBn hAn hKn hgX
          refine hK.out _ _ (⟨HA1.out.cell 0 rfl, HA1.out.cell 1 rfl, HA1.out.cell 2 rfl, HA1.out.cell 3 rfl, HP1.out.cell 0 rfl, HP1.out.cell 1 rfl, HP1.out.cell 2 rfl, HP1.out.cell 3 rfl⟩) (fun hHeld => ?_)
          clear hK K
          try simp only [List.getElem_toArray, List.getElem_cons_zero, List.getElem_cons_succ, Act.put, List.setIfInBounds_toArray, List.set_cons_zero, List.set_cons_succ]
          refine wpAnyH_ready (rs := [12]) (by kernel_rfl) (by simp) ?_
          refine AllReadyH.cons rfl (fun K hK => ?_) AllReadyH.nil
          try simp only [List.getElem_toArray, List.getElem_cons_zero, List.getElem_cons_succ]
          have x0 := HXB.out.cell 0 rfl
          have x1 := HXB.out.cell 1 rfl
          have xf := HXB.out.frozen
          have xl := HXB.out.lt
          go_simp
          replace HXB : Hid (Blk _ gX 27 [.int .i64 u0, .int .i64 u1]) := Lib.hid (blk_put2 HXB.out)
          replace HYB := Lib.hid (blk_oth2 (g := gX) (x := .int .i64 u0) (y := .int .i64 u1) HYB.out (by omega))
          replace HA1 := Lib.hid (blk_oth2 (g := gX) (x := .int .i64 u0) (y := .int .i64 u1) HA1.out (by omega))
          replace HP1 := Lib.hid (blk_oth2 (g := gX) (x := .int .i64 u0) (y := .int .i64 u1) HP1.out (by omega))
          have AB := below_put2 (g := gX) (x := .int .i64 u0) (y := .int .i64 u1) AB hgX1
          clear x0 x1 xf xl
          refine hK.out _ _ (⟨HA1.out.cell 0 rfl, HA1.out.cell 1 rfl, HA1.out.cell 2 rfl, HA1.out.cell 3 rfl, HP1.out.cell 0 rfl, HP1.out.cell 1 rfl, HP1.out.cell 2 rfl, HP1.out.cell 3 rfl⟩) (fun hHeld => ?_)
          clear hK K
          try simp only [List.getElem_toArray, List.getElem_cons_zero, List.getElem_cons_succ, Act.put, List.setIfInBounds_toArray, List.set_cons_zero, List.set_cons_succ]
          refine wpAnyH_ready (rs := [13]) (by kernel_rfl) (by simp) ?_
          refine AllReadyH.cons rfl (fun K hK => ?_) AllReadyH.nil
          try simp only [List.getElem_toArray, List.getElem_cons_zero, List.getElem_cons_succ]
          have x0 := HYB.out.cell 0 rfl
          have x1 := HYB.out.cell 1 rfl
          have xf := HYB.out.frozen
          have xl := HYB.out.lt
          go_simp
          replace HYB : Hid (Blk _ gY 27 [.int .i64 v0, .int .i64 v1]) := Lib.hid (blk_put2 HYB.out)
          replace HXB := Lib.hid (blk_oth2 (g := gY) (x := .int .i64 v0) (y := .int .i64 v1) HXB.out (by omega))
          replace HA1 := Lib.hid (blk_oth2 (g := gY) (x := .int .i64 v0) (y := .int .i64 v1) HA1.out (by omega))
          replace HP1 := Lib.hid (blk_oth2 (g := gY) (x := .int .i64 v0) (y := .int .i64 v1) HP1.out (by omega))
          have AB := below_put2 (g := gY) (x := .int .i64 v0) (y := .int .i64 v1) AB hgY1
          clear x0 x1 xf xl
          refine hK.out _ _ (⟨HA1.out.cell 0 rfl, HA1.out.cell 1 rfl, HA1.out.cell 2 rfl, HA1.out.cell 3 rfl, HP1.out.cell 0 rfl, HP1.out.cell 1 rfl, HP1.out.cell 2 rfl, HP1.out.cell 3 rfl⟩) (fun hHeld => ?_)
          clear hK K
          try simp only [List.getElem_toArray, List.getElem_cons_zero, List.getElem_cons_succ, Act.put, List.setIfInBounds_toArray, List.set_cons_zero, List.set_cons_succ]
          refine wpAnyH_done (by kernel_rfl) ?_ _
          go_wp2_with fail
          go_meet
          exact ⟨gX, gY, rfl, rfl, HXB, HYB, Lib.hid AB⟩
      · try simp only [List.getElem_toArray, List.getElem_cons_zero, List.getElem_cons_succ]
        go_simp
        obtain ⟨gX, hgX, hgX1, hBn, hAn, hKn⟩ := pnew_ex AB (Nat.le_refl _) 27 [.int .i64 0, .int .i64 0]
        have hgX2 : w.heap.size + 1 < gX := by rw [← hgX]; exact HP1.out.lt
        try simp only [World.size_alloc] at hgX
        rw [hgX]
        have HXB := Lib.hid hBn
        replace HA1 := Lib.hid (HA1.out.keep hKn)
        replace HP1 := Lib.hid (HP1.out.keep hKn)
        have AB := hAn
        clear hBn hAn hKn hgX
        refine hK.out _ _ (⟨HA1.out.cell 0 rfl, HA1.out.cell 1 rfl, HA1.out.cell 2 rfl, HA1.out.cell 3 rfl, HP1.out.cell 0 rfl, HP1.out.cell 1 rfl, HP1.out.cell 2 rfl, HP1.out.cell 3 rfl⟩) (fun hHeld => ?_)
        clear hK K
        try simp only [List.getElem_toArray, List.getElem_cons_zero, List.getElem_cons_succ, Act.put, List.setIfInBounds_toArray, List.set_cons_zero, List.set_cons_succ]
        refine wpAnyH_ready (rs := [9, 11]) (by kernel_rfl) (by simp) ?_
        refine AllReadyH.cons rfl (fun K hK => ?_) (AllReadyH.cons rfl (fun K hK => ?_) AllReadyH.nil)
        · try simp only [List.getElem_toArray, List.getElem_cons_zero, List.getElem_cons_succ]
          go_simp
          refine (HS2.out _).mono ?_
          rintro e wn ⟨rfl, hbn⟩
          have AB := AB.trans (hbn.mono (AB.size))
          replace HA1 := Lib.hid (HA1.out.keep hbn)
          replace HP1 := Lib.hid (HP1.out.keep hbn)
          try replace HXB := Lib.hid (HXB.out.keep hbn)
          try replace HYB := Lib.hid (HYB.out.keep hbn)
          clear hbn
          go_wp2_with fail
          refine hK.out _ _ (⟨HA1.out.cell 0 rfl, HA1.out.cell 1 rfl, HA1.out.cell 2 rfl, HA1.out.cell 3 rfl, HP1.out.cell 0 rfl, HP1.out.cell 1 rfl, HP1.out.cell 2 rfl, HP1.out.cell 3 rfl⟩) (fun hHeld => ?_)
          clear hK K
          try simp only [List.getElem_toArray, List.getElem_cons_zero, List.getElem_cons_succ, Act.put, List.setIfInBounds_toArray, List.set_cons_zero, List.set_cons_succ]
          refine wpAnyH_ready (rs := [11]) (by kernel_rfl) (by simp) ?_
          refine AllReadyH.cons rfl (fun K hK => ?_) AllReadyH.nil
          try simp only [List.getElem_toArray, List.getElem_cons_zero, List.getElem_cons_succ]
          go_simp
          obtain ⟨gY, hgY, hgY1, hBn, hAn, hKn⟩ := pnew_ex AB (Nat.le_refl _) 27 [.int .i64 0, .int .i64 0]
          have hgY2 : w.heap.size + 1 < gY := by rw [← hgY]; exact HP1.out.lt
          have hgxy : gX < gY := by rw [← hgY]; exact HXB.out.lt
          replace HXB := Lib.hid (HXB.out.keep hKn)
          try simp only [World.size_alloc] at hgY
          rw [hgY]
          have HYB := Lib.hid hBn
          replace HA1 := Lib.hid (HA1.out.keep hKn)
          replace HP1 := Lib.hid (HP1.out.keep hKn)
          have AB := hAn
          clear hBn hAn hKn hgY
          refine hK.out _ _ (⟨HA1.out.cell 0 rfl, HA1.out.cell 1 rfl, HA1.out.cell 2 rfl, HA1.out.cell 3 rfl, HP1.out.cell 0 rfl, HP1.out.cell 1 rfl, HP1.out.cell 2 rfl, HP1.out.cell 3 rfl⟩) (fun hHeld => ?_)
          clear hK K
          try simp only [List.getElem_toArray, List.getElem_cons_zero, List.getElem_cons_succ, Act.put, List.setIfInBounds_toArray, List.set_cons_zero, List.set_cons_succ]
          refine wpAnyH_ready (rs := [12]) (by kernel_rfl) (by simp) ?_
          refine AllReadyH.cons rfl (fun K hK => ?_) AllReadyH.nil
          try simp only [List.getElem_toArray, List.getElem_cons_zero, List.getElem_cons_succ]
          have x0 := HXB.out.cell 0 rfl
          have x1 := HXB.out.cell 1 rfl
          have xf := HXB.out.frozen
          have xl := HXB.out.lt
          go_simp
          replace HXB : Hid (Blk _ gX 27 [.int .i64 u0, .int .i64 u1]) := Lib.hid (blk_put2 HXB.out)
          replace HYB := Lib.hid (blk_oth2 (g := gX) (x := .int .i64 u0) (y := .int .i64 u1) HYB.out (by omega))
          replace HA1 := Lib.hid (blk_oth2 (g := gX) (x := .int .i64 u0) (y := .int .i64 u1) HA1.out (by omega))
          replace HP1 := Lib.hid (blk_oth2 (g := gX) (x := .int .i64 u0) (y := .int .i64 u1) HP1.out (by omega))
          have AB := below_put2 (g := gX) (x := .int .i64 u0) (y := .int .i64 u1) AB hgX1
          clear x0 x1 xf xl
          refine hK.out _ _ (⟨HA1.out.cell 0 rfl, HA1.out.cell 1 rfl, HA1.out.cell 2 rfl, HA1.out.cell 3 rfl, HP1.out.cell 0 rfl, HP1.out.cell 1 rfl, HP1.out.cell 2 rfl, HP1.out.cell 3 rfl⟩) (fun hHeld => ?_)
          clear hK K
          try simp only [List.getElem_toArray, List.getElem_cons_zero, List.getElem_cons_succ, Act.put, List.setIfInBounds_toArray, List.set_cons_zero, List.set_cons_succ]
          refine wpAnyH_ready (rs := [13]) (by kernel_rfl) (by simp) ?_
          refine AllReadyH.cons rfl (fun K hK => ?_) AllReadyH.nil
          try simp only [List.getElem_toArray, List.getElem_cons_zero, List.getElem_cons_succ]
          have x0 := HYB.out.cell 0 rfl
          have x1 := HYB.out.cell 1 rfl
          have xf := HYB.out.frozen
          have xl := HYB.out.lt
          go_simp
          replace HYB : Hid (Blk _ gY 27 [.int .i64 v0, .int .i64 v1]) := Lib.hid (blk_put2 HYB.out)
          replace HXB := Lib.hid (blk_oth2 (g := gY) (x := .int .i64 v0) (y := .int .i64 v1) HXB.out (by omega))
          replace HA1 := Lib.hid (blk_oth2 (g := gY) (x := .int .i64 v0) (y := .int .i64 v1) HA1.out (by omega))
          replace HP1 := Lib.hid (blk_oth2 (g := gY) (x := .int .i64 v0) (y := .int .i64 v1) HP1.out (by omega))
          have AB := below_put2 (g := gY) (x := .int .i64 v0) (y := .int .i64 v1) AB hgY1
          clear x0 x1 xf xl
          refine hK.out _ _ (⟨HA1.out.cell 0 rfl, HA1.out.cell 1 rfl, HA1.out.cell 2 rfl, HA1.out.cell 3 rfl, HP1.out.cell 0 rfl, HP1.out.cell 1 rfl, HP1.out.cell 2 rfl, HP1.out.cell 3 rfl⟩) (fun hHeld => ?_)
          clear hK K
          try simp only [List.getElem_toArray, List.getElem_cons_zero, List.getElem_cons_succ, Act.put, List.setIfInBounds_toArray, List.set_cons_zero, List.set_cons_succ]
          refine wpAnyH_done (by kernel_rfl) ?_ _
          go_wp2_with fail
          go_meet
          exact ⟨gX, gY, rfl, rfl, HXB, HYB, Lib.hid AB⟩
        · try simp only [List.getElem_toArray, List.getElem_cons_zero, List.getElem_cons_succ]
          go_simp
          obtain ⟨gY, hgY, hgY1, hBn, hAn, hKn⟩ := pnew_ex AB (Nat.le_refl _) 27 [.int .i64 0, .int .i64 0]
          have hgY2 : w.heap.size + 1 < gY := by rw [← hgY]; exact HP1.out.lt
          have hgxy : gX < gY := by rw [← hgY]; exact HXB.out.lt
          replace HXB := Lib.hid (HXB.out.keep hKn)
          try simp only [World.size_alloc] at hgY
          rw [hgY]
          have HYB := Lib.hid hBn
          replace HA1 := Lib.hid (HA1.out.keep hKn)
          replace HP1 := Lib.hid (HP1.out.keep hKn)
          have AB := hAn
          clear hBn hAn hKn hgY
          refine hK.out _ _ (⟨HA1.out.cell 0 rfl, HA1.out.cell 1 rfl, HA1.out.cell 2 rfl, HA1.out.cell 3 rfl, HP1.out.cell 0 rfl, HP1.out.cell 1 rfl, HP1.out.cell 2 rfl, HP1.out.cell 3 rfl⟩) (fun hHeld => ?_)
          clear hK K
          try simp only [List.getElem_toArray, List.getElem_cons_zero, List.getElem_cons_succ, Act.put, List.setIfInBounds_toArray, List.set_cons_zero, List.set_cons_succ]
          refine wpAnyH_ready (rs := [9]) (by kernel_rfl) (by simp) ?_
          refine AllReadyH.cons rfl (fun K hK => ?_) AllReadyH.nil
          try simp only [List.getElem_toArray, List.getElem_cons_zero, List.getElem_cons_succ]
          go_simp
          refine (HS2.out _).mono ?_
          rintro e wn ⟨rfl, hbn⟩
          have AB := AB.trans (hbn.mono (AB.size))
          replace HA1 := Lib.hid (HA1.out.keep hbn)
          replace HP1 := Lib.hid (HP1.out.keep hbn)
          try replace HXB := Lib.hid (HXB.out.keep hbn)
          try replace HYB := Lib.hid (HYB.out.keep hbn)
          clear hbn
          go_wp2_with fail
          refine hK.out _ _ (⟨HA1.out.cell 0 rfl, HA1.out.cell 1 rfl, HA1.out.cell 2 rfl, HA1.out.cell 3 rfl, HP1.out.cell 0 rfl, HP1.out.cell 1 rfl, HP1.out.cell 2 rfl, HP1.out.cell 3 rfl⟩) (fun hHeld => ?_)
          clear hK K
          try simp only [List.getElem_toArray, List.getElem_cons_zero, List.getElem_cons_succ, Act.put, List.setIfInBounds_toArray, List.set_cons_zero, List.set_cons_succ]
          refine wpAnyH_ready (rs := [12]) (by kernel_rfl) (by simp) ?_
          refine AllReadyH.cons rfl (fun K hK => ?_) AllReadyH.nil
          try simp only [List.getElem_toArray, List.getElem_cons_zero, List.getElem_cons_succ]
          have x0 := HXB.out.cell 0 rfl
          have x1 := HXB.out.cell 1 rfl
          have xf := HXB.out.frozen
          have xl := HXB.out.lt
          go_simp
          replace HXB : Hid (Blk _ gX 27 [.int .i64 u0, .int .i64 u1]) := Lib.hid (blk_put2 HXB.out)
          replace HYB := Lib.hid (blk_oth2 (g := gX) (x := .int .i64 u0) (y := .int .i64 u1) HYB.out (by omega))
          replace HA1 := Lib.hid (blk_oth2 (g := gX) (x := .int .i64 u0) (y := .int .i64 u1) HA1.out (by omega))
          replace HP1 := Lib.hid (blk_oth2 (g := gX) (x := .int .i64 u0) (y := .int .i64 u1) HP1.out (by omega))
          have AB := below_put2 (g := gX) (x := .int .i64 u0) (y := .int .i64 u1) AB hgX1
          clear x0 x1 xf xl
          refine hK.out _ _ (⟨HA1.out.cell 0 rfl, HA1.out.cell 1 rfl, HA1.out.cell 2 rfl, HA1.out.cell 3 rfl, HP1.out.cell 0 rfl, HP1.out.cell 1 rfl, HP1.out.cell 2 rfl, HP1.out.cell 3 rfl⟩) (fun hHeld => ?_)
          clear hK K
          try simp only [List.getElem_toArray, List.getElem_cons_zero, List.getElem_cons_succ, Act.put, List.setIfInBounds_toArray, List.set_cons_zero, List.set_cons_succ]
          refine wpAnyH_ready (rs := [13]) (by kernel_rfl) (by simp) ?_
          refine AllReadyH.cons rfl (fun K hK => ?_) AllReadyH.nil
          try simp only [List.getElem_toArray, List.getElem_cons_zero, List.getElem_cons_succ]
          have x0 := HYB.out.cell 0 rfl
          have x1 := HYB.out.cell 1 rfl
          have xf := HYB.out.frozen
          have xl := HYB.out.lt
          go_simp
          replace HYB : Hid (Blk _ gY 27 [.int .i64 v0, .int .i64 v1]) := Lib.hid (blk_put2 HYB.out)
          replace HXB := Lib.hid (blk_oth2 (g := gY) (x := .int .i64 v0) (y := .int .i64 v1) HXB.out (by omega))
          replace HA1 := Lib.hid (blk_oth2 (g := gY) (x := .int .i64 v0) (y := .int .i64 v1) HA1.out (by omega))
          replace HP1 := Lib.hid (blk_oth2 (g := gY) (x := .int .i64 v0) (y := .int .i64 v1) HP1.out (by omega))
          have AB := below_put2 (g := gY) (x := .int .i64 v0) (y := .int .i64 v1) AB hgY1
          clear x0 x1 xf xl
          refine hK.out _ _ (⟨HA1.out.cell 0 rfl, HA1.out.cell 1 rfl, HA1.out.cell 2 rfl, HA1.out.cell 3 rfl, HP1.out.cell 0 rfl, HP1.out.cell 1 rfl, HP1.out.cell 2 rfl, HP1.out.cell 3 rfl⟩) (fun hHeld => ?_)
          clear hK K
          try simp only [List.getElem_toArray, List.getElem_cons_zero, List.getElem_cons_succ, Act.put, List.setIfInBounds_toArray, List.set_cons_zero, List.set_cons_succ]
          refine wpAnyH_done (by kernel_rfl) ?_ _
          go_wp2_with fail
          go_meet
          exact ⟨gX, gY, rfl, rfl, HXB, HYB, Lib.hid AB⟩
      · try simp only [List.getElem_toArray, List.getElem_cons_zero, List.getElem_cons_succ]
        go_simp
        obtain ⟨gY, hgY, hgY1, hBn, hAn, hKn⟩ := pnew_ex AB (Nat.le_refl _) 27 [.int .i64 0, .int .i64 0]
        have hgY2 : w.heap.size + 1 < gY := by rw [← hgY]; exact HP1.out.lt
        try simp only [World.size_alloc] at hgY
        rw [hgY]
        have HYB := Lib.hid hBn
        replace HA1 := Lib.hid (HA1.out.keep hKn)
        replace HP1 := Lib.hid (HP1.out.keep hKn)
        have AB := hAn
        clear hBn hAn hKn hgY
        refine hK.out _ _ (⟨HA1.out.cell 0 rfl, HA1.out.cell 1 rfl, HA1.out.cell 2 rfl, HA1.out.cell 3 rfl, HP1.out.cell 0 rfl, HP1.out.cell 1 rfl, HP1.out.cell 2 rfl, HP1.out.cell 3 rfl⟩) (fun hHeld => ?_)
        clear hK K
        try simp only [List.getElem_toArray, List.getElem_cons_zero, List.getElem_cons_succ, Act.put, List.setIfInBounds_toArray, List.set_cons_zero, List.set_cons_succ]
        refine wpAnyH_ready (rs := [9, 10]) (by kernel_rfl) (by simp) ?_
        refine AllReadyH.cons rfl (fun K hK => ?_) (AllReadyH.cons rfl (fun K hK => ?_) AllReadyH.nil)
        · try simp only [List.getElem_toArray, List.getElem_cons_zero, List.getElem_cons_succ]
          go_simp
          refine (HS2.out _).mono ?_
          rintro e wn ⟨rfl, hbn⟩
          have AB := AB.trans (hbn.mono (AB.size))
          replace HA1 := Lib.hid (HA1.out.keep hbn)
          replace HP1 := Lib.hid (HP1.out.keep hbn)
          try replace HXB := Lib.hid (HXB.out.keep hbn)
          try replace HYB := Lib.hid (HYB.out.keep hbn)
          clear hbn
          go_wp2_with fail
          refine hK.out _ _ (⟨HA1.out.cell 0 rfl, HA1.out.cell 1 rfl, HA1.out.cell 2 rfl, HA1.out.cell 3 rfl, HP1.out.cell 0 rfl, HP1.out.cell 1 rfl, HP1.out.cell 2 rfl, HP1.out.cell 3 rfl⟩) (fun hHeld => ?_)
          clear hK K
          try simp only [List.getElem_toArray, List.getElem_cons_zero, List.getElem_cons_succ, Act.put, List.setIfInBounds_toArray, List.set_cons_zero, List.set_cons_succ]
          refine wpAnyH_ready (rs := [10]) (by kernel_rfl) (by simp) ?_
          refine AllReadyH.cons rfl (fun K hK => ?_) AllReadyH.nil
          try simp only [List.getElem_toArray, List.getElem_cons_zero, List.getElem_cons_succ]
          go_simp
          obtain ⟨gX, hgX, hgX1, hBn, hAn, hKn⟩ := pnew_ex AB (Nat.le_refl _) 27 [.int .i64 0, .int .i64 0]
          have hgX2 : w.heap.size + 1 < gX := by rw [← hgX]; exact HP1.out.lt
          have hgxy : gY < gX := by rw [← hgX]; exact HYB.out.lt
          replace HYB := Lib.hid (HYB.out.keep hKn)
          try simp only [World.size_alloc] at hgX
          rw [hgX]
          have HXB := Lib.hid hBn
          replace HA1 := Lib.hid (HA1.out.keep hKn)
          replace HP1 := Lib.hid (HP1.out.keep hKn)
          have AB := hAn
          clear hBn hAn hKn hgX
          refine hK.out _ _ (⟨HA1.out.cell 0 rfl, HA1.out.cell 1 rfl, HA1.out.cell 2 rfl, HA1.out.cell 3 rfl, HP1.out.cell 0 rfl, HP1.out.cell 1 rfl, HP1.out.cell 2 rfl, HP1.out.cell 3 rfl⟩) (fun hHeld => ?_)
          clear hK K
          try simp only [List.getElem_toArray, List.getElem_cons_zero, List.getElem_cons_succ, Act.put, List.setIfInBounds_toArray, List.set_cons_zero, List.set_cons_succ]
          refine wpAnyH_ready (rs := [12]) (by kernel_rfl) (by simp) ?_
          refine AllReadyH.cons rfl (fun K hK => ?_) AllReadyH.nil
          try simp only [List.getElem_toArray, List.getElem_cons_zero, List.getElem_cons_succ]
          have x0 := HXB.out.cell 0 rfl
          have x1 := HXB.out.cell 1 rfl
          have xf := HXB.out.frozen
          have xl := HXB.out.lt
          go_simp
          replace HXB : Hid (Blk _ gX 27 [.int .i64 u0, .int .i64 u1]) := Lib.hid (blk_put2 HXB.out)
          replace HYB := Lib.hid (blk_oth2 (g := gX) (x := .int .i64 u0) (y := .int .i64 u1) HYB.out (by omega))
          replace HA1 := Lib.hid (blk_oth2 (g := gX) (x := .int .i64 u0) (y := .int .i64 u1) HA1.out (by omega))
          replace HP1 := Lib.hid (blk_oth2 (g := gX) (x := .int .i64 u0) (y := .int .i64 u1) HP1.out (by omega))
          have AB := below_put2 (g := gX) (x := .int .i64 u0) (y := .int .i64 u1) AB hgX1
          clear x0 x1 xf xl
          refine hK.out _ _ (⟨HA1.out.cell 0 rfl, HA1.out.cell 1 rfl, HA1.out.cell 2 rfl, HA1.out.cell 3 rfl, HP1.out.cell 0 rfl, HP1.out.cell 1 rfl, HP1.out.cell 2 rfl, HP1.out.cell 3 rfl⟩) (fun hHeld => ?_)
          clear hK K
          try simp only [List.getElem_toArray, List.getElem_cons_zero, List.getElem_cons_succ, Act.put, List.setIfInBounds_toArray, List.set_cons_zero, List.set_cons_succ]
          refine wpAnyH_ready (rs := [13]) (by kernel_rfl) (by simp) ?_
          refine AllReadyH.cons rfl (fun K hK => ?_) AllReadyH.nil
          try simp only [List.getElem_toArray, List.getElem_cons_zero, List.getElem_cons_succ]
          have x0 := HYB.out.cell 0 rfl
          have x1 := HYB.out.cell 1 rfl
          have xf := HYB.out.frozen
          have xl := HYB.out.lt
          go_simp
          replace HYB : Hid (Blk _ gY 27 [.int .i64 v0, .int .i64 v1]) := Lib.hid (blk_put2 HYB.out)
          replace HXB := Lib.hid (blk_oth2 (g := gY) (x := .int .i64 v0) (y := .int .i64 v1) HXB.out (by omega))
          replace HA1 := Lib.hid (blk_oth2 (g := gY) (x := .int .i64 v0) (y := .int .i64 v1) HA1.out (by omega))
          replace HP1 := Lib.hid (blk_oth2 (g := gY) (x := .int .i64 v0) (y := .int .i64 v1) HP1.out (by omega))
          have AB := below_put2 (g := gY) (x := .int .i64 v0) (y := .int .i64 v1) AB hgY1
          clear x0 x1 xf xl
          refine hK.out _ _ (⟨HA1.out.cell 0 rfl, HA1.out.cell 1 rfl, HA1.out.cell 2 rfl, HA1.out.cell 3 rfl, HP1.out.cell 0 rfl, HP1.out.cell 1 rfl, HP1.out.cell 2 rfl, HP1.out.cell 3 rfl⟩) (fun hHeld => ?_)
          clear hK K
          try simp only [List.getElem_toArray, List.getElem_cons_zero, List.getElem_cons_succ, Act.put, List.setIfInBounds_toArray, List.set_cons_zero, List.set_cons_succ]
          refine wpAnyH_done (by kernel_rfl) ?_ _
          go_wp2_with fail
          go_meet
          exact ⟨gX, gY, rfl, rfl, HXB, HYB, Lib.hid AB⟩
        · try simp only [List.getElem_toArray, List.getElem_cons_zero, List.getElem_cons_succ]
          go_simp
          obtain ⟨gX, hgX, hgX1, hBn, hAn, hKn⟩ := pnew_ex AB (Nat.le_refl _) 27 [.int .i64 0, .int .i64 0]
          have hgX2 : w.heap.size + 1 < gX := by rw [← hgX]; exact HP1.out.lt
          have hgxy : gY < gX := by rw [← hgX]; exact HYB.out.lt
          replace HYB := Lib.hid (HYB.out.keep hKn)
          try simp only [World.size_alloc] at hgX
          rw [hgX]
          have HXB := Lib.hid hBn
          replace HA1 := Lib.hid (HA1.out.keep hKn)
          replace HP1 := Lib.hid (HP1.out.keep hKn)
          have AB := hAn
          clear hBn hAn hKn hgX
          refine hK.out _ _ (⟨HA1.out.cell 0 rfl, HA1.out.cell 1 rfl, HA1.out.cell 2 rfl, HA1.out.cell 3 rfl, HP1.out.cell 0 rfl, HP1.out.cell 1 rfl, HP1.out.cell 2 rfl, HP1.out.cell 3 rfl⟩) (fun hHeld => ?_)
          clear hK K
          try simp only [List.getElem_toArray, List.getElem_cons_zero, List.getElem_cons_succ, Act.put, List.setIfInBounds_toArray, List.set_cons_zero, List.set_cons_succ]
          refine wpAnyH_ready (rs := [9]) (by kernel_rfl) (by simp) ?_
          refine AllReadyH.cons rfl (fun K hK => ?_) AllReadyH.nil
          try simp only [List.getElem_toArray, List.getElem_cons_zero, List.getElem_cons_succ]
          go_simp
          refine (HS2.out _).mono ?_
          rintro e wn ⟨rfl, hbn⟩
          have AB := AB.trans (hbn.mono (AB.size))
          replace HA1 := Lib.hid (HA1.out.keep hbn)
          replace HP1 := Lib.hid (HP1.out.keep hbn)
          try replace HXB := Lib.hid (HXB.out.keep hbn)
          try replace HYB := Lib.hid (HYB.out.keep hbn)
          clear hbn
          go_wp2_with fail
          refine hK.out _ _ (⟨HA1.out.cell 0 rfl, HA1.out.cell 1 rfl, HA1.out.cell 2 rfl, HA1.out.cell 3 rfl, HP1.out.cell 0 rfl, HP1.out.cell 1 rfl, HP1.out.cell 2 rfl, HP1.out.cell 3 rfl⟩) (fun hHeld => ?_)
          clear hK K
          try simp only [List.getElem_toArray, List.getElem_cons_zero, List.getElem_cons_succ, Act.put, List.setIfInBounds_toArray, List.set_cons_zero, List.set_cons_succ]
          refine wpAnyH_ready (rs := [12]) (by kernel_rfl) (by simp) ?_
          refine AllReadyH.cons rfl (fun K hK => ?_) AllReadyH.nil
          try simp only [List.getElem_toArray, List.getElem_cons_zero, List.getElem_cons_succ]
          have x0 := HXB.out.cell 0 rfl
          have x1 := HXB.out.cell 1 rfl
          have xf := HXB.out.frozen
          have xl := HXB.out.lt
          go_simp
          replace HXB : Hid (Blk _ gX 27 [.int .i64 u0, .int .i64 u1]) := Lib.hid (blk_put2 HXB.out)
          replace HYB := Lib.hid (blk_oth2 (g := gX) (x := .int .i64 u0) (y := .int .i64 u1) HYB.out (by omega))
          replace HA1 := Lib.hid (blk_oth2 (g := gX) (x := .int .i64 u0) (y := .int .i64 u1) HA1.out (by omega))
          replace HP1 := Lib.hid (blk_oth2 (g := gX) (x := .int .i64 u0) (y := .int .i64 u1) HP1.out (by omega))
          have AB := below_put2 (g := gX) (x := .int .i64 u0) (y := .int .i64 u1) AB hgX1
          clear x0 x1 xf xl
          refine hK.out _ _ (⟨HA1.out.cell 0 rfl, HA1.out.cell 1 rfl, HA1.out.cell 2 rfl, HA1.out.cell 3 rfl, HP1.out.cell 0 rfl, HP1.out.cell 1 rfl, HP1.out.cell 2 rfl, HP1.out.cell 3 rfl⟩) (fun hHeld => ?_)
          clear hK K
          try simp only [List.getElem_toArray, List.getElem_cons_zero, List.getElem_cons_succ, Act.put, List.setIfInBounds_toArray, List.set_cons_zero, List.set_cons_succ]
          refine wpAnyH_ready (rs := [13]) (by kernel_rfl) (by simp) ?_
          refine AllReadyH.cons rfl (fun K hK => ?_) AllReadyH.nil
          try simp only [List.getElem_toArray, List.getElem_cons_zero, List.getElem_cons_succ]
          have x0 := HYB.out.cell 0 rfl
          have x1 := HYB.out.cell 1 rfl
          have xf := HYB.out.frozen
          have xl := HYB.out.lt
          go_simp
          replace HYB : Hid (Blk _ gY 27 [.int .i64 v0, .int .i64 v1]) := Lib.hid (blk_put2 HYB.out)
          replace HXB := Lib.hid (blk_oth2 (g := gY) (x := .int .i64 v0) (y := .int .i64 v1) HXB.out (by omega))
          replace HA1 := Lib.hid (blk_oth2 (g := gY) (x := .int .i64 v0) (y := .int .i64 v1) HA1.out (by omega))
          replace HP1 := Lib.hid (blk_oth2 (g := gY) (x := .int .i64 v0) (y := .int .i64 v1) HP1.out (by omega))
          have AB := below_put2 (g := gY) (x := .int .i64 v0) (y := .int .i64 v1) AB hgY1
          clear x0 x1 xf xl
          refine hK.out _ _ (⟨HA1.out.cell 0 rfl, HA1.out.cell 1 rfl, HA1.out.cell 2 rfl, HA1.out.cell 3 rfl, HP1.out.cell 0 rfl, HP1.out.cell 1 rfl, HP1.out.cell 2 rfl, HP1.out.cell 3 rfl⟩) (fun hHeld => ?_)
          clear hK K
          try simp only [List.getElem_toArray, List.getElem_cons_zero, List.getElem_cons_succ, Act.put, List.setIfInBounds_toArray, List.set_cons_zero, List.set_cons_succ]
          refine wpAnyH_done (by kernel_rfl) ?_ _
          go_wp2_with fail
          go_meet
          exact ⟨gX, gY, rfl, rfl, HXB, HYB, Lib.hid AB⟩
    · try simp only [List.getElem_toArray, List.getElem_cons_zero, List.getElem_cons_succ]
      go_simp
      obtain ⟨gX, hgX, hgX1, hBn, hAn, hKn⟩ := pnew_ex AB (Nat.le_refl _) 27 [.int .i64 0, .int .i64 0]
      have hgX2 : w.heap.size + 1 < gX := by rw [← hgX]; exact HP1.out.lt
      try simp only [World.size_alloc] at hgX
      rw [hgX]
      have HXB := Lib.hid hBn
      replace HA1 := Lib.hid (HA1.out.keep hKn)
      replace HP1 := Lib.hid (HP1.out.keep hKn)
      have AB := hAn
      clear hBn hAn hKn hgX
      refine hK.out _ _ (⟨HA1.out.cell 0 rfl, HA1.out.cell 1 rfl, HA1.out.cell 2 rfl, HA1.out.cell 3 rfl, HP1.out.cell 0 rfl, HP1.out.cell 1 rfl, HP1.out.cell 2 rfl, HP1.out.cell 3 rfl⟩) (fun hHeld => ?_)
      clear hK K
      try simp only [List.getElem_toArray, List.getElem_cons_zero, List.getElem_cons_succ, Act.put, List.setIfInBounds_toArray, List.set_cons_zero, List.set_cons_succ]
      refine wpAnyH_ready (rs := [4, 11]) (by kernel_rfl) (by simp) ?_
      refine AllReadyH.cons rfl (fun K hK => ?_) (AllReadyH.cons rfl (fun K hK => ?_) AllReadyH.nil)
      · try simp only [List.getElem_toArray, List.getElem_cons_zero, List.getElem_cons_succ]
        go_simp
        refine (HS1.out _).mono ?_
        rintro e wn ⟨rfl, hbn⟩
        have AB := AB.trans (hbn.mono (AB.size))
        replace HA1 := Lib.hid (HA1.out.keep hbn)
        replace HP1 := Lib.hid (HP1.out.keep hbn)
        try replace HXB := Lib.hid (HXB.out.keep hbn)
        try replace HYB := Lib.hid (HYB.out.keep hbn)
        clear hbn
        go_wp2_with fail
        refine hK.out _ _ (⟨HA1.out.cell 0 rfl, HA1.out.cell 1 rfl, HA1.out.cell 2 rfl, HA1.out.cell 3 rfl, HP1.out.cell 0 rfl, HP1.out.cell 1 rfl, HP1.out.cell 2 rfl, HP1.out.cell 3 rfl⟩) (fun hHeld => ?_)
        clear hK K
        try simp only [List.getElem_toArray, List.getElem_cons_zero, List.getElem_cons_succ, Act.put, List.setIfInBounds_toArray, List.set_cons_zero, List.set_cons_succ]
        refine wpAnyH_ready (rs := [9, 11]) (by kernel_rfl) (by simp) ?_
        refine AllReadyH.cons rfl (fun K hK => ?_) (AllReadyH.cons rfl (fun K hK => ?_) AllReadyH.nil)
        · try simp only [List.getElem_toArray, List.getElem_cons_zero, List.getElem_cons_succ]
          go_simp
          refine (HS2.out _).mono ?_
          rintro e wn ⟨rfl, hbn⟩
          have AB := AB.trans (hbn.mono (AB.size))
          replace HA1 := Lib.hid (HA1.out.keep hbn)
          replace HP1 := Lib.hid (HP1.out.keep hbn)
          try replace HXB := Lib.hid (HXB.out.keep hbn)
          try replace HYB := Lib.hid (HYB.out.keep hbn)
          clear hbn
          go_wp2_with fail
          refine hK.out _ _ (⟨HA1.out.cell 0 rfl, HA1.out.cell 1 rfl, HA1.out.cell 2 rfl, HA1.out.cell 3 rfl, HP1.out.cell 0 rfl, HP1.out.cell 1 rfl, HP1.out.cell 2 rfl, HP1.out.cell 3 rfl⟩) (fun hHeld => ?_)
          clear hK K
          try simp only [List.getElem_toArray, List.getElem_cons_zero, List.getElem_cons_succ, Act.put, List.setIfInBounds_toArray, List.set_cons_zero, List.set_cons_succ]
          refine wpAnyH_ready (rs := [11]) (by kernel_rfl) (by simp) ?_
          refine AllReadyH.cons rfl (fun K hK => ?_) AllReadyH.nil
          try simp only [List.getElem_toArray, List.getElem_cons_zero, List.getElem_cons_succ]
          go_simp
          obtain ⟨gY, hgY, hgY1, hBn, hAn, hKn⟩ := pnew_ex AB (Nat.le_refl _) 27 [.int .i64 0, .int .i64 0]
          have hgY2 : w.heap.size + 1 < gY := by rw [← hgY]; exact HP1.out.lt
          have hgxy : gX < gY := by rw [← hgY]; exact HXB.out.lt
          replace HXB := Lib.hid (HXB.out.keep hKn)
          try simp only [World.size_alloc] at hgY
          rw [hgY]
          have HYB := Lib.hid hBn
          replace HA1 := Lib.hid (HA1.out.keep hKn)
          replace HP1 := Lib.hid (HP1.out.keep hKn)
          have AB := hAn
          clear hBn hAn hKn hgY
          refine hK.out _ _ (⟨HA1.out.cell 0 rfl, HA1.out.cell 1 rfl, HA1.out.cell 2 rfl, HA1.out.cell 3 rfl, HP1.out.cell 0 rfl, HP1.out.cell 1 rfl, HP1.out.cell 2 rfl, HP1.out.cell 3 rfl⟩) (fun hHeld => ?_)
          clear hK K
          try simp only [List.getElem_toArray, List.getElem_cons_zero, List.getElem_cons_succ, Act.put, List.setIfInBounds_toArray, List.set_cons_zero, List.set_cons_succ]
          refine wpAnyH_ready (rs := [12]) (by kernel_rfl) (by simp) ?_
          refine AllReadyH.cons rfl (fun K hK => ?_) AllReadyH.nil
          try simp only [List.getElem_toArray, List.getElem_cons_zero, List.getElem_cons_succ]
          have x0 := HXB.out.cell 0 rfl
          have x1 := HXB.out.cell 1 rfl
          have xf := HXB.out.frozen
          have xl := HXB.out.lt
          go_simp
          replace HXB : Hid (Blk _ gX 27 [.int .i64 u0, .int .i64 u1]) := Lib.hid (blk_put2 HXB.out)
          replace HYB := Lib.hid (blk_oth2 (g := gX) (x := .int .i64 u0) (y := .int .i64 u1) HYB.out (by omega))
          replace HA1 := Lib.hid (blk_oth2 (g := gX) (x := .int .i64 u0) (y := .int .i64 u1) HA1.out (by omega))
          replace HP1 := Lib.hid (blk_oth2 (g := gX) (x := .int .i64 u0) (y := .int .i64 u1) HP1.out (by omega))
          have AB := below_put2 (g := gX) (x := .int .i64 u0) (y := .int .i64 u1) AB hgX1
          clear x0 x1 xf xl
          refine hK.out _ _ (⟨HA1.out.cell 0 rfl, HA1.out.cell 1 rfl, HA1.out.cell 2 rfl, HA1.out.cell 3 rfl, HP1.out.cell 0 rfl, HP1.out.cell 1 rfl, HP1.out.cell 2 rfl, HP1.out.cell 3 rfl⟩) (fun hHeld => ?_)
          clear hK K
          try simp only [List.getElem_toArray, List.getElem_cons_zero, List.getElem_cons_succ, Act.put, List.setIfInBounds_toArray, List.set_cons_zero, List.set_cons_succ]
          refine wpAnyH_ready (rs := [13]) (by kernel_rfl) (by simp) ?_
          refine AllReadyH.cons rfl (fun K hK => ?_) AllReadyH.nil
          try simp only [List.getElem_toArray, List.getElem_cons_zero, List.getElem_cons_succ]
          have x0 := HYB.out.cell 0 rfl
          have x1 := HYB.out.cell 1 rfl
          have xf := HYB.out.frozen
          have xl := HYB.out.lt
          go_simp
          replace HYB : Hid (Blk _ gY 27 [.int .i64 v0, .int .i64 v1]) := Lib.hid (blk_put2 HYB.out)
          replace HXB := Lib.hid (blk_oth2 (g := gY) (x := .int .i64 v0) (y := .int .i64 v1) HXB.out (by omega))
          replace HA1 := Lib.hid (blk_oth2 (g := gY) (x := .int .i64 v0) (y := .int .i64 v1) HA1.out (by omega))
          replace HP1 := Lib.hid (blk_oth2 (g := gY) (x := .int .i64 v0) (y := .int .i64 v1) HP1.out (by omega))
          have AB := below_put2 (g := gY) (x := .int .i64 v0) (y := .int .i64 v1) AB hgY1
          clear x0 x1 xf xl
          refine hK.out _ _ (⟨HA1.out.cell 0 rfl, HA1.out.cell 1 rfl, HA1.out.cell 2 rfl, HA1.out.cell 3 rfl, HP1.out.cell 0 rfl, HP1.out.cell 1 rfl, HP1.out.cell 2 rfl, HP1.out.cell 3 rfl⟩) (fun hHeld => ?_)
          clear hK K
          try simp only [List.getElem_toArray, List.getElem_cons_zero, List.getElem_cons_succ, Act.put, List.setIfInBounds_toArray, List.set_cons_zero, List.set_cons_succ]
          refine wpAnyH_done (by kernel_rfl) ?_ _
          go_wp2_with fail
          go_meet
          exact ⟨gX, gY, rfl, rfl, HXB, HYB, Lib.hid AB⟩
        · try simp only [List.getElem_toArray, List.getElem_cons_zero, List.getElem_cons_succ]
          go_simp
          obtain ⟨gY, hgY, hgY1, hBn, hAn, hKn⟩ := pnew_ex AB (Nat.le_refl _) 27 [.int .i64 0, .int .i64 0]
          have hgY2 : w.heap.size + 1 < gY := by rw [← hgY]; exact HP1.out.lt
          have hgxy : gX < gY := by rw [← hgY]; exact HXB.out.lt
          replace HXB := Lib.hid (HXB.out.keep hKn)
          try simp only [World.size_alloc] at hgY
          rw [hgY]
          have HYB := Lib.hid hBn
          replace HA1 := Lib.hid (HA1.out.keep hKn)
          replace HP1 := Lib.hid (HP1.out.keep hKn)
          have AB := hAn
          clear hBn hAn hKn hgY
          refine hK.out _ _ (⟨HA1.out.cell 0 rfl, HA1.out.cell 1 rfl, HA1.out.cell 2 rfl, HA1.out.cell 3 rfl, HP1.out.cell 0 rfl, HP1.out.cell 1 rfl, HP1.out.cell 2 rfl, HP1.out.cell 3 rfl⟩) (fun hHeld => ?_)
          clear hK K
          try simp only [List.getElem_toArray, List.getElem_cons_zero, List.getElem_cons_succ, Act.put, List.setIfInBounds_toArray, List.set_cons_zero, List.set_cons_succ]
          refine wpAnyH_ready (rs := [9]) (by kernel_rfl) (by simp) ?_
          refine AllReadyH.cons rfl (fun K hK => ?_) AllReadyH.nil
          try simp only [List.getElem_toArray, List.getElem_cons_zero, List.getElem_cons_succ]
          go_simp
          refine (HS2.out _).mono ?_
          rintro e wn ⟨rfl, hbn⟩
          have AB := AB.trans (hbn.mono (AB.size))
          replace HA1 := Lib.hid (HA1.out.keep hbn)
          replace HP1 := Lib.hid (HP1.out.keep hbn)
          try replace HXB := Lib.hid (HXB.out.keep hbn)
          try replace HYB := Lib.hid (HYB.out.keep hbn)
          clear hbn
          go_wp2_with fail
          refine hK.out _ _ (⟨HA1.out.cell 0 rfl, HA1.out.cell 1 rfl, HA1.out.cell 2 rfl, HA1.out.cell 3 rfl, HP1.out.cell 0 rfl, HP1.out.cell 1 rfl, HP1.out.cell 2 rfl, HP1.out.cell 3 rfl⟩) (fun hHeld => ?_)
          clear hK K
          try simp only [List.getElem_toArray, List.getElem_cons_zero, List.getElem_cons_succ, Act.put, List.setIfInBounds_toArray, List.set_cons_zero, List.set_cons_succ]
          refine wpAnyH_ready (rs := [12]) (by kernel_rfl) (by simp) ?_
          refine AllReadyH.cons rfl (fun K hK => ?_) AllReadyH.nil
          try simp only [List.getElem_toArray, List.getElem_cons_zero, List.getElem_cons_succ]
          have x0 := HXB.out.cell 0 rfl
          have x1 := HXB.out.cell 1 rfl
          have xf := HXB.out.frozen
          have xl := HXB.out.lt
          go_simp
          replace HXB : Hid (Blk _ gX 27 [.int .i64 u0, .int .i64 u1]) := Lib.hid (blk_put2 HXB.out)
          replace HYB := Lib.hid (blk_oth2 (g := gX) (x := .int .i64 u0) (y := .int .i64 u1) HYB.out (by omega))
          replace HA1 := Lib.hid (blk_oth2 (g := gX) (x := .int .i64 u0) (y := .int .i64 u1) HA1.out (by omega))
          replace HP1 := Lib.hid (blk_oth2 (g := gX) (x := .int .i64 u0) (y := .int .i64 u1) HP1.out (by omega))
          have AB := below_put2 (g := gX) (x := .int .i64 u0) (y := .int .i64 u1) AB hgX1
          clear x0 x1 xf xl
          refine hK.out _ _ (⟨HA1.out.cell 0 rfl, HA1.out.cell 1 rfl, HA1.out.cell 2 rfl, HA1.out.cell 3 rfl, HP1.out.cell 0 rfl, HP1.out.cell 1 rfl, HP1.out.cell 2 rfl, HP1.out.cell 3 rfl⟩) (fun hHeld => ?_)
          clear hK K
          try simp only [List.getElem_toArray, List.getElem_cons_zero, List.getElem_cons_succ, Act.put, List.setIfInBounds_toArray, List.set_cons_zero, List.set_cons_succ]
          refine wpAnyH_ready (rs := [13]) (by kernel_rfl) (by simp) ?_
          refine AllReadyH.cons rfl (fun K hK => ?_) AllReadyH.nil
          try simp only [List.getElem_toArray, List.getElem_cons_zero, List.getElem_cons_succ]
          have x0 := HYB.out.cell 0 rfl
          have x1 := HYB.out.cell 1 rfl
          have xf := HYB.out.frozen
          have xl := HYB.out.lt
          go_simp
          replace HYB : Hid (Blk _ gY 27 [.int .i64 v0, .int .i64 v1]) := Lib.hid (blk_put2 HYB.out)
          replace HXB := Lib.hid (blk_oth2 (g := gY) (x := .int .i64 v0) (y := .int .i64 v1) HXB.out (by omega))
          replace HA1 := Lib.hid (blk_oth2 (g := gY) (x := .int .i64 v0) (y := .int .i64 v1) HA1.out (by omega))
          replace HP1 := Lib.hid (blk_oth2 (g := gY) (x := .int .i64 v0) (y := .int .i64 v1) HP1.out (by omega))
          have AB := below_put2 (g := gY) (x := .int .i64 v0) (y := .int .i64 v1) AB hgY1
          clear x0 x1 xf xl
          refine hK.out _ _ (⟨HA1.out.cell 0 rfl, HA1.out.cell 1 rfl, HA1.out.cell 2 rfl, HA1.out.cell 3 rfl, HP1.out.cell 0 rfl, HP1.out.cell 1 rfl, HP1.out.cell 2 rfl, HP1.out.cell 3 rfl⟩) (fun hHeld => ?_)
          clear hK K
          try simp only [List.getElem_toArray, List.getElem_cons_zero, List.getElem_cons_succ, Act.put, List.setIfInBounds_toArray, List.set_cons_zero, List.set_cons_succ]
          refine wpAnyH_done (by kernel_rfl) ?_ _
          go_wp2_with fail
          go_meet
          exact ⟨gX, gY, rfl, rfl, HXB, HYB, Lib.hid AB⟩
      · try simp only [List.getElem_toArray, List.getElem_cons_zero, List.getElem_cons_succ]
        go_simp
        obtain ⟨gY, hgY, hgY1, hBn, hAn, hKn⟩ := pnew_ex AB (Nat.le_refl _) 27 [.int .i64 0, .int .i64 0]
        have hgY2 : w.heap.size + 1 < gY := by rw [← hgY]; exact HP1.out.lt
        have hgxy : gX < gY := by rw [← hgY]; exact HXB.out.lt
        replace HXB := Lib.hid (HXB.out.keep hKn)
        try simp only [World.size_alloc] at hgY
        rw [hgY]
        have HYB := Lib.hid hBn
        replace HA1 := Lib.hid (HA1.out.keep hKn)
        replace HP1 := Lib.hid (HP1.out.keep hKn)
        have AB := hAn
        clear hBn hAn hKn hgY
        refine hK.out _ _ (⟨HA1.out.cell 0 rfl, HA1.out.cell 1 rfl, HA1.out.cell 2 rfl, HA1.out.cell 3 rfl, HP1.out.cell 0 rfl, HP1.out.cell 1 rfl, HP1.out.cell 2 rfl, HP1.out.cell 3 rfl⟩) (fun hHeld => ?_)
        clear hK K
        try simp only [List.getElem_toArray, List.getElem_cons_zero, List.getElem_cons_succ, Act.put, List.setIfInBounds_toArray, List.set_cons_zero, List.set_cons_succ]
        refine wpAnyH_ready (rs := [4]) (by kernel_rfl) (by simp) ?_
        refine AllReadyH.cons rfl (fun K hK => ?_) AllReadyH.nil
        try simp only [List.getElem_toArray, List.getElem_cons_zero, List.getElem_cons_succ]
        go_simp
        refine (HS1.out _).mono ?_
        rintro e wn ⟨rfl, hbn⟩
        have AB := AB.trans (hbn.mono (AB.size))
        replace HA1 := Lib.hid (HA1.out.keep hbn)
        replace HP1 := Lib.hid (HP1.out.keep hbn)
        try replace HXB := Lib.hid (HXB.out.keep hbn)
        try replace HYB := Lib.hid (HYB.out.keep hbn)
        clear hbn
        go_wp2_with fail
        refine hK.out _ _ (⟨HA1.out.cell 0 rfl, HA1.out.cell 1 rfl, HA1.out.cell 2 rfl, HA1.out.cell 3 rfl, HP1.out.cell 0 rfl, HP1.out.cell 1 rfl, HP1.out.cell 2 rfl, HP1.out.cell 3 rfl⟩) (fun hHeld => ?_)
        clear hK K
        try simp only [List.getElem_toArray, List.getElem_cons_zero, List.getElem_cons_succ, Act.put, List.setIfInBounds_toArray, List.set_cons_zero, List.set_cons_succ]
        refine wpAnyH_ready (rs := [9]) (by kernel_rfl) (by simp) ?_
        refine AllReadyH.cons rfl (fun K hK => ?_) AllReadyH.nil
        try simp only [List.getElem_toArray, List.getElem_cons_zero, List.getElem_cons_succ]
        go_simp
        refine (HS2.out _).mono ?_
        rintro e wn ⟨rfl, hbn⟩
        have AB := AB.trans (hbn.mono (AB.size))
        replace HA1 := Lib.hid (HA1.out.keep hbn)
        replace HP1 := Lib.hid (HP1.out.keep hbn)
        try replace HXB := Lib.hid (HXB.out.keep hbn)
        try replace HYB := Lib.hid (HYB.out.keep hbn)
        clear hbn
        go_wp2_with fail
        refine hK.out _ _ (⟨HA1.out.cell 0 rfl, HA1.out.cell 1 rfl, HA1.out.cell 2 rfl, HA1.out.cell 3 rfl, HP1.out.cell 0 rfl, HP1.out.cell 1 rfl, HP1.out.cell 2 rfl, HP1.out.cell 3 rfl⟩) (fun hHeld => ?_)
        clear hK K
        try simp only [List.getElem_toArray, List.getElem_cons_zero, List.getElem_cons_succ, Act.put, List.setIfInBounds_toArray, List.set_cons_zero, List.set_cons_succ]
        refine wpAnyH_ready (rs := [12]) (by kernel_rfl) (by simp) ?_
        refine AllReadyH.cons rfl (fun K hK => ?_) AllReadyH.nil
        try simp only [List.getElem_toArray, List.getElem_cons_zero, List.getElem_cons_succ]
        have x0 := HXB.out.cell 0 rfl
        have x1 := HXB.out.cell 1 rfl
        have xf := HXB.out.frozen
        have xl := HXB.out.lt
        go_simp
        replace HXB : Hid (Blk _ gX 27 [.int .i64 u0, .int .i64 u1]) := Lib.hid (blk_put2 HXB.out)
        replace HYB := Lib.hid (blk_oth2 (g := gX) (x := .int .i64 u0) (y := .int .i64 u1) HYB.out (by omega))
        replace HA1 := Lib.hid (blk_oth2 (g := gX) (x := .int .i64 u0) (y := .int .i64 u1) HA1.out (by omega))
        replace HP1 := Lib.hid (blk_oth2 (g := gX) (x := .int .i64 u0) (y := .int .i64 u1) HP1.out (by omega))
        have AB := below_put2 (g := gX) (x := .int .i64 u0) (y := .int .i64 u1) AB hgX1
        clear x0 x1 xf xl
        refine hK.out _ _ (⟨HA1.out.cell 0 rfl, HA1.out.cell 1 rfl, HA1.out.cell 2 rfl, HA1.out.cell 3 rfl, HP1.out.cell 0 rfl, HP1.out.cell 1 rfl, HP1.out.cell 2 rfl, HP1.out.cell 3 rfl⟩) (fun hHeld => ?_)
        clear hK K
        try simp only [List.getElem_toArray, List.getElem_cons_zero, List.getElem_cons_succ, Act.put, List.setIfInBounds_toArray, List.set_cons_zero, List.set_cons_succ]
        refine wpAnyH_ready (rs := [13]) (by kernel_rfl) (by simp) ?_
        refine AllReadyH.cons rfl (fun K hK => ?_) AllReadyH.nil
        try simp only [List.getElem_toArray, List.getElem_cons_zero, List.getElem_cons_succ]
        have x0 := HYB.out.cell 0 rfl
        have x1 := HYB.out.cell 1 rfl
        have xf := HYB.out.frozen
        have xl := HYB.out.lt
        go_simp
        replace HYB : Hid (Blk _ gY 27 [.int .i64 v0, .int .i64 v1]) := Lib.hid (blk_put2 HYB.out)
        replace HXB := Lib.hid (blk_oth2 (g := gY) (x := .int .i64 v0) (y := .int .i64 v1) HXB.out (by omega))
        replace HA1 := Lib.hid (blk_oth2 (g := gY) (x := .int .i64 v0) (y := .int .i64 v1) HA1.out (by omega))
        replace HP1 := Lib.hid (blk_oth2 (g := gY) (x := .int .i64 v0) (y := .int .i64 v1) HP1.out (by omega))
        have AB := below_put2 (g := gY) (x := .int .i64 v0) (y := .int .i64 v1) AB hgY1
        clear x0 x1 xf xl
        refine hK.out _ _ (⟨HA1.out.cell 0 rfl, HA1.out.cell 1 rfl, HA1.out.cell 2 rfl, HA1.out.cell 3 rfl, HP1.out.cell 0 rfl, HP1.out.cell 1 rfl, HP1.out.cell 2 rfl, HP1.out.cell 3 rfl⟩) (fun hHeld => ?_)
        clear hK K
        try simp only [List.getElem_toArray, List.getElem_cons_zero, List.getElem_cons_succ, Act.put, List.setIfInBounds_toArray, List.set_cons_zero, List.set_cons_succ]
        refine wpAnyH_done (by kernel_rfl) ?_ _
        go_wp2_with fail
        go_meet
        exact ⟨gX, gY, rfl, rfl, HXB, HYB, Lib.hid AB⟩
    · try simp only [List.getElem_toArray, List.getElem_cons_zero, List.getElem_cons_succ]
      go_simp
      obtain ⟨gY, hgY, hgY1, hBn, hAn, hKn⟩ := pnew_ex AB (Nat.le_refl _) 27 [.int .i64 0, .int .i64 0]
      have hgY2 : w.heap.size + 1 < gY := by rw [← hgY]; exact HP1.out.lt
      try simp only [World.size_alloc] at hgY
      rw [hgY]
      have HYB := Lib.hid hBn
      replace HA1 := Lib.hid (HA1.out.keep hKn)
      replace HP1 := Lib.hid (HP1.out.keep hKn)
      have AB := hAn
      clear hBn hAn hKn hgY
      refine hK.out _ _ (⟨HA1.out.cell 0 rfl, HA1.out.cell 1 rfl, HA1.out.cell 2 rfl, HA1.out.cell 3 rfl, HP1.out.cell 0 rfl, HP1.out.cell 1 rfl, HP1.out.cell 2 rfl, HP1.out.cell 3 rfl⟩) (fun hHeld => ?_)
      clear hK K
      try simp only [List.getElem_toArray, List.getElem_cons_zero, List.getElem_cons_succ, Act.put, List.setIfInBounds_toArray, List.set_cons_zero, List.set_cons_succ]
      refine wpAnyH_ready (rs := [4, 10]) (by kernel_rfl) (by simp) ?_
      refine AllReadyH.cons rfl (fun K hK => ?_) (AllReadyH.cons rfl (fun K hK => ?_) AllReadyH.nil)
      · try simp only [List.getElem_toArray, List.getElem_cons_zero, List.getElem_cons_succ]
        go_simp
        refine (HS1.out _).mono ?_
        rintro e wn ⟨rfl, hbn⟩
        have AB := AB.trans (hbn.mono (AB.size))
        replace HA1 := Lib.hid (HA1.out.keep hbn)
        replace HP1 := Lib.hid (HP1.out.keep hbn)
        try replace HXB := Lib.hid (HXB.out.keep hbn)
        try replace HYB := Lib.hid (HYB.out.keep hbn)
        clear hbn
        go_wp2_with fail
        refine hK.out _ _ (⟨HA1.out.cell 0 rfl, HA1.out.cell 1 rfl, HA1.out.cell 2 rfl, HA1.out.cell 3 rfl, HP1.out.cell 0 rfl, HP1.out.cell 1 rfl, HP1.out.cell 2 rfl, HP1.out.cell 3 rfl⟩) (fun hHeld => ?_)
        clear hK K
        try simp only [List.getElem_toArray, List.getElem_cons_zero, List.getElem_cons_succ, Act.put, List.setIfInBounds_toArray, List.set_cons_zero, List.set_cons_succ]
        refine wpAnyH_ready (rs := [9, 10]) (by kernel_rfl) (by simp) ?_
        refine AllReadyH.cons rfl (fun K hK => ?_) (AllReadyH.cons rfl (fun K hK => ?_) AllReadyH.nil)
        · try simp only [List.getElem_toArray, List.getElem_cons_zero, List.getElem_cons_succ]
          go_simp
          refine (HS2.out _).mono ?_
          rintro e wn ⟨rfl, hbn⟩
          have AB := AB.trans (hbn.mono (AB.size))
          replace HA1 := Lib.hid (HA1.out.keep hbn)
          replace HP1 := Lib.hid (HP1.out.keep hbn)
          try replace HXB := Lib.hid (HXB.out.keep hbn)
          try replace HYB := Lib.hid (HYB.out.keep hbn)
          clear hbn
          go_wp2_with fail
          refine hK.out _ _ (⟨HA1.out.cell 0 rfl, HA1.out.cell 1 rfl, HA1.out.cell 2 rfl, HA1.out.cell 3 rfl, HP1.out.cell 0 rfl, HP1.out.cell 1 rfl, HP1.out.cell 2 rfl, HP1.out.cell 3 rfl⟩) (fun hHeld => ?_)
          clear hK K
          try simp only [List.getElem_toArray, List.getElem_cons_zero, List.getElem_cons_succ, Act.put, List.setIfInBounds_toArray, List.set_cons_zero, List.set_cons_succ]
          refine wpAnyH_ready (rs := [10]) (by kernel_rfl) (by simp) ?_
          refine AllReadyH.cons rfl (fun K hK => ?_) AllReadyH.nil
          try simp only [List.getElem_toArray, List.getElem_cons_zero, List.getElem_cons_succ]
          go_simp
          obtain ⟨gX, hgX, hgX1, hBn, hAn, hKn⟩ := pnew_ex AB (Nat.le_refl _) 27 [.int .i64 0, .int .i64 0]
          have hgX2 : w.heap.size + 1 < gX := by rw [← hgX]; exact HP1.out.lt
          have hgxy : gY < gX := by rw [← hgX]; exact HYB.out.lt
          replace HYB := Lib.hid (HYB.out.keep hKn)
          try simp only [World.size_alloc] at hgX
          rw [hgX]
          have HXB := Lib.hid hBn
          replace HA1 := Lib.hid (HA1.out.keep hKn)
          replace HP1 := Lib.hid (HP1.out.keep hKn)
          have AB := hAn
          clear hBn hAn hKn hgX
          refine hK.out _ _ (⟨HA1.out.cell 0 rfl, HA1.out.cell 1 rfl, HA1.out.cell 2 rfl, HA1.out.cell 3 rfl, HP1.out.cell 0 rfl, HP1.out.cell 1 rfl, HP1.out.cell 2 rfl, HP1.out.cell 3 rfl⟩) (fun hHeld => ?_)
          clear hK K
          try simp only [List.getElem_toArray, List.getElem_cons_zero, List.getElem_cons_succ, Act.put, List.setIfInBounds_toArray, List.set_cons_zero, List.set_cons_succ]
          refine wpAnyH_ready (rs := [12]) (by kernel_rfl) (by simp) ?_
          refine AllReadyH.cons rfl (fun K hK => ?_) AllReadyH.nil
          try simp only [List.getElem_toArray, List.getElem_cons_zero, List.getElem_cons_succ]
          have x0 := HXB.out.cell 0 rfl
          have x1 := HXB.out.cell 1 rfl
          have xf := HXB.out.frozen
          have xl := HXB.out.lt
          go_simp
          replace HXB : Hid (Blk _ gX 27 [.int .i64 u0, .int .i64 u1]) := Lib.hid (blk_put2 HXB.out)
          replace HYB := Lib.hid (blk_oth2 (g := gX) (x := .int .i64 u0) (y := .int .i64 u1) HYB.out (by omega))
          replace HA1 := Lib.hid (blk_oth2 (g := gX) (x := .int .i64 u0) (y := .int .i64 u1) HA1.out (by omega))
          replace HP1 := Lib.hid (blk_oth2 (g := gX) (x := .int .i64 u0) (y := .int .i64 u1) HP1.out (by omega))
          have AB := below_put2 (g := gX) (x := .int .i64 u0) (y := .int .i64 u1) AB hgX1
          clear x0 x1 xf xl
          refine hK.out _ _ (⟨HA1.out.cell 0 rfl, HA1.out.cell 1 rfl, HA1.out.cell 2 rfl, HA1.out.cell 3 rfl, HP1.out.cell 0 rfl, HP1.out.cell 1 rfl, HP1.out.cell 2 rfl, HP1.out.cell 3 rfl⟩) (fun hHeld => ?_)
          clear hK K
          try simp only [List.getElem_toArray, List.getElem_cons_zero, List.getElem_cons_succ, Act.put, List.setIfInBounds_toArray, List.set_cons_zero, List.set_cons_succ]
          refine wpAnyH_ready (rs := [13]) (by kernel_rfl) (by simp) ?_
          refine AllReadyH.cons rfl (fun K hK => ?_) AllReadyH.nil
          try simp only [List.getElem_toArray, List.getElem_cons_zero, List.getElem_cons_succ]
          have x0 := HYB.out.cell 0 rfl
          have x1 := HYB.out.cell 1 rfl
          have xf := HYB.out.frozen
          have xl := HYB.out.lt
          go_simp
          replace HYB : Hid (Blk _ gY 27 [.int .i64 v0, .int .i64 v1]) := Lib.hid (blk_put2 HYB.out)
          replace HXB := Lib.hid (blk_oth2 (g := gY) (x := .int .i64 v0) (y := .int .i64 v1) HXB.out (by omega))
          replace HA1 := Lib.hid (blk_oth2 (g := gY) (x := .int .i64 v0) (y := .int .i64 v1) HA1.out (by omega))
          replace HP1 := Lib.hid (blk_oth2 (g := gY) (x := .int .i64 v0) (y := .int .i64 v1) HP1.out (by omega))
          have AB := below_put2 (g := gY) (x := .int .i64 v0) (y := .int .i64 v1) AB hgY1
          clear x0 x1 xf xl
          refine hK.out _ _ (⟨HA1.out.cell 0 rfl, HA1.out.cell 1 rfl, HA1.out.cell 2 rfl, HA1.out.cell 3 rfl, HP1.out.cell 0 rfl, HP1.out.cell 1 rfl, HP1.out.cell 2 rfl, HP1.out.cell 3 rfl⟩) (fun hHeld => ?_)
          clear hK K
          try simp only [List.getElem_toArray, List.getElem_cons_zero, List.getElem_cons_succ, Act.put, List.setIfInBounds_toArray, List.set_cons_zero, List.set_cons_succ]
          refine wpAnyH_done (by kernel_rfl) ?_ _
          go_wp2_with fail
          go_meet
          exact ⟨gX, gY, rfl, rfl, HXB, HYB, Lib.hid AB⟩
        · try simp only [List.getElem_toArray, List.getElem_cons_zero, List.getElem_cons_succ]
          go_simp
          obtain ⟨gX, hgX, hgX1, hBn, hAn, hKn⟩ := pnew_ex AB (Nat.le_refl _) 27 [.int .i64 0, .int .i64 0]
          have hgX2 : w.heap.size + 1 < gX := by rw [← hgX]; exact HP1.out.lt
          have hgxy : gY < gX := by rw [← hgX]; exact HYB.out.lt
          replace HYB := Lib.hid (HYB.out.keep hKn)
          try simp only [World.size_alloc] at hgX
          rw [hgX]
          have HXB := Lib.hid hBn
          replace HA1 := Lib.hid (HA1.out.keep hKn)
          replace HP1 := Lib.hid (HP1.out.keep hKn)
          have AB := hAn
          clear hBn hAn hKn hgX
          refine hK.out _ _ (⟨HA1.out.cell 0 rfl, HA1.out.cell 1 rfl, HA1.out.cell 2 rfl, HA1.out.cell 3 rfl, HP1.out.cell 0 rfl, HP1.out.cell 1 rfl, HP1.out.cell 2 rfl, HP1.out.cell 3 rfl⟩) (fun hHeld => ?_)
          clear hK K
          try simp only [List.getElem_toArray, List.getElem_cons_zero, List.getElem_cons_succ, Act.put, List.setIfInBounds_toArray, List.set_cons_zero, List.set_cons_succ]
          refine wpAnyH_ready (rs := [9]) (by kernel_rfl) (by simp) ?_
          refine AllReadyH.cons rfl (fun K hK => ?_) AllReadyH.nil
          try simp only [List.getElem_toArray, List.getElem_cons_zero, List.getElem_cons_succ]
          go_simp
          refine (HS2.out _).mono ?_
          rintro e wn ⟨rfl, hbn⟩
          have AB := AB.trans (hbn.mono (AB.size))
          replace HA1 := Lib.hid (HA1.out.keep hbn)
          replace HP1 := Lib.hid (HP1.out.keep hbn)
          try replace HXB := Lib.hid (HXB.out.keep hbn)
          try replace HYB := Lib.hid (HYB.out.keep hbn)
          clear hbn
          go_wp2_with fail
          refine hK.out _ _ (⟨HA1.out.cell 0 rfl, HA1.out.cell 1 rfl, HA1.out.cell 2 rfl, HA1.out.cell 3 rfl, HP1.out.cell 0 rfl, HP1.out.cell 1 rfl, HP1.out.cell 2 rfl, HP1.out.cell 3 rfl⟩) (fun hHeld => ?_)
          clear hK K
          try simp only [List.getElem_toArray, List.getElem_cons_zero, List.getElem_cons_succ, Act.put, List.setIfInBounds_toArray, List.set_cons_zero, List.set_cons_succ]
          refine wpAnyH_ready (rs := [12]) (by kernel_rfl) (by simp) ?_
          refine AllReadyH.cons rfl (fun K hK => ?_) AllReadyH.nil
          try simp only [List.getElem_toArray, List.getElem_cons_zero, List.getElem_cons_succ]
          have x0 := HXB.out.cell 0 rfl
          have x1 := HXB.out.cell 1 rfl
          have xf := HXB.out.frozen
          have xl := HXB.out.lt
          go_simp
          replace HXB : Hid (Blk _ gX 27 [.int .i64 u0, .int .i64 u1]) := Lib.hid (blk_put2 HXB.out)
          replace HYB := Lib.hid (blk_oth2 (g := gX) (x := .int .i64 u0) (y := .int .i64 u1) HYB.out (by omega))
          replace HA1 := Lib.hid (blk_oth2 (g := gX) (x := .int .i64 u0) (y := .int .i64 u1) HA1.out (by omega))
          replace HP1 := Lib.hid (blk_oth2 (g := gX) (x := .int .i64 u0) (y := .int .i64 u1) HP1.out (by omega))
          have AB := below_put2 (g := gX) (x := .int .i64 u0) (y := .int .i64 u1) AB hgX1
          clear x0 x1 xf xl
          refine hK.out _ _ (⟨HA1.out.cell 0 rfl, HA1.out.cell 1 rfl, HA1.out.cell 2 rfl, HA1.out.cell 3 rfl, HP1.out.cell 0 rfl, HP1.out.cell 1 rfl, HP1.out.cell 2 rfl, HP1.out.cell 3 rfl⟩) (fun hHeld => ?_)
          clear hK K
          try simp only [List.getElem_toArray, List.getElem_cons_zero, List.getElem_cons_succ, Act.put, List.setIfInBounds_toArray, List.set_cons_zero, List.set_cons_succ]
          refine wpAnyH_ready (rs := [13]) (by kernel_rfl) (by simp) ?_
          refine AllReadyH.cons rfl (fun K hK => ?_) AllReadyH.nil
          try simp only [List.getElem_toArray, List.getElem_cons_zero, List.getElem_cons_succ]
          have x0 := HYB.out.cell 0 rfl
          have x1 := HYB.out.cell 1 rfl
          have xf := HYB.out.frozen
          have xl := HYB.out.lt
          go_simp
          replace HYB : Hid (Blk _ gY 27 [.int .i64 v0, .int .i64 v1]) := Lib.hid (blk_put2 HYB.out)
          replace HXB := Lib.hid (blk_oth2 (g := gY) (x := .int .i64 v0) (y := .int .i64 v1) HXB.out (by omega))
          replace HA1 := Lib.hid (blk_oth2 (g := gY) (x := .int .i64 v0) (y := .int .i64 v1) HA1.out (by omega))
          replace HP1 := Lib.hid (blk_oth2 (g := gY) (x := .int .i64 v0) (y := .int .i64 v1) HP1.out (by omega))
          have AB := below_put2 (g := gY) (x := .int .i64 v0) (y := .int .i64 v1) AB hgY1
          clear x0 x1 xf xl
          refine hK.out _ _ (⟨HA1.out.cell 0 rfl, HA1.out.cell 1 rfl, HA1.out.cell 2 rfl, HA1.out.cell 3 rfl, HP1.out.cell 0 rfl, HP1.out.cell 1 rfl, HP1.out.cell 2 rfl, HP1.out.cell 3 rfl⟩) (fun hHeld => ?_)
          clear hK K
          try simp only [List.getElem_toArray, List.getElem_cons_zero, List.getElem_cons_succ, Act.put, List.setIfInBounds_toArray, List.set_cons_zero, List.set_cons_succ]
          refine wpAnyH_done (by kernel_rfl) ?_ _
          go_wp2_with fail
          go_meet
          exact ⟨gX, gY, rfl, rfl, HXB, HYB, Lib.hid AB⟩
      · try simp only [List.getElem_toArray, List.getElem_cons_zero, List.getElem_cons_succ]
        go_simp
        obtain ⟨gX, hgX, hgX1, hBn, hAn, hKn⟩ := pnew_ex AB (Nat.le_refl _) 27 [.int .i64 0, .int .i64 0]
        have hgX2 : w.heap.size + 1 < gX := by rw [← hgX]; exact HP1.out.lt
        have hgxy : gY < gX := by rw [← hgX]; exact HYB.out.lt
        replace HYB := Lib.hid (HYB.out.keep hKn)
        try simp only [World.size_alloc] at hgX
        rw [hgX]
        have HXB := Lib.hid hBn
        replace HA1 := Lib.hid (HA1.out.keep hKn)
        replace HP1 := Lib.hid (HP1.out.keep hKn)
        have AB := hAn
        clear hBn hAn hKn hgX
        refine hK.out _ _ (⟨HA1.out.cell 0 rfl, HA1.out.cell 1 rfl, HA1.out.cell 2 rfl, HA1.out.cell 3 rfl, HP1.out.cell 0 rfl, HP1.out.cell 1 rfl, HP1.out.cell 2 rfl, HP1.out.cell 3 rfl⟩) (fun hHeld => ?_)
        clear hK K
        try simp only [List.getElem_toArray, List.getElem_cons_zero, List.getElem_cons_succ, Act.put, List.setIfInBounds_toArray, List.set_cons_zero, List.set_cons_succ]
        refine wpAnyH_ready (rs := [4]) (by kernel_rfl) (by simp) ?_
        refine AllReadyH.cons rfl (fun K hK => ?_) AllReadyH.nil
        try simp only [List.getElem_toArray, List.getElem_cons_zero, List.getElem_cons_succ]
        go_simp
        refine (HS1.out _).mono ?_
        rintro e wn ⟨rfl, hbn⟩
        have AB := AB.trans (hbn.mono (AB.size))
        replace HA1 := Lib.hid (HA1.out.keep hbn)
        replace HP1 := Lib.hid (HP1.out.keep hbn)
        try replace HXB := Lib.hid (HXB.out.keep hbn)
        try replace HYB := Lib.hid (HYB.out.keep hbn)
        clear hbn
        go_wp2_with fail
        refine hK.out _ _ (⟨HA1.out.cell 0 rfl, HA1.out.cell 1 rfl, HA1.out.cell 2 rfl, HA1.out.cell 3 rfl, HP1.out.cell 0 rfl, HP1.out.cell 1 rfl, HP1.out.cell 2 rfl, HP1.out.cell 3 rfl⟩) (fun hHeld => ?_)
        clear hK K
        try simp only [List.getElem_toArray, List.getElem_cons_zero, List.getElem_cons_succ, Act.put, List.setIfInBounds_toArray, List.set_cons_zero, List.set_cons_succ]
        refine wpAnyH_ready (rs := [9]) (by kernel_rfl) (by simp) ?_
        refine AllReadyH.cons rfl (fun K hK => ?_) AllReadyH.nil
        try simp only [List.getElem_toArray, List.getElem_cons_zero, List.getElem_cons_succ]
        go_simp
        refine (HS2.out _).mono ?_
        rintro e wn ⟨rfl, hbn⟩
        have AB := AB.trans (hbn.mono (AB.size))
        replace HA1 := Lib.hid (HA1.out.keep hbn)
        replace HP1 := Lib.hid (HP1.out.keep hbn)
        try replace HXB := Lib.hid (HXB.out.keep hbn)
        try replace HYB := Lib.hid (HYB.out.keep hbn)
        clear hbn
        go_wp2_with fail
        refine hK.out _ _ (⟨HA1.out.cell 0 rfl, HA1.out.cell 1 rfl, HA1.out.cell 2 rfl, HA1.out.cell 3 rfl, HP1.out.cell 0 rfl, HP1.out.cell 1 rfl, HP1.out.cell 2 rfl, HP1.out.cell 3 rfl⟩) (fun hHeld => ?_)
        clear hK K
        try simp only [List.getElem_toArray, List.getElem_cons_zero, List.getElem_cons_succ, Act.put, List.setIfInBounds_toArray, List.set_cons_zero, List.set_cons_succ]
        refine wpAnyH_ready (rs := [12]) (by kernel_rfl) (by simp) ?_
        refine AllReadyH.cons rfl (fun K hK => ?_) AllReadyH.nil
        try simp only [List.getElem_toArray, List.getElem_cons_zero, List.getElem_cons_succ]
        have x0 := HXB.out.cell 0 rfl
        have x1 := HXB.out.cell 1 rfl
        have xf := HXB.out.frozen
        have xl := HXB.out.lt
        go_simp
        replace HXB : Hid (Blk _ gX 27 [.int .i64 u0, .int .i64 u1]) := Lib.hid (blk_put2 HXB.out)
        replace HYB := Lib.hid (blk_oth2 (g := gX) (x := .int .i64 u0) (y := .int .i64 u1) HYB.out (by omega))
        replace HA1 := Lib.hid (blk_oth2 (g := gX) (x := .int .i64 u0) (y := .int .i64 u1) HA1.out (by omega))
        replace HP1 := Lib.hid (blk_oth2 (g := gX) (x := .int .i64 u0) (y := .int .i64 u1) HP1.out (by omega))
        have AB := below_put2 (g := gX) (x := .int .i64 u0) (y := .int .i64 u1) AB hgX1
        clear x0 x1 xf xl
        refine hK.out _ _ (⟨HA1.out.cell 0 rfl, HA1.out.cell 1 rfl, HA1.out.cell 2 rfl, HA1.out.cell 3 rfl, HP1.out.cell 0 rfl, HP1.out.cell 1 rfl, HP1.out.cell 2 rfl, HP1.out.cell 3 rfl⟩) (fun hHeld => ?_)
        clear hK K
        try simp only [List.getElem_toArray, List.getElem_cons_zero, List.getElem_cons_succ, Act.put, List.setIfInBounds_toArray, List.set_cons_zero, List.set_cons_succ]
        refine wpAnyH_ready (rs := [13]) (by kernel_rfl) (by simp) ?_
        refine AllReadyH.cons rfl (fun K hK => ?_) AllReadyH.nil
        try simp only [List.getElem_toArray, List.getElem_cons_zero, List.getElem_cons_succ]
        have x0 := HYB.out.cell 0 rfl
        have x1 := HYB.out.cell 1 rfl
        have xf := HYB.out.frozen
        have xl := HYB.out.lt
        go_simp
        replace HYB : Hid (Blk _ gY 27 [.int .i64 v0, .int .i64 v1]) := Lib.hid (blk_put2 HYB.out)
        replace HXB := Lib.hid (blk_oth2 (g := gY) (x := .int .i64 v0) (y := .int .i64 v1) HXB.out (by omega))
        replace HA1 := Lib.hid (blk_oth2 (g := gY) (x := .int .i64 v0) (y := .int .i64 v1) HA1.out (by omega))
        replace HP1 := Lib.hid (blk_oth2 (g := gY) (x := .int .i64 v0) (y := .int .i64 v1) HP1.out (by omega))
        have AB := below_put2 (g := gY) (x := .int .i64 v0) (y := .int .i64 v1) AB hgY1
        clear x0 x1 xf xl
        refine hK.out _ _ (⟨HA1.out.cell 0 rfl, HA1.out.cell 1 rfl, HA1.out.cell 2 rfl, HA1.out.cell 3 rfl, HP1.out.cell 0 rfl, HP1.out.cell 1 rfl, HP1.out.cell 2 rfl, HP1.out.cell 3 rfl⟩) (fun hHeld => ?_)
        clear hK K
        try simp only [List.getElem_toArray, List.getElem_cons_zero, List.getElem_cons_succ, Act.put, List.setIfInBounds_toArray, List.set_cons_zero, List.set_cons_succ]
        refine wpAnyH_done (by kernel_rfl) ?_ _
        go_wp2_with fail
        go_meet
        exact ⟨gX, gY, rfl, rfl, HXB, HYB, Lib.hid AB⟩
  case rest =>
    obtain ⟨gx, gy, rfl, rfl, HXB, HYB, HB2⟩ := hcut
    go_wp2_with fail
    have hd : Below wc.heap.size wc wc.drew := (Below.refl _ wc).drew
    have AB := HB2.out.drew
    replace HXB := Lib.hid (HXB.out.keep hd)
    replace HYB := Lib.hid (HYB.out.keep hd)
    clear hd HB2
    refine wp_region_held_drew (S := fun wx => wx.cell? ⟨gx, 0, none⟩ = some (.int .i64 u0) ∧ wx.cell? ⟨gx, 1, none⟩ = some (.int .i64 u1) ∧ wx.cell? ⟨gy, 0, none⟩ = some (.int .i64 v0) ∧ wx.cell? ⟨gy, 1, none⟩ = some (.int .i64 v1)) (by kernel_rfl) (⟨HXB.out.cell 0 rfl, HXB.out.cell 1 rfl, HYB.out.cell 0 rfl, HYB.out.cell 1 rfl⟩) (fun hHeld => ?_)
    refine wpAnyH_take (i := 0) (v := ?_) rfl (by kernel_rfl) (by kernel_rfl) (by kernel_rfl) (fun _ _ _ h => h) (Or.inl ⟨by rfl, ?_⟩) hHeld ?_
    rotate_left
    · intro w hSw
      (try dsimp only at hSw)
      (try simp only [List.getElem_toArray, List.getElem_cons_zero])
      go_simp
      all_goals with_reducible rfl
    try simp only [List.getElem_toArray, List.getElem_cons_zero, Act.put, List.setIfInBounds_toArray, List.set_cons_zero, List.set_cons_succ]
    refine wpAnyH_take (i := 1) (v := ?_) rfl (by kernel_rfl) (by kernel_rfl) (by kernel_rfl) (fun _ _ _ h => h) (Or.inl ⟨by rfl, ?_⟩) hHeld ?_
    rotate_left
    · intro w hSw
      (try dsimp only at hSw)
      (try simp only [List.getElem_toArray, List.getElem_cons_zero, List.getElem_cons_succ])
      go_simp
      all_goals with_reducible rfl
    try simp only [List.getElem_toArray, List.getElem_cons_zero, List.getElem_cons_succ, Act.put, List.setIfInBounds_toArray, List.set_cons_zero, List.set_cons_succ]
    refine wpAnyH_take (i := 3) (v := ?_) rfl (by kernel_rfl) (by kernel_rfl) (by kernel_rfl) (fun _ _ _ h => h) (Or.inl ⟨by rfl, ?_⟩) hHeld ?_
    rotate_left
    · intro w hSw
      (try dsimp only at hSw)
      (try simp only [List.getElem_toArray, List.getElem_cons_zero, List.getElem_cons_succ])
      go_simp
      all_goals with_reducible rfl
    try simp only [List.getElem_toArray, List.getElem_cons_zero, List.getElem_cons_succ, Act.put, List.setIfInBounds_toArray, List.set_cons_zero, List.set_cons_succ]
    refine wpAnyH_take (i := 4) (v := ?_) rfl (by kernel_rfl) (by kernel_rfl) (by kernel_rfl) (fun _ _ _ h => h) (Or.inl ⟨by rfl, ?_⟩) hHeld ?_
    rotate_left
    · intro w hSw
      (try dsimp only at hSw)
      (try simp only [List.getElem_toArray, List.getElem_cons_zero, List.getElem_cons_succ])
      go_simp
      all_goals with_reducible rfl
    try simp only [List.getElem_toArray, List.getElem_cons_zero, List.getElem_cons_succ, Act.put, List.setIfInBounds_toArray, List.set_cons_zero, List.set_cons_succ]
    refine wpAnyH_ready (rs := [2]) (by kernel_rfl) (by simp) ?_
    refine AllReadyH.cons rfl (fun K hK => ?_) AllReadyH.nil
    try simp only [List.getElem_toArray, List.getElem_cons_zero, List.getElem_cons_succ]
    go_simp
    refine (HC.out _).mono ?_
    rintro e wn ⟨rfl, hbn⟩
    have AB := AB.trans (hbn.mono (AB.size))
    replace HXB := Lib.hid (HXB.out.keep hbn)
    replace HYB := Lib.hid (HYB.out.keep hbn)
    clear hbn
    go_wp2_with fail
    refine hK.out _ _ (⟨HXB.out.cell 0 rfl, HXB.out.cell 1 rfl, HYB.out.cell 0 rfl, HYB.out.cell 1 rfl⟩) (fun hHeld => ?_)
    clear hK K
    try simp only [List.getElem_toArray, List.getElem_cons_zero, List.getElem_cons_succ, Act.put, List.setIfInBounds_toArray, List.set_cons_zero, List.set_cons_succ]
    refine wpAnyH_ready (rs := [5]) (by kernel_rfl) (by simp) ?_
    refine AllReadyH.cons rfl (fun K hK => ?_) AllReadyH.nil
    try simp only [List.getElem_toArray, List.getElem_cons_zero, List.getElem_cons_succ]
    go_simp
    refine (HD.out _).mono ?_
    rintro e wn ⟨rfl, hbn⟩
    have AB := AB.trans (hbn.mono (AB.size))
    replace HXB := Lib.hid (HXB.out.keep hbn)
    replace HYB := Lib.hid (HYB.out.keep hbn)
    clear hbn
    go_wp2_with fail
    refine hK.out _ _ (⟨HXB.out.cell 0 rfl, HXB.out.cell 1 rfl, HYB.out.cell 0 rfl, HYB.out.cell 1 rfl⟩) (fun hHeld => ?_)
    clear hK K
    try simp only [List.getElem_toArray, List.getElem_cons_zero, List.getElem_cons_succ, Act.put, List.setIfInBounds_toArray, List.set_cons_zero, List.set_cons_succ]
    refine wpAnyH_take (i := 6) (v := ?_) rfl (by kernel_rfl) (by kernel_rfl) (by kernel_rfl) (fun _ _ _ h => h) (Or.inl ⟨by rfl, ?_⟩) hHeld ?_
    rotate_left
    · intro w hSw
      (try dsimp only at hSw)
      (try simp only [List.getElem_toArray, List.getElem_cons_zero, List.getElem_cons_succ])
      go_simp
      all_goals with_reducible rfl
    try simp only [List.getElem_toArray, List.getElem_cons_zero, List.getElem_cons_succ, Act.put, List.setIfInBounds_toArray, List.set_cons_zero, List.set_cons_succ]
    refine wpAnyH_take (i := 7) (v := ?_) rfl (by kernel_rfl) (by kernel_rfl) (by kernel_rfl) (fun _ _ _ h => h) (Or.inl ⟨by rfl, ?_⟩) hHeld ?_
    rotate_left
    · intro w hSw
      (try dsimp only at hSw)
      (try simp only [List.getElem_toArray, List.getElem_cons_zero, List.getElem_cons_succ])
      go_simp
      all_goals with_reducible rfl
    try simp only [List.getElem_toArray, List.getElem_cons_zero, List.getElem_cons_succ, Act.put, List.setIfInBounds_toArray, List.set_cons_zero, List.set_cons_succ]
    refine wpAnyH_done (by kernel_rfl) ?_ _
    clear HXB HYB hHeld
    go_wp2_with fail
    all_goals go_ret
    all_goals refine ⟨ret_bool ?_, AB⟩
    all_goals rw [Bool.eq_iff_iff]
    all_goals simp only [Bool.or_eq_true, decide_eq_true_eq]
    all_goals omega

/-- P11.1, by the program. -/
theorem pis_any (a b : Ed) (ha : InD a) (hb : InD b) (w : World) :
    Calls Try.prog 11 #[.agg #[.int .i64 a.a.x, .int .i64 a.a.y, .int .i64 a.b.x, .int .i64 a.b.y], .agg #[.int .i64 b.a.x, .int .i64 b.a.y, .int .i64 b.b.x, .int .i64 b.b.y]] w fun e w' => e = .returned (.bool (isC a b)) ∧ Below w.heap.size w w' := by
  obtain ⟨⟨a1, a2⟩, a3, a4⟩ := ha
  obtain ⟨⟨b1, b2⟩, b3, b4⟩ := hb
  have x : (a.b.x - a.a.x).natAbs ≤ 16384 := by omega
  have y : (a.b.y - a.a.y).natAbs ≤ 16384 := by omega
  have z : (b.b.x - b.a.x).natAbs ≤ 16384 := by omega
  have v : (b.b.y - b.a.y).natAbs ≤ 16384 := by omega
  have m : ∀ p q : Int, p.natAbs ≤ 16384 → q.natAbs ≤ 16384 → (p * q).natAbs ≤ 268435456 := fun p q hp hq => by rw [Int.natAbs_mul]; exact Nat.mul_le_mul hp hq
  have m1 := m _ _ x v
  have m2 := m _ _ y z
  have k : ∀ P Q : Int, P.natAbs ≤ 268435456 → Q.natAbs ≤ 268435456 → (P - Q).natAbs ≤ 1000000000 := fun P Q _ _ => by omega
  rw [← is_word]
  exact pis_raw _ _ _ _ _ _ _ _ (a.b.x - a.a.x) (a.b.y - a.a.y) (b.b.x - b.a.x) (b.b.y - b.a.y) (crC a b) (dtC a b) (Lib.hid (fun w => sub_any _ _ _ _ (by omega) w)) (Lib.hid (fun w => sub_any _ _ _ _ (by omega) w)) (Lib.hid (fun w => cross_any _ _ _ _ (by omega) w)) (Lib.hid (fun w => dot_any _ _ _ _ (by omega) w)) (k _ _ m1 m2) w

end Go.Proofs.Ytbnjajhhbcnepaa
