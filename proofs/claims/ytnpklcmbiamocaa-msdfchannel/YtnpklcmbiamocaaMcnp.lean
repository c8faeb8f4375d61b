/-
  CnpIs CnpCor CnpRep CnpHal CnpPie CnpPcs CnpCol CnpAll CornP in one text (no claim is made here).
-/
import Derived.Test.YtnpklcmbiamocaaMcor
import Derived.Deep.RegionLaw
import Derived.OpenShut
import Derived.Test.YtnpklcmbiamocaaNrow
import Derived.Test.YtnpklcmbiamocaaMwid
import Derived.Laws.CopyOwn
import Derived.Deep.LoopGhost
import Derived.Test.YtnpklcmbiamocaaJoin
import Derived.Lib.AppendZeros
namespace Go.Proofs.Ytnpklcmbiamocaa
open Go.RowKit

/-- A new block, its number named. -/
theorem pnew_ex {w W : World} {n : Nat} (AB : Below n w W) (hn : n ≤ w.heap.size) (t : TypeId) (vs : List Value) : ∃ g, W.heap.size = g ∧ n ≤ g ∧ Blk (W.alloc (.cells vs.toArray t)) g t vs ∧ Below n w (W.alloc (.cells vs.toArray t)) ∧ Below W.heap.size W (W.alloc (.cells vs.toArray t)) :=
  ⟨_, rfl, Nat.le_trans hn AB.size, Blk.new _ _ _ rfl, AB.alloc (Nat.le_trans hn AB.size) _, (Below.refl _ _).alloc (Nat.le_refl _) _⟩
theorem blk_put2 {w : World} {g : Nat} {t : TypeId} {a b x y : Value} (h : Blk w g t [a, b]) : Blk ((w.setCell ⟨g, 0, none⟩ x).setCell ⟨g, 1, none⟩ y) g t [x, y] := (h.set 0 x).set 1 y
theorem blk_oth2 {w : World} {g k : Nat} {t : TypeId} {vs : List Value} {x y : Value} (h : Blk w k t vs) (hne : k ≠ g) : Blk ((w.setCell ⟨g, 0, none⟩ x).setCell ⟨g, 1, none⟩ y) k t vs := (h.other 0 x hne).other 1 y hne
theorem below_put2 {w W : World} {n g : Nat} {x y : Value} (h : Below n w W) (hg : n ≤ g) : Below n w ((W.setCell ⟨g, 0, none⟩ x).setCell ⟨g, 1, none⟩ y) := (h.setCell (p := ⟨g, 0, none⟩) hg x).setCell (p := ⟨g, 1, none⟩) hg y

theorem is_word (a b : Ed) : (decide (dtC a b ≤ 0) || decide (dtC a b < 2 * max (crC a b) (-crC a b))) = isC a b := by
  unfold isC
  rw [Bool.eq_iff_iff]
  simp only [Bool.or_eq_true, decide_eq_true_eq]
  omega

set_option maxHeartbeats 1600000 in
set_option maxRecDepth 100000 in
theorem pis_raw (a0 a1 a2 a3 b0 b1 b2 b3 u0 u1 v0 v1 C D : Int)
    (HS1 : Hid (∀ w, Calls Try.prog 62 #[.agg #[.int .i64 a2, .int .i64 a3], .agg #[.int .i64 a0, .int .i64 a1]] w fun e w' => e = .returned (.agg #[.int .i64 u0, .int .i64 u1]) ∧ Below w.heap.size w w'))
    (HS2 : Hid (∀ w, Calls Try.prog 62 #[.agg #[.int .i64 b2, .int .i64 b3], .agg #[.int .i64 b0, .int .i64 b1]] w fun e w' => e = .returned (.agg #[.int .i64 v0, .int .i64 v1]) ∧ Below w.heap.size w w'))
    (HC : Hid (∀ w, Calls Try.prog 65 #[.agg #[.int .i64 u0, .int .i64 u1], .agg #[.int .i64 v0, .int .i64 v1]] w fun e w' => e = .returned (.int .i64 C) ∧ Below w.heap.size w w'))
    (HD : Hid (∀ w, Calls Try.prog 63 #[.agg #[.int .i64 u0, .int .i64 u1], .agg #[.int .i64 v0, .int .i64 v1]] w fun e w' => e = .returned (.int .i64 D) ∧ Below w.heap.size w w'))
    (hC : C.natAbs ≤ 1000000000) (w : World) :
    Calls Try.prog 72 #[.agg #[.int .i64 a0, .int .i64 a1, .int .i64 a2, .int .i64 a3], .agg #[.int .i64 b0, .int .i64 b1, .int .i64 b2, .int .i64 b3]] w fun e w' => e = .returned (.bool (decide (D ≤ 0) || decide (D < 2 * max C (-C)))) ∧ Below w.heap.size w w' := by
  have HB0 := Lib.hid (alloc2 w (.cells #[.int .i64 a0, .int .i64 a1, .int .i64 a2, .int .i64 a3] 70) (.cells #[.int .i64 b0, .int .i64 b1, .int .i64 b2, .int .i64 b3] 70))
  have HA1 := Lib.hid ((Blk.new w 70 [.int .i64 a0, .int .i64 a1, .int .i64 a2, .int .i64 a3] rfl).alloc (.cells #[.int .i64 b0, .int .i64 b1, .int .i64 b2, .int .i64 b3] 70))
  have HP1 := Lib.hid (Blk.new (w.alloc (.cells #[.int .i64 a0, .int .i64 a1, .int .i64 a2, .int .i64 a3] 70)) 70 [.int .i64 b0, .int .i64 b1, .int .i64 b2, .int .i64 b3] (g := w.heap.size + 1) (by simp))
  have m1 : IntKind.i64.wrap (-C) = -C := wI (by omega) (by omega)
  have m2 : IntKind.i64.wrap (2 * max C (-C)) = 2 * max C (-C) := wI (by omega) (by omega)
  go_enter Try.func72, Try.ntmps72
  go_upto_region 1 with fail
  go_cut [5, 6] (fun sx sy wx => ∃ gx gy : Nat, sx = .pointer (some ⟨gx, 0, none⟩) ∧ sy = .pointer (some ⟨gy, 0, none⟩) ∧ Hid (Blk wx gx 59 [.int .i64 u0, .int .i64 u1]) ∧ Hid (Blk wx gy 59 [.int .i64 v0, .int .i64 v1]) ∧ Hid (Below w.heap.size w wx))
  case first =>
    have hd : Below ((w.alloc (.cells #[.int .i64 a0, .int .i64 a1, .int .i64 a2, .int .i64 a3] 70)).alloc (.cells #[.int .i64 b0, .int .i64 b1, .int .i64 b2, .int .i64 b3] 70)).heap.size ((w.alloc (.cells #[.int .i64 a0, .int .i64 a1, .int .i64 a2, .int .i64 a3] 70)).alloc (.cells #[.int .i64 b0, .int .i64 b1, .int .i64 b2, .int .i64 b3] 70)) ((w.alloc (.cells #[.int .i64 a0, .int .i64 a1, .int .i64 a2, .int .i64 a3] 70)).alloc (.cells #[.int .i64 b0, .int .i64 b1, .int .i64 b2, .int .i64 b3] 70)).drew := (Below.refl _ ((w.alloc (.cells #[.int .i64 a0, .int .i64 a1, .int .i64 a2, .int .i64 a3] 70)).alloc (.cells #[.int .i64 b0, .int .i64 b1, .int .i64 b2, .int .i64 b3] 70))).drew
    have AB := HB0.out.drew
    replace HA1 := Lib.hid (HA1.out.keep hd)
    replace HP1 := Lib.hid (HP1.out.keep hd)
    clear hd HB0
    refine wp_region_held_drew (S := fun wx => wx.cell? ⟨w.heap.size, 0, none⟩ = some (.int .i64 a0) ∧ wx.cell? ⟨w.heap.size, 1, none⟩ = some (.int .i64 a1) ∧ wx.cell? ⟨w.heap.size, 2, none⟩ = some (.int .i64 a2) ∧ wx.cell? ⟨w.heap.size, 3, none⟩ = some (.int .i64 a3) ∧ wx.cell? ⟨w.heap.size + 1, 0, none⟩ = some (.int .i64 b0) ∧ wx.cell? ⟨w.heap.size + 1, 1, none⟩ = some (.int .i64 b1) ∧ wx.cell? ⟨w.heap.size + 1, 2, none⟩ = some (.int .i64 b2) ∧ wx.cell? ⟨w.heap.size + 1, 3, none⟩ = some (.int .i64 b3)) (by kernel_rfl) (⟨HA1.out.cell 0 rfl, HA1.out.cell 1 rfl, HA1.out.cell 2 rfl, HA1.out.cell 3 rfl, HP1.out.cell 0 rfl, HP1.out.cell 1 rfl, HP1.out.cell 2 rfl, HP1.out.cell 3 rfl⟩) (fun hHeld => ?_)
    generalize ((w.alloc (.cells #[.int .i64 a0, .int .i64 a1, .int .i64 a2, .int .i64 a3] 70)).alloc (.cells #[.int .i64 b0, .int .i64 b1, .int .i64 b2, .int .i64 b3] 70)).drew = w2 at *
    refine wpAnyH_take (i := 0) (v := ?_) rfl (by kernel_rfl) (by kernel_rfl) (by kernel_rfl) (fun _ _ _ h => h) (Or.inl ⟨by rfl, ?_⟩) hHeld ?_
    rotate_left
    · intro w hSw
      (try dsimp only at hSw)
      (try simp only [List.getElem_toArray, List.getElem_cons_zero])
      go_simp
      all_goals with_reducible rfl
    try simp only [List.getElem_toArray, List.getElem_cons_zero, Act.put, List.setIfInBounds_toArray, List.set_cons_zero, List.set_cons_succ]
    refine wpAnyH_take (i := 1) (v := ?_) rfl (by kernel_rfl) (by kernel_rfl) (by kernel_rfl) (fun _ _ _ h => h) (Or.inl ⟨by rfl, ?_⟩) hHeld ?_
    rotate_left
    · intro w hSw
      (try dsimp only at hSw)
      (try simp only [List.getElem_toArray, List.getElem_cons_zero, List.getElem_cons_succ])
      go_simp
      all_goals with_reducible rfl
    try simp only [List.getElem_toArray, List.getElem_cons_zero, List.getElem_cons_succ, Act.put, List.setIfInBounds_toArray, List.set_cons_zero, List.set_cons_succ]
    refine wpAnyH_take (i := 2) (v := ?_) rfl (by kernel_rfl) (by kernel_rfl) (by kernel_rfl) (fun _ _ _ h => h) (Or.inl ⟨by rfl, ?_⟩) hHeld ?_
    rotate_left
    · intro w hSw
      (try dsimp only at hSw)
      (try simp only [List.getElem_toArray, List.getElem_cons_zero, List.getElem_cons_succ])
      go_simp
      all_goals with_reducible rfl
    try simp only [List.getElem_toArray, List.getElem_cons_zero, List.getElem_cons_succ, Act.put, List.setIfInBounds_toArray, List.set_cons_zero, List.set_cons_succ]
    refine wpAnyH_take (i := 3) (v := ?_) rfl (by kernel_rfl) (by kernel_rfl) (by kernel_rfl) (fun _ _ _ h => h) (Or.inl ⟨by rfl, ?_⟩) hHeld ?_
    rotate_left
    · intro w hSw
      (try dsimp only at hSw)
      (try simp only [List.getElem_toArray, List.getElem_cons_zero, List.getElem_cons_succ])
      go_simp
      all_goals with_reducible rfl
    try simp only [List.getElem_toArray, List.getElem_cons_zero, List.getElem_cons_succ, Act.put, List.setIfInBounds_toArray, List.set_cons_zero, List.set_cons_succ]
    refine wpAnyH_take (i := 5) (v := ?_) rfl (by kernel_rfl) (by kernel_rfl) (by kernel_rfl) (fun _ _ _ h => h) (Or.inl ⟨by rfl, ?_⟩) hHeld ?_
    rotate_left
    · intro w hSw
      (try dsimp only at hSw)
      (try simp only [List.getElem_toArray, List.getElem_cons_zero, List.getElem_cons_succ])
      go_simp
      all_goals with_reducible rfl
    try simp only [List.getElem_toArray, List.getElem_cons_zero, List.getElem_cons_succ, Act.put, List.setIfInBounds_toArray, List.set_cons_zero, List.set_cons_succ]
    refine wpAnyH_take (i := 6) (v := ?_) rfl (by kernel_rfl) (by kernel_rfl) (by kernel_rfl) (fun _ _ _ h => h) (Or.inl ⟨by rfl, ?_⟩) hHeld ?_
    rotate_left
    · intro w hSw
      (try dsimp only at hSw)
      (try simp only [List.getElem_toArray, List.getElem_cons_zero, List.getElem_cons_succ])
      go_simp
      all_goals with_reducible rfl
    try simp only [List.getElem_toArray, List.getElem_cons_zero, List.getElem_cons_succ, Act.put, List.setIfInBounds_toArray, List.set_cons_zero, List.set_cons_succ]
    refine wpAnyH_take (i := 7) (v := ?_) rfl (by kernel_rfl) (by kernel_rfl) (by kernel_rfl) (fun _ _ _ h => h) (Or.inl ⟨by rfl, ?_⟩) hHeld ?_
    rotate_left
    · intro w hSw
      (try dsimp only at hSw)
      (try simp only [List.getElem_toArray, List.getElem_cons_zero, List.getElem_cons_succ])
      go_simp
      all_goals with_reducible rfl
    try simp only [List.getElem_toArray, List.getElem_cons_zero, List.getElem_cons_succ, Act.put, List.setIfInBounds_toArray, List.set_cons_zero, List.set_cons_succ]
    refine wpAnyH_take (i := 8) (v := ?_) rfl (by kernel_rfl) (by kernel_rfl) (by kernel_rfl) (fun _ _ _ h => h) (Or.inl ⟨by rfl, ?_⟩) hHeld ?_
    rotate_left
    · intro w hSw
      (try dsimp only at hSw)
      (try simp only [List.getElem_toArray, List.getElem_cons_zero, List.getElem_cons_succ])
      go_simp
      all_goals with_reducible rfl
    try simp only [List.getElem_toArray, List.getElem_cons_zero, List.getElem_cons_succ, Act.put, List.setIfInBounds_toArray, List.set_cons_zero, List.set_cons_succ]
    refine wpAnyH_ready (rs := [4, 10, 11]) (by kernel_rfl) (by simp) ?_
    refine AllReadyH.cons rfl (fun K hK => ?_) (AllReadyH.cons rfl (fun K hK => ?_) (AllReadyH.cons rfl (fun K hK => ?_) AllReadyH.nil))
    · try simp only [List.getElem_toArray, List.getElem_cons_zero, List.getElem_cons_succ]
      go_simp
      refine (HS1.out _).mono ?_
      rintro e wn ⟨rfl, hbn⟩
      have AB := AB.trans (hbn.mono (AB.size))
      replace HA1 := Lib.hid (HA1.out.keep hbn)
      replace HP1 := Lib.hid (HP1.out.keep hbn)
      try replace HXB := Lib.hid (HXB.out.keep hbn)
      try replace HYB := Lib.hid (HYB.out.keep hbn)
      clear hbn
      go_wp2_with fail
      refine hK.out _ _ (⟨HA1.out.cell 0 rfl, HA1.out.cell 1 rfl, HA1.out.cell 2 rfl, HA1.out.cell 3 rfl, HP1.out.cell 0 rfl, HP1.out.cell 1 rfl, HP1.out.cell 2 rfl, HP1.out.cell 3 rfl⟩) (fun hHeld => ?_)
      clear hK K
      try simp only [List.getElem_toArray, List.getElem_cons_zero, List.getElem_cons_succ, Act.put, List.setIfInBounds_toArray, List.set_cons_zero, List.set_cons_succ]
      refine wpAnyH_ready (rs := [9, 10, 11]) (by kernel_rfl) (by simp) ?_
      refine AllReadyH.cons rfl (fun K hK => ?_) (AllReadyH.cons rfl (fun K hK => ?_) (AllReadyH.cons rfl (fun K hK => ?_) AllReadyH.nil))
      · try simp only [List.getElem_toArray, List.getElem_cons_zero, List.getElem_cons_succ]
        go_simp
        refine (HS2.out _).mono ?_
        rintro e wn ⟨rfl, hbn⟩
        have AB := AB.trans (hbn.mono (AB.size))
        replace HA1 := Lib.hid (HA1.out.keep hbn)
        replace HP1 := Lib.hid (HP1.out.keep hbn)
        try replace HXB := Lib.hid (HXB.out.keep hbn)
        try replace HYB := Lib.hid (HYB.out.keep hbn)
        clear hbn
        go_wp2_with fail
        refine hK.out _ _ (⟨HA1.out.cell 0 rfl, HA1.out.cell 1 rfl, HA1.out.cell 2 rfl, HA1.out.cell 3 rfl, HP1.out.cell 0 rfl, HP1.out.cell 1 rfl, HP1.out.cell 2 rfl, HP1.out.cell 3 rfl⟩) (fun hHeld => ?_)
        clear hK K
        try simp only [List.getElem_toArray, List.getElem_cons_zero, List.getElem_cons_succ, Act.put, List.setIfInBounds_toArray, List.set_cons_zero, List.set_cons_succ]
        refine wpAnyH_ready (rs := [10, 11]) (by kernel_rfl) (by simp) ?_
        refine AllReadyH.cons rfl (fun K hK => ?_) (AllReadyH.cons rfl (fun K hK => ?_) AllReadyH.nil)
        · try simp only [List.getElem_toArray, List.getElem_cons_zero, List.getElem_cons_succ]
          go_simp
          obtain ⟨gX, hgX, hgX1, hBn, hAn, hKn⟩ := pnew_ex AB (Nat.le_refl _) 59 [.int .i64 0, .int .i64 0]
          have hgX2 : w.heap.size + 1 < gX := by rw [← hgX]; exact HP1.out.lt
          try simp only [World.size_alloc] at hgX
          rw [hgX]
          have HXB := Lib.hid hBn
          replace HA1 := Lib.hid (HA1.out.keep hKn)
          replace HP1 := Lib.hid (HP1.out.keep hKn)
          have AB := hAn
          clear hBn hAn hKn hgX
          refine hK.out _ _ (⟨HA1.out.cell 0 rfl, HA1.out.cell 1 rfl, HA1.out.cell 2 rfl, HA1.out.cell 3 rfl, HP1.out.cell 0 rfl, HP1.out.cell 1 rfl, HP1.out.cell 2 rfl, HP1.out.cell 3 rfl⟩) (fun hHeld => ?_)
          clear hK K
          try simp only [List.getElem_toArray, List.getElem_cons_zero, List.getElem_cons_succ, Act.put, List.setIfInBounds_toArray, List.set_cons_zero, List.set_cons_succ]
          refine wpAnyH_ready (rs := [11]) (by kernel_rfl) (by simp) ?_
          refine AllReadyH.cons rfl (fun K hK => ?_) AllReadyH.nil
          try simp only [List.getElem_toArray, List.getElem_cons_zero, List.getElem_cons_succ]
          go_simp
          obtain ⟨gY, hgY, hgY1, hBn, hAn, hKn⟩ := pnew_ex AB (Nat.le_refl _) 59 [.int .i64 0, .int .i64 0]
          have hgY2 : w.heap.size + 1 < gY := by rw [← hgY]; exact HP1.out.lt
          have hgxy : gX < gY := by rw [← hgY]; exact HXB.out.lt
          replace HXB := Lib.hid (HXB.out.keep hKn)
          try simp only [World.size_alloc] at hgY
          rw [hgY]
          have HYB := Lib.hid hBn
          replace HA1 := Lib.hid (HA1.out.keep hKn)
          replace HP1 := Lib.hid (HP1.out.keep hKn)
          have AB := hAn
          clear hBn hAn hKn hgY
          refine hK.out _ _ (⟨HA1.out.cell 0 rfl, HA1.out.cell 1 rfl, HA1.out.cell 2 rfl, HA1.out.cell 3 rfl, HP1.out.cell 0 rfl, HP1.out.cell 1 rfl, HP1.out.cell 2 rfl, HP1.out.cell 3 rfl⟩) (fun hHeld => ?_)
          clear hK K
          try simp only [List.getElem_toArray, List.getElem_cons_zero, List.getElem_cons_succ, Act.put, List.setIfInBounds_toArray, List.set_cons_zero, List.set_cons_succ]
          refine wpAnyH_ready (rs := [12]) (by kernel_rfl) (by simp) ?_
          refine AllReadyH.cons rfl (fun K hK => ?_) AllReadyH.nil
          try simp only [List.getElem_toArray, List.getElem_cons_zero, List.getElem_cons_succ]
          have x0 := HXB.out.cell 0 rfl
          have x1 := HXB.out.cell 1 rfl
          have xf := HXB.out.frozen
          have xl := HXB.out.lt
          go_simp
          replace HXB : Hid (Blk _ gX 59 [.int .i64 u0, .int .i64 u1]) := Lib.hid (blk_put2 HXB.out)
          replace HYB := Lib.hid (blk_oth2 (g := gX) (x := .int .i64 u0) (y := .int .i64 u1) HYB.out (by omega))
          replace HA1 := Lib.hid (blk_oth2 (g := gX) (x := .int .i64 u0) (y := .int .i64 u1) HA1.out (by omega))
          replace HP1 := Lib.hid (blk_oth2 (g := gX) (x := .int .i64 u0) (y := .int .i64 u1) HP1.out (by omega))
          have AB := below_put2 (g := gX) (x := .int .i64 u0) (y := .int .i64 u1) AB hgX1
          clear x0 x1 xf xl
          refine hK.out _ _ (⟨HA1.out.cell 0 rfl, HA1.out.cell 1 rfl, HA1.out.cell 2 rfl, HA1.out.cell 3 rfl, HP1.out.cell 0 rfl, HP1.out.cell 1 rfl, HP1.out.cell 2 rfl, HP1.out.cell 3 rfl⟩) (fun hHeld => ?_)
          clear hK K
          try simp only [List.getElem_toArray, List.getElem_cons_zero, List.getElem_cons_succ, Act.put, List.setIfInBounds_toArray, List.set_cons_zero, List.set_cons_succ]
          refine wpAnyH_ready (rs := [13]) (by kernel_rfl) (by simp) ?_
          refine AllReadyH.cons rfl (fun K hK => ?_) AllReadyH.nil
          try simp only [List.getElem_toArray, List.getElem_cons_zero, List.getElem_cons_succ]
          have x0 := HYB.out.cell 0 rfl
          have x1 := HYB.out.cell 1 rfl
          have xf := HYB.out.frozen
          have xl := HYB.out.lt
          go_simp
          replace HYB : Hid (Blk _ gY 59 [.int .i64 v0, .int .i64 v1]) := Lib.hid (blk_put2 HYB.out)
          replace HXB := Lib.hid (blk_oth2 (g := gY) (x := .int .i64 v0) (y := .int .i64 v1) HXB.out (by omega))
          replace HA1 := Lib.hid (blk_oth2 (g := gY) (x := .int .i64 v0) (y := .int .i64 v1) HA1.out (by omega))
          replace HP1 := Lib.hid (blk_oth2 (g := gY) (x := .int .i64 v0) (y := .int .i64 v1) HP1.out (by omega))
          have AB := below_put2 (g := gY) (x := .int .i64 v0) (y := .int .i64 v1) AB hgY1
          clear x0 x1 xf xl
          refine hK.out _ _ (⟨HA1.out.cell 0 rfl, HA1.out.cell 1 rfl, HA1.out.cell 2 rfl, HA1.out.cell 3 rfl, HP1.out.cell 0 rfl, HP1.out.cell 1 rfl, HP1.out.cell 2 rfl, HP1.out.cell 3 rfl⟩) (fun hHeld => ?_)
          clear hK K
          try simp only [List.getElem_toArray, List.getElem_cons_zero, List.getElem_cons_succ, Act.put, List.setIfInBounds_toArray, List.set_cons_zero, List.set_cons_succ]
          refine wpAnyH_done (by kernel_rfl) ?_ _
          go_wp2_with fail
          go_meet
          exact ⟨gX, gY, rfl, rfl, HXB, HYB, Lib.hid AB⟩
        · try simp only [List.getElem_toArray, List.getElem_cons_zero, List.getElem_cons_succ]
          go_simp
          obtain ⟨gY, hgY, hgY1, hBn, hAn, hKn⟩ := pnew_ex AB (Nat.le_refl _) 59 [.int .i64 0, .int .i64 0]
          have hgY2 : w.heap.size + 1 < gY := by rw [← hgY]; exact HP1.out.lt
          try simp only [World.size_alloc] at hgY
          rw [hgY]
          have HYB := Lib.hid hBn
          replace HA1 := Lib.hid (HA1.out.keep hKn)
          replace HP1 := Lib.hid (HP1.out.keep hKn)
          have AB := hAn
          clear hBn hAn hKn hgY
          refine hK.out _ _ (⟨HA1.out.cell 0 rfl, HA1.out.cell 1 rfl, HA1.out.cell 2 rfl, HA1.out.cell 3 rfl, HP1.out.cell 0 rfl, HP1.out.cell 1 rfl, HP1.out.cell 2 rfl, HP1.out.cell 3 rfl⟩) (fun hHeld => ?_)
          clear hK K
          try simp only [List.getElem_toArray, List.getElem_cons_zero, List.getElem_cons_succ, Act.put, List.setIfInBounds_toArray, List.set_cons_zero, List.set_cons_succ]
          refine wpAnyH_ready (rs := [10]) (by kernel_rfl) (by simp) ?_
          refine AllReadyH.cons rfl (fun K hK => ?_) AllReadyH.nil
          try simp only [List.getElem_toArray, List.getElem_cons_zero, List.getElem_cons_succ]
          go_simp
          obtain ⟨gX, hgX, hgX1, hBn, hAn, hKn⟩ := pnew_ex AB (Nat.le_refl _) 59 [.int .i64 0, .int .i64 0]
          have hgX2 : w.heap.size + 1 < gX := by rw [← hgX]; exact HP1.out.lt
          have hgxy : gY < gX := by rw [← hgX]; exact HYB.out.lt
          replace HYB := Lib.hid (HYB.out.keep hKn)
          try simp only [World.size_alloc] at hgX
          rw [hgX]
          have HXB := Lib.hid hBn
          replace HA1 := Lib.hid (HA1.out.keep hKn)
          replace HP1 := Lib.hid (HP1.out.keep hKn)
          have AB := hAn
          clear hBn hAn hKn hgX
          refine hK.out _ _ (⟨HA1.out.cell 0 rfl, HA1.out.cell 1 rfl, HA1.out.cell 2 rfl, HA1.out.cell 3 rfl, HP1.out.cell 0 rfl, HP1.out.cell 1 rfl, HP1.out.cell 2 rfl, HP1.out.cell 3 rfl⟩) (fun hHeld => ?_)
          clear hK K
          try simp only [List.getElem_toArray, List.getElem_cons_zero, List.getElem_cons_succ, Act.put, List.setIfInBounds_toArray, List.set_cons_zero, List.set_cons_succ]
          refine wpAnyH_ready (rs := [12]) (by kernel_rfl) (by simp) ?_
          refine AllReadyH.cons rfl (fun K hK => ?_) AllReadyH.nil
          try simp only [List.getElem_toArray, List.getElem_cons_zero, List.getElem_cons_succ]
          have x0 := HXB.out.cell 0 rfl
          have x1 := HXB.out.cell 1 rfl
          have xf := HXB.out.frozen
          have xl := HXB.out.lt
          go_simp
          replace HXB : Hid (Blk _ gX 59 [.int .i64 u0, .int .i64 u1]) := Lib.hid (blk_put2 HXB.out)
          replace HYB := Lib.hid (blk_oth2 (g := gX) (x := .int .i64 u0) (y := .int .i64 u1) HYB.out (by omega))
          replace HA1 := Lib.hid (blk_oth2 (g := gX) (x := .int .i64 u0) (y := .int .i64 u1) HA1.out (by omega))
          replace HP1 := Lib.hid (blk_oth2 (g := gX) (x := .int .i64 u0) (y := .int .i64 u1) HP1.out (by omega))
          have AB := below_put2 (g := gX) (x := .int .i64 u0) (y := .int .i64 u1) AB hgX1
          clear x0 x1 xf xl
          refine hK.out _ _ (⟨HA1.out.cell 0 rfl, HA1.out.cell 1 rfl, HA1.out.cell 2 rfl, HA1.out.cell 3 rfl, HP1.out.cell 0 rfl, HP1.out.cell 1 rfl, HP1.out.cell 2 rfl, HP1.out.cell 3 rfl⟩) (fun hHeld => ?_)
          clear hK K
          try simp only [List.getElem_toArray, List.getElem_cons_zero, List.getElem_cons_succ, Act.put, List.setIfInBounds_toArray, List.set_cons_zero, List.set_cons_succ]
          refine wpAnyH_ready (rs := [13]) (by kernel_rfl) (by simp) ?_
          refine AllReadyH.cons rfl (fun K hK => ?_) AllReadyH.nil
          try simp only [List.getElem_toArray, List.getElem_cons_zero, List.getElem_cons_succ]
          have x0 := HYB.out.cell 0 rfl
          have x1 := HYB.out.cell 1 rfl
          have xf := HYB.out.frozen
          have xl := HYB.out.lt
          go_simp
          replace HYB : Hid (Blk _ gY 59 [.int .i64 v0, .int .i64 v1]) := Lib.hid (blk_put2 HYB.out)
          replace HXB := Lib.hid (blk_oth2 (g := gY) (x := .int .i64 v0) (y := .int .i64 v1) HXB.out (by omega))
          replace HA1 := Lib.hid (blk_oth2 (g := gY) (x := .int .i64 v0) (y := .int .i64 v1) HA1.out (by omega))
          replace HP1 := Lib.hid (blk_oth2 (g := gY) (x := .int .i64 v0) (y := .int .i64 v1) HP1.out (by omega))
          have AB := below_put2 (g := gY) (x := .int .i64 v0) (y := .int .i64 v1) AB hgY1
          clear x0 x1 xf xl
          refine hK.out _ _ (⟨HA1.out.cell 0 rfl, HA1.out.cell 1 rfl, HA1.out.cell 2 rfl, HA1.out.cell 3 rfl, HP1.out.cell 0 rfl, HP1.out.cell 1 rfl, HP1.out.cell 2 rfl, HP1.out.cell 3 rfl⟩) (fun hHeld => ?_)
          clear hK K
          try simp only [List.getElem_toArray, List.getElem_cons_zero, List.getElem_cons_succ, Act.put, List.setIfInBounds_toArray, List.set_cons_zero, List.set_cons_succ]
          refine wpAnyH_done (by kernel_rfl) ?_ _
          go_wp2_with fail
          go_meet
          exact ⟨gX, gY, rfl, rfl, HXB, HYB, Lib.hid AB⟩
      · try simp only [List.getElem_toArray, List.getElem_cons_zero, List.getElem_cons_succ]
        go_simp
        obtain ⟨gX, hgX, hgX1, hBn, hAn, hKn⟩ := pnew_ex AB (Nat.le_refl _) 59 [.int .i64 0, .int .i64 0]
        have hgX2 : w.heap.size + 1 < gX := by rw [← hgX]; exact HP1.out.lt
        try simp only [World.size_alloc] at hgX
        rw [hgX]
        have HXB := Lib.hid hBn
        replace HA1 := Lib.hid (HA1.out.keep hKn)
        replace HP1 := Lib.hid (HP1.out.keep hKn)
        have AB := hAn
        clear hBn hAn hKn hgX
        refine hK.out _ _ (⟨HA1.out.cell 0 rfl, HA1.out.cell 1 rfl, HA1.out.cell 2 rfl, HA1.out.cell 3 rfl, HP1.out.cell 0 rfl, HP1.out.cell 1 rfl, HP1.out.cell 2 rfl, HP1.out.cell 3 rfl⟩) (fun hHeld => ?_)
        clear hK K
        try simp only [List.getElem_toArray, List.getElem_cons_zero, List.getElem_cons_succ, Act.put, List.setIfInBounds_toArray, List.set_cons_zero, List.set_cons_succ]
        refine wpAnyH_ready (rs := [9, 11]) (by kernel_rfl) (by simp) ?_
        refine AllReadyH.cons rfl (fun K hK => ?_) (AllReadyH.cons rfl (fun K hK => ?_) AllReadyH.nil)
        · try simp only [List.getElem_toArray, List.getElem_cons_zero, List.getElem_cons_succ]
          go_simp
          refine (HS2.out _).mono ?_
          rintro e wn ⟨rfl, hbn⟩
          have AB := AB.trans (hbn.mono (AB.size))
          replace HA1 := Lib.hid (HA1.out.keep hbn)
          replace HP1 := Lib.hid (HP1.out.keep hbn)
          try replace HXB := Lib.hid (HXB.out.keep hbn)
          try replace HYB := Lib.hid (HYB.out.keep hbn)
          clear hbn
          go_wp2_with fail
          refine hK.out _ _ (⟨HA1.out.cell 0 rfl, HA1.out.cell 1 rfl, HA1.out.cell 2 rfl, HA1.out.cell 3 rfl, HP1.out.cell 0 rfl, HP1.out.cell 1 rfl, HP1.out.cell 2 rfl, HP1.out.cell 3 rfl⟩) (fun hHeld => ?_)
          clear hK K
          try simp only [List.getElem_toArray, List.getElem_cons_zero, List.getElem_cons_succ, Act.put, List.setIfInBounds_toArray, List.set_cons_zero, List.set_cons_succ]
          refine wpAnyH_ready (rs := [11]) (by kernel_rfl) (by simp) ?_
          refine AllReadyH.cons rfl (fun K hK => ?_) AllReadyH.nil
          try simp only [List.getElem_toArray, List.getElem_cons_zero, List.getElem_cons_succ]
          go_simp
          obtain ⟨gY, hgY, hgY1, hBn, hAn, hKn⟩ := pnew_ex AB (Nat.le_refl _) 59 [.int .i64 0, .int .i64 0]
          have hgY2 : w.heap.size + 1 < gY := by rw [← hgY]; exact HP1.out.lt
          have hgxy : gX < gY := by rw [← hgY]; exact HXB.out.lt
          replace HXB := Lib.hid (HXB.out.keep hKn)
          try simp only [World.size_alloc] at hgY
          rw [hgY]
          have HYB := Lib.hid hBn
          replace HA1 := Lib.hid (HA1.out.keep hKn)
          replace HP1 := Lib.hid (HP1.out.keep hKn)
          have AB := hAn
          clear hBn hAn hKn hgY
          refine hK.out _ _ (⟨HA1.out.cell 0 rfl, HA1.out.cell 1 rfl, HA1.out.cell 2 rfl, HA1.out.cell 3 rfl, HP1.out.cell 0 rfl, HP1.out.cell 1 rfl, HP1.out.cell 2 rfl, HP1.out.cell 3 rfl⟩) (fun hHeld => ?_)
          clear hK K
          try simp only [List.getElem_toArray, List.getElem_cons_zero, List.getElem_cons_succ, Act.put, List.setIfInBounds_toArray, List.set_cons_zero, List.set_cons_succ]
          refine wpAnyH_ready (rs := [12]) (by kernel_rfl) (by simp) ?_
          refine AllReadyH.cons rfl (fun K hK => ?_) AllReadyH.nil
          try simp only [List.getElem_toArray, List.getElem_cons_zero, List.getElem_cons_succ]
          have x0 := HXB.out.cell 0 rfl
          have x1 := HXB.out.cell 1 rfl
          have xf := HXB.out.frozen
          have xl := HXB.out.lt
          go_simp
          replace HXB : Hid (Blk _ gX 59 [.int .i64 u0, .int .i64 u1]) := Lib.hid (blk_put2 HXB.out)
          replace HYB := Lib.hid (blk_oth2 (g := gX) (x := .int .i64 u0) (y := .int .i64 u1) HYB.out (by omega))
          replace HA1 := Lib.hid (blk_oth2 (g := gX) (x := .int .i64 u0) (y := .int .i64 u1) HA1.out (by omega))
          replace HP1 := Lib.hid (blk_oth2 (g := gX) (x := .int .i64 u0) (y := .int .i64 u1) HP1.out (by omega))
          have AB := below_put2 (g := gX) (x := .int .i64 u0) (y := .int .i64 u1) AB hgX1
          clear x0 x1 xf xl
          refine hK.out _ _ (⟨HA1.out.cell 0 rfl, HA1.out.cell 1 rfl, HA1.out.cell 2 rfl, HA1.out.cell 3 rfl, HP1.out.cell 0 rfl, HP1.out.cell 1 rfl, HP1.out.cell 2 rfl, HP1.out.cell 3 rfl⟩) (fun hHeld => ?_)
          clear hK K
          try simp only [List.getElem_toArray, List.getElem_cons_zero, List.getElem_cons_succ, Act.put, List.setIfInBounds_toArray, List.set_cons_zero, List.set_cons_succ]
          refine wpAnyH_ready (rs := [13]) (by kernel_rfl) (by simp) ?_
          refine AllReadyH.cons rfl (fun K hK => ?_) AllReadyH.nil
          try simp only [List.getElem_toArray, List.getElem_cons_zero, List.getElem_cons_succ]
          have x0 := HYB.out.cell 0 rfl
          have x1 := HYB.out.cell 1 rfl
          have xf := HYB.out.frozen
          have xl := HYB.out.lt
          go_simp
          replace HYB : Hid (Blk _ gY 59 [.int .i64 v0, .int .i64 v1]) := Lib.hid (blk_put2 HYB.out)
          replace HXB := Lib.hid (blk_oth2 (g := gY) (x := .int .i64 v0) (y := .int .i64 v1) HXB.out (by omega))
          replace HA1 := Lib.hid (blk_oth2 (g := gY) (x := .int .i64 v0) (y := .int .i64 v1) HA1.out (by omega))
          replace HP1 := Lib.hid (blk_oth2 (g := gY) (x := .int .i64 v0) (y := .int .i64 v1) HP1.out (by omega))
          have AB := below_put2 (g := gY) (x := .int .i64 v0) (y := .int .i64 v1) AB hgY1
          clear x0 x1 xf xl
          refine hK.out _ _ (⟨HA1.out.cell 0 rfl, HA1.out.cell 1 rfl, HA1.out.cell 2 rfl, HA1.out.cell 3 rfl, HP1.out.cell 0 rfl, HP1.out.cell 1 rfl, HP1.out.cell 2 rfl, HP1.out.cell 3 rfl⟩) (fun hHeld => ?_)
          clear hK K
          try simp only [List.getElem_toArray, List.getElem_cons_zero, List.getElem_cons_succ, Act.put, List.setIfInBounds_toArray, List.set_cons_zero, List.set_cons_succ]
          refine wpAnyH_done (by kernel_rfl) ?_ _
          go_wp2_with fail
          go_meet
          exact ⟨gX, gY, rfl, rfl, HXB, HYB, Lib.hid AB⟩
        · try simp only [List.getElem_toArray, List.getElem_cons_zero, List.getElem_cons_succ]
          go_simp
          obtain ⟨gY, hgY, hgY1, hBn, hAn, hKn⟩ := pnew_ex AB (Nat.le_refl _) 59 [.int .i64 0, .int .i64 0]
          have hgY2 : w.heap.size + 1 < gY := by rw [← hgY]; exact HP1.out.lt
          have hgxy : gX < gY := by rw [← hgY]; exact HXB.out.lt
          replace HXB := Lib.hid (HXB.out.keep hKn)
          try simp only [World.size_alloc] at hgY
          rw [hgY]
          have HYB := Lib.hid hBn
          replace HA1 := Lib.hid (HA1.out.keep hKn)
          replace HP1 := Lib.hid (HP1.out.keep hKn)
          have AB := hAn
          clear hBn hAn hKn hgY
          refine hK.out _ _ (⟨HA1.out.cell 0 rfl, HA1.out.cell 1 rfl, HA1.out.cell 2 rfl, HA1.out.cell 3 rfl, HP1.out.cell 0 rfl, HP1.out.cell 1 rfl, HP1.out.cell 2 rfl, HP1.out.cell 3 rfl⟩) (fun hHeld => ?_)
          clear hK K
          try simp only [List.getElem_toArray, List.getElem_cons_zero, List.getElem_cons_succ, Act.put, List.setIfInBounds_toArray, List.set_cons_zero, List.set_cons_succ]
          refine wpAnyH_ready (rs := [9]) (by kernel_rfl) (by simp) ?_
          refine AllReadyH.cons rfl (fun K hK => ?_) AllReadyH.nil
          try simp only [List.getElem_toArray, List.getElem_cons_zero, List.getElem_cons_succ]
          go_simp
          refine (HS2.out _).mono ?_
          rintro e wn ⟨rfl, hbn⟩
          have AB := AB.trans (hbn.mono (AB.size))
          replace HA1 := Lib.hid (HA1.out.keep hbn)
          replace HP1 := Lib.hid (HP1.out.keep hbn)
          try replace HXB := Lib.hid (HXB.out.keep hbn)
          try replace HYB := Lib.hid (HYB.out.keep hbn)
          clear hbn
          go_wp2_with fail
          refine hK.out _ _ (⟨HA1.out.cell 0 rfl, HA1.out.cell 1 rfl, HA1.out.cell 2 rfl, HA1.out.cell 3 rfl, HP1.out.cell 0 rfl, HP1.out.cell 1 rfl, HP1.out.cell 2 rfl, HP1.out.cell 3 rfl⟩) (fun hHeld => ?_)
          clear hK K
          try simp only [List.getElem_toArray, List.getElem_cons_zero, List.getElem_cons_succ, Act.put, List.setIfInBounds_toArray, List.set_cons_zero, List.set_cons_succ]
          refine wpAnyH_ready (rs := [12]) (by kernel_rfl) (by simp) ?_
          refine AllReadyH.cons rfl (fun K hK => ?_) AllReadyH.nil
          try simp only [List.getElem_toArray, List.getElem_cons_zero, List.getElem_cons_succ]
          have x0 := HXB.out.cell 0 rfl
          have x1 := HXB.out.cell 1 rfl
          have xf := HXB.out.frozen
          have xl := HXB.out.lt
          go_simp
          replace HXB : Hid (Blk _ gX 59 [.int .i64 u0, .int .i64 u1]) := Lib.hid (blk_put2 HXB.out)
          replace HYB := Lib.hid (blk_oth2 (g := gX) (x := .int .i64 u0) (y := .int .i64 u1) HYB.out (by omega))
          replace HA1 := Lib.hid (blk_oth2 (g := gX) (x := .int .i64 u0) (y := .int .i64 u1) HA1.out (by omega))
          replace HP1 := Lib.hid (blk_oth2 (g := gX) (x := .int .i64 u0) (y := .int .i64 u1) HP1.out (by omega))
          have AB := below_put2 (g := gX) (x := .int .i64 u0) (y := .int .i64 u1) AB hgX1
          clear x0 x1 xf xl
          refine hK.out _ _ (⟨HA1.out.cell 0 rfl, HA1.out.cell 1 rfl, HA1.out.cell 2 rfl, HA1.out.cell 3 rfl, HP1.out.cell 0 rfl, HP1.out.cell 1 rfl, HP1.out.cell 2 rfl, HP1.out.cell 3 rfl⟩) (fun hHeld => ?_)
          clear hK K
          try simp only [List.getElem_toArray, List.getElem_cons_zero, List.getElem_cons_succ, Act.put, List.setIfInBounds_toArray, List.set_cons_zero, List.set_cons_succ]
          refine wpAnyH_ready (rs := [13]) (by kernel_rfl) (by simp) ?_
          refine AllReadyH.cons rfl (fun K hK => ?_) AllReadyH.nil
          try simp only [List.getElem_toArray, List.getElem_cons_zero, List.getElem_cons_succ]
          have x0 := HYB.out.cell 0 rfl
          have x1 := HYB.out.cell 1 rfl
          have xf := HYB.out.frozen
          have xl := HYB.out.lt
          go_simp
          replace HYB : Hid (Blk _ gY 59 [.int .i64 v0, .int .i64 v1]) := Lib.hid (blk_put2 HYB.out)
          replace HXB := Lib.hid (blk_oth2 (g := gY) (x := .int .i64 v0) (y := .int .i64 v1) HXB.out (by omega))
          replace HA1 := Lib.hid (blk_oth2 (g := gY) (x := .int .i64 v0) (y := .int .i64 v1) HA1.out (by omega))
          replace HP1 := Lib.hid (blk_oth2 (g := gY) (x := .int .i64 v0) (y := .int .i64 v1) HP1.out (by omega))
          have AB := below_put2 (g := gY) (x := .int .i64 v0) (y := .int .i64 v1) AB hgY1
          clear x0 x1 xf xl
          refine hK.out _ _ (⟨HA1.out.cell 0 rfl, HA1.out.cell 1 rfl, HA1.out.cell 2 rfl, HA1.out.cell 3 rfl, HP1.out.cell 0 rfl, HP1.out.cell 1 rfl, HP1.out.cell 2 rfl, HP1.out.cell 3 rfl⟩) (fun hHeld => ?_)
          clear hK K
          try simp only [List.getElem_toArray, List.getElem_cons_zero, List.getElem_cons_succ, Act.put, List.setIfInBounds_toArray, List.set_cons_zero, List.set_cons_succ]
          refine wpAnyH_done (by kernel_rfl) ?_ _
          go_wp2_with fail
          go_meet
          exact ⟨gX, gY, rfl, rfl, HXB, HYB, Lib.hid AB⟩
      · try simp only [List.getElem_toArray, List.getElem_cons_zero, List.getElem_cons_succ]
        go_simp
        obtain ⟨gY, hgY, hgY1, hBn, hAn, hKn⟩ := pnew_ex AB (Nat.le_refl _) 59 [.int .i64 0, .int .i64 0]
        have hgY2 : w.heap.size + 1 < gY := by rw [← hgY]; exact HP1.out.lt
        try simp only [World.size_alloc] at hgY
        rw [hgY]
        have HYB := Lib.hid hBn
        replace HA1 := Lib.hid (HA1.out.keep hKn)
        replace HP1 := Lib.hid (HP1.out.keep hKn)
        have AB := hAn
        clear hBn hAn hKn hgY
        refine hK.out _ _ (⟨HA1.out.cell 0 rfl, HA1.out.cell 1 rfl, HA1.out.cell 2 rfl, HA1.out.cell 3 rfl, HP1.out.cell 0 rfl, HP1.out.cell 1 rfl, HP1.out.cell 2 rfl, HP1.out.cell 3 rfl⟩) (fun hHeld => ?_)
        clear hK K
        try simp only [List.getElem_toArray, List.getElem_cons_zero, List.getElem_cons_succ, Act.put, List.setIfInBounds_toArray, List.set_cons_zero, List.set_cons_succ]
        refine wpAnyH_ready (rs := [9, 10]) (by kernel_rfl) (by simp) ?_
        refine AllReadyH.cons rfl (fun K hK => ?_) (AllReadyH.cons rfl (fun K hK => ?_) AllReadyH.nil)
        · try simp only [List.getElem_toArray, List.getElem_cons_zero, List.getElem_cons_succ]
          go_simp
          refine (HS2.out _).mono ?_
          rintro e wn ⟨rfl, hbn⟩
          have AB := AB.trans (hbn.mono (AB.size))
          replace HA1 := Lib.hid (HA1.out.keep hbn)
          replace HP1 := Lib.hid (HP1.out.keep hbn)
          try replace HXB := Lib.hid (HXB.out.keep hbn)
          try replace HYB := Lib.hid (HYB.out.keep hbn)
          clear hbn
          go_wp2_with fail
          refine hK.out _ _ (⟨HA1.out.cell 0 rfl, HA1.out.cell 1 rfl, HA1.out.cell 2 rfl, HA1.out.cell 3 rfl, HP1.out.cell 0 rfl, HP1.out.cell 1 rfl, HP1.out.cell 2 rfl, HP1.out.cell 3 rfl⟩) (fun hHeld => ?_)
          clear hK K
          try simp only [List.getElem_toArray, List.getElem_cons_zero, List.getElem_cons_succ, Act.put, List.setIfInBounds_toArray, List.set_cons_zero, List.set_cons_succ]
          refine wpAnyH_ready (rs := [10]) (by kernel_rfl) (by simp) ?_
          refine AllReadyH.cons rfl (fun K hK => ?_) AllReadyH.nil
          try simp only [List.getElem_toArray, List.getElem_cons_zero, List.getElem_cons_succ]
          go_simp
          obtain ⟨gX, hgX, hgX1, hBn, hAn, hKn⟩ := pnew_ex AB (Nat.le_refl _) 59 [.int .i64 0, .int .i64 0]
          have hgX2 : w.heap.size + 1 < gX := by rw [← hgX]; exact HP1.out.lt
          have hgxy : gY < gX := by rw [← hgX]; exact HYB.out.lt
          replace HYB := Lib.hid (HYB.out.keep hKn)
          try simp only [World.size_alloc] at hgX
          rw [hgX]
          have HXB := Lib.hid hBn
          replace HA1 := Lib.hid (HA1.out.keep hKn)
          replace HP1 := Lib.hid (HP1.out.keep hKn)
          have AB := hAn
          clear hBn hAn hKn hgX
          refine hK.out _ _ (⟨HA1.out.cell 0 rfl, HA1.out.cell 1 rfl, HA1.out.cell 2 rfl, HA1.out.cell 3 rfl, HP1.out.cell 0 rfl, HP1.out.cell 1 rfl, HP1.out.cell 2 rfl, HP1.out.cell 3 rfl⟩) (fun hHeld => ?_)
          clear hK K
          try simp only [List.getElem_toArray, List.getElem_cons_zero, List.getElem_cons_succ, Act.put, List.setIfInBounds_toArray, List.set_cons_zero, List.set_cons_succ]
          refine wpAnyH_ready (rs := [12]) (by kernel_rfl) (by simp) ?_
          refine AllReadyH.cons rfl (fun K hK => ?_) AllReadyH.nil
          try simp only [List.getElem_toArray, List.getElem_cons_zero, List.getElem_cons_succ]
          have x0 := HXB.out.cell 0 rfl
          have x1 := HXB.out.cell 1 rfl
          have xf := HXB.out.frozen
          have xl := HXB.out.lt
          go_simp
          replace HXB : Hid (Blk _ gX 59 [.int .i64 u0, .int .i64 u1]) := Lib.hid (blk_put2 HXB.out)
          replace HYB := Lib.hid (blk_oth2 (g := gX) (x := .int .i64 u0) (y := .int .i64 u1) HYB.out (by omega))
          replace HA1 := Lib.hid (blk_oth2 (g := gX) (x := .int .i64 u0) (y := .int .i64 u1) HA1.out (by omega))
          replace HP1 := Lib.hid (blk_oth2 (g := gX) (x := .int .i64 u0) (y := .int .i64 u1) HP1.out (by omega))
          have AB := below_put2 (g := gX) (x := .int .i64 u0) (y := .int .i64 u1) AB hgX1
          clear x0 x1 xf xl
          refine hK.out _ _ (⟨HA1.out.cell 0 rfl, HA1.out.cell 1 rfl, HA1.out.cell 2 rfl, HA1.out.cell 3 rfl, HP1.out.cell 0 rfl, HP1.out.cell 1 rfl, HP1.out.cell 2 rfl, HP1.out.cell 3 rfl⟩) (fun hHeld => ?_)
          clear hK K
          try simp only [List.getElem_toArray, List.getElem_cons_zero, List.getElem_cons_succ, Act.put, List.setIfInBounds_toArray, List.set_cons_zero, List.set_cons_succ]
          refine wpAnyH_ready (rs := [13]) (by kernel_rfl) (by simp) ?_
          refine AllReadyH.cons rfl (fun K hK => ?_) AllReadyH.nil
          try simp only [List.getElem_toArray, List.getElem_cons_zero, List.getElem_cons_succ]
          have x0 := HYB.out.cell 0 rfl
          have x1 := HYB.out.cell 1 rfl
          have xf := HYB.out.frozen
          have xl := HYB.out.lt
          go_simp
          replace HYB : Hid (Blk _ gY 59 [.int .i64 v0, .int .i64 v1]) := Lib.hid (blk_put2 HYB.out)
          replace HXB := Lib.hid (blk_oth2 (g := gY) (x := .int .i64 v0) (y := .int .i64 v1) HXB.out (by omega))
          replace HA1 := Lib.hid (blk_oth2 (g := gY) (x := .int .i64 v0) (y := .int .i64 v1) HA1.out (by omega))
          replace HP1 := Lib.hid (blk_oth2 (g := gY) (x := .int .i64 v0) (y := .int .i64 v1) HP1.out (by omega))
          have AB := below_put2 (g := gY) (x := .int .i64 v0) (y := .int .i64 v1) AB hgY1
          clear x0 x1 xf xl
          refine hK.out _ _ (⟨HA1.out.cell 0 rfl, HA1.out.cell 1 rfl, HA1.out.cell 2 rfl, HA1.out.cell 3 rfl, HP1.out.cell 0 rfl, HP1.out.cell 1 rfl, HP1.out.cell 2 rfl, HP1.out.cell 3 rfl⟩) (fun hHeld => ?_)
          clear hK K
          try simp only [List.getElem_toArray, List.getElem_cons_zero, List.getElem_cons_succ, Act.put, List.setIfInBounds_toArray, List.set_cons_zero, List.set_cons_succ]
          refine wpAnyH_done (by kernel_rfl) ?_ _
          go_wp2_with fail
          go_meet
          exact ⟨gX, gY, rfl, rfl, HXB, HYB, Lib.hid AB⟩
        · try simp only [List.getElem_toArray, List.getElem_cons_zero, List.getElem_cons_succ]
          go_simp
          obtain ⟨gX, hgX, hgX1, hBn, hAn, hKn⟩ := pnew_ex AB (Nat.le_refl _) 59 [.int .i64 0, .int .i64 0]
          have hgX2 : w.heap.size + 1 < gX := by rw [← hgX]; exact HP1.out.lt
          have hgxy : gY < gX := by rw [← hgX]; exact HYB.out.lt
          replace HYB := Lib.hid (HYB.out.keep hKn)
          try simp only [World.size_alloc] at hgX
          rw [hgX]
          have HXB := Lib.hid hBn
          replace HA1 := Lib.hid (HA1.out.keep hKn)
          replace HP1 := Lib.hid (HP1.out.keep hKn)
          have AB := hAn
          clear hBn hAn hKn hgX
          refine hK.out _ _ (⟨HA1.out.cell 0 rfl, HA1.out.cell 1 rfl, HA1.out.cell 2 rfl, HA1.out.cell 3 rfl, HP1.out.cell 0 rfl, HP1.out.cell 1 rfl, HP1.out.cell 2 rfl, HP1.out.cell 3 rfl⟩) (fun hHeld => ?_)
          clear hK K
          try simp only [List.getElem_toArray, List.getElem_cons_zero, List.getElem_cons_succ, Act.put, List.setIfInBounds_toArray, List.set_cons_zero, List.set_cons_succ]
          refine wpAnyH_ready (rs := [9]) (by kernel_rfl) (by simp) ?_
          refine AllReadyH.cons rfl (fun K hK => ?_) AllReadyH.nil
          try simp only [List.getElem_toArray, List.getElem_cons_zero, List.getElem_cons_succ]
          go_simp
          refine (HS2.out _).mono ?_
          rintro e wn ⟨rfl, hbn⟩
          have AB := AB.trans (hbn.mono (AB.size))
          replace HA1 := Lib.hid (HA1.out.keep hbn)
          replace HP1 := Lib.hid (HP1.out.keep hbn)
          try replace HXB := Lib.hid (HXB.out.keep hbn)
          try replace HYB := Lib.hid (HYB.out.keep hbn)
          clear hbn
          go_wp2_with fail
          refine hK.out _ _ (⟨HA1.out.cell 0 rfl, HA1.out.cell 1 rfl, HA1.out.cell 2 rfl, HA1.out.cell 3 rfl, HP1.out.cell 0 rfl, HP1.out.cell 1 rfl, HP1.out.cell 2 rfl, HP1.out.cell 3 rfl⟩) (fun hHeld => ?_)
          clear hK K
          try simp only [List.getElem_toArray, List.getElem_cons_zero, List.getElem_cons_succ, Act.put, List.setIfInBounds_toArray, List.set_cons_zero, List.set_cons_succ]
          refine wpAnyH_ready (rs := [12]) (by kernel_rfl) (by simp) ?_
          refine AllReadyH.cons rfl (fun K hK => ?_) AllReadyH.nil
          try simp only [List.getElem_toArray, List.getElem_cons_zero, List.getElem_cons_succ]
          have x0 := HXB.out.cell 0 rfl
          have x1 := HXB.out.cell 1 rfl
          have xf := HXB.out.frozen
          have xl := HXB.out.lt
          go_simp
          replace HXB : Hid (Blk _ gX 59 [.int .i64 u0, .int .i64 u1]) := Lib.hid (blk_put2 HXB.out)
          replace HYB := Lib.hid (blk_oth2 (g := gX) (x := .int .i64 u0) (y := .int .i64 u1) HYB.out (by omega))
          replace HA1 := Lib.hid (blk_oth2 (g := gX) (x := .int .i64 u0) (y := .int .i64 u1) HA1.out (by omega))
          replace HP1 := Lib.hid (blk_oth2 (g := gX) (x := .int .i64 u0) (y := .int .i64 u1) HP1.out (by omega))
          have AB := below_put2 (g := gX) (x := .int .i64 u0) (y := .int .i64 u1) AB hgX1
          clear x0 x1 xf xl
          refine hK.out _ _ (⟨HA1.out.cell 0 rfl, HA1.out.cell 1 rfl, HA1.out.cell 2 rfl, HA1.out.cell 3 rfl, HP1.out.cell 0 rfl, HP1.out.cell 1 rfl, HP1.out.cell 2 rfl, HP1.out.cell 3 rfl⟩) (fun hHeld => ?_)
          clear hK K
          try simp only [List.getElem_toArray, List.getElem_cons_zero, List.getElem_cons_succ, Act.put, List.setIfInBounds_toArray, List.set_cons_zero, List.set_cons_succ]
          refine wpAnyH_ready (rs := [13]) (by kernel_rfl) (by simp) ?_
          refine AllReadyH.cons rfl (fun K hK => ?_) AllReadyH.nil
          try simp only [List.getElem_toArray, List.getElem_cons_zero, List.getElem_cons_succ]
          have x0 := HYB.out.cell 0 rfl
          have x1 := HYB.out.cell 1 rfl
          have xf := HYB.out.frozen
          have xl := HYB.out.lt
          go_simp
          replace HYB : Hid (Blk _ gY 59 [.int .i64 v0, .int .i64 v1]) := Lib.hid (blk_put2 HYB.out)
          replace HXB := Lib.hid (blk_oth2 (g := gY) (x := .int .i64 v0) (y := .int .i64 v1) HXB.out (by omega))
          replace HA1 := Lib.hid (blk_oth2 (g := gY) (x := .int .i64 v0) (y := .int .i64 v1) HA1.out (by omega))
          replace HP1 := Lib.hid (blk_oth2 (g := gY) (x := .int .i64 v0) (y := .int .i64 v1) HP1.out (by omega))
          have AB := below_put2 (g := gY) (x := .int .i64 v0) (y := .int .i64 v1) AB hgY1
          clear x0 x1 xf xl
          refine hK.out _ _ (⟨HA1.out.cell 0 rfl, HA1.out.cell 1 rfl, HA1.out.cell 2 rfl, HA1.out.cell 3 rfl, HP1.out.cell 0 rfl, HP1.out.cell 1 rfl, HP1.out.cell 2 rfl, HP1.out.cell 3 rfl⟩) (fun hHeld => ?_)
          clear hK K
          try simp only [List.getElem_toArray, List.getElem_cons_zero, List.getElem_cons_succ, Act.put, List.setIfInBounds_toArray, List.set_cons_zero, List.set_cons_succ]
          refine wpAnyH_done (by kernel_rfl) ?_ _
          go_wp2_with fail
          go_meet
          exact ⟨gX, gY, rfl, rfl, HXB, HYB, Lib.hid AB⟩
    · try simp only [List.getElem_toArray, List.getElem_cons_zero, List.getElem_cons_succ]
      go_simp
      obtain ⟨gX, hgX, hgX1, hBn, hAn, hKn⟩ := pnew_ex AB (Nat.le_refl _) 59 [.int .i64 0, .int .i64 0]
      have hgX2 : w.heap.size + 1 < gX := by rw [← hgX]; exact HP1.out.lt
      try simp only [World.size_alloc] at hgX
      rw [hgX]
      have HXB := Lib.hid hBn
      replace HA1 := Lib.hid (HA1.out.keep hKn)
      replace HP1 := Lib.hid (HP1.out.keep hKn)
      have AB := hAn
      clear hBn hAn hKn hgX
      refine hK.out _ _ (⟨HA1.out.cell 0 rfl, HA1.out.cell 1 rfl, HA1.out.cell 2 rfl, HA1.out.cell 3 rfl, HP1.out.cell 0 rfl, HP1.out.cell 1 rfl, HP1.out.cell 2 rfl, HP1.out.cell 3 rfl⟩) (fun hHeld => ?_)
      clear hK K
      try simp only [List.getElem_toArray, List.getElem_cons_zero, List.getElem_cons_succ, Act.put, List.setIfInBounds_toArray, List.set_cons_zero, List.set_cons_succ]
      refine wpAnyH_ready (rs := [4, 11]) (by kernel_rfl) (by simp) ?_
      refine AllReadyH.cons rfl (fun K hK => ?_) (AllReadyH.cons rfl (fun K hK => ?_) AllReadyH.nil)
      · try simp only [List.getElem_toArray, List.getElem_cons_zero, List.getElem_cons_succ]
        go_simp
        refine (HS1.out _).mono ?_
        rintro e wn ⟨rfl, hbn⟩
        have AB := AB.trans (hbn.mono (AB.size))
        replace HA1 := Lib.hid (HA1.out.keep hbn)
        replace HP1 := Lib.hid (HP1.out.keep hbn)
        try replace HXB := Lib.hid (HXB.out.keep hbn)
        try replace HYB := Lib.hid (HYB.out.keep hbn)
        clear hbn
        go_wp2_with fail
        refine hK.out _ _ (⟨HA1.out.cell 0 rfl, HA1.out.cell 1 rfl, HA1.out.cell 2 rfl, HA1.out.cell 3 rfl, HP1.out.cell 0 rfl, HP1.out.cell 1 rfl, HP1.out.cell 2 rfl, HP1.out.cell 3 rfl⟩) (fun hHeld => ?_)
        clear hK K
        try simp only [List.getElem_toArray, List.getElem_cons_zero, List.getElem_cons_succ, Act.put, List.setIfInBounds_toArray, List.set_cons_zero, List.set_cons_succ]
        refine wpAnyH_ready (rs := [9, 11]) (by kernel_rfl) (by simp) ?_
        refine AllReadyH.cons rfl (fun K hK => ?_) (AllReadyH.cons rfl (fun K hK => ?_) AllReadyH.nil)
        · try simp only [List.getElem_toArray, List.getElem_cons_zero, List.getElem_cons_succ]
          go_simp
          refine (HS2.out _).mono ?_
          rintro e wn ⟨rfl, hbn⟩
          have AB := AB.trans (hbn.mono (AB.size))
          replace HA1 := Lib.hid (HA1.out.keep hbn)
          replace HP1 := Lib.hid (HP1.out.keep hbn)
          try replace HXB := Lib.hid (HXB.out.keep hbn)
          try replace HYB := Lib.hid (HYB.out.keep hbn)
          clear hbn
          go_wp2_with fail
          refine hK.out _ _ (⟨HA1.out.cell 0 rfl, HA1.out.cell 1 rfl, HA1.out.cell 2 rfl, HA1.out.cell 3 rfl, HP1.out.cell 0 rfl, HP1.out.cell 1 rfl, HP1.out.cell 2 rfl, HP1.out.cell 3 rfl⟩) (fun hHeld => ?_)
          clear hK K
          try simp only [List.getElem_toArray, List.getElem_cons_zero, List.getElem_cons_succ, Act.put, List.setIfInBounds_toArray, List.set_cons_zero, List.set_cons_succ]
          refine wpAnyH_ready (rs := [11]) (by kernel_rfl) (by simp) ?_
          refine AllReadyH.cons rfl (fun K hK => ?_) AllReadyH.nil
          try simp only [List.getElem_toArray, List.getElem_cons_zero, List.getElem_cons_succ]
          go_simp
          obtain ⟨gY, hgY, hgY1, hBn, hAn, hKn⟩ := pnew_ex AB (Nat.le_refl _) 59 [.int .i64 0, .int .i64 0]
          have hgY2 : w.heap.size + 1 < gY := by rw [← hgY]; exact HP1.out.lt
          have hgxy : gX < gY := by rw [← hgY]; exact HXB.out.lt
          replace HXB := Lib.hid (HXB.out.keep hKn)
          try simp only [World.size_alloc] at hgY
          rw [hgY]
          have HYB := Lib.hid hBn
          replace HA1 := Lib.hid (HA1.out.keep hKn)
          replace HP1 := Lib.hid (HP1.out.keep hKn)
          have AB := hAn
          clear hBn hAn hKn hgY
          refine hK.out _ _ (⟨HA1.out.cell 0 rfl, HA1.out.cell 1 rfl, HA1.out.cell 2 rfl, HA1.out.cell 3 rfl, HP1.out.cell 0 rfl, HP1.out.cell 1 rfl, HP1.out.cell 2 rfl, HP1.out.cell 3 rfl⟩) (fun hHeld => ?_)
          clear hK K
          try simp only [List.getElem_toArray, List.getElem_cons_zero, List.getElem_cons_succ, Act.put, List.setIfInBounds_toArray, List.set_cons_zero, List.set_cons_succ]
          refine wpAnyH_ready (rs := [12]) (by kernel_rfl) (by simp) ?_
          refine AllReadyH.cons rfl (fun K hK => ?_) AllReadyH.nil
          try simp only [List.getElem_toArray, List.getElem_cons_zero, List.getElem_cons_succ]
          have x0 := HXB.out.cell 0 rfl
          have x1 := HXB.out.cell 1 rfl
          have xf := HXB.out.frozen
          have xl := HXB.out.lt
          go_simp
          replace HXB : Hid (Blk _ gX 59 [.int .i64 u0, .int .i64 u1]) := Lib.hid (blk_put2 HXB.out)
          replace HYB := Lib.hid (blk_oth2 (g := gX) (x := .int .i64 u0) (y := .int .i64 u1) HYB.out (by omega))
          replace HA1 := Lib.hid (blk_oth2 (g := gX) (x := .int .i64 u0) (y := .int .i64 u1) HA1.out (by omega))
          replace HP1 := Lib.hid (blk_oth2 (g := gX) (x := .int .i64 u0) (y := .int .i64 u1) HP1.out (by omega))
          have AB := below_put2 (g := gX) (x := .int .i64 u0) (y := .int .i64 u1) AB hgX1
          clear x0 x1 xf xl
          refine hK.out _ _ (⟨HA1.out.cell 0 rfl, HA1.out.cell 1 rfl, HA1.out.cell 2 rfl, HA1.out.cell 3 rfl, HP1.out.cell 0 rfl, HP1.out.cell 1 rfl, HP1.out.cell 2 rfl, HP1.out.cell 3 rfl⟩) (fun hHeld => ?_)
          clear hK K
          try simp only [List.getElem_toArray, List.getElem_cons_zero, List.getElem_cons_succ, Act.put, List.setIfInBounds_toArray, List.set_cons_zero, List.set_cons_succ]
          refine wpAnyH_ready (rs := [13]) (by kernel_rfl) (by simp) ?_
          refine AllReadyH.cons rfl (fun K hK => ?_) AllReadyH.nil
          try simp only [List.getElem_toArray, List.getElem_cons_zero, List.getElem_cons_succ]
          have x0 := HYB.out.cell 0 rfl
          have x1 := HYB.out.cell 1 rfl
          have xf := HYB.out.frozen
          have xl := HYB.out.lt
          go_simp
          replace HYB : Hid (Blk _ gY 59 [.int .i64 v0, .int .i64 v1]) := Lib.hid (blk_put2 HYB.out)
          replace HXB := Lib.hid (blk_oth2 (g := gY) (x := .int .i64 v0) (y := .int .i64 v1) HXB.out (by omega))
          replace HA1 := Lib.hid (blk_oth2 (g := gY) (x := .int .i64 v0) (y := .int .i64 v1) HA1.out (by omega))
          replace HP1 := Lib.hid (blk_oth2 (g := gY) (x := .int .i64 v0) (y := .int .i64 v1) HP1.out (by omega))
          have AB := below_put2 (g := gY) (x := .int .i64 v0) (y := .int .i64 v1) AB hgY1
          clear x0 x1 xf xl
          refine hK.out _ _ (⟨HA1.out.cell 0 rfl, HA1.out.cell 1 rfl, HA1.out.cell 2 rfl, HA1.out.cell 3 rfl, HP1.out.cell 0 rfl, HP1.out.cell 1 rfl, HP1.out.cell 2 rfl, HP1.out.cell 3 rfl⟩) (fun hHeld => ?_)
          clear hK K
          try simp only [List.getElem_toArray, List.getElem_cons_zero, List.getElem_cons_succ, Act.put, List.setIfInBounds_toArray, List.set_cons_zero, List.set_cons_succ]
          refine wpAnyH_done (by kernel_rfl) ?_ _
          go_wp2_with fail
          go_meet
          exact ⟨gX, gY, rfl, rfl, HXB, HYB, Lib.hid AB⟩
        · try simp only [List.getElem_toArray, List.getElem_cons_zero, List.getElem_cons_succ]
          go_simp
          obtain ⟨gY, hgY, hgY1, hBn, hAn, hKn⟩ := pnew_ex AB (Nat.le_refl _) 59 [.int .i64 0, .int .i64 0]
          have hgY2 : w.heap.size + 1 < gY := by rw [← hgY]; exact HP1.out.lt
          have hgxy : gX < gY := by rw [← hgY]; exact HXB.out.lt
          replace HXB := Lib.hid (HXB.out.keep hKn)
          try simp only [World.size_alloc] at hgY
          rw [hgY]
          have HYB := Lib.hid hBn
          replace HA1 := Lib.hid (HA1.out.keep hKn)
          replace HP1 := Lib.hid (HP1.out.keep hKn)
          have AB := hAn
          clear hBn hAn hKn hgY
          refine hK.out _ _ (⟨HA1.out.cell 0 rfl, HA1.out.cell 1 rfl, HA1.out.cell 2 rfl, HA1.out.cell 3 rfl, HP1.out.cell 0 rfl, HP1.out.cell 1 rfl, HP1.out.cell 2 rfl, HP1.out.cell 3 rfl⟩) (fun hHeld => ?_)
          clear hK K
          try simp only [List.getElem_toArray, List.getElem_cons_zero, List.getElem_cons_succ, Act.put, List.setIfInBounds_toArray, List.set_cons_zero, List.set_cons_succ]
          refine wpAnyH_ready (rs := [9]) (by kernel_rfl) (by simp) ?_
          refine AllReadyH.cons rfl (fun K hK => ?_) AllReadyH.nil
          try simp only [List.getElem_toArray, List.getElem_cons_zero, List.getElem_cons_succ]
          go_simp
          refine (HS2.out _).mono ?_
          rintro e wn ⟨rfl, hbn⟩
          have AB := AB.trans (hbn.mono (AB.size))
          replace HA1 := Lib.hid (HA1.out.keep hbn)
          replace HP1 := Lib.hid (HP1.out.keep hbn)
          try replace HXB := Lib.hid (HXB.out.keep hbn)
          try replace HYB := Lib.hid (HYB.out.keep hbn)
          clear hbn
          go_wp2_with fail
          refine hK.out _ _ (⟨HA1.out.cell 0 rfl, HA1.out.cell 1 rfl, HA1.out.cell 2 rfl, HA1.out.cell 3 rfl, HP1.out.cell 0 rfl, HP1.out.cell 1 rfl, HP1.out.cell 2 rfl, HP1.out.cell 3 rfl⟩) (fun hHeld => ?_)
          clear hK K
          try simp only [List.getElem_toArray, List.getElem_cons_zero, List.getElem_cons_succ, Act.put, List.setIfInBounds_toArray, List.set_cons_zero, List.set_cons_succ]
          refine wpAnyH_ready (rs := [12]) (by kernel_rfl) (by simp) ?_
          refine AllReadyH.cons rfl (fun K hK => ?_) AllReadyH.nil
          try simp only [List.getElem_toArray, List.getElem_cons_zero, List.getElem_cons_succ]
          have x0 := HXB.out.cell 0 rfl
          have x1 := HXB.out.cell 1 rfl
          have xf := HXB.out.frozen
          have xl := HXB.out.lt
          go_simp
          replace HXB : Hid (Blk _ gX 59 [.int .i64 u0, .int .i64 u1]) := Lib.hid (blk_put2 HXB.out)
          replace HYB := Lib.hid (blk_oth2 (g := gX) (x := .int .i64 u0) (y := .int .i64 u1) HYB.out (by omega))
          replace HA1 := Lib.hid (blk_oth2 (g := gX) (x := .int .i64 u0) (y := .int .i64 u1) HA1.out (by omega))
          replace HP1 := Lib.hid (blk_oth2 (g := gX) (x := .int .i64 u0) (y := .int .i64 u1) HP1.out (by omega))
          have AB := below_put2 (g := gX) (x := .int .i64 u0) (y := .int .i64 u1) AB hgX1
          clear x0 x1 xf xl
          refine hK.out _ _ (⟨HA1.out.cell 0 rfl, HA1.out.cell 1 rfl, HA1.out.cell 2 rfl, HA1.out.cell 3 rfl, HP1.out.cell 0 rfl, HP1.out.cell 1 rfl, HP1.out.cell 2 rfl, HP1.out.cell 3 rfl⟩) (fun hHeld => ?_)
          clear hK K
          try simp only [List.getElem_toArray, List.getElem_cons_zero, List.getElem_cons_succ, Act.put, List.setIfInBounds_toArray, List.set_cons_zero, List.set_cons_succ]
          refine wpAnyH_ready (rs := [13]) (by kernel_rfl) (by simp) ?_
          refine AllReadyH.cons rfl (fun K hK => ?_) AllReadyH.nil
          try simp only [List.getElem_toArray, List.getElem_cons_zero, List.getElem_cons_succ]
          have x0 := HYB.out.cell 0 rfl
          have x1 := HYB.out.cell 1 rfl
          have xf := HYB.out.frozen
          have xl := HYB.out.lt
          go_simp
          replace HYB : Hid (Blk _ gY 59 [.int .i64 v0, .int .i64 v1]) := Lib.hid (blk_put2 HYB.out)
          replace HXB := Lib.hid (blk_oth2 (g := gY) (x := .int .i64 v0) (y := .int .i64 v1) HXB.out (by omega))
          replace HA1 := Lib.hid (blk_oth2 (g := gY) (x := .int .i64 v0) (y := .int .i64 v1) HA1.out (by omega))
          replace HP1 := Lib.hid (blk_oth2 (g := gY) (x := .int .i64 v0) (y := .int .i64 v1) HP1.out (by omega))
          have AB := below_put2 (g := gY) (x := .int .i64 v0) (y := .int .i64 v1) AB hgY1
          clear x0 x1 xf xl
          refine hK.out _ _ (⟨HA1.out.cell 0 rfl, HA1.out.cell 1 rfl, HA1.out.cell 2 rfl, HA1.out.cell 3 rfl, HP1.out.cell 0 rfl, HP1.out.cell 1 rfl, HP1.out.cell 2 rfl, HP1.out.cell 3 rfl⟩) (fun hHeld => ?_)
          clear hK K
          try simp only [List.getElem_toArray, List.getElem_cons_zero, List.getElem_cons_succ, Act.put, List.setIfInBounds_toArray, List.set_cons_zero, List.set_cons_succ]
          refine wpAnyH_done (by kernel_rfl) ?_ _
          go_wp2_with fail
          go_meet
          exact ⟨gX, gY, rfl, rfl, HXB, HYB, Lib.hid AB⟩
      · try simp only [List.getElem_toArray, List.getElem_cons_zero, List.getElem_cons_succ]
        go_simp
        obtain ⟨gY, hgY, hgY1, hBn, hAn, hKn⟩ := pnew_ex AB (Nat.le_refl _) 59 [.int .i64 0, .int .i64 0]
        have hgY2 : w.heap.size + 1 < gY := by rw [← hgY]; exact HP1.out.lt
        have hgxy : gX < gY := by rw [← hgY]; exact HXB.out.lt
        replace HXB := Lib.hid (HXB.out.keep hKn)
        try simp only [World.size_alloc] at hgY
        rw [hgY]
        have HYB := Lib.hid hBn
        replace HA1 := Lib.hid (HA1.out.keep hKn)
        replace HP1 := Lib.hid (HP1.out.keep hKn)
        have AB := hAn
        clear hBn hAn hKn hgY
        refine hK.out _ _ (⟨HA1.out.cell 0 rfl, HA1.out.cell 1 rfl, HA1.out.cell 2 rfl, HA1.out.cell 3 rfl, HP1.out.cell 0 rfl, HP1.out.cell 1 rfl, HP1.out.cell 2 rfl, HP1.out.cell 3 rfl⟩) (fun hHeld => ?_)
        clear hK K
        try simp only [List.getElem_toArray, List.getElem_cons_zero, List.getElem_cons_succ, Act.put, List.setIfInBounds_toArray, List.set_cons_zero, List.set_cons_succ]
        refine wpAnyH_ready (rs := [4]) (by kernel_rfl) (by simp) ?_
        refine AllReadyH.cons rfl (fun K hK => ?_) AllReadyH.nil
        try simp only [List.getElem_toArray, List.getElem_cons_zero, List.getElem_cons_succ]
        go_simp
        refine (HS1.out _).mono ?_
        rintro e wn ⟨rfl, hbn⟩
        have AB := AB.trans (hbn.mono (AB.size))
        replace HA1 := Lib.hid (HA1.out.keep hbn)
        replace HP1 := Lib.hid (HP1.out.keep hbn)
        try replace HXB := Lib.hid (HXB.out.keep hbn)
        try replace HYB := Lib.hid (HYB.out.keep hbn)
        clear hbn
        go_wp2_with fail
        refine hK.out _ _ (⟨HA1.out.cell 0 rfl, HA1.out.cell 1 rfl, HA1.out.cell 2 rfl, HA1.out.cell 3 rfl, HP1.out.cell 0 rfl, HP1.out.cell 1 rfl, HP1.out.cell 2 rfl, HP1.out.cell 3 rfl⟩) (fun hHeld => ?_)
        clear hK K
        try simp only [List.getElem_toArray, List.getElem_cons_zero, List.getElem_cons_succ, Act.put, List.setIfInBounds_toArray, List.set_cons_zero, List.set_cons_succ]
        refine wpAnyH_ready (rs := [9]) (by kernel_rfl) (by simp) ?_
        refine AllReadyH.cons rfl (fun K hK => ?_) AllReadyH.nil
        try simp only [List.getElem_toArray, List.getElem_cons_zero, List.getElem_cons_succ]
        go_simp
        refine (HS2.out _).mono ?_
        rintro e wn ⟨rfl, hbn⟩
        have AB := AB.trans (hbn.mono (AB.size))
        replace HA1 := Lib.hid (HA1.out.keep hbn)
        replace HP1 := Lib.hid (HP1.out.keep hbn)
        try replace HXB := Lib.hid (HXB.out.keep hbn)
        try replace HYB := Lib.hid (HYB.out.keep hbn)
        clear hbn
        go_wp2_with fail
        refine hK.out _ _ (⟨HA1.out.cell 0 rfl, HA1.out.cell 1 rfl, HA1.out.cell 2 rfl, HA1.out.cell 3 rfl, HP1.out.cell 0 rfl, HP1.out.cell 1 rfl, HP1.out.cell 2 rfl, HP1.out.cell 3 rfl⟩) (fun hHeld => ?_)
        clear hK K
        try simp only [List.getElem_toArray, List.getElem_cons_zero, List.getElem_cons_succ, Act.put, List.setIfInBounds_toArray, List.set_cons_zero, List.set_cons_succ]
        refine wpAnyH_ready (rs := [12]) (by kernel_rfl) (by simp) ?_
        refine AllReadyH.cons rfl (fun K hK => ?_) AllReadyH.nil
        try simp only [List.getElem_toArray, List.getElem_cons_zero, List.getElem_cons_succ]
        have x0 := HXB.out.cell 0 rfl
        have x1 := HXB.out.cell 1 rfl
        have xf := HXB.out.frozen
        have xl := HXB.out.lt
        go_simp
        replace HXB : Hid (Blk _ gX 59 [.int .i64 u0, .int .i64 u1]) := Lib.hid (blk_put2 HXB.out)
        replace HYB := Lib.hid (blk_oth2 (g := gX) (x := .int .i64 u0) (y := .int .i64 u1) HYB.out (by omega))
        replace HA1 := Lib.hid (blk_oth2 (g := gX) (x := .int .i64 u0) (y := .int .i64 u1) HA1.out (by omega))
        replace HP1 := Lib.hid (blk_oth2 (g := gX) (x := .int .i64 u0) (y := .int .i64 u1) HP1.out (by omega))
        have AB := below_put2 (g := gX) (x := .int .i64 u0) (y := .int .i64 u1) AB hgX1
        clear x0 x1 xf xl
        refine hK.out _ _ (⟨HA1.out.cell 0 rfl, HA1.out.cell 1 rfl, HA1.out.cell 2 rfl, HA1.out.cell 3 rfl, HP1.out.cell 0 rfl, HP1.out.cell 1 rfl, HP1.out.cell 2 rfl, HP1.out.cell 3 rfl⟩) (fun hHeld => ?_)
        clear hK K
        try simp only [List.getElem_toArray, List.getElem_cons_zero, List.getElem_cons_succ, Act.put, List.setIfInBounds_toArray, List.set_cons_zero, List.set_cons_succ]
        refine wpAnyH_ready (rs := [13]) (by kernel_rfl) (by simp) ?_
        refine AllReadyH.cons rfl (fun K hK => ?_) AllReadyH.nil
        try simp only [List.getElem_toArray, List.getElem_cons_zero, List.getElem_cons_succ]
        have x0 := HYB.out.cell 0 rfl
        have x1 := HYB.out.cell 1 rfl
        have xf := HYB.out.frozen
        have xl := HYB.out.lt
        go_simp
        replace HYB : Hid (Blk _ gY 59 [.int .i64 v0, .int .i64 v1]) := Lib.hid (blk_put2 HYB.out)
        replace HXB := Lib.hid (blk_oth2 (g := gY) (x := .int .i64 v0) (y := .int .i64 v1) HXB.out (by omega))
        replace HA1 := Lib.hid (blk_oth2 (g := gY) (x := .int .i64 v0) (y := .int .i64 v1) HA1.out (by omega))
        replace HP1 := Lib.hid (blk_oth2 (g := gY) (x := .int .i64 v0) (y := .int .i64 v1) HP1.out (by omega))
        have AB := below_put2 (g := gY) (x := .int .i64 v0) (y := .int .i64 v1) AB hgY1
        clear x0 x1 xf xl
        refine hK.out _ _ (⟨HA1.out.cell 0 rfl, HA1.out.cell 1 rfl, HA1.out.cell 2 rfl, HA1.out.cell 3 rfl, HP1.out.cell 0 rfl, HP1.out.cell 1 rfl, HP1.out.cell 2 rfl, HP1.out.cell 3 rfl⟩) (fun hHeld => ?_)
        clear hK K
        try simp only [List.getElem_toArray, List.getElem_cons_zero, List.getElem_cons_succ, Act.put, List.setIfInBounds_toArray, List.set_cons_zero, List.set_cons_succ]
        refine wpAnyH_done (by kernel_rfl) ?_ _
        go_wp2_with fail
        go_meet
        exact ⟨gX, gY, rfl, rfl, HXB, HYB, Lib.hid AB⟩
    · try simp only [List.getElem_toArray, List.getElem_cons_zero, List.getElem_cons_succ]
      go_simp
      obtain ⟨gY, hgY, hgY1, hBn, hAn, hKn⟩ := pnew_ex AB (Nat.le_refl _) 59 [.int .i64 0, .int .i64 0]
      have hgY2 : w.heap.size + 1 < gY := by rw [← hgY]; exact HP1.out.lt
      try simp only [World.size_alloc] at hgY
      rw [hgY]
      have HYB := Lib.hid hBn
      replace HA1 := Lib.hid (HA1.out.keep hKn)
      replace HP1 := Lib.hid (HP1.out.keep hKn)
      have AB := hAn
      clear hBn hAn hKn hgY
      refine hK.out _ _ (⟨HA1.out.cell 0 rfl, HA1.out.cell 1 rfl, HA1.out.cell 2 rfl, HA1.out.cell 3 rfl, HP1.out.cell 0 rfl, HP1.out.cell 1 rfl, HP1.out.cell 2 rfl, HP1.out.cell 3 rfl⟩) (fun hHeld => ?_)
      clear hK K
      try simp only [List.getElem_toArray, List.getElem_cons_zero, List.getElem_cons_succ, Act.put, List.setIfInBounds_toArray, List.set_cons_zero, List.set_cons_succ]
      refine wpAnyH_ready (rs := [4, 10]) (by kernel_rfl) (by simp) ?_
      refine AllReadyH.cons rfl (fun K hK => ?_) (AllReadyH.cons rfl (fun K hK => ?_) AllReadyH.nil)
      · try simp only [List.getElem_toArray, List.getElem_cons_zero, List.getElem_cons_succ]
        go_simp
        refine (HS1.out _).mono ?_
        rintro e wn ⟨rfl, hbn⟩
        have AB := AB.trans (hbn.mono (AB.size))
        replace HA1 := Lib.hid (HA1.out.keep hbn)
        replace HP1 := Lib.hid (HP1.out.keep hbn)
        try replace HXB := Lib.hid (HXB.out.keep hbn)
        try replace HYB := Lib.hid (HYB.out.keep hbn)
        clear hbn
        go_wp2_with fail
        refine hK.out _ _ (⟨HA1.out.cell 0 rfl, HA1.out.cell 1 rfl, HA1.out.cell 2 rfl, HA1.out.cell 3 rfl, HP1.out.cell 0 rfl, HP1.out.cell 1 rfl, HP1.out.cell 2 rfl, HP1.out.cell 3 rfl⟩) (fun hHeld => ?_)
        clear hK K
        try simp only [List.getElem_toArray, List.getElem_cons_zero, List.getElem_cons_succ, Act.put, List.setIfInBounds_toArray, List.set_cons_zero, List.set_cons_succ]
        refine wpAnyH_ready (rs := [9, 10]) (by kernel_rfl) (by simp) ?_
        refine AllReadyH.cons rfl (fun K hK => ?_) (AllReadyH.cons rfl (fun K hK => ?_) AllReadyH.nil)
        · try simp only [List.getElem_toArray, List.getElem_cons_zero, List.getElem_cons_succ]
          go_simp
          refine (HS2.out _).mono ?_
          rintro e wn ⟨rfl, hbn⟩
          have AB := AB.trans (hbn.mono (AB.size))
          replace HA1 := Lib.hid (HA1.out.keep hbn)
          replace HP1 := Lib.hid (HP1.out.keep hbn)
          try replace HXB := Lib.hid (HXB.out.keep hbn)
          try replace HYB := Lib.hid (HYB.out.keep hbn)
          clear hbn
          go_wp2_with fail
          refine hK.out _ _ (⟨HA1.out.cell 0 rfl, HA1.out.cell 1 rfl, HA1.out.cell 2 rfl, HA1.out.cell 3 rfl, HP1.out.cell 0 rfl, HP1.out.cell 1 rfl, HP1.out.cell 2 rfl, HP1.out.cell 3 rfl⟩) (fun hHeld => ?_)
          clear hK K
          try simp only [List.getElem_toArray, List.getElem_cons_zero, List.getElem_cons_succ, Act.put, List.setIfInBounds_toArray, List.set_cons_zero, List.set_cons_succ]
          refine wpAnyH_ready (rs := [10]) (by kernel_rfl) (by simp) ?_
          refine AllReadyH.cons rfl (fun K hK => ?_) AllReadyH.nil
          try simp only [List.getElem_toArray, List.getElem_cons_zero, List.getElem_cons_succ]
          go_simp
          obtain ⟨gX, hgX, hgX1, hBn, hAn, hKn⟩ := pnew_ex AB (Nat.le_refl _) 59 [.int .i64 0, .int .i64 0]
          have hgX2 : w.heap.size + 1 < gX := by rw [← hgX]; exact HP1.out.lt
          have hgxy : gY < gX := by rw [← hgX]; exact HYB.out.lt
          replace HYB := Lib.hid (HYB.out.keep hKn)
          try simp only [World.size_alloc] at hgX
          rw [hgX]
          have HXB := Lib.hid hBn
          replace HA1 := Lib.hid (HA1.out.keep hKn)
          replace HP1 := Lib.hid (HP1.out.keep hKn)
          have AB := hAn
          clear hBn hAn hKn hgX
          refine hK.out _ _ (⟨HA1.out.cell 0 rfl, HA1.out.cell 1 rfl, HA1.out.cell 2 rfl, HA1.out.cell 3 rfl, HP1.out.cell 0 rfl, HP1.out.cell 1 rfl, HP1.out.cell 2 rfl, HP1.out.cell 3 rfl⟩) (fun hHeld => ?_)
          clear hK K
          try simp only [List.getElem_toArray, List.getElem_cons_zero, List.getElem_cons_succ, Act.put, List.setIfInBounds_toArray, List.set_cons_zero, List.set_cons_succ]
          refine wpAnyH_ready (rs := [12]) (by kernel_rfl) (by simp) ?_
          refine AllReadyH.cons rfl (fun K hK => ?_) AllReadyH.nil
          try simp only [List.getElem_toArray, List.getElem_cons_zero, List.getElem_cons_succ]
          have x0 := HXB.out.cell 0 rfl
          have x1 := HXB.out.cell 1 rfl
          have xf := HXB.out.frozen
          have xl := HXB.out.lt
          go_simp
          replace HXB : Hid (Blk _ gX 59 [.int .i64 u0, .int .i64 u1]) := Lib.hid (blk_put2 HXB.out)
          replace HYB := Lib.hid (blk_oth2 (g := gX) (x := .int .i64 u0) (y := .int .i64 u1) HYB.out (by omega))
          replace HA1 := Lib.hid (blk_oth2 (g := gX) (x := .int .i64 u0) (y := .int .i64 u1) HA1.out (by omega))
          replace HP1 := Lib.hid (blk_oth2 (g := gX) (x := .int .i64 u0) (y := .int .i64 u1) HP1.out (by omega))
          have AB := below_put2 (g := gX) (x := .int .i64 u0) (y := .int .i64 u1) AB hgX1
          clear x0 x1 xf xl
          refine hK.out _ _ (⟨HA1.out.cell 0 rfl, HA1.out.cell 1 rfl, HA1.out.cell 2 rfl, HA1.out.cell 3 rfl, HP1.out.cell 0 rfl, HP1.out.cell 1 rfl, HP1.out.cell 2 rfl, HP1.out.cell 3 rfl⟩) (fun hHeld => ?_)
          clear hK K
          try simp only [List.getElem_toArray, List.getElem_cons_zero, List.getElem_cons_succ, Act.put, List.setIfInBounds_toArray, List.set_cons_zero, List.set_cons_succ]
          refine wpAnyH_ready (rs := [13]) (by kernel_rfl) (by simp) ?_
          refine AllReadyH.cons rfl (fun K hK => ?_) AllReadyH.nil
          try simp only [List.getElem_toArray, List.getElem_cons_zero, List.getElem_cons_succ]
          have x0 := HYB.out.cell 0 rfl
          have x1 := HYB.out.cell 1 rfl
          have xf := HYB.out.frozen
          have xl := HYB.out.lt
          go_simp
          replace HYB : Hid (Blk _ gY 59 [.int .i64 v0, .int .i64 v1]) := Lib.hid (blk_put2 HYB.out)
          replace HXB := Lib.hid (blk_oth2 (g := gY) (x := .int .i64 v0) (y := .int .i64 v1) HXB.out (by omega))
          replace HA1 := Lib.hid (blk_oth2 (g := gY) (x := .int .i64 v0) (y := .int .i64 v1) HA1.out (by omega))
          replace HP1 := Lib.hid (blk_oth2 (g := gY) (x := .int .i64 v0) (y := .int .i64 v1) HP1.out (by omega))
          have AB := below_put2 (g := gY) (x := .int .i64 v0) (y := .int .i64 v1) AB hgY1
          clear x0 x1 xf xl
          refine hK.out _ _ (⟨HA1.out.cell 0 rfl, HA1.out.cell 1 rfl, HA1.out.cell 2 rfl, HA1.out.cell 3 rfl, HP1.out.cell 0 rfl, HP1.out.cell 1 rfl, HP1.out.cell 2 rfl, HP1.out.cell 3 rfl⟩) (fun hHeld => ?_)
          clear hK K
          try simp only [List.getElem_toArray, List.getElem_cons_zero, List.getElem_cons_succ, Act.put, List.setIfInBounds_toArray, List.set_cons_zero, List.set_cons_succ]
          refine wpAnyH_done (by kernel_rfl) ?_ _
          go_wp2_with fail
          go_meet
          exact ⟨gX, gY, rfl, rfl, HXB, HYB, Lib.hid AB⟩
        · try simp only [List.getElem_toArray, List.getElem_cons_zero, List.getElem_cons_succ]
          go_simp
          obtain ⟨gX, hgX, hgX1, hBn, hAn, hKn⟩ := pnew_ex AB (Nat.le_refl _) 59 [.int .i64 0, .int .i64 0]
          have hgX2 : w.heap.size + 1 < gX := by rw [← hgX]; exact HP1.out.lt
          have hgxy : gY < gX := by rw [← hgX]; exact HYB.out.lt
          replace HYB := Lib.hid (HYB.out.keep hKn)
          try simp only [World.size_alloc] at hgX
          rw [hgX]
          have HXB := Lib.hid hBn
          replace HA1 := Lib.hid (HA1.out.keep hKn)
          replace HP1 := Lib.hid (HP1.out.keep hKn)
          have AB := hAn
          clear hBn hAn hKn hgX
          refine hK.out _ _ (⟨HA1.out.cell 0 rfl, HA1.out.cell 1 rfl, HA1.out.cell 2 rfl, HA1.out.cell 3 rfl, HP1.out.cell 0 rfl, HP1.out.cell 1 rfl, HP1.out.cell 2 rfl, HP1.out.cell 3 rfl⟩) (fun hHeld => ?_)
          clear hK K
          try simp only [List.getElem_toArray, List.getElem_cons_zero, List.getElem_cons_succ, Act.put, List.setIfInBounds_toArray, List.set_cons_zero, List.set_cons_succ]
          refine wpAnyH_ready (rs := [9]) (by kernel_rfl) (by simp) ?_
          refine AllReadyH.cons rfl (fun K hK => ?_) AllReadyH.nil
          try simp only [List.getElem_toArray, List.getElem_cons_zero, List.getElem_cons_succ]
          go_simp
          refine (HS2.out _).mono ?_
          rintro e wn ⟨rfl, hbn⟩
          have AB := AB.trans (hbn.mono (AB.size))
          replace HA1 := Lib.hid (HA1.out.keep hbn)
          replace HP1 := Lib.hid (HP1.out.keep hbn)
          try replace HXB := Lib.hid (HXB.out.keep hbn)
          try replace HYB := Lib.hid (HYB.out.keep hbn)
          clear hbn
          go_wp2_with fail
          refine hK.out _ _ (⟨HA1.out.cell 0 rfl, HA1.out.cell 1 rfl, HA1.out.cell 2 rfl, HA1.out.cell 3 rfl, HP1.out.cell 0 rfl, HP1.out.cell 1 rfl, HP1.out.cell 2 rfl, HP1.out.cell 3 rfl⟩) (fun hHeld => ?_)
          clear hK K
          try simp only [List.getElem_toArray, List.getElem_cons_zero, List.getElem_cons_succ, Act.put, List.setIfInBounds_toArray, List.set_cons_zero, List.set_cons_succ]
          refine wpAnyH_ready (rs := [12]) (by kernel_rfl) (by simp) ?_
          refine AllReadyH.cons rfl (fun K hK => ?_) AllReadyH.nil
          try simp only [List.getElem_toArray, List.getElem_cons_zero, List.getElem_cons_succ]
          have x0 := HXB.out.cell 0 rfl
          have x1 := HXB.out.cell 1 rfl
          have xf := HXB.out.frozen
          have xl := HXB.out.lt
          go_simp
          replace HXB : Hid (Blk _ gX 59 [.int .i64 u0, .int .i64 u1]) := Lib.hid (blk_put2 HXB.out)
          replace HYB := Lib.hid (blk_oth2 (g := gX) (x := .int .i64 u0) (y := .int .i64 u1) HYB.out (by omega))
          replace HA1 := Lib.hid (blk_oth2 (g := gX) (x := .int .i64 u0) (y := .int .i64 u1) HA1.out (by omega))
          replace HP1 := Lib.hid (blk_oth2 (g := gX) (x := .int .i64 u0) (y := .int .i64 u1) HP1.out (by omega))
          have AB := below_put2 (g := gX) (x := .int .i64 u0) (y := .int .i64 u1) AB hgX1
          clear x0 x1 xf xl
          refine hK.out _ _ (⟨HA1.out.cell 0 rfl, HA1.out.cell 1 rfl, HA1.out.cell 2 rfl, HA1.out.cell 3 rfl, HP1.out.cell 0 rfl, HP1.out.cell 1 rfl, HP1.out.cell 2 rfl, HP1.out.cell 3 rfl⟩) (fun hHeld => ?_)
          clear hK K
          try simp only [List.getElem_toArray, List.getElem_cons_zero, List.getElem_cons_succ, Act.put, List.setIfInBounds_toArray, List.set_cons_zero, List.set_cons_succ]
          refine wpAnyH_ready (rs := [13]) (by kernel_rfl) (by simp) ?_
          refine AllReadyH.cons rfl (fun K hK => ?_) AllReadyH.nil
          try simp only [List.getElem_toArray, List.getElem_cons_zero, List.getElem_cons_succ]
          have x0 := HYB.out.cell 0 rfl
          have x1 := HYB.out.cell 1 rfl
          have xf := HYB.out.frozen
          have xl := HYB.out.lt
          go_simp
          replace HYB : Hid (Blk _ gY 59 [.int .i64 v0, .int .i64 v1]) := Lib.hid (blk_put2 HYB.out)
          replace HXB := Lib.hid (blk_oth2 (g := gY) (x := .int .i64 v0) (y := .int .i64 v1) HXB.out (by omega))
          replace HA1 := Lib.hid (blk_oth2 (g := gY) (x := .int .i64 v0) (y := .int .i64 v1) HA1.out (by omega))
          replace HP1 := Lib.hid (blk_oth2 (g := gY) (x := .int .i64 v0) (y := .int .i64 v1) HP1.out (by omega))
          have AB := below_put2 (g := gY) (x := .int .i64 v0) (y := .int .i64 v1) AB hgY1
          clear x0 x1 xf xl
          refine hK.out _ _ (⟨HA1.out.cell 0 rfl, HA1.out.cell 1 rfl, HA1.out.cell 2 rfl, HA1.out.cell 3 rfl, HP1.out.cell 0 rfl, HP1.out.cell 1 rfl, HP1.out.cell 2 rfl, HP1.out.cell 3 rfl⟩) (fun hHeld => ?_)
          clear hK K
          try simp only [List.getElem_toArray, List.getElem_cons_zero, List.getElem_cons_succ, Act.put, List.setIfInBounds_toArray, List.set_cons_zero, List.set_cons_succ]
          refine wpAnyH_done (by kernel_rfl) ?_ _
          go_wp2_with fail
          go_meet
          exact ⟨gX, gY, rfl, rfl, HXB, HYB, Lib.hid AB⟩
      · try simp only [List.getElem_toArray, List.getElem_cons_zero, List.getElem_cons_succ]
        go_simp
        obtain ⟨gX, hgX, hgX1, hBn, hAn, hKn⟩ := pnew_ex AB (Nat.le_refl _) 59 [.int .i64 0, .int .i64 0]
        have hgX2 : w.heap.size + 1 < gX := by rw [← hgX]; exact HP1.out.lt
        have hgxy : gY < gX := by rw [← hgX]; exact HYB.out.lt
        replace HYB := Lib.hid (HYB.out.keep hKn)
        try simp only [World.size_alloc] at hgX
        rw [hgX]
        have HXB := Lib.hid hBn
        replace HA1 := Lib.hid (HA1.out.keep hKn)
        replace HP1 := Lib.hid (HP1.out.keep hKn)
        have AB := hAn
        clear hBn hAn hKn hgX
        refine hK.out _ _ (⟨HA1.out.cell 0 rfl, HA1.out.cell 1 rfl, HA1.out.cell 2 rfl, HA1.out.cell 3 rfl, HP1.out.cell 0 rfl, HP1.out.cell 1 rfl, HP1.out.cell 2 rfl, HP1.out.cell 3 rfl⟩) (fun hHeld => ?_)
        clear hK K
        try simp only [List.getElem_toArray, List.getElem_cons_zero, List.getElem_cons_succ, Act.put, List.setIfInBounds_toArray, List.set_cons_zero, List.set_cons_succ]
        refine wpAnyH_ready (rs := [4]) (by kernel_rfl) (by simp) ?_
        refine AllReadyH.cons rfl (fun K hK => ?_) AllReadyH.nil
        try simp only [List.getElem_toArray, List.getElem_cons_zero, List.getElem_cons_succ]
        go_simp
        refine (HS1.out _).mono ?_
        rintro e wn ⟨rfl, hbn⟩
        have AB := AB.trans (hbn.mono (AB.size))
        replace HA1 := Lib.hid (HA1.out.keep hbn)
        replace HP1 := Lib.hid (HP1.out.keep hbn)
        try replace HXB := Lib.hid (HXB.out.keep hbn)
        try replace HYB := Lib.hid (HYB.out.keep hbn)
        clear hbn
        go_wp2_with fail
        refine hK.out _ _ (⟨HA1.out.cell 0 rfl, HA1.out.cell 1 rfl, HA1.out.cell 2 rfl, HA1.out.cell 3 rfl, HP1.out.cell 0 rfl, HP1.out.cell 1 rfl, HP1.out.cell 2 rfl, HP1.out.cell 3 rfl⟩) (fun hHeld => ?_)
        clear hK K
        try simp only [List.getElem_toArray, List.getElem_cons_zero, List.getElem_cons_succ, Act.put, List.setIfInBounds_toArray, List.set_cons_zero, List.set_cons_succ]
        refine wpAnyH_ready (rs := [9]) (by kernel_rfl) (by simp) ?_
        refine AllReadyH.cons rfl (fun K hK => ?_) AllReadyH.nil
        try simp only [List.getElem_toArray, List.getElem_cons_zero, List.getElem_cons_succ]
        go_simp
        refine (HS2.out _).mono ?_
        rintro e wn ⟨rfl, hbn⟩
        have AB := AB.trans (hbn.mono (AB.size))
        replace HA1 := Lib.hid (HA1.out.keep hbn)
        replace HP1 := Lib.hid (HP1.out.keep hbn)
        try replace HXB := Lib.hid (HXB.out.keep hbn)
        try replace HYB := Lib.hid (HYB.out.keep hbn)
        clear hbn
        go_wp2_with fail
        refine hK.out _ _ (⟨HA1.out.cell 0 rfl, HA1.out.cell 1 rfl, HA1.out.cell 2 rfl, HA1.out.cell 3 rfl, HP1.out.cell 0 rfl, HP1.out.cell 1 rfl, HP1.out.cell 2 rfl, HP1.out.cell 3 rfl⟩) (fun hHeld => ?_)
        clear hK K
        try simp only [List.getElem_toArray, List.getElem_cons_zero, List.getElem_cons_succ, Act.put, List.setIfInBounds_toArray, List.set_cons_zero, List.set_cons_succ]
        refine wpAnyH_ready (rs := [12]) (by kernel_rfl) (by simp) ?_
        refine AllReadyH.cons rfl (fun K hK => ?_) AllReadyH.nil
        try simp only [List.getElem_toArray, List.getElem_cons_zero, List.getElem_cons_succ]
        have x0 := HXB.out.cell 0 rfl
        have x1 := HXB.out.cell 1 rfl
        have xf := HXB.out.frozen
        have xl := HXB.out.lt
        go_simp
        replace HXB : Hid (Blk _ gX 59 [.int .i64 u0, .int .i64 u1]) := Lib.hid (blk_put2 HXB.out)
        replace HYB := Lib.hid (blk_oth2 (g := gX) (x := .int .i64 u0) (y := .int .i64 u1) HYB.out (by omega))
        replace HA1 := Lib.hid (blk_oth2 (g := gX) (x := .int .i64 u0) (y := .int .i64 u1) HA1.out (by omega))
        replace HP1 := Lib.hid (blk_oth2 (g := gX) (x := .int .i64 u0) (y := .int .i64 u1) HP1.out (by omega))
        have AB := below_put2 (g := gX) (x := .int .i64 u0) (y := .int .i64 u1) AB hgX1
        clear x0 x1 xf xl
        refine hK.out _ _ (⟨HA1.out.cell 0 rfl, HA1.out.cell 1 rfl, HA1.out.cell 2 rfl, HA1.out.cell 3 rfl, HP1.out.cell 0 rfl, HP1.out.cell 1 rfl, HP1.out.cell 2 rfl, HP1.out.cell 3 rfl⟩) (fun hHeld => ?_)
        clear hK K
        try simp only [List.getElem_toArray, List.getElem_cons_zero, List.getElem_cons_succ, Act.put, List.setIfInBounds_toArray, List.set_cons_zero, List.set_cons_succ]
        refine wpAnyH_ready (rs := [13]) (by kernel_rfl) (by simp) ?_
        refine AllReadyH.cons rfl (fun K hK => ?_) AllReadyH.nil
        try simp only [List.getElem_toArray, List.getElem_cons_zero, List.getElem_cons_succ]
        have x0 := HYB.out.cell 0 rfl
        have x1 := HYB.out.cell 1 rfl
        have xf := HYB.out.frozen
        have xl := HYB.out.lt
        go_simp
        replace HYB : Hid (Blk _ gY 59 [.int .i64 v0, .int .i64 v1]) := Lib.hid (blk_put2 HYB.out)
        replace HXB := Lib.hid (blk_oth2 (g := gY) (x := .int .i64 v0) (y := .int .i64 v1) HXB.out (by omega))
        replace HA1 := Lib.hid (blk_oth2 (g := gY) (x := .int .i64 v0) (y := .int .i64 v1) HA1.out (by omega))
        replace HP1 := Lib.hid (blk_oth2 (g := gY) (x := .int .i64 v0) (y := .int .i64 v1) HP1.out (by omega))
        have AB := below_put2 (g := gY) (x := .int .i64 v0) (y := .int .i64 v1) AB hgY1
        clear x0 x1 xf xl
        refine hK.out _ _ (⟨HA1.out.cell 0 rfl, HA1.out.cell 1 rfl, HA1.out.cell 2 rfl, HA1.out.cell 3 rfl, HP1.out.cell 0 rfl, HP1.out.cell 1 rfl, HP1.out.cell 2 rfl, HP1.out.cell 3 rfl⟩) (fun hHeld => ?_)
        clear hK K
        try simp only [List.getElem_toArray, List.getElem_cons_zero, List.getElem_cons_succ, Act.put, List.setIfInBounds_toArray, List.set_cons_zero, List.set_cons_succ]
        refine wpAnyH_done (by kernel_rfl) ?_ _
        go_wp2_with fail
        go_meet
        exact ⟨gX, gY, rfl, rfl, HXB, HYB, Lib.hid AB⟩
  case rest =>
    obtain ⟨gx, gy, rfl, rfl, HXB, HYB, HB2⟩ := hcut
    go_wp2_with fail
    have hd : Below wc.heap.size wc wc.drew := (Below.refl _ wc).drew
    have AB := HB2.out.drew
    replace HXB := Lib.hid (HXB.out.keep hd)
    replace HYB := Lib.hid (HYB.out.keep hd)
    clear hd HB2
    refine wp_region_held_drew (S := fun wx => wx.cell? ⟨gx, 0, none⟩ = some (.int .i64 u0) ∧ wx.cell? ⟨gx, 1, none⟩ = some (.int .i64 u1) ∧ wx.cell? ⟨gy, 0, none⟩ = some (.int .i64 v0) ∧ wx.cell? ⟨gy, 1, none⟩ = some (.int .i64 v1)) (by kernel_rfl) (⟨HXB.out.cell 0 rfl, HXB.out.cell 1 rfl, HYB.out.cell 0 rfl, HYB.out.cell 1 rfl⟩) (fun hHeld => ?_)
    refine wpAnyH_take (i := 0) (v := ?_) rfl (by kernel_rfl) (by kernel_rfl) (by kernel_rfl) (fun _ _ _ h => h) (Or.inl ⟨by rfl, ?_⟩) hHeld ?_
    rotate_left
    · intro w hSw
      (try dsimp only at hSw)
      (try simp only [List.getElem_toArray, List.getElem_cons_zero])
      go_simp
      all_goals with_reducible rfl
    try simp only [List.getElem_toArray, List.getElem_cons_zero, Act.put, List.setIfInBounds_toArray, List.set_cons_zero, List.set_cons_succ]
    refine wpAnyH_take (i := 1) (v := ?_) rfl (by kernel_rfl) (by kernel_rfl) (by kernel_rfl) (fun _ _ _ h => h) (Or.inl ⟨by rfl, ?_⟩) hHeld ?_
    rotate_left
    · intro w hSw
      (try dsimp only at hSw)
      (try simp only [List.getElem_toArray, List.getElem_cons_zero, List.getElem_cons_succ])
      go_simp
      all_goals with_reducible rfl
    try simp only [List.getElem_toArray, List.getElem_cons_zero, List.getElem_cons_succ, Act.put, List.setIfInBounds_toArray, List.set_cons_zero, List.set_cons_succ]
    refine wpAnyH_take (i := 3) (v := ?_) rfl (by kernel_rfl) (by kernel_rfl) (by kernel_rfl) (fun _ _ _ h => h) (Or.inl ⟨by rfl, ?_⟩) hHeld ?_
    rotate_left
    · intro w hSw
      (try dsimp only at hSw)
      (try simp only [List.getElem_toArray, List.getElem_cons_zero, List.getElem_cons_succ])
      go_simp
      all_goals with_reducible rfl
    try simp only [List.getElem_toArray, List.getElem_cons_zero, List.getElem_cons_succ, Act.put, List.setIfInBounds_toArray, List.set_cons_zero, List.set_cons_succ]
    refine wpAnyH_take (i := 4) (v := ?_) rfl (by kernel_rfl) (by kernel_rfl) (by kernel_rfl) (fun _ _ _ h => h) (Or.inl ⟨by rfl, ?_⟩) hHeld ?_
    rotate_left
    · intro w hSw
      (try dsimp only at hSw)
      (try simp only [List.getElem_toArray, List.getElem_cons_zero, List.getElem_cons_succ])
      go_simp
      all_goals with_reducible rfl
    try simp only [List.getElem_toArray, List.getElem_cons_zero, List.getElem_cons_succ, Act.put, List.setIfInBounds_toArray, List.set_cons_zero, List.set_cons_succ]
    refine wpAnyH_ready (rs := [2]) (by kernel_rfl) (by simp) ?_
    refine AllReadyH.cons rfl (fun K hK => ?_) AllReadyH.nil
    try simp only [List.getElem_toArray, List.getElem_cons_zero, List.getElem_cons_succ]
    go_simp
    refine (HC.out _).mono ?_
    rintro e wn ⟨rfl, hbn⟩
    have AB := AB.trans (hbn.mono (AB.size))
    replace HXB := Lib.hid (HXB.out.keep hbn)
    replace HYB := Lib.hid (HYB.out.keep hbn)
    clear hbn
    go_wp2_with fail
    refine hK.out _ _ (⟨HXB.out.cell 0 rfl, HXB.out.cell 1 rfl, HYB.out.cell 0 rfl, HYB.out.cell 1 rfl⟩) (fun hHeld => ?_)
    clear hK K
    try simp only [List.getElem_toArray, List.getElem_cons_zero, List.getElem_cons_succ, Act.put, List.setIfInBounds_toArray, List.set_cons_zero, List.set_cons_succ]
    refine wpAnyH_ready (rs := [5]) (by kernel_rfl) (by simp) ?_
    refine AllReadyH.cons rfl (fun K hK => ?_) AllReadyH.nil
    try simp only [List.getElem_toArray, List.getElem_cons_zero, List.getElem_cons_succ]
    go_simp
    refine (HD.out _).mono ?_
    rintro e wn ⟨rfl, hbn⟩
    have AB := AB.trans (hbn.mono (AB.size))
    replace HXB := Lib.hid (HXB.out.keep hbn)
    replace HYB := Lib.hid (HYB.out.keep hbn)
    clear hbn
    go_wp2_with fail
    refine hK.out _ _ (⟨HXB.out.cell 0 rfl, HXB.out.cell 1 rfl, HYB.out.cell 0 rfl, HYB.out.cell 1 rfl⟩) (fun hHeld => ?_)
    clear hK K
    try simp only [List.getElem_toArray, List.getElem_cons_zero, List.getElem_cons_succ, Act.put, List.setIfInBounds_toArray, List.set_cons_zero, List.set_cons_succ]
    refine wpAnyH_take (i := 6) (v := ?_) rfl (by kernel_rfl) (by kernel_rfl) (by kernel_rfl) (fun _ _ _ h => h) (Or.inl ⟨by rfl, ?_⟩) hHeld ?_
    rotate_left
    · intro w hSw
      (try dsimp only at hSw)
      (try simp only [List.getElem_toArray, List.getElem_cons_zero, List.getElem_cons_succ])
      go_simp
      all_goals with_reducible rfl
    try simp only [List.getElem_toArray, List.getElem_cons_zero, List.getElem_cons_succ, Act.put, List.setIfInBounds_toArray, List.set_cons_zero, List.set_cons_succ]
    refine wpAnyH_take (i := 7) (v := ?_) rfl (by kernel_rfl) (by kernel_rfl) (by kernel_rfl) (fun _ _ _ h => h) (Or.inl ⟨by rfl, ?_⟩) hHeld ?_
    rotate_left
    · intro w hSw
      (try dsimp only at hSw)
      (try simp only [List.getElem_toArray, List.getElem_cons_zero, List.getElem_cons_succ])
      go_simp
      all_goals with_reducible rfl
    try simp only [List.getElem_toArray, List.getElem_cons_zero, List.getElem_cons_succ, Act.put, List.setIfInBounds_toArray, List.set_cons_zero, List.set_cons_succ]
    refine wpAnyH_done (by kernel_rfl) ?_ _
    clear HXB HYB hHeld
    go_wp2_with fail
    all_goals go_ret
    all_goals refine ⟨ret_bool ?_, AB⟩
    all_goals rw [Bool.eq_iff_iff]
    all_goals simp only [Bool.or_eq_true, decide_eq_true_eq]
    all_goals omega

/-- P11.1, by the program. -/
theorem pis_any (a b : Ed) (ha : InD a) (hb : InD b) (w : World) :
    Calls Try.prog 72 #[.agg #[.int .i64 a.a.x, .int .i64 a.a.y, .int .i64 a.b.x, .int .i64 a.b.y], .agg #[.int .i64 b.a.x, .int .i64 b.a.y, .int .i64 b.b.x, .int .i64 b.b.y]] w fun e w' => e = .returned (.bool (isC a b)) ∧ Below w.heap.size w w' := by
  obtain ⟨⟨a1, a2⟩, a3, a4⟩ := ha
  obtain ⟨⟨b1, b2⟩, b3, b4⟩ := hb
  have x : (a.b.x - a.a.x).natAbs ≤ 16384 := by omega
  have y : (a.b.y - a.a.y).natAbs ≤ 16384 := by omega
  have z : (b.b.x - b.a.x).natAbs ≤ 16384 := by omega
  have v : (b.b.y - b.a.y).natAbs ≤ 16384 := by omega
  have m : ∀ p q : Int, p.natAbs ≤ 16384 → q.natAbs ≤ 16384 → (p * q).natAbs ≤ 268435456 := fun p q hp hq => by rw [Int.natAbs_mul]; exact Nat.mul_le_mul hp hq
  have m1 := m _ _ x v
  have m2 := m _ _ y z
  have k : ∀ P Q : Int, P.natAbs ≤ 268435456 → Q.natAbs ≤ 268435456 → (P - Q).natAbs ≤ 1000000000 := fun P Q _ _ => by omega
  rw [← is_word]
  exact pis_raw _ _ _ _ _ _ _ _ (a.b.x - a.a.x) (a.b.y - a.a.y) (b.b.x - b.a.x) (b.b.y - b.a.y) (crC a b) (dtC a b) (Lib.hid (fun w => sub_any _ _ _ _ (by omega) w)) (Lib.hid (fun w => sub_any _ _ _ _ (by omega) w)) (Lib.hid (fun w => cross_any _ _ _ _ (by omega) w)) (Lib.hid (fun w => dot_any _ _ _ _ (by omega) w)) (k _ _ m1 m2) w

end Go.Proofs.Ytnpklcmbiamocaa

namespace Go.Proofs.Ytnpklcmbiamocaa
open Go.RowKit

set_option maxRecDepth 100000 in
set_option maxHeartbeats 3200000 in
theorem pcorners_any (ve : Value) (es : List Ed) (w : World) (hv : ERd w ve es) (hl : es.length ≤ 200000) (hin : ∀ s ∈ es, InD s) :
    Calls Try.prog 52 #[ve] w fun e w' => ∃ V, e = .returned V ∧ NRow w' w.heap.size V (cornersL es) ∧ Below w.heap.size w w' := by
  obtain ⟨A, cap, he, hce, -⟩ := id hv
  subst he
  have HV := Lib.hid hv
  have HI := Lib.hid hin
  obtain ⟨n, hN⟩ : ∃ N, es.length = N := ⟨_, rfl⟩
  have HN := Lib.hid hN
  rw [hN] at hv hl hce HV
  rw [hN]
  obtain ⟨i0, hi0, hz0, hz1, hz2⟩ := infos ninfo
  clear hv hin hN
  go_enter Try.func52, Try.ntmps52
  go_wp2_with fail
  go_loopw [9, 3] (fun i u wr => ∃ r : Nat, r ≤ n ∧ i = .int .i64 r ∧ Hid (NRow wr w.heap.size u (cornersTo es r)) ∧ Hid (Below w.heap.size w wr)) (fun i _ _ => n - (intOf i).toNat)
  case atStart => exact ⟨0, Nat.zero_le _, rfl, Lib.hid (NRow.nil _ _), Lib.hid (Below.refl _ _)⟩
  case round =>
    obtain ⟨r, hr, rfl, HR, HB⟩ := hrel
    by_cases hrn : r < n
    · have hrb : decide ((r : Int) < n) = true := by simp; omega
      obtain ⟨k, hk, hkn, hkm⟩ : ∃ k : Nat, (if r = 0 then n - 1 else r - 1) = k ∧ k < n ∧ ((r : Int) + n - 1).tmod n = (k : Int) := by
        refine ⟨_, rfl, by split <;> omega, ?_⟩
        rw [show (r : Int) + n - 1 = ((r + n - 1 : Nat) : Int) by omega, ← Int.ofNat_tmod]
        congr 1
        by_cases h0 : r = 0
        · subst h0; rw [if_pos rfl, Nat.zero_add, Nat.mod_eq_of_lt (by omega)]
        · rw [if_neg h0, show r + n - 1 = (r - 1) + n by omega, Nat.add_mod_right, Nat.mod_eq_of_lt (by omega)]
      obtain ⟨P, hP⟩ : ∃ c, es[k]? = some c := ⟨_, List.getElem?_eq_getElem (by rw [HN.out]; omega)⟩
      obtain ⟨E, hE⟩ : ∃ c, es[r]? = some c := ⟨_, List.getElem?_eq_getElem (by rw [HN.out]; omega)⟩
      have HIE := Lib.hid (HI.out E (List.mem_of_getElem? hE))
      have HIP := Lib.hid (HI.out P (List.mem_of_getElem? hP))
      have HAT : Hid (isC P E = atC es r) := Lib.hid (by
        unfold atC
        rw [HN.out, hk, List.getD_eq_getElem?_getD, List.getD_eq_getElem?_getD, hP, hE]
        rfl)
      have HIS := Lib.hid (fun w => pis_any P E HIP.out HIE.out w)
      rw [HAT.out] at HIS
      have HCS := Lib.hid (cornersTo_succ es r)
      obtain ⟨a, rfl, hal, e0, e1, e2, e3⟩ := (HV.out.keep HB.out).at r E hE
      have h1 : Below wr.heap.size wr (wr.alloc (.cells #[.int .i64 E.a.x, .int .i64 E.a.y, .int .i64 E.b.x, .int .i64 E.b.y] 70)) := (Below.refl _ _).alloc (Nat.le_refl _) _
      have HB4 := Lib.hid (below2 HB.out h1)
      obtain ⟨_, e, hap4, p0, p1, p2, p3⟩ := (HV.out.keep HB4.out).at k P hP
      cases e
      have z1 : IntKind.i64.wrap ((r : Int) + n) = r + n := wI (by omega) (by omega)
      have z2 : IntKind.i64.wrap ((r : Int) + n - 1) = r + n - 1 := wI (by omega) (by omega)
      have z3 : ((n : Int) == 0) = false := by simp; omega
      have z4 : IntKind.i64.wrap (k : Int) = k := wI (by omega) (by omega)
      have HE4 := Lib.hid (Blk.new wr 70 [.int .i64 E.a.x, .int .i64 E.a.y, .int .i64 E.b.x, .int .i64 E.b.y] rfl)
      have hb5 : Below wr.heap.size wr ((wr.alloc (.cells #[.int .i64 E.a.x, .int .i64 E.a.y, .int .i64 E.b.x, .int .i64 E.b.y] 70)).alloc (.cells #[.int .i64 P.a.x, .int .i64 P.a.y, .int .i64 P.b.x, .int .i64 P.b.y] 70)) := alloc2 _ _ _
      have HE5 := Lib.hid (HE4.out.alloc (.cells #[.int .i64 P.a.x, .int .i64 P.a.y, .int .i64 P.b.x, .int .i64 P.b.y] 70))
      have HP5 := Lib.hid (Blk.new (wr.alloc (.cells #[.int .i64 E.a.x, .int .i64 E.a.y, .int .i64 E.b.x, .int .i64 E.b.y] 70)) 70 [.int .i64 P.a.x, .int .i64 P.a.y, .int .i64 P.b.x, .int .i64 P.b.y] (g := wr.heap.size + 1) (by simp))
      have HB5 := Lib.hid (below2 HB.out hb5)
      have HR5 := Lib.hid (HR.out.below hb5)
      clear h1 hb5 HE4 hP hE hk
      go_upto_region 6 with fail
      clear HB4 hap4 p0 p1 p2 p3 hal e0 e1 e2 e3 z1 z2 z3 z4 hkm HR HB
      generalize (wr.alloc (.cells #[.int .i64 E.a.x, .int .i64 E.a.y, .int .i64 E.b.x, .int .i64 E.b.y] 70)).alloc (.cells #[.int .i64 P.a.x, .int .i64 P.a.y, .int .i64 P.b.x, .int .i64 P.b.y] 70) = w5 at *
      obtain ⟨X, hX⟩ : ∃ X, wr.heap.size = X := ⟨_, rfl⟩
      rw [hX] at HE5 HP5 ⊢
      clear hX
      have x0 := HE5.out.cell 0 rfl
      have x1 := HE5.out.cell 1 rfl
      have x2 := HE5.out.cell 2 rfl
      have x3 := HE5.out.cell 3 rfl
      have y0 := HP5.out.cell 0 rfl
      have y1 := HP5.out.cell 1 rfl
      have y2 := HP5.out.cell 2 rfl
      have y3 := HP5.out.cell 3 rfl
      go_wp2_with fail
      refine (HIS.out _).mono ?_
      rintro e wn ⟨rfl, hbn⟩
      have AB := below2 HB5.out hbn
      have HRX := Lib.hid (HR5.out.below hbn)
      clear HR5 HB5 HE5 HP5 hbn x0 x1 x2 x3 y0 y1 y2 y3 HIS HAT
      generalize atC es r = b at *
      cases b
      · have HC2 := Lib.hid (HCS.out.trans (if_neg (by simp)))
        clear HCS
        go_wp2_with fail
        exact ⟨⟨r + 1, hrn, by go_num, Lib.hid (by rw [HC2.out]; exact HRX.out), Lib.hid AB⟩, by simp [intOf]; omega⟩
      · have HC2 := Lib.hid (HCS.out.trans (if_pos rfl))
        obtain ⟨K, hK⟩ : ∃ K, (cornersTo es r).length = K := ⟨_, rfl⟩
        have hKb : K ≤ r := by rw [← hK]; exact cornersTo_len es r
        have HK := Lib.hid hK
        have HOwn := Lib.hid (HRX.out.own hK)
        obtain ⟨Au, capu, rfl⟩ := HRX.out.form
        rw [hK] at HOwn ⊢
        clear hK HCS HRX
        generalize cornersTo es r = cur at *
        have hsz := AB.size
        have HAB := Lib.hid AB
        have HNB := Lib.hid (heap_alloc_new wn (.cells #[.int .i64 (r : Int)] 3))
        clear AB
        go_wp2_with (at_builtin; refine wpList_append_lies _ rfl _ _ _ (by rfl) w.heap.size 3 i0 _ 1 8 Try.underlying28 hi0 hz0 hz1 hz2 (by rfl) (by omega) _ K _ (by rfl) (HOwn.out.alloc _) ⟨wn.heap.size, 0, none⟩ 1 1 [.int .i64 (r : Int)] (by rfl) (by rfl) (World.news_of_block HNB.out) (by simp [Value.oneCell']) (by omega) (by simp [maxLen]; omega) (by omega) (by simp; omega) (wn.heap.size + 1) (by simp) ?_; intro g cp w4 hown hgrow hat hlt)
        have BN : Below w.heap.size w w4 := (HAB.out.alloc HAB.out.size _).grown hgrow (by simp; omega) (fun q hq => (HOwn.out.lt q hq).1)
        exact ⟨⟨r + 1, hrn, by go_num, Lib.hid (by rw [HC2.out]; exact NRow.push1 HK.out hown), Lib.hid BN⟩, by simp [intOf]; omega⟩
    · obtain rfl : r = n := by omega
      obtain ⟨Au, capu, rfl⟩ := HR.out.form
      go_wp2_with fail
      go_ret
      exact ⟨_, rfl, by unfold cornersL; rw [HN.out]; exact HR.out, HB.out⟩

end Go.Proofs.Ytnpklcmbiamocaa

namespace Go.Proofs.Ytnpklcmbiamocaa
open Go.RowKit

set_option maxHeartbeats 400000 in
set_option maxRecDepth 100000 in
theorem bmul_any (x y : Nat) (hx : x < 18446744073709551616) (hy : y < 18446744073709551616) (w : World) :
    Calls Try.prog 73 #[.int .u64 x, .int .u64 y] w fun e w' => e = .returned (.tuple #[.int .u64 ((x * y / 18446744073709551616 : Nat) : Int), .int .u64 ((x * y % 18446744073709551616 : Nat) : Int)]) ∧ w = w' := by
  go_enter Try.func73, Try.ntmps73
  go_wp2_with (go_at_call 70; refine (mul64_any _ _ hx hy _).mono ?_; rintro e w' ⟨rfl, rfl⟩)
  go_ret2
  exact ⟨rfl, rfl⟩

/-- A row of which the first k are written. -/
def mixR (n k : Nat) (c : Int) : List Value := List.replicate k (.int .i64 c) ++ List.replicate (n - k) (.int .i64 0)
theorem mixR_len (n k : Nat) (c : Int) (h : k ≤ n) : (mixR n k c).length = n := by unfold mixR; simp; omega
theorem mixR_zero (n : Nat) (c : Int) : mixR n 0 c = List.replicate n (.int .i64 0) := by unfold mixR; simp
theorem mixR_full (n : Nat) (c : Int) : mixR n n c = List.replicate n (.int .i64 c) := by unfold mixR; simp
theorem mixR_splice (n k m : Nat) (c : Int) (h : k + m ≤ n) : splice (mixR n k c) k (List.replicate m (.int .i64 c)) = mixR n (k + m) c := by
  unfold splice mixR
  rw [List.take_append_of_le_length (by simp), List.take_of_length_le (by simp), List.length_replicate, List.drop_append, List.drop_of_length_le (by simp), List.nil_append, List.length_replicate, List.drop_replicate, ← List.append_assoc, List.replicate_append_replicate]
  congr 2
  omega
theorem mixR_at (n k j : Nat) (c : Int) (h : j < k) : (mixR n k c)[j]? = some (.int .i64 c) := by
  unfold mixR
  rw [List.getElem?_append_left (by simpa using h)]
  simp [h]
theorem row_blk {w : World} {g n : Nat} {xs : List Value} (h : w.ownsRow g 3 1 (.slice (some ⟨g, 0, none⟩) n n) n xs) : Blk w g 3 xs := by
  obtain ⟨h0, ⟨h1, -⟩ | ⟨g', cap, cur, h1, -, hg, -, -, hs, ht⟩⟩ := h
  · cases h1
  · simp only [Value.slice.injEq, Option.some.injEq, Addr.mk.injEq] at h1
    obtain ⟨⟨rfl, -, -⟩, -, rfl⟩ := h1
    rw [List.take_of_length_le (by rw [Array.length_toList]; omega)] at ht
    subst ht
    exact hg
theorem blk_row {w : World} {g n base : Nat} {l : List Nat} (h : Blk w g 3 (nvals l)) (hl : l.length = n) (hn : n ≤ 1000000) (hb : base ≤ g) : NRow w base (.slice (some ⟨g, 0, none⟩) n n) l := by
  subst hl
  refine ⟨by rw [nvals_length, Nat.mul_one], .inr ⟨g, _, _, rfl, hb, h, Nat.le_refl _, by unfold maxLen; omega, by simp [nvals_length], ?_⟩⟩
  rw [Nat.mul_one]
  simp only [List.take_of_length_le (show (nvals l).length ≤ l.length by rw [nvals_length]; exact Nat.le_refl _)]

theorem rstep_if {c : Bool} (hc : c = true) {P Q : Prop} (h : P) : if c = true then P else Q := by rw [if_pos hc]; exact h
/-- copy of ints that are all the same, into a block that is known whole. -/
theorem ncopy_wp {w : World} {o : Oper} {a : Act} {K : Act → World → Prop} {Q : Exit → Act → World → Prop} (hgd : o.guard = none) (d s : Operand)
    (ho : o.op = .call { callee := .builtin .copy, args := #[d, s], argTypes := #[28, 28] })
    (g off dLen dCap : Nat) (sp : Addr) (sLen sCap : Nat) (hd : a.eval d = .slice (some ⟨g, off, none⟩) dLen dCap) (hs : a.eval s = .slice (some sp) sLen sCap)
    (cur : List Value) (hg : Blk w g 3 cur) (m : Nat) (c : Int) (hm : m = Nat.min sLen dLen) (hsrc : ∀ j, j < m → w.cell? (sp.add j) = some (.int .i64 c)) (hfit : off + m ≤ cur.length) (B : Nat) (w0 : World) (hb : Below B w0 w) (hBg : B ≤ g)
    (h : ∀ w', Hid (Blk w' g 3 (splice cur off (List.replicate m (.int .i64 c)))) → Hid (Below B w0 w') → K (a.put o.dst (.int .i64 m)) w') :
    Oper.wp Try.prog o a w K Q := by
  have hw : Region.wanted o (yielded #[] a.tmps) = true := by simp [Region.wanted, hgd]
  have := step_copy_splice (P := Try.prog) (ops := #[]) (w := w) (o := o) (a := a) (K := K) (Q := Q) (E := True) hgd d s 28 28 ho 3 Try.underlying28 (by kernel_rfl) (some ⟨g, off, none⟩) (some sp) dLen dCap sLen sCap hd hs g off cur 3 hg (List.replicate m (.int .i64 c)) (by rw [List.length_replicate]; exact hm) (fun _ => ⟨rfl, sp, rfl, fun j v hj => by
    obtain ⟨h1, h2⟩ := List.getElem?_eq_some_iff.1 hj
    rw [List.length_replicate] at h1
    rw [List.getElem_replicate] at h2
    rw [← h2]
    exact hsrc j h1⟩) (by rw [List.length_replicate]; exact hfit) (fun v hv => by rw [(List.mem_replicate.1 hv).2]; rfl) B w0 hb hBg (fun w' h1 h2 => by
    rw [List.length_replicate]
    exact h w' (Lib.hid h1.out) (Lib.hid h2))
  rw [if_pos hw] at this
  exact this
theorem ncopy_list {w : World} {ops : Array Oper} {rest : List Oper} {o : Oper} {a : Act} {Q : Exit → Act → World → Prop} (hgd : o.guard = none) (d s : Operand)
    (ho : o.op = .call { callee := .builtin .copy, args := #[d, s], argTypes := #[28, 28] })
    (g off dLen dCap : Nat) (sp : Addr) (sLen sCap : Nat) (hd : a.eval d = .slice (some ⟨g, off, none⟩) dLen dCap) (hs : a.eval s = .slice (some sp) sLen sCap)
    (cur : List Value) (hg : Blk w g 3 cur) (m : Nat) (c : Int) (hm : m = Nat.min sLen dLen) (hsrc : ∀ j, j < m → w.cell? (sp.add j) = some (.int .i64 c)) (hfit : off + m ≤ cur.length) (B : Nat) (w0 : World) (hb : Below B w0 w) (hBg : B ≤ g)
    (h : ∀ w', Hid (Blk w' g 3 (splice cur off (List.replicate m (.int .i64 c)))) → Hid (Below B w0 w') → wpList Try.prog ops Q rest (a.put o.dst (.int .i64 m)) w') :
    wpList Try.prog ops Q (o :: rest) a w :=
  wpList_plain hgd fun _ hK => ncopy_wp hgd d s ho g off dLen dCap sp sLen sCap hd hs cur hg m c hm hsrc hfit B w0 hb hBg fun w' h1 h2 => hK _ _ (h w' h1 h2)

set_option maxHeartbeats 1600000 in
set_option maxRecDepth 100000 in
theorem repeat_any (n : Nat) (hn : n ≤ 200000) (a : Addr) (c : Nat) (w : World) (ha : w.cell? a = some (.int .i64 (c : Int))) :
    Calls Try.prog 53 #[.slice (some a) 1 1, .int .i64 n] w fun e w' => ∃ V, e = .returned V ∧ NRow w' w.heap.size V (List.replicate n c) ∧ Below w.heap.size w w' := by
  obtain ⟨i0, hi0, hz0, hz1, hz2⟩ := infos ninfo
  have HM := Lib.hid (fun w => bmul_any 1 n (by omega) (by omega) w)
  rw [show 1 * n / 18446744073709551616 = 0 by omega, show 1 * n % 18446744073709551616 = n by omega] at HM
  have hu : IntKind.u64.wrap (n : Int) = n := by rw [IntKind.wrap_u64]; omega
  have hi : IntKind.i64.wrap (n : Int) = n := wI (by omega) (by omega)
  obtain ⟨wm, hr, hown, hg⟩ := run_make_full (P := Try.prog) w w.heap.size 28 3 i0 _ 1 Try.underlying28 hi0 hz0 hz1 .i64 .i64 n (by rw [hz2]; omega) (by unfold maxLen; omega) (Nat.le_refl _)
  have Bm : Below w.heap.size w wm := (Below.refl _ w).grown hg (Nat.le_refl _) (fun q hq => by cases hq)
  have M0 : Hid (Blk wm w.heap.size 3 (mixR n 0 c)) := Lib.hid (by
    rw [show (Value.int IntKind.i64 0).cells = #[.int .i64 0] from rfl, Nat.mul_one, toList_madeCells_one] at hown
    rw [mixR_zero]
    exact row_blk hown)
  have HBm := Lib.hid Bm
  have HA := Lib.hid (keep Bm ha)
  have H1 := Lib.hid (show (Try.prog.info? 3).map (·.size) = some 1 by kernel_rfl)
  clear hown hg hi0 hz0 hz1 hz2 Bm
  go_enter Try.func53, Try.ntmps53
  go_wp2_with fail
  refine (HM.out _).mono ?_
  rintro e w1 ⟨rfl, rfl⟩
  have hb1 : decide ((9223372036854775807 : Int) < n) = false := by simp; omega
  have hb0 : decide ((n : Int) < 0) = false := by simp
  clear HM
  obtain ⟨k0, hk0, hk0n, hk1⟩ : ∃ k0 : Nat, min 1 n = k0 ∧ k0 ≤ n ∧ (n = 0 ∨ 1 ≤ k0) := ⟨_, rfl, by omega, by omega⟩
  have HN0 := Lib.hid (show k0 = Nat.min 1 n from hk0.symm)
  have HP0 := Lib.hid (show ∀ j, j < k0 → wm.cell? (a.add j) = some (.int .i64 (c : Int)) from fun j hj => by
    obtain rfl : j = 0 := by omega
    exact HA.out)
  have HF0 := Lib.hid (show 0 + k0 ≤ (mixR n 0 c).length by rw [mixR_len n 0 c (Nat.zero_le _)]; omega)
  clear hk0
  go_wp2_with (refine ncopy_list (o := ⟨some 33, _, _, _, _, _⟩) rfl (.tmp 31) (.tmp 32) rfl w.heap.size 0 n n a 1 1 rfl rfl (mixR n 0 c) M0.out k0 c HN0.out HP0.out HF0.out w.heap.size w HBm.out (Nat.le_refl _) ?_; intro w2 HG2 HB2)
  have HR2 := Lib.hid (show Blk w2 w.heap.size 3 (mixR n k0 c) from by have h := HG2.out; rw [mixR_splice n 0 k0 c (by omega), Nat.zero_add] at h; exact h)
  clear HG2 HN0 HP0 HF0 M0 HBm HA ha hu hi hr hb1 hb0
  go_loopw [8] (fun i wr => ∃ k : Nat, k ≤ n ∧ i = .int .i64 k ∧ (n = 0 ∨ 1 ≤ k) ∧ Hid (Blk wr w.heap.size 3 (mixR n k c)) ∧ Hid (Below w.heap.size w wr)) (fun i _ => n - (intOf i).toNat)
  case atStart => exact ⟨k0, hk0n, rfl, hk1, HR2, HB2⟩
  case round =>
    clear HR2 HB2 hk0n hk1
    obtain ⟨k, hk, rfl, hk1, HG, HB⟩ := hrel
    by_cases hkn : k < n
    · have hkb : decide ((k : Int) < n) = true := by simp; omega
      obtain ⟨m, hm, hm1, hmn, hmk⟩ : ∃ m, m = Nat.min k (n - k) ∧ 0 < m ∧ k + m ≤ n ∧ m ≤ k := ⟨_, rfl, by have : Nat.min k (n - k) = min k (n - k) := rfl; omega, by have : Nat.min k (n - k) = min k (n - k) := rfl; omega, by have : Nat.min k (n - k) = min k (n - k) := rfl; omega⟩
      have HM := Lib.hid hm
      have hsm : IntKind.i64.wrap ((k : Int) + m) = k + m := wI (by omega) (by omega)
      have hk0 : decide ((k : Int) < 0) = false := by simp
      have hk2 : decide ((n : Int) < k) = false := by simp; omega
      have hk3 : (n : Int) - k = ((n - k : Nat) : Int) := by omega
      clear hm
      go_upto_region 9 with fail
      have hd : Below wr.heap.size wr wr.drew := (Below.refl _ wr).drew
      have AB := HB.out.drew
      replace HG := Lib.hid (HG.out.keep hd)
      clear hd HB
      refine wp_region_held_drew (S := fun _ => True) (by kernel_rfl) (trivial) (fun hHeld => ?_)
      refine wpAnyH_take (i := 0) (v := ?_) rfl (by kernel_rfl) (by kernel_rfl) (by kernel_rfl) (fun _ _ _ h => h) (Or.inl ⟨by rfl, ?_⟩) hHeld ?_
      rotate_left
      · intro w hSw
        (try dsimp only at hSw)
        (try simp only [List.getElem_toArray, List.getElem_cons_zero])
        go_simp
        all_goals with_reducible rfl
      try simp only [List.getElem_toArray, List.getElem_cons_zero, Act.put, List.setIfInBounds_toArray, List.set_cons_zero, List.set_cons_succ]
      refine wpAnyH_take (i := 1) (v := ?_) rfl (by kernel_rfl) (by kernel_rfl) (by kernel_rfl) (fun _ _ _ h => h) (Or.inl ⟨by rfl, ?_⟩) hHeld ?_
      rotate_left
      · intro w hSw
        (try dsimp only at hSw)
        (try simp only [List.getElem_toArray, List.getElem_cons_zero, List.getElem_cons_succ])
        go_simp
        all_goals with_reducible rfl
      try simp only [List.getElem_toArray, List.getElem_cons_zero, List.getElem_cons_succ, Act.put, List.setIfInBounds_toArray, List.set_cons_zero, List.set_cons_succ]
      refine wpAnyH_take (i := 2) (v := ?_) rfl (by kernel_rfl) (by kernel_rfl) (by kernel_rfl) (fun _ _ _ h => h) (Or.inl ⟨by rfl, ?_⟩) hHeld ?_
      rotate_left
      · intro w hSw
        (try dsimp only at hSw)
        (try simp only [List.getElem_toArray, List.getElem_cons_zero, List.getElem_cons_succ])
        go_simp
        all_goals with_reducible rfl
      try simp only [List.getElem_toArray, List.getElem_cons_zero, List.getElem_cons_succ, Act.put, List.setIfInBounds_toArray, List.set_cons_zero, List.set_cons_succ]
      refine wpAnyH_take (i := 3) (v := ?_) rfl (by kernel_rfl) (by kernel_rfl) (by kernel_rfl) (fun _ _ _ h => h) (Or.inl ⟨by rfl, ?_⟩) hHeld ?_
      rotate_left
      · intro w hSw
        (try dsimp only at hSw)
        (try simp only [List.getElem_toArray, List.getElem_cons_zero, List.getElem_cons_succ])
        go_simp
        all_goals with_reducible rfl
      try simp only [List.getElem_toArray, List.getElem_cons_zero, List.getElem_cons_succ, Act.put, List.setIfInBounds_toArray, List.set_cons_zero, List.set_cons_succ]
      refine wpAnyH_take (i := 4) (v := ?_) rfl (by kernel_rfl) (by kernel_rfl) (by kernel_rfl) (fun _ _ _ h => h) (Or.inl ⟨by rfl, ?_⟩) hHeld ?_
      rotate_left
      · intro w hSw
        (try dsimp only at hSw)
        (try simp only [List.getElem_toArray, List.getElem_cons_zero, List.getElem_cons_succ])
        go_simp
        all_goals with_reducible rfl
      try simp only [List.getElem_toArray, List.getElem_cons_zero, List.getElem_cons_succ, Act.put, List.setIfInBounds_toArray, List.set_cons_zero, List.set_cons_succ]
      refine wpAnyH_take (i := 5) (v := ?_) rfl (by kernel_rfl) (by kernel_rfl) (by kernel_rfl) (fun _ _ _ h => h) (Or.inl ⟨by rfl, ?_⟩) hHeld ?_
      rotate_left
      · intro w hSw
        (try dsimp only at hSw)
        (try simp only [List.getElem_toArray, List.getElem_cons_zero, List.getElem_cons_succ])
        go_simp
        all_goals with_reducible rfl
      try simp only [List.getElem_toArray, List.getElem_cons_zero, List.getElem_cons_succ, Act.put, List.setIfInBounds_toArray, List.set_cons_zero, List.set_cons_succ]
      refine wpAnyH_take (i := 6) (v := ?_) rfl (by kernel_rfl) (by kernel_rfl) (by kernel_rfl) (fun _ _ _ h => h) (Or.inl ⟨by rfl, ?_⟩) hHeld ?_
      rotate_left
      · intro w hSw
        (try dsimp only at hSw)
        (try simp only [List.getElem_toArray, List.getElem_cons_zero, List.getElem_cons_succ])
        go_simp
        all_goals with_reducible rfl
      try simp only [List.getElem_toArray, List.getElem_cons_zero, List.getElem_cons_succ, Act.put, List.setIfInBounds_toArray, List.set_cons_zero, List.set_cons_succ]
      refine wpAnyH_ready (rs := [7]) (by kernel_rfl) (by simp) ?_
      refine AllReadyH.cons rfl (fun K hK => ?_) AllReadyH.nil
      try simp only [List.getElem_toArray, List.getElem_cons_zero, List.getElem_cons_succ]
      refine rstep_if (by kernel_rfl) ?_
      refine ncopy_wp rfl (.tmp 41) (.tmp 44) ?_ w.heap.size k (n - k) (n - k) ⟨w.heap.size, 0, none⟩ k n ?_ ?_ (mixR n k c) HG.out m c HM.out ?_ ?_ w.heap.size w AB (Nat.le_refl _) ?_
      · rfl
      · show Value.slice (if n = k then some (⟨w.heap.size, 0, none⟩ : Addr) else some ⟨w.heap.size, k, none⟩) (n - k) (n - k) = _
        rw [if_neg (by omega)]
      · rfl
      · intro j hj
        rw [show ((⟨w.heap.size, 0, none⟩ : Addr).add j) = ⟨w.heap.size, j, none⟩ by simp [Addr.add]; omega]
        exact HG.out.cell _ (mixR_at n k j c (by omega))
      · rw [mixR_len n k c hk]; omega
      intro wn HG3 HB3
      have AB := HB3.out
      replace HG : Hid (Blk wn w.heap.size 3 (mixR n (k + m) c)) := Lib.hid (by have h := HG3.out; rw [mixR_splice n k m c hmn] at h; exact h)
      clear HG3 HB3
      refine hK.out _ _ (trivial) (fun hHeld => ?_)
      clear hK K
      try simp only [Act.put, List.setIfInBounds_toArray, List.set_cons_zero, List.set_cons_succ]
      refine wpAnyH_take (i := 8) (v := ?_) rfl (by kernel_rfl) (by kernel_rfl) (by kernel_rfl) (fun _ _ _ h => h) (Or.inl ⟨by rfl, ?_⟩) hHeld ?_
      rotate_left
      · intro w hSw
        (try dsimp only at hSw)
        (try simp only [List.getElem_toArray, List.getElem_cons_zero, List.getElem_cons_succ])
        go_simp
        all_goals with_reducible rfl
      try simp only [List.getElem_toArray, List.getElem_cons_zero, List.getElem_cons_succ, Act.put, List.setIfInBounds_toArray, List.set_cons_zero, List.set_cons_succ]
      refine wpAnyH_take (i := 9) (v := ?_) rfl (by kernel_rfl) (by kernel_rfl) (by kernel_rfl) (fun _ _ _ h => h) (Or.inl ⟨by rfl, ?_⟩) hHeld ?_
      rotate_left
      · intro w hSw
        (try dsimp only at hSw)
        (try simp only [List.getElem_toArray, List.getElem_cons_zero, List.getElem_cons_succ])
        go_simp
        all_goals with_reducible rfl
      try simp only [List.getElem_toArray, List.getElem_cons_zero, List.getElem_cons_succ, Act.put, List.setIfInBounds_toArray, List.set_cons_zero, List.set_cons_succ]
      refine wpAnyH_done (by kernel_rfl) ?_ _
      go_wp2_with fail
      exact ⟨⟨k + m, hmn, by go_num, .inr (by omega), HG, Lib.hid AB⟩, by simp [intOf]; omega⟩
    · obtain rfl : k = n := by omega
      go_wp2_with fail
      go_ret
      refine ⟨_, rfl, ?_, HB.out⟩
      have h := HG.out
      rw [mixR_full] at h
      exact blk_row (l := List.replicate k c) (by unfold nvals; rw [List.map_replicate]; exact h) (by simp) (by omega) (Nat.le_refl _)

end Go.Proofs.Ytnpklcmbiamocaa

namespace Go.Proofs.Ytnpklcmbiamocaa
open Go.RowKit

/-- A row of n cells that is filled from the c-th cell on, round its end: how far behind the c-th a cell is, which cell is so far behind it, and the row with s cells filled. -/
def posR (n c j : Nat) : Nat := if j < c then j + n - c else j - c
def atR (n c s : Nat) : Nat := if c + s < n then c + s else c + s - n
def rotF (t : Nat → Nat) (n c s : Nat) : List Nat := (List.range n).map fun j => if posR n c j < s then t j else 0
theorem atR_lt {n c s : Nat} (hc : c < n) (hs : s < n) : atR n c s < n := by unfold atR; split <;> omega
theorem posR_at {n c s : Nat} (hc : c < n) (hs : s < n) : posR n c (atR n c s) = s := by unfold posR atR; (repeat' split) <;> omega
theorem at_posR {n c j : Nat} (hc : c < n) (hj : j < n) : atR n c (posR n c j) = j := by unfold posR atR; (repeat' split) <;> omega
theorem posR_lt {n c j : Nat} (hc : c < n) (hj : j < n) : posR n c j < n := by unfold posR; split <;> omega
theorem atR_mod {n c s : Nat} (hc : c < n) (hs : s < n) : (c + s) % n = atR n c s := by
  unfold atR
  split
  · exact Nat.mod_eq_of_lt (by omega)
  · rw [Nat.mod_eq_sub_mod (by omega), Nat.mod_eq_of_lt (by omega)]
theorem atR_tmod {n c s : Nat} (hc : c < n) (hs : s < n) : ((c : Int) + s).tmod n = (atR n c s : Nat) := by
  rw [show (c : Int) + s = ((c + s : Nat) : Int) by omega, ← Int.ofNat_tmod, atR_mod hc hs]
theorem rotF_length (t : Nat → Nat) (n c s : Nat) : (rotF t n c s).length = n := by simp [rotF]
theorem rotF_zero (t : Nat → Nat) (n c : Nat) : nvals (rotF t n c 0) = List.replicate n (.int .i64 0) := by
  refine List.ext_getElem (by simp [nvals, rotF]) (fun j h1 h2 => ?_)
  simp [nvals, rotF]
theorem rotF_full (t : Nat → Nat) (n c : Nat) (hc : c < n) : rotF t n c n = (List.range n).map t := by
  refine List.map_congr_left (fun j hj => ?_)
  rw [if_pos (posR_lt hc (List.mem_range.1 hj))]
theorem rotF_set (t : Nat → Nat) (n c s : Nat) (hc : c < n) (hs : s < n) : (nvals (rotF t n c s)).set (atR n c s) (.int .i64 (t (atR n c s) : Nat)) = nvals (rotF t n c (s + 1)) := by
  refine List.ext_getElem (by simp [nvals, rotF]) (fun j h1 h2 => ?_)
  have hj : j < n := by simpa [nvals, rotF] using h2
  rw [List.getElem_set]
  by_cases e : atR n c s = j
  · subst e
    simp [nvals, rotF, posR_at hc hs]
  · have : posR n c j < s ↔ posR n c j < s + 1 := by
      have h : posR n c j ≠ s := fun h => e (by rw [← h]; exact at_posR hc hj)
      omega
    simp [nvals, rotF, e, this]
theorem NRw.rot {w : World} {gm n c s : Nat} {t : Nat → Nat} {x : Int} (h : NRw w gm n ((nvals (rotF t n c s)).set (atR n c s) (.int .i64 x))) (hx : ((t (atR n c s) : Nat) : Int) = x) (hc : c < n) (hs : s < n) : NRw w gm n (nvals (rotF t n c (s + 1))) := by
  subst hx
  rw [rotF_set t n c s hc hs] at h
  exact h
theorem NRw.rotrow {w : World} {gm n c : Nat} {t : Nat → Nat} (h : NRw w gm n (nvals (rotF t n c n))) (hc : c < n) : NRow w gm (.slice (some ⟨gm, 0, none⟩) n n) ((List.range n).map t) := by
  have := h.2
  unfold NRow
  rw [← rotF_full t n c hc, rotF_length]
  exact this
theorem NRw.made {w : World} {gm n c : Nat} {t : Nat → Nat} (h : w.ownsRow gm 3 1 (.slice (some ⟨gm, 0, none⟩) n n) n (madeCells (Value.int IntKind.i64 0).cells (n * 1)).toList) : NRw w gm n (nvals (rotF t n c 0)) := by
  rw [show (Value.int IntKind.i64 0).cells = #[.int .i64 0] from rfl, Nat.mul_one, toList_madeCells_one] at h
  rw [rotF_zero]; exact ⟨by simp, h⟩
theorem oneC_pos (n c s : Nat) (hc : c < n) (hs : s < n) : oneC n c (atR n c s) = if n ≤ 2 * s then 6 else 5 := by
  unfold oneC
  have := posR_at hc hs
  unfold posR at this
  rw [this]

set_option maxRecDepth 100000 in
set_option maxHeartbeats 3200000 in
theorem phalves_any (n c : Nat) (hn : n ≤ 200000) (hc : c < n) (w : World) :
    Calls Try.prog 54 #[.int .i64 n, .int .i64 c] w fun e w' => ∃ V, e = .returned V ∧ NRow w' w.heap.size V ((List.range n).map (oneC n c)) ∧ Below w.heap.size w w' := by
  obtain ⟨i0, hi0, hz0, hz1, hz2⟩ := infos ninfo
  obtain ⟨wm, hr, hown, hg⟩ := run_make_full (P := Try.prog) w w.heap.size 28 3 i0 _ 1 Try.underlying28 hi0 hz0 hz1 .i64 .i64 n (by rw [hz2]; omega) (by unfold maxLen; omega) (Nat.le_refl _)
  have HBm := Lib.hid ((Below.refl _ w).grown hg (Nat.le_refl _) (fun q hq => by cases hq))
  have HM0 : Hid (NRw wm w.heap.size n (nvals (rotF (oneC n c) n c 0))) := Lib.hid (NRw.made hown)
  clear hown hg hi0 hz0 hz1 hz2
  go_enter Try.func54, Try.ntmps54
  go_wp2_with fail
  clear hr
  go_loopw [11] (fun i wr => ∃ r : Nat, r ≤ n ∧ i = .int .i64 r ∧ Hid (NRw wr w.heap.size n (nvals (rotF (oneC n c) n c r))) ∧ Hid (Below w.heap.size w wr)) (fun i _ => n - (intOf i).toNat)
  case atStart => exact ⟨0, Nat.zero_le _, rfl, HM0, HBm⟩
  case round =>
    clear HM0 HBm
    obtain ⟨r, hr, rfl, HM, HB⟩ := hrel
    by_cases hrn : r < n
    · have hrb : decide ((r : Int) < n) = true := by simp; omega
      have HC := Lib.hid (oneC_pos n c r hc hrn)
      have htm := atR_tmod hc hrn
      have hal := atR_lt hc hrn
      obtain ⟨j, hj⟩ : ∃ j, atR n c r = j := ⟨_, rfl⟩
      have HJ := Lib.hid hj
      rw [hj] at htm hal HC
      obtain ⟨⟨x1, m1⟩, mf⟩ := HM.out.cell j hal
      have ml := HM.out.lt
      have hnz : ((n : Int) == 0) = false := by simp; omega
      have z1 : IntKind.i64.wrap (2 * (r : Int)) = 2 * r := wI (by omega) (by omega)
      have z2 : IntKind.i64.wrap ((c : Int) + r) = c + r := wI (by omega) (by omega)
      have z3 : IntKind.i64.wrap (j : Int) = j := wI (by omega) (by omega)
      clear hj
      by_cases h2 : n ≤ 2 * r
      · have hb2 : decide ((n : Int) ≤ 2 * r) = true := by simp; omega
        have HC2 := Lib.hid (HC.out.trans (if_pos h2))
        have HM2 := Lib.hid (HM.out.store j (.int .i64 6))
        have HB2 := Lib.hid (HB.out.setCell (p := ⟨w.heap.size, j, none⟩) (Nat.le_refl _) (.int .i64 6))
        have HM3 := Lib.hid (NRw.rot (w := wr.setCell ⟨w.heap.size, j, none⟩ (.int .i64 6)) (t := oneC n c) (x := 6) (by rw [HJ.out]; exact HM2.out) (by rw [HJ.out, HC2.out]; rfl) hc hrn)
        clear HC HM2
        go_wp2_with fail
        exact ⟨⟨r + 1, hrn, by go_num, HM3, HB2⟩, by simp [intOf]; omega⟩
      · have hb2 : decide ((n : Int) ≤ 2 * r) = false := by simp; omega
        have HC2 := Lib.hid (HC.out.trans (if_neg h2))
        have HM2 := Lib.hid (HM.out.store j (.int .i64 5))
        have HB2 := Lib.hid (HB.out.setCell (p := ⟨w.heap.size, j, none⟩) (Nat.le_refl _) (.int .i64 5))
        have HM3 := Lib.hid (NRw.rot (w := wr.setCell ⟨w.heap.size, j, none⟩ (.int .i64 5)) (t := oneC n c) (x := 5) (by rw [HJ.out]; exact HM2.out) (by rw [HJ.out, HC2.out]; rfl) hc hrn)
        clear HC HM2
        go_wp2_with fail
        exact ⟨⟨r + 1, hrn, by go_num, HM3, HB2⟩, by simp [intOf]; omega⟩
    · obtain rfl : r = n := by omega
      go_wp2_with fail
      go_ret
      exact ⟨_, rfl, HM.out.rotrow hc, HB.out⟩

end Go.Proofs.Ytnpklcmbiamocaa

namespace Go.Proofs.Ytnpklcmbiamocaa
open Go.RowKit

set_option maxRecDepth 100000 in
set_option maxHeartbeats 3200000 in
theorem tri_at (w : World) : Sem.run Try.prog (Instr.index 147 (.agg #[.int .i64 5, .int .i64 6, .int .i64 3]) (.int .i64 0)) w = .ok (.int .i64 5) w ∧ Sem.run Try.prog (Instr.index 147 (.agg #[.int .i64 5, .int .i64 6, .int .i64 3]) (.int .i64 1)) w = .ok (.int .i64 6) w ∧ Sem.run Try.prog (Instr.index 147 (.agg #[.int .i64 5, .int .i64 6, .int .i64 3]) (.int .i64 2)) w = .ok (.int .i64 3) w :=
  ⟨by kernel_rfl, by kernel_rfl, by kernel_rfl⟩
set_option maxRecDepth 100000 in
set_option maxHeartbeats 3200000 in
theorem ppiece_any (i m : Nat) (hm : m ≤ 200000) (hi : i < m) (w : World) :
    Calls Try.prog 74 #[.int .i64 i, .int .i64 m] w fun e w' => e = .returned (.int .i64 (colP m i : Nat)) ∧ Below w.heap.size w w' := by
  have hm1 : IntKind.i64.wrap ((m : Int) - 1) = ((m - 1 : Nat) : Int) := by rw [Int.natCast_sub (by omega)]; exact wI (by omega) (by omega)
  have HCP := Lib.hid (show colP m i = if i = m - 1 ∧ m % 3 = 1 then 6 else if i % 3 = 0 then 5 else if i % 3 = 1 then 6 else 3 from rfl)
  obtain ⟨x0, x1, x2⟩ := tri_at w
  obtain ⟨t, ht, htb⟩ : ∃ t : Nat, i % 3 = t ∧ t < 3 := ⟨_, rfl, Nat.mod_lt _ (by omega)⟩
  have htm : (i : Int).tmod 3 = (t : Int) := by rw [← ht]; exact (Int.ofNat_tmod i 3).symm
  have hte : (i : Int) % 3 = (t : Int) := by rw [← ht]; rfl
  obtain ⟨t3, ht3, ht4, ht5⟩ : ∃ t : Nat, m % 3 = t ∧ (m : Int).tmod 3 = (t : Int) ∧ (m : Int) % 3 = (t : Int) := ⟨_, rfl, (Int.ofNat_tmod m 3).symm, rfl⟩
  rw [ht, ht3] at HCP
  clear ht ht3
  by_cases hl : i = m - 1
  · have hlb : ((i : Int) == ((m - 1 : Nat) : Int)) = true := by rw [hl]; simp
    by_cases hq : t3 = 1
    · have HV := Lib.hid (HCP.out.trans (if_pos ⟨hl, hq⟩))
      subst hq
      clear HCP hl
      go_enter Try.func74, Try.ntmps74
      go_wp2_with fail
      go_ret
      exact ⟨ret_int (by rw [HV.out]; rfl), Below.refl _ _⟩
    · have HV := Lib.hid (HCP.out.trans (if_neg (fun h => hq h.2)))
      have hqb : ((t3 : Int) == 1) = false := by simp; omega
      clear HCP hl
      obtain rfl | rfl | rfl : t = 0 ∨ t = 1 ∨ t = 2 := by omega
      all_goals
        go_enter Try.func74, Try.ntmps74
        go_wp2_with fail
        go_ret
        exact ⟨ret_int (by rw [HV.out]; rfl), Below.refl _ _⟩
  · have hlb : ((i : Int) == ((m - 1 : Nat) : Int)) = false := by simp; omega
    have HV := Lib.hid (HCP.out.trans (if_neg (fun h => hl h.1)))
    clear HCP hl
    obtain rfl | rfl | rfl : t = 0 ∨ t = 1 ∨ t = 2 := by omega
    all_goals
      go_enter Try.func74, Try.ntmps74
      go_wp2_with fail
      go_ret
      exact ⟨ret_int (by rw [HV.out]; rfl), Below.refl _ _⟩

end Go.Proofs.Ytnpklcmbiamocaa

namespace Go.Proofs.Ytnpklcmbiamocaa
open Go.RowKit

/-- How far behind the first corner the k-th piece begins; the n-th edge ends the last one. -/
def begP (cs : List Nat) (n k : Nat) : Nat := if k < cs.length then cs.getD k 0 - cs.getD 0 0 else n
theorem begP_zero {cs : List Nat} {n : Nat} (h : 0 < cs.length) : begP cs n 0 = 0 := by unfold begP; rw [if_pos h]; omega
theorem begP_full {cs : List Nat} {n : Nat} : begP cs n cs.length = n := by unfold begP; rw [if_neg (by omega)]
theorem first_le {cs : List Nat} (h : cs.Pairwise (· < ·)) {k : Nat} (hk : k < cs.length) : cs.getD 0 0 ≤ cs.getD k 0 := by
  by_cases e : k = 0
  · subst e; exact Nat.le_refl _
  · exact Nat.le_of_lt (sorted_lt h (by omega) hk)
theorem getD_lt {cs : List Nat} {n : Nat} (hl : ∀ c ∈ cs, c < n) {k : Nat} (hk : k < cs.length) : cs.getD k 0 < n := by
  rw [List.getD_eq_getElem?_getD, List.getElem?_eq_getElem hk]
  exact hl _ (List.getElem_mem _)
theorem begP_lt {cs : List Nat} {n k : Nat} (h : cs.Pairwise (· < ·)) (hl : ∀ c ∈ cs, c < n) (hk : k < cs.length) : begP cs n k < begP cs n (k + 1) ∧ begP cs n (k + 1) ≤ n := by
  have h1 := first_le h hk
  have h2 := getD_lt hl hk
  unfold begP
  rw [if_pos hk]
  split
  · have := sorted_lt h (show k < k + 1 by omega) (by omega)
    have := getD_lt hl (show k + 1 < cs.length by omega)
    omega
  · omega
theorem piece_beg {cs : List Nat} {n k s : Nat} (h : cs.Pairwise (· < ·)) (hl : ∀ c ∈ cs, c < n) (hk : k < cs.length) (h1 : begP cs n k ≤ s) (h2 : s < begP cs n (k + 1)) : pieceC cs (atR n (cs.getD 0 0) s) = k := by
  have g1 := first_le h hk
  have g2 := getD_lt hl hk
  have g3 := (begP_lt h hl hk).2
  unfold begP at h1 h2
  rw [if_pos hk] at h1
  unfold atR
  by_cases e : k + 1 < cs.length
  · rw [if_pos e] at h2
    have g4 := getD_lt hl e
    rw [if_pos (by omega)]
    exact pieceC_at h hk (by omega) (fun _ => by omega)
  · rw [if_neg e] at h2
    by_cases e2 : cs.getD 0 0 + s < n
    · rw [if_pos e2]
      exact pieceC_at h hk (by omega) (fun q => absurd q e)
    · rw [if_neg e2, pieceC_ahead h (by omega)]
      omega
theorem next_beg {cs : List Nat} {n k s : Nat} (h : cs.Pairwise (· < ·)) (hl : ∀ c ∈ cs, c < n) (hk : k < cs.length) (h2 : s < begP cs n (k + 1)) : atR n (cs.getD 0 0) (s + 1) = cs.getD ((k + 1) % cs.length) 0 ↔ s + 1 = begP cs n (k + 1) := by
  have g0 := getD_lt hl (show 0 < cs.length by omega)
  unfold begP at h2 ⊢
  unfold atR
  by_cases e : k + 1 < cs.length
  · rw [if_pos e] at h2 ⊢
    rw [Nat.mod_eq_of_lt e]
    have g3 := first_le h e
    have g4 := getD_lt hl e
    split <;> omega
  · rw [if_neg e] at h2 ⊢
    rw [show k + 1 = cs.length by omega, Nat.mod_self]
    split <;> omega
theorem at_beg {cs : List Nat} {n k : Nat} (h : cs.Pairwise (· < ·)) (hl : ∀ c ∈ cs, c < n) (hk : k < cs.length) : atR n (cs.getD 0 0) (begP cs n k) = cs.getD k 0 := by
  have g1 := first_le h hk
  have g2 := getD_lt hl hk
  unfold begP atR
  rw [if_pos hk, if_pos (by omega)]
  omega
theorem step_at {n c s : Nat} (hc : c < n) (hs : s < n) : (((atR n c s : Nat) : Int) + 1).tmod n = (atR n c (s + 1) : Nat) := by
  rw [show ((atR n c s : Nat) : Int) + 1 = ((atR n c s + 1 : Nat) : Int) by omega, ← Int.ofNat_tmod]
  congr 1
  have := atR_lt hc hs
  by_cases e : atR n c s + 1 = n
  · rw [e, Nat.mod_self]
    unfold atR at e ⊢
    by_cases h : c + s < n
    · rw [if_pos h] at e; split <;> omega
    · rw [if_neg h] at e; split <;> omega
  · rw [Nat.mod_eq_of_lt (by omega)]
    unfold atR at e ⊢
    by_cases h : c + s < n
    · rw [if_pos h] at e ⊢; split <;> omega
    · rw [if_neg h] at e ⊢; split <;> omega

set_option maxRecDepth 100000 in
set_option maxHeartbeats 3200000 in
theorem ppieces_any (n m : Nat) (hn : n ≤ 200000) (cs : List Nat) (vc : Value) (w : World) (hc : NRd w vc cs) (hm : cs.length = m) (hm2 : 2 ≤ m) (hs : cs.Pairwise (· < ·)) (hl : ∀ c ∈ cs, c < n) :
    Calls Try.prog 55 #[.int .i64 n, vc] w fun e w' => ∃ V, e = .returned V ∧ NRow w' w.heap.size V ((List.range n).map fun k => colP m (pieceC cs k)) ∧ Below w.heap.size w w' := by
  obtain ⟨A, cap, rfl, hcap, -⟩ := id hc
  have HML := Lib.hid hm
  have HS := Lib.hid hs
  have HL := Lib.hid hl
  have HC := Lib.hid hc
  obtain ⟨c0, hc0⟩ : ∃ c, cs[0]? = some c := ⟨_, List.getElem?_eq_getElem (by omega)⟩
  have hgd : cs.getD 0 0 = c0 := by rw [List.getD_eq_getElem?_getD, hc0]; rfl
  have hcn : c0 < n := by rw [← hgd]; exact getD_lt hl (by omega)
  have hmn : m ≤ n := by
    have : ∀ k, k < cs.length → k ≤ cs.getD k 0 := by
      intro k
      induction k with
      | zero => intro _; omega
      | succ k ih => intro h; have := ih (by omega); have := sorted_lt hs (show k < k + 1 by omega) h; omega
    have h1 := this (m - 1) (by omega)
    have h2 := getD_lt hl (show m - 1 < cs.length by omega)
    omega
  rw [hm] at hcap HC
  rw [hm]
  obtain ⟨a0, rfl, hal0, q0⟩ := HC.out.at 0 c0 hc0
  rw [show a0.add 0 = a0 from rfl] at q0
  have HGD := Lib.hid hgd
  have HPC := Lib.hid (fun (i : Nat) (hi : i < m) (w : World) => ppiece_any i m (by omega) hi w)
  obtain ⟨t, ht⟩ : ∃ t : Nat → Nat, (fun k => colP m (pieceC cs k)) = t := ⟨_, rfl⟩
  have HT := Lib.hid (show ∀ k s, k < m → begP cs n k ≤ s → s < begP cs n (k + 1) → t (atR n c0 s) = colP m k from fun k s h0 h1 h2 => by
    rw [← ht, ← hgd]
    simp only []
    rw [piece_beg hs hl (by omega) h1 h2])
  rw [ht]
  have HBL := Lib.hid (show ∀ k, k < m → begP cs n k < begP cs n (k + 1) ∧ begP cs n (k + 1) ≤ n from fun k hk => begP_lt hs hl (by omega))
  have HNX := Lib.hid (show ∀ k s, k < m → s < begP cs n (k + 1) → (atR n c0 (s + 1) = cs.getD ((k + 1) % m) 0 ↔ s + 1 = begP cs n (k + 1)) from fun k s h0 h2 => by
    have := next_beg hs hl (show k < cs.length by omega) h2
    rw [hgd, hm] at this
    exact this)
  have HBF := Lib.hid (show begP cs n m = n from by rw [← hm]; exact begP_full)
  have HBZ : Hid (begP cs n 0 = 0) := Lib.hid (begP_zero (by omega))
  have HA0 : Hid (atR n c0 0 = c0) := Lib.hid (by unfold atR; rw [if_pos (by omega)]; rfl)
  obtain ⟨i0, hi0, hz0, hz1, hz2⟩ := infos ninfo
  obtain ⟨wm, hr, hown, hg⟩ := run_make_full (P := Try.prog) w w.heap.size 28 3 i0 _ 1 Try.underlying28 hi0 hz0 hz1 .i64 .i64 n (by rw [hz2]; omega) (by unfold maxLen; omega) (Nat.le_refl _)
  have HBm := Lib.hid ((Below.refl _ w).grown hg (Nat.le_refl _) (fun q hq => by cases hq))
  have HM0 : Hid (NRw wm w.heap.size n (nvals (rotF t n c0 0))) := Lib.hid (NRw.made hown)
  have q0' := keep HBm.out q0
  generalize begP cs n = bP at *
  clear hown hg hi0 hz0 hz1 hz2 hc hm hs hl hc0 hgd q0 ht HGD
  go_enter Try.func55, Try.ntmps55
  go_wp2_with fail
  go_step3
  go_wp2_with fail
  go_step3
  go_wp2_with fail
  clear hr q0'
  go_loopw [17, 6] (fun i p wr => ∃ k s : Nat, k ≤ m ∧ i = .int .i64 k ∧ p = .int .i64 (atR n c0 s : Nat) ∧ Hid (bP k = s) ∧ Hid (NRw wr w.heap.size n (nvals (rotF t n c0 s))) ∧ Hid (Below w.heap.size w wr)) (fun i _ _ => m - (intOf i).toNat)
  case atStart => exact ⟨0, 0, Nat.zero_le _, rfl, by rw [HA0.out], HBZ, HM0, HBm⟩
  case round =>
    clear HM0 HBm HBZ HA0
    obtain ⟨k, s, hk, rfl, rfl, HBP, HM, HB⟩ := hrel
    by_cases hkm : k < m
    · have hkb : decide ((k : Int) < m) = true := by simp; omega
      obtain ⟨k2, hk2⟩ : ∃ k2, (k + 1) % m = k2 := ⟨_, rfl⟩
      have hk2m : k2 < m := by rw [← hk2]; exact Nat.mod_lt _ (by omega)
      have htk : ((k : Int) + 1).tmod m = (k2 : Int) := by rw [← hk2, show (k : Int) + 1 = ((k + 1 : Nat) : Int) by omega, ← Int.ofNat_tmod]
      obtain ⟨nx, hnx⟩ : ∃ c, cs[k2]? = some c := ⟨_, List.getElem?_eq_getElem (by rw [HML.out]; exact hk2m)⟩
      have hngd : cs.getD k2 0 = nx := by rw [List.getD_eq_getElem?_getD, hnx]; rfl
      have HN := Lib.hid (fun s => HNX.out k s hkm)
      rw [hk2, hngd] at HN
      have HT2 := Lib.hid (fun s => HT.out k s hkm)
      have HB2 := Lib.hid (HBL.out k hkm)
      have HP := Lib.hid (fun w => HPC.out k hkm w)
      have HX := Lib.hid hnx
      have z1 : IntKind.i64.wrap ((k : Int) + 1) = k + 1 := wI (by omega) (by omega)
      have z2 : IntKind.i64.wrap (k2 : Int) = k2 := wI (by omega) (by omega)
      have z3 : ¬(m = 0) := by omega
      clear hk2 hnx hngd
      go_upto_region 6 with fail
      have hd : Below wr.heap.size wr wr.drew := (Below.refl _ wr).drew
      have AB := HB.out.drew
      replace HM := Lib.hid (HM.out.keep hd)
      have HCX := Lib.hid (HC.out.keep AB)
      clear hd HB
      refine wp_region_held_drew (S := fun wx => wx.cell? (a0.add k2) = some (.int .i64 nx)) (by kernel_rfl) (at3 HCX.out k2 nx HX.out) (fun hHeld => ?_)
      refine wpAnyH_take (i := 0) (v := ?_) rfl (by kernel_rfl) (by kernel_rfl) (by kernel_rfl) (fun _ _ _ h => h) (Or.inl ⟨by rfl, ?_⟩) hHeld ?_
      rotate_left
      · intro w hSw
        (try dsimp only at hSw)
        (try simp only [List.getElem_toArray, List.getElem_cons_zero])
        go_simp
        all_goals with_reducible rfl
      try simp only [List.getElem_toArray, List.getElem_cons_zero, Act.put, List.setIfInBounds_toArray, List.set_cons_zero, List.set_cons_succ]
      refine wpAnyH_take (i := 1) (v := ?_) rfl (by kernel_rfl) (by kernel_rfl) (by kernel_rfl) (fun _ _ _ h => h) (Or.inl ⟨by rfl, ?_⟩) hHeld ?_
      rotate_left
      · intro w hSw
        (try dsimp only at hSw)
        (try simp only [List.getElem_toArray, List.getElem_cons_zero, List.getElem_cons_succ])
        go_simp
        all_goals with_reducible rfl
      try simp only [List.getElem_toArray, List.getElem_cons_zero, List.getElem_cons_succ, Act.put, List.setIfInBounds_toArray, List.set_cons_zero, List.set_cons_succ]
      refine wpAnyH_take (i := 2) (v := ?_) rfl (by kernel_rfl) (by kernel_rfl) (by kernel_rfl) (fun _ _ _ h => h) (Or.inl ⟨by rfl, ?_⟩) hHeld ?_
      rotate_left
      · intro w hSw
        (try dsimp only at hSw)
        (try simp only [List.getElem_toArray, List.getElem_cons_zero, List.getElem_cons_succ])
        go_simp
        all_goals with_reducible rfl
      try simp only [List.getElem_toArray, List.getElem_cons_zero, List.getElem_cons_succ, Act.put, List.setIfInBounds_toArray, List.set_cons_zero, List.set_cons_succ]
      refine wpAnyH_take (i := 4) (v := ?_) rfl (by kernel_rfl) (by kernel_rfl) (by kernel_rfl) (fun _ _ _ h => h) (Or.inl ⟨by rfl, ?_⟩) hHeld ?_
      rotate_left
      · intro w hSw
        (try dsimp only at hSw)
        (try simp only [List.getElem_toArray, List.getElem_cons_zero, List.getElem_cons_succ])
        go_simp
        all_goals with_reducible rfl
      try simp only [List.getElem_toArray, List.getElem_cons_zero, List.getElem_cons_succ, Act.put, List.setIfInBounds_toArray, List.set_cons_zero, List.set_cons_succ]
      refine wpAnyH_take (i := 5) (v := ?_) rfl (by kernel_rfl) (by kernel_rfl) (by kernel_rfl) (fun _ _ _ h => h) (Or.inl ⟨by rfl, ?_⟩) hHeld ?_
      rotate_left
      · intro w hSw
        (try dsimp only at hSw)
        (try simp only [List.getElem_toArray, List.getElem_cons_zero, List.getElem_cons_succ])
        go_simp
        all_goals with_reducible rfl
      try simp only [List.getElem_toArray, List.getElem_cons_zero, List.getElem_cons_succ, Act.put, List.setIfInBounds_toArray, List.set_cons_zero, List.set_cons_succ]
      refine wpAnyH_take (i := 6) (v := ?_) rfl (by kernel_rfl) (by kernel_rfl) (by kernel_rfl) (fun _ _ _ h => h) (Or.inl ⟨by rfl, ?_⟩) hHeld ?_
      rotate_left
      · intro w hSw
        (try dsimp only at hSw)
        (try simp only [List.getElem_toArray, List.getElem_cons_zero, List.getElem_cons_succ])
        go_simp
        all_goals with_reducible rfl
      try simp only [List.getElem_toArray, List.getElem_cons_zero, List.getElem_cons_succ, Act.put, List.setIfInBounds_toArray, List.set_cons_zero, List.set_cons_succ]
      refine wpAnyH_take (i := 7) (v := ?_) rfl (by kernel_rfl) (by kernel_rfl) (by kernel_rfl) (fun _ _ _ h => h) (Or.inl ⟨by rfl, ?_⟩) hHeld ?_
      rotate_left
      · intro w hSw
        (try dsimp only at hSw)
        (try simp only [List.getElem_toArray, List.getElem_cons_zero, List.getElem_cons_succ])
        go_simp
        all_goals with_reducible rfl
      try simp only [List.getElem_toArray, List.getElem_cons_zero, List.getElem_cons_succ, Act.put, List.setIfInBounds_toArray, List.set_cons_zero, List.set_cons_succ]
      refine wpAnyH_take (i := 8) (v := ?_) rfl (by kernel_rfl) (by kernel_rfl) (by kernel_rfl) (fun _ _ _ h => h) (Or.inl ⟨by rfl, ?_⟩) hHeld ?_
      rotate_left
      · intro w hSw
        (try dsimp only at hSw)
        (try simp only [List.getElem_toArray, List.getElem_cons_zero, List.getElem_cons_succ])
        go_simp
        all_goals with_reducible rfl
      try simp only [List.getElem_toArray, List.getElem_cons_zero, List.getElem_cons_succ, Act.put, List.setIfInBounds_toArray, List.set_cons_zero, List.set_cons_succ]
      refine wpAnyH_take (i := 9) (v := ?_) rfl (by kernel_rfl) (by kernel_rfl) (by kernel_rfl) (fun _ _ _ h => h) (Or.inl ⟨by rfl, ?_⟩) hHeld ?_
      rotate_left
      · intro w hSw
        (try dsimp only at hSw)
        (try simp only [List.getElem_toArray, List.getElem_cons_zero, List.getElem_cons_succ])
        go_simp
        all_goals with_reducible rfl
      try simp only [List.getElem_toArray, List.getElem_cons_zero, List.getElem_cons_succ, Act.put, List.setIfInBounds_toArray, List.set_cons_zero, List.set_cons_succ]
      refine wpAnyH_take (i := 10) (v := ?_) rfl (by kernel_rfl) (by kernel_rfl) (by kernel_rfl) (fun _ _ _ h => h) (Or.inl ⟨by rfl, ?_⟩) hHeld ?_
      rotate_left
      · intro w hSw
        (try dsimp only at hSw)
        (try simp only [List.getElem_toArray, List.getElem_cons_zero, List.getElem_cons_succ])
        go_simp
        all_goals with_reducible rfl
      try simp only [List.getElem_toArray, List.getElem_cons_zero, List.getElem_cons_succ, Act.put, List.setIfInBounds_toArray, List.set_cons_zero, List.set_cons_succ]
      refine wpAnyH_take (i := 11) (v := ?_) rfl (by kernel_rfl) (by kernel_rfl) (by kernel_rfl) (fun _ _ _ h => h) (Or.inl ⟨by rfl, ?_⟩) hHeld ?_
      rotate_left
      · intro w hSw
        (try dsimp only at hSw)
        (try simp only [List.getElem_toArray, List.getElem_cons_zero, List.getElem_cons_succ])
        go_simp
        all_goals with_reducible rfl
      try simp only [List.getElem_toArray, List.getElem_cons_zero, List.getElem_cons_succ, Act.put, List.setIfInBounds_toArray, List.set_cons_zero, List.set_cons_succ]
      refine wpAnyH_ready (rs := [3]) (by kernel_rfl) (by simp) ?_
      refine AllReadyH.cons rfl (fun K hK => ?_) AllReadyH.nil
      try simp only [List.getElem_toArray, List.getElem_cons_zero, List.getElem_cons_succ]
      go_simp
      refine (HP.out _).mono ?_
      rintro e wn ⟨rfl, hbn⟩
      have AB := AB.trans (hbn.mono (AB.size))
      replace HM := Lib.hid (HM.out.keep hbn)
      replace HCX := Lib.hid (HCX.out.keep hbn)
      clear hbn
      go_wp2_with fail
      refine hK.out _ _ (at3 HCX.out k2 nx HX.out) (fun hHeld => ?_)
      clear hK K
      try simp only [List.getElem_toArray, List.getElem_cons_zero, List.getElem_cons_succ, Act.put, List.setIfInBounds_toArray, List.set_cons_zero, List.set_cons_succ]
      refine wpAnyH_take (i := 12) (v := ?_) rfl (by kernel_rfl) (by kernel_rfl) (by kernel_rfl) (fun _ _ _ h => h) (Or.inl ⟨by rfl, ?_⟩) hHeld ?_
      rotate_left
      · intro w hSw
        (try dsimp only at hSw)
        (try simp only [List.getElem_toArray, List.getElem_cons_zero, List.getElem_cons_succ])
        go_simp
        all_goals with_reducible rfl
      try simp only [List.getElem_toArray, List.getElem_cons_zero, List.getElem_cons_succ, Act.put, List.setIfInBounds_toArray, List.set_cons_zero, List.set_cons_succ]
      refine wpAnyH_take (i := 13) (v := ?_) rfl (by kernel_rfl) (by kernel_rfl) (by kernel_rfl) (fun _ _ _ h => h) (Or.inl ⟨by rfl, ?_⟩) hHeld ?_
      rotate_left
      · intro w hSw
        (try dsimp only at hSw)
        (try simp only [List.getElem_toArray, List.getElem_cons_zero, List.getElem_cons_succ])
        go_simp
        all_goals with_reducible rfl
      try simp only [List.getElem_toArray, List.getElem_cons_zero, List.getElem_cons_succ, Act.put, List.setIfInBounds_toArray, List.set_cons_zero, List.set_cons_succ]
      refine wpAnyH_done (by kernel_rfl) ?_ _
      clear hHeld
      obtain ⟨col, hcol⟩ : ∃ col, colP m k = col := ⟨_, rfl⟩
      rw [hcol] at HT2 ⊢
      have HBN := Lib.hid AB
      clear AB hcol HCX HP HX htk z1 z2 z3
      go_wp2_with fail
      go_loopw [6] (fun p wr => ∃ s : Nat, bP k ≤ s ∧ s < bP (k + 1) ∧ p = .int .i64 (atR n c0 s : Nat) ∧ Hid (NRw wr w.heap.size n (nvals (rotF t n c0 s))) ∧ Hid (Below w.heap.size w wr)) (fun p _ => n - posR n c0 (intOf p).toNat)
      case atStart => exact ⟨s, by rw [HBP.out]; exact Nat.le_refl _, by rw [← HBP.out]; exact HB2.out.1, rfl, HM, HBN⟩
      case round =>
        clear HM HBN HBP
        obtain ⟨s, hs1, hs2, rfl, HM, HB⟩ := hrel
        have hsn : s < n := Nat.lt_of_lt_of_le hs2 HB2.out.2
        have HTV := Lib.hid (HT2.out s hs1 hs2)
        have HPO := Lib.hid (posR_at hcn hsn)
        have hal := atR_lt hcn hsn
        have htm := step_at hcn hsn
        have HNI := Lib.hid (HN.out s hs2)
        have HM2 := Lib.hid (HM.out.store (atR n c0 s) (.int .i64 (col : Nat)))
        have HM3 := Lib.hid (NRw.rot (t := t) (x := (col : Nat)) HM2.out (by rw [HTV.out]) hcn hsn)
        have HB3 := Lib.hid (HB.out.setCell (p := ⟨w.heap.size, atR n c0 s, none⟩) (Nat.le_refl _) (.int .i64 (col : Nat)))
        obtain ⟨⟨x1, m1⟩, mf⟩ := HM.out.cell (atR n c0 s) hal
        have ml := HM.out.lt
        obtain ⟨j2, hj2⟩ : ∃ j, atR n c0 (s + 1) = j := ⟨_, rfl⟩
        rw [hj2] at htm HNI
        have HJ2 := Lib.hid hj2
        obtain ⟨j, hj⟩ : ∃ j, atR n c0 s = j := ⟨_, rfl⟩
        rw [hj] at hal htm HM2 HM3 HB3 HPO m1 mf ⊢
        have y1 : IntKind.i64.wrap ((j : Int) + 1) = j + 1 := wI (by omega) (by omega)
        have y2 : IntKind.i64.wrap (j2 : Int) = j2 := by rw [← hj2]; exact wI (by omega) (by unfold atR; split <;> omega)
        have y3 : ((n : Int) == 0) = false := by simp; omega
        have y4 : ¬(n = 0) := by omega
        clear HM HM2 hj hj2 HTV HB
        by_cases hq : s + 1 = bP (k + 1)
        · have hqb : ((j2 : Int) == (nx : Int)) = true := by rw [HNI.out.2 hq]; simp
          have hqe : j2 = nx := HNI.out.2 hq
          have HQ := Lib.hid hq.symm
          have HJ3 := Lib.hid (show (nx : Nat) = atR n c0 (s + 1) by rw [HJ2.out, hqe])
          subst hqe
          clear HNI hq
          go_wp2_with fail
          exact ⟨⟨k + 1, s + 1, hkm, by go_num, by rw [← HJ3.out], HQ, HM3, HB3⟩, by simp [intOf]; omega⟩
        · have hqb : ((j2 : Int) == (nx : Int)) = false := by
            have : j2 ≠ nx := fun h => hq (HNI.out.1 h)
            simp; omega
          have hs3 : s + 1 < n := by have := HB2.out.2; omega
          have HPO2 := Lib.hid (posR_at hcn hs3)
          rw [HJ2.out] at HPO2
          clear HNI
          go_wp2_with fail
          exact ⟨⟨s + 1, by omega, by omega, by rw [HJ2.out], HM3, HB3⟩, by simp only [intOf, Int.toNat_natCast]; rw [HPO.out, HPO2.out]; omega⟩
    · obtain rfl : k = m := by omega
      go_wp2_with fail
      try rw [Exit.noGoto_ret]
      go_ret
      have hsn : s = n := HBP.out.symm.trans HBF.out
      subst hsn
      exact ⟨_, rfl, HM.out.rotrow hcn, HB.out⟩

end Go.Proofs.Ytnpklcmbiamocaa

namespace Go.Proofs.Ytnpklcmbiamocaa
open Go.RowKit

theorem col_none (es : List Ed) (h : (cornersL es).length = 0) : coloursL es = List.replicate es.length 7 := by
  unfold coloursL colC
  simp only [h, if_true]
  refine List.ext_getElem (by simp) (fun j h1 h2 => ?_)
  simp
theorem col_one (es : List Ed) (h : (cornersL es).length = 1) : coloursL es = (List.range es.length).map (oneC es.length ((cornersL es).getD 0 0)) := by
  unfold coloursL colC
  simp only [h, if_neg (show ¬(1 : Nat) = 0 by omega), if_true]
theorem col_many (es : List Ed) (h : 2 ≤ (cornersL es).length) : coloursL es = (List.range es.length).map fun k => colP (cornersL es).length (pieceC (cornersL es) k) := by
  unfold coloursL colC
  simp only [if_neg (show ¬(cornersL es).length = 0 by omega), if_neg (show ¬(cornersL es).length = 1 by omega)]

set_option maxRecDepth 100000 in
set_option maxHeartbeats 3200000 in
theorem pcolours_any (ve : Value) (es : List Ed) (w : World) (hv : ERd w ve es) (hl : es.length ≤ 200000) (hin : ∀ s ∈ es, InD s) :
    Calls Try.prog 29 #[ve] w fun e w' => ∃ V, e = .returned V ∧ NRow w' w.heap.size V (coloursL es) ∧ Below w.heap.size w w' := by
  obtain ⟨A, cap, he, hce, -⟩ := id hv
  subst he
  have HCO := Lib.hid (fun w h => pcorners_any (.slice A es.length cap) es w h hl hin)
  have hcl : (cornersL es).length ≤ es.length := cornersTo_len es es.length
  have H0 := Lib.hid (col_none es)
  have H1 := Lib.hid (col_one es)
  have H2 := Lib.hid (col_many es)
  have HS := Lib.hid (corners_sorted es)
  obtain ⟨n, hN⟩ : ∃ N, es.length = N := ⟨_, rfl⟩
  have HLT := Lib.hid (show ∀ c ∈ cornersL es, c < n from fun c h => by rw [← hN]; exact (mem_corners.1 h).1)
  rw [hN] at hv hl hce hcl HCO H0 H1 H2
  rw [hN]
  have HVm := Lib.hid hv
  clear hv hin hN
  go_enter Try.func29, Try.ntmps29
  go_wp2_with fail
  refine (HCO.out _ HVm.out).mono ?_
  rintro e w1 ⟨V, rfl, hV, hb⟩
  have HC1 := Lib.hid hV
  have HB1 := Lib.hid hb
  obtain ⟨Ac, capc, rfl⟩ := hV.form
  clear hV hb HVm HCO
  obtain ⟨m, hm⟩ : ∃ m, (cornersL es).length = m := ⟨_, rfl⟩
  have HML := Lib.hid hm
  rw [hm] at HC1 hcl H0 H1 H2
  rw [hm]
  generalize cornersL es = cs at *
  clear hm
  obtain rfl | rfl | h2 : m = 0 ∨ m = 1 ∨ 2 ≤ m := by omega
  · have HQ := Lib.hid (H0.out rfl)
    clear H0 H1 H2
    go_wp2_with fail
    refine (repeat_any n (by omega) _ 7 _ (by simp)).mono ?_
    rintro e w2 ⟨V, rfl, hV, hb⟩
    have HV2 := Lib.hid (hV.mono (show w.heap.size ≤ _ by have := HB1.out.size; simp; omega))
    obtain ⟨A2, cap2, rfl⟩ : ∃ A2 cap2, V = .slice A2 n cap2 := by obtain ⟨A2, cap2, e⟩ := hV.form; exact ⟨A2, cap2, by rw [e]; simp⟩
    clear hV
    have HB2 := Lib.hid (below2 (HB1.out.alloc HB1.out.size (.cells #[.int .i64 7] 3)) hb)
    clear hb HB1
    go_wp2_with fail
    go_ret
    exact ⟨_, rfl, by rw [HQ.out]; exact HV2.out, HB2.out⟩
  · have HQ := Lib.hid (H1.out rfl)
    clear H0 H1 H2
    obtain ⟨c, hc⟩ : ∃ c, cs[0]? = some c := ⟨_, List.getElem?_eq_getElem (by rw [HML.out]; omega)⟩
    have hcg : cs.getD 0 0 = c := by rw [List.getD_eq_getElem?_getD, hc]; rfl
    have hcn : c < n := HLT.out c (List.mem_of_getElem? hc)
    rw [hcg] at HQ
    obtain ⟨a, rfl, hal, a0⟩ := HC1.out.read.at 0 c hc
    rw [show a.add 0 = a from rfl] at a0
    clear hc hcg
    go_wp2_with fail
    refine (phalves_any n c (by omega) hcn _).mono ?_
    rintro e w2 ⟨V, rfl, hV, hb⟩
    have HV2 := Lib.hid (hV.mono HB1.out.size)
    obtain ⟨A2, cap2, rfl⟩ : ∃ A2 cap2, V = .slice A2 n cap2 := by obtain ⟨A2, cap2, e⟩ := hV.form; exact ⟨A2, cap2, by rw [e]; simp⟩
    clear hV
    have HB2 := Lib.hid (below2 HB1.out hb)
    clear hb HB1 a0
    go_wp2_with fail
    go_ret
    exact ⟨_, rfl, by rw [HQ.out]; exact HV2.out, HB2.out⟩
  · have HQ := Lib.hid (H2.out h2)
    clear H0 H1 H2
    have hb0 : ((m : Int) == 0) = false := by simp; omega
    have hb1 : ((m : Int) == 1) = false := by simp; omega
    go_wp2_with fail
    refine (ppieces_any n m (by omega) cs _ _ HC1.out.read HML.out h2 HS.out HLT.out).mono ?_
    rintro e w2 ⟨V, rfl, hV, hb⟩
    have HV2 := Lib.hid (hV.mono HB1.out.size)
    obtain ⟨A2, cap2, rfl⟩ : ∃ A2 cap2, V = .slice A2 n cap2 := by obtain ⟨A2, cap2, e⟩ := hV.form; exact ⟨A2, cap2, by rw [e]; simp⟩
    clear hV
    have HB2 := Lib.hid (below2 HB1.out hb)
    clear hb HB1
    go_wp2_with fail
    go_ret
    exact ⟨_, rfl, by rw [HQ.out]; exact HV2.out, HB2.out⟩

end Go.Proofs.Ytnpklcmbiamocaa

namespace Go.Proofs.Ytnpklcmbiamocaa
open Go.RowKit

set_option maxHeartbeats 800000 in
set_option maxRecDepth 100000 in
theorem egrow_any (n : Nat) (hn : n ≤ 100000) (w : World) :
    Calls Try.prog 56 #[.slice none 0 0, .int .i64 n] w fun e w' => ∃ v, e = .returned v ∧ ERow w' w.heap.size v [] ∧ Below w.heap.size w w' := by
  by_cases h0 : n = 0
  · subst h0
    go_enter Try.func56, Try.ntmps56
    go_wp2
    go_ret
    exact ⟨_, rfl, World.ownsRow_nil _ _ _ _, Below.refl _ _⟩
  · obtain ⟨i0, hi0, hz0, hz1, hz2⟩ := infos einfo
    have hr := Lib.run_append_nil_zeros (P := Try.prog) w 27 3 27 70 i0 _ .i64 .i64 Try.underlying27 Try.underlying3 hi0 hz0 n (by omega) (by omega) (by omega) (by rw [hz2]; omega)
    have hge := grownCap_ge w n 0 70
    have hle := grownCap_le_maxLen w n 0 70 (by unfold maxLen; omega)
    obtain ⟨cp, hcp⟩ : ∃ cp, grownCap w n 0 70 = cp := ⟨_, rfl⟩
    rw [hcp] at hr hge hle
    have HR := Lib.hid hr
    have hn1 : (0 : Int) < n := by omega
    have hn2 : decide ((n : Int) < 0) = false := by simp
    clear hr hcp
    go_enter Try.func56, Try.ntmps56
    go_wp2_with (at_builtin; refine Lib.wpList_append_run _ rfl _ _ _ _ rfl _ _ rfl rfl _ _ HR.out ?_)
    go_ret
    refine ⟨_, rfl, ⟨rfl, .inr ⟨w.heap.size, cp, _, rfl, Nat.le_refl _, heap_alloc_new w.drew _, Nat.zero_le _, hle, ?_, by simp [ecells]⟩⟩, ((Below.refl _ w).drew).alloc (Nat.le_refl _) _⟩
    rw [Array.size_append, size_zeroCells, size_zeroCells]
    simp only [List.size_toArray, List.length_cons, List.length_nil]
    omega

theorem eflat_take {o : List (List Ed)} {r : Nat} {c : List Ed} (h : o[r]? = some c) : (o.take (r + 1)).flatten = (o.take r).flatten ++ c := by
  rw [take_push o r c h, List.flatten_append]; simp
theorem eflat_le (o : List (List Ed)) (r : Nat) : (o.take r).flatten.length ≤ o.flatten.length := by
  have : o.flatten = (o.take r).flatten ++ (o.drop r).flatten := by rw [← List.flatten_append, List.take_append_drop]
  rw [this, List.length_append]; omega

theorem ejoin_list {w : World} {ops : Array Oper} {rest : List Oper} {o : Oper} {a : Act} {Q : Exit → Act → World → Prop} (hgd : o.guard = none) (s x : Operand)
    (ho : o.op = .call { callee := .builtin .append, args := #[s, x], argTypes := #[27, 27] }) (base : Nat) (u : Value) (es : List Ed) (N : Nat) (hs : a.eval s = u) (hown : ERow w base u es) (hN : es.length = N)
    (A : Option Addr) (M cap : Nat) (fs : List Ed) (hx : a.eval x = .slice A M cap) (hfs : ERd w (.slice A M cap) fs) (hM : fs.length = M) (hlen : N + M ≤ 1000000) (hbase : base ≤ w.heap.size)
    (h : ∀ A' cap' w', ERow w' base (.slice A' (N + M) cap') (es ++ fs) → Below base w w' → wpList Try.prog ops Q rest (a.put o.dst (.slice A' (N + M) cap')) w') :
    wpList Try.prog ops Q (o :: rest) a w :=
  wpList_plain hgd fun _ hK => join_wp s x ho base u es N hs hown hN A M cap fs hx hfs hM hlen hbase fun A' cap' w' h1 h2 => hK _ _ (h A' cap' w' h1 h2)

set_option maxHeartbeats 1600000 in
set_option maxRecDepth 100000 in
theorem econcat_any (v : Value) (o : List (List Ed)) (w : World) (ho : EORd w v o) (hl : o.length ≤ 1000) (hf : o.flatten.length ≤ 100000) :
    Calls Try.prog 30 #[v] w fun e w' => ∃ u, e = .returned u ∧ ERow w' w.heap.size u o.flatten ∧ Below w.heap.size w w' := by
  obtain ⟨A, cap, rfl, hc, -⟩ := id ho
  obtain ⟨n, hn⟩ : ∃ n : Nat, o.length = n := ⟨_, rfl⟩
  rw [hn] at hc hl ho
  rw [hn]
  have H3 := Lib.hid ho
  have HN := Lib.hid hn
  have HF := Lib.hid hf
  clear ho hn hf
  go_enter Try.func30, Try.ntmps30
  go_wp2_with fail
  go_loop [11, 3] (fun i s => ∃ (r t : Nat), r ≤ n ∧ i = .int .i64 r ∧ s = .int .i64 t ∧ t ≤ 100000 ∧ Hid ((o.take r).flatten.length = t)) (fun i _ => n - (intOf i).toNat)
  case atStart => exact ⟨0, 0, Nat.zero_le _, rfl, rfl, by omega, Lib.hid rfl⟩
  case round =>
    obtain ⟨r, t, hr, rfl, rfl, ht, HT⟩ := hrel
    by_cases hrn : r < n
    · have hrb : decide ((r : Int) < n) = true := by simp; omega
      obtain ⟨c, hcr⟩ : ∃ c, o[r]? = some c := ⟨_, List.getElem?_eq_getElem (by have := HN.out; omega)⟩
      have HCR := Lib.hid hcr
      obtain ⟨a, u, rfl, hal, hac, hrow⟩ := H3.out.at r c hcr
      obtain ⟨A1, cap1, rfl, hcl, -⟩ := hrow
      obtain ⟨L, hL⟩ : ∃ L : Nat, c.length = L := ⟨_, rfl⟩
      rw [hL] at hac hcl
      have hsum : (o.take (r + 1)).flatten.length = t + L := by rw [eflat_take HCR.out, List.length_append, HT.out, hL]
      have hle : t + L ≤ 100000 := by have := eflat_le o (r + 1); have := HF.out; omega
      have HS := Lib.hid hsum
      have hneg : decide ((t : Int) + L < 0) = false := by simp; omega
      clear hsum hL hcr
      go_wp2_with fail
      exact ⟨⟨r + 1, t + L, by omega, by go_num, by go_num, hle, HS⟩, by simp [intOf]; omega⟩
    · obtain rfl : r = n := by omega
      clear hrn
      go_wp2_with fail
      refine (egrow_any t ht _).mono ?_
      rintro e w1 ⟨v1, rfl, hv1, hb1⟩
      have HV1 := Lib.hid hv1
      have HB1 := Lib.hid hb1
      clear hv1 hb1 HT
      go_wp2_with fail
      go_loopw [27, 6] (fun i u wr => ∃ (s : Nat), s ≤ r ∧ i = .int .i64 s ∧ Hid (ERow wr w.heap.size u (o.take s).flatten) ∧ Hid (Below w.heap.size w wr)) (fun i _ _ => r - (intOf i).toNat)
      case atStart => exact ⟨0, Nat.zero_le _, rfl, HV1, HB1⟩
      case round =>
        obtain ⟨s, hs, rfl, HV, HB⟩ := hrel
        clear HV1 HB1
        by_cases hsn : s < r
        · have hsb : decide ((s : Int) < r) = true := by simp; omega
          obtain ⟨c, hcr⟩ : ∃ c, o[s]? = some c := ⟨_, List.getElem?_eq_getElem (by have := HN.out; omega)⟩
          obtain ⟨a, u, rfl, hal, hac, hrow⟩ := (H3.out.keep HB.out).at s c hcr
          have HFT := Lib.hid (eflat_take hcr)
          obtain ⟨A1, cap1, rfl, hcl, -⟩ := id hrow
          obtain ⟨L, hL⟩ : ∃ L : Nat, c.length = L := ⟨_, rfl⟩
          rw [hL] at hac hcl hrow
          have HLn := Lib.hid hL
          have HW := Lib.hid hrow
          have hbz := HB.out.size
          obtain ⟨m, hm⟩ : ∃ m, (o.take s).flatten.length = m := ⟨_, rfl⟩
          have hmL : m + L ≤ 100000 := by have h1 := eflat_le o (s + 1); have h2 := HF.out; rw [HFT.out, List.length_append, hm, hL] at h1; omega
          have HM := Lib.hid hm
          obtain ⟨Au, cu, rfl⟩ := HV.out.form
          rw [hm] at HV ⊢
          clear hcr hL hm hrow
          go_wp2_with (at_builtin; refine ejoin_list (by rfl) _ _ (by rfl) w.heap.size _ _ m (by rfl) HV.out HM.out A1 L cap1 c (by rfl) HW.out HLn.out (by omega) hbz ?_; intro A2 cap2 w2 hown hb2)
          exact ⟨⟨s + 1, by omega, by go_num, Lib.hid (by rw [HFT.out]; exact hown), Lib.hid (HB.out.trans hb2)⟩, by simp [intOf]; omega⟩
        · obtain rfl : s = r := by omega
          have HV' := HV.out
          rw [List.take_of_length_le (by rw [HN.out]; omega)] at HV'
          have HVV := Lib.hid HV'
          clear HV'
          go_wp2
          go_ret
          exact ⟨_, rfl, HVV.out, HB.out⟩

end Go.Proofs.Ytnpklcmbiamocaa

namespace Go.Proofs.Ytnpklcmbiamocaa
open Go.RowKit

set_option maxRecDepth 100000 in
set_option maxHeartbeats 3200000 in
theorem pall11_any (ve : Value) (o : List (List Ed)) (w : World) (ho : EORd w ve o) (hl : o.length ≤ 8) (hin : ∀ es ∈ o, es.length ≤ 5000 ∧ ∀ s ∈ es, InD s) :
    Calls Try.prog 10 #[ve] w fun e w' => ∃ V U, e = .returned (.tuple #[V, U]) ∧ ERow w' w.heap.size V o.flatten ∧ NRow w' w.heap.size U (o.map coloursL).flatten ∧ Below w.heap.size w w' := by
  obtain ⟨A, cap, rfl, hc, -⟩ := id ho
  have hsum : ∀ r, ((o.take r).map coloursL).flatten.length ≤ 5000 * r ∧ (o.take r).flatten.length ≤ 5000 * r := by
    intro r
    induction r with
    | zero => simp
    | succ r ih =>
      by_cases hr : r < o.length
      · have hE := List.getElem?_eq_getElem hr
        have h5 := (hin _ (List.getElem_mem hr)).1
        rw [take_push o r _ hE, List.map_append, List.flatten_append, List.flatten_append, List.length_append, List.length_append]
        simp only [List.map_cons, List.map_nil, List.flatten_cons, List.flatten_nil, List.append_nil, coloursL_length]
        omega
      · rw [List.take_of_length_le (by omega)] at ih ⊢
        omega
  have hfl : o.flatten.length ≤ 100000 := by
    have h := (hsum o.length).2
    rw [List.take_of_length_le (Nat.le_refl _)] at h
    omega
  have HCC := Lib.hid (fun w h => econcat_any (.slice A o.length cap) o w h (by omega) hfl)
  have HSU := Lib.hid hsum
  have HIN := Lib.hid hin
  obtain ⟨n, hn⟩ : ∃ n : Nat, o.length = n := ⟨_, rfl⟩
  have HN := Lib.hid hn
  rw [hn] at hc hl ho HCC
  rw [hn]
  have H3 := Lib.hid ho
  clear ho hn hfl hin hsum
  go_enter Try.func10, Try.ntmps10
  go_wp2_with fail
  go_loopw [9, 4] (fun i u wr => ∃ r : Nat, r ≤ n ∧ i = .int .i64 r ∧ Hid (NRow wr w.heap.size u ((o.take r).map coloursL).flatten) ∧ Hid (Below w.heap.size w wr)) (fun i _ _ => n - (intOf i).toNat)
  case atStart => exact ⟨0, Nat.zero_le _, rfl, Lib.hid (NRow.nil _ _), Lib.hid (Below.refl _ _)⟩
  case round =>
    obtain ⟨r, hr, rfl, HR, HB⟩ := hrel
    by_cases hrn : r < n
    · have hrb : decide ((r : Int) < n) = true := by simp; omega
      obtain ⟨c, hcr⟩ : ∃ c, o[r]? = some c := ⟨_, List.getElem?_eq_getElem (by have := HN.out; omega)⟩
      obtain ⟨a, u, rfl, hal, hac, hrow⟩ := (H3.out.keep HB.out).at r c hcr
      have hci := HIN.out c (List.mem_of_getElem? hcr)
      have HTK := Lib.hid (show ((o.take (r + 1)).map coloursL).flatten = ((o.take r).map coloursL).flatten ++ coloursL c by rw [take_push o r c hcr, List.map_append, List.flatten_append]; simp)
      have HW := Lib.hid hrow
      have HCL := Lib.hid (fun w v h => pcolours_any v c w h (by omega) hci.2)
      have HLN := Lib.hid (coloursL_length c)
      obtain ⟨m, hm⟩ : ∃ m, ((o.take r).map coloursL).flatten.length = m := ⟨_, rfl⟩
      have hmb : m ≤ 40000 := by have := (HSU.out r).1; rw [hm] at this; omega
      have HM := Lib.hid hm
      obtain ⟨Au, cu, rfl⟩ := HR.out.form
      rw [hm] at HR ⊢
      obtain ⟨L, hL⟩ : ∃ L, c.length = L := ⟨_, rfl⟩
      have hLb : L ≤ 5000 := by rw [← hL]; exact hci.1
      rw [hL] at HLN
      generalize coloursL c = lc at *
      generalize ((o.take r).map coloursL).flatten = ls at *
      clear hcr hm hL hrow hci
      go_wp2_with fail
      refine (HCL.out _ _ HW.out).mono ?_
      rintro e w2 ⟨V, rfl, hV, hb⟩
      obtain ⟨A2, cap2, rfl⟩ : ∃ A2 cap2, V = .slice A2 L cap2 := by obtain ⟨A2, cap2, e⟩ := hV.form; exact ⟨A2, cap2, by rw [e, HLN.out]⟩
      have HV2 := Lib.hid hV.read
      have HR2 := Lib.hid (HR.out.below hb)
      have HB2 := Lib.hid (below2 HB.out hb)
      have hbz := HB2.out.size
      clear hV hb HR HB HW HCL hac hal
      go_wp2_with (at_builtin; refine njoin_list (by rfl) _ _ (by rfl) w.heap.size _ _ m (by rfl) HR2.out HM.out A2 L cap2 lc (by rfl) HV2.out HLN.out (by omega) hbz ?_; intro A3 cap3 w3 hown hb3)
      exact ⟨⟨r + 1, by omega, by go_num, Lib.hid (by rw [HTK.out]; exact hown), Lib.hid (HB2.out.trans hb3)⟩, by simp [intOf]; omega⟩
    · obtain rfl : r = n := by omega
      have HR' := HR.out
      rw [List.take_of_length_le (by rw [HN.out]; omega)] at HR'
      have HRR := Lib.hid HR'
      have HE := Lib.hid (H3.out.keep HB.out)
      clear HR' HR
      obtain ⟨ls, hls⟩ : ∃ ls, (o.map coloursL).flatten = ls := ⟨_, rfl⟩
      have HLS := Lib.hid hls
      rw [hls] at HRR
      obtain ⟨K, hK⟩ : ∃ K, ls.length = K := ⟨_, rfl⟩
      obtain ⟨Au, cu, rfl⟩ := HRR.out.form
      rw [hK] at HRR ⊢
      clear hls hK
      go_wp2_with fail
      refine (HCC.out _ HE.out).mono ?_
      rintro e w2 ⟨V, rfl, hV, hb⟩
      have HV2 := Lib.hid (hV.mono HB.out.size)
      have HR2 := Lib.hid (HRR.out.below hb)
      have HB2 := Lib.hid (below2 HB.out hb)
      clear hV hb
      go_wp2_with fail
      go_ret2
      exact ⟨_, _, rfl, HV2.out, by rw [HLS.out]; exact HR2.out, HB2.out⟩

/-- P11.1 to P11.3, by the program. -/
theorem cornOK : CornOK where
  is := fun a b w ha hb => pis_any a b ha hb w
  corners := pcorners_any
  colours := pcolours_any
  all := pall11_any

end Go.Proofs.Ytnpklcmbiamocaa
