/-
  The walk of punchcutlaw11.CornerIs, over what the program is to do (no claim is made here).
-/
import Derived.Test.YtbnjajhhbcnepaaCorn5
import Derived.OpenShut
namespace Go.Proofs.Ytbnjajhhbcnepaa
open Go.RowKit

/-- A new block, its number named. -/
theorem new_ex {w W : World} {n : Nat} (AB : Below n w W) (hn : n ≤ w.heap.size) (t : TypeId) (vs : List Value) : ∃ g, W.heap.size = g ∧ n ≤ g ∧ Blk (W.alloc (.cells vs.toArray t)) g t vs ∧ Below n w (W.alloc (.cells vs.toArray t)) ∧ Below W.heap.size W (W.alloc (.cells vs.toArray t)) :=
  ⟨_, rfl, Nat.le_trans hn AB.size, Blk.new _ _ _ rfl, AB.alloc (Nat.le_trans hn AB.size) _, (Below.refl _ _).alloc (Nat.le_refl _) _⟩
theorem blk_put4 {w : World} {g : Nat} {t : TypeId} {a b c d x y z v : Value} (h : Blk w g t [a, b, c, d]) : Blk ((((w.setCell ⟨g, 0, none⟩ x).setCell ⟨g, 1, none⟩ y).setCell ⟨g, 2, none⟩ z).setCell ⟨g, 3, none⟩ v) g t [x, y, z, v] := (((h.set 0 x).set 1 y).set 2 z).set 3 v
theorem blk_oth4 {w : World} {g k : Nat} {t : TypeId} {vs : List Value} {x y z v : Value} (h : Blk w k t vs) (hne : k ≠ g) : Blk ((((w.setCell ⟨g, 0, none⟩ x).setCell ⟨g, 1, none⟩ y).setCell ⟨g, 2, none⟩ z).setCell ⟨g, 3, none⟩ v) k t vs := (((h.other 0 x hne).other 1 y hne).other 2 z hne).other 3 v hne
theorem below_put4 {w W : World} {n g : Nat} {x y z v : Value} (h : Below n w W) (hg : n ≤ g) : Below n w ((((W.setCell ⟨g, 0, none⟩ x).setCell ⟨g, 1, none⟩ y).setCell ⟨g, 2, none⟩ z).setCell ⟨g, 3, none⟩ v) := (((h.setCell (p := ⟨g, 0, none⟩) hg x).setCell (p := ⟨g, 1, none⟩) hg y).setCell (p := ⟨g, 2, none⟩) hg z).setCell (p := ⟨g, 3, none⟩) hg v

set_option maxRecDepth 100000 in
set_option maxHeartbeats 3200000 in
theorem cornerIs_walk (H : CornOK) (a0 a1 b0 b1 c0 c1 : Int) (w0 : (Lit.int .i16 a0).wf = true) (w1 : (Lit.int .i16 a1).wf = true) (w2 : (Lit.int .i16 b0).wf = true) (w3 : (Lit.int .i16 b1).wf = true) (w4 : (Lit.int .i16 c0).wf = true) (w5 : (Lit.int .i16 c1).wf = true) (w : World) :
    Calls Try.prog 3 #[.agg #[.int .i16 a0, .int .i16 a1], .agg #[.int .i16 b0, .int .i16 b1], .agg #[.int .i16 c0, .int .i16 c1]] w fun e w' => e = .returned (.bool true) ∧ Below w.heap.size w w' := by
  have ha : a0.natAbs ≤ 32768 ∧ a1.natAbs ≤ 32768 := by have := bounds_i16 w0; have := bounds_i16 w1; omega
  have hb : b0.natAbs ≤ 32768 ∧ b1.natAbs ≤ 32768 := by have := bounds_i16 w2; have := bounds_i16 w3; omega
  have hc : c0.natAbs ≤ 32768 ∧ c1.natAbs ≤ 32768 := by have := bounds_i16 w4; have := bounds_i16 w5; omega
  clear w0 w1 w2 w3 w4 w5
  have HAW := Lib.hid (fun w => awake11 H w)
  have HX := Lib.hid (fun w => edge_any a0 a1 b0 b1 ha hb w)
  have HY := Lib.hid (fun w => edge_any b0 b1 c0 c1 hb hc w)
  have hm : ∀ x : Int, (x.tmod 8193).natAbs ≤ 8192 := fun x => by rw [Int.natAbs_tmod]; exact Nat.lt_succ_iff.1 (Nat.mod_lt _ (by decide))
  obtain ⟨X, hX⟩ : ∃ X : Ed, X = ⟨⟨a0.tmod 8193, a1.tmod 8193⟩, ⟨b0.tmod 8193, b1.tmod 8193⟩⟩ := ⟨_, rfl⟩
  obtain ⟨Y, hY⟩ : ∃ X : Ed, X = ⟨⟨b0.tmod 8193, b1.tmod 8193⟩, ⟨c0.tmod 8193, c1.tmod 8193⟩⟩ := ⟨_, rfl⟩
  have HXI : InD X := by rw [hX]; exact ⟨⟨hm _, hm _⟩, hm _, hm _⟩
  have HYI : InD Y := by rw [hY]; exact ⟨⟨hm _, hm _⟩, hm _, hm _⟩
  rw [show a0.tmod 8193 = X.a.x by rw [hX], show a1.tmod 8193 = X.a.y by rw [hX], show b0.tmod 8193 = X.b.x by rw [hX], show b1.tmod 8193 = X.b.y by rw [hX]] at HX
  rw [show b0.tmod 8193 = Y.a.x by rw [hY], show b1.tmod 8193 = Y.a.y by rw [hY], show c0.tmod 8193 = Y.b.x by rw [hY], show c1.tmod 8193 = Y.b.y by rw [hY]] at HY
  clear hX hY hm ha hb hc
  have HI := Lib.hid (fun w => H.is X Y w HXI HYI)
  have HL := Lib.hid (fun w => lis_any X Y HXI HYI w)
  have HIB := Lib.hid (fun w => H.is (backE Y) (backE X) w ⟨HYI.2, HYI.1⟩ ⟨HXI.2, HXI.1⟩)
  rw [isC_back] at HIB
  generalize isC X Y = t at *
  have HB0 := Lib.hid (alloc3 w (.cells #[.int .i16 a0, .int .i16 a1] 24) (.cells #[.int .i16 b0, .int .i16 b1] 24) (.cells #[.int .i16 c0, .int .i16 c1] 24))
  have HA0 := Lib.hid (((Blk.new w 24 [.int .i16 a0, .int .i16 a1] rfl).alloc (.cells #[.int .i16 b0, .int .i16 b1] 24)).alloc (.cells #[.int .i16 c0, .int .i16 c1] 24))
  have HP0 := Lib.hid ((Blk.new (w.alloc (.cells #[.int .i16 a0, .int .i16 a1] 24)) 24 [.int .i16 b0, .int .i16 b1] (g := w.heap.size + 1) (by simp)).alloc (.cells #[.int .i16 c0, .int .i16 c1] 24))
  have HC0 := Lib.hid (Blk.new ((w.alloc (.cells #[.int .i16 a0, .int .i16 a1] 24)).alloc (.cells #[.int .i16 b0, .int .i16 b1] 24)) 24 [.int .i16 c0, .int .i16 c1] (g := w.heap.size + 1 + 1) (by simp))
  go_enter Try.func3, Try.ntmps3
  go_wp2_with fail
  refine (HAW.out _).mono ?_
  rintro e w1 ⟨rfl, hb⟩
  have HB1 := Lib.hid (below2 HB0.out hb)
  have HA1 := Lib.hid (HA0.out.keep hb)
  have HP1 := Lib.hid (HP0.out.keep hb)
  have HC1 := Lib.hid (HC0.out.keep hb)
  clear hb HB0 HA0 HP0 HC0 HAW
  go_upto_region 3 with fail
  go_cut [7, 8] (fun sx sy wx => ∃ gx gy : Nat, sx = .pointer (some ⟨gx, 0, none⟩) ∧ sy = .pointer (some ⟨gy, 0, none⟩) ∧ Hid (Blk wx gx 29 [.int .i64 X.a.x, .int .i64 X.a.y, .int .i64 X.b.x, .int .i64 X.b.y]) ∧ Hid (Blk wx gy 29 [.int .i64 Y.a.x, .int .i64 Y.a.y, .int .i64 Y.b.x, .int .i64 Y.b.y]) ∧ Hid (Below w.heap.size w wx))
  case first =>
    have hd : Below w1.heap.size w1 w1.drew := (Below.refl _ w1).drew
    have AB := HB1.out.drew
    replace HA1 := Lib.hid (HA1.out.keep hd)
    replace HP1 := Lib.hid (HP1.out.keep hd)
    replace HC1 := Lib.hid (HC1.out.keep hd)
    clear hd HB1
    refine wp_region_held_drew (S := fun wx => wx.cell? ⟨w.heap.size, 0, none⟩ = some (.int .i16 a0) ∧ wx.cell? ⟨w.heap.size, 1, none⟩ = some (.int .i16 a1) ∧ wx.cell? ⟨w.heap.size + 1, 0, none⟩ = some (.int .i16 b0) ∧ wx.cell? ⟨w.heap.size + 1, 1, none⟩ = some (.int .i16 b1) ∧ wx.cell? ⟨w.heap.size + 1 + 1, 0, none⟩ = some (.int .i16 c0) ∧ wx.cell? ⟨w.heap.size + 1 + 1, 1, none⟩ = some (.int .i16 c1)) (by kernel_rfl) (⟨HA1.out.cell 0 rfl, HA1.out.cell 1 rfl, HP1.out.cell 0 rfl, HP1.out.cell 1 rfl, HC1.out.cell 0 rfl, HC1.out.cell 1 rfl⟩) (fun hHeld => ?_)
    generalize w1.drew = w2 at *
    refine wpAnyH_take (i := 0) (v := ?_) rfl (by kernel_rfl) (by kernel_rfl) (by kernel_rfl) (fun _ _ _ h => h) (Or.inl ⟨by rfl, ?_⟩) hHeld ?_
    rotate_left
    · intro w hSw
      (try dsimp only at hSw)
      (try simp only [List.getElem_toArray, List.getElem_cons_zero])
      go_simp
      all_goals with_reducible rfl
    try simp only [List.getElem_toArray, List.getElem_cons_zero, Act.put, List.setIfInBounds_toArray, List.set_cons_zero, List.set_cons_succ]
    refine wpAnyH_take (i := 1) (v := ?_) rfl (by kernel_rfl) (by kernel_rfl) (by kernel_rfl) (fun _ _ _ h => h) (Or.inl ⟨by rfl, ?_⟩) hHeld ?_
    rotate_left
    · intro w hSw
      (try dsimp only at hSw)
      (try simp only [List.getElem_toArray, List.getElem_cons_zero, List.getElem_cons_succ])
      go_simp
      all_goals with_reducible rfl
    try simp only [List.getElem_toArray, List.getElem_cons_zero, List.getElem_cons_succ, Act.put, List.setIfInBounds_toArray, List.set_cons_zero, List.set_cons_succ]
    refine wpAnyH_take (i := 3) (v := ?_) rfl (by kernel_rfl) (by kernel_rfl) (by kernel_rfl) (fun _ _ _ h => h) (Or.inl ⟨by rfl, ?_⟩) hHeld ?_
    rotate_left
    · intro w hSw
      (try dsimp only at hSw)
      (try simp only [List.getElem_toArray, List.getElem_cons_zero, List.getElem_cons_succ])
      go_simp
      all_goals with_reducible rfl
    try simp only [List.getElem_toArray, List.getElem_cons_zero, List.getElem_cons_succ, Act.put, List.setIfInBounds_toArray, List.set_cons_zero, List.set_cons_succ]
    refine wpAnyH_take (i := 4) (v := ?_) rfl (by kernel_rfl) (by kernel_rfl) (by kernel_rfl) (fun _ _ _ h => h) (Or.inl ⟨by rfl, ?_⟩) hHeld ?_
    rotate_left
    · intro w hSw
      (try dsimp only at hSw)
      (try simp only [List.getElem_toArray, List.getElem_cons_zero, List.getElem_cons_succ])
      go_simp
      all_goals with_reducible rfl
    try simp only [List.getElem_toArray, List.getElem_cons_zero, List.getElem_cons_succ, Act.put, List.setIfInBounds_toArray, List.set_cons_zero, List.set_cons_succ]
    refine wpAnyH_ready (rs := [2, 6, 7]) (by kernel_rfl) (by simp) ?_
    refine AllReadyH.cons rfl (fun K hK => ?_) (AllReadyH.cons rfl (fun K hK => ?_) (AllReadyH.cons rfl (fun K hK => ?_) AllReadyH.nil))
    · try simp only [List.getElem_toArray, List.getElem_cons_zero, List.getElem_cons_succ]
      go_simp
      refine (HX.out _).mono ?_
      rintro e wn ⟨rfl, hbn⟩
      have AB := AB.trans (hbn.mono (AB.size))
      replace HA1 := Lib.hid (HA1.out.keep hbn)
      replace HP1 := Lib.hid (HP1.out.keep hbn)
      replace HC1 := Lib.hid (HC1.out.keep hbn)
      try replace HXB := Lib.hid (HXB.out.keep hbn)
      try replace HYB := Lib.hid (HYB.out.keep hbn)
      clear hbn
      go_wp2_with fail
      refine hK.out _ _ (⟨HA1.out.cell 0 rfl, HA1.out.cell 1 rfl, HP1.out.cell 0 rfl, HP1.out.cell 1 rfl, HC1.out.cell 0 rfl, HC1.out.cell 1 rfl⟩) (fun hHeld => ?_)
      clear hK K
      try simp only [List.getElem_toArray, List.getElem_cons_zero, List.getElem_cons_succ, Act.put, List.setIfInBounds_toArray, List.set_cons_zero, List.set_cons_succ]
      refine wpAnyH_ready (rs := [5, 6, 7]) (by kernel_rfl) (by simp) ?_
      refine AllReadyH.cons rfl (fun K hK => ?_) (AllReadyH.cons rfl (fun K hK => ?_) (AllReadyH.cons rfl (fun K hK => ?_) AllReadyH.nil))
      · try simp only [List.getElem_toArray, List.getElem_cons_zero, List.getElem_cons_succ]
        go_simp
        refine (HY.out _).mono ?_
        rintro e wn ⟨rfl, hbn⟩
        have AB := AB.trans (hbn.mono (AB.size))
        replace HA1 := Lib.hid (HA1.out.keep hbn)
        replace HP1 := Lib.hid (HP1.out.keep hbn)
        replace HC1 := Lib.hid (HC1.out.keep hbn)
        try replace HXB := Lib.hid (HXB.out.keep hbn)
        try replace HYB := Lib.hid (HYB.out.keep hbn)
        clear hbn
        go_wp2_with fail
        refine hK.out _ _ (⟨HA1.out.cell 0 rfl, HA1.out.cell 1 rfl, HP1.out.cell 0 rfl, HP1.out.cell 1 rfl, HC1.out.cell 0 rfl, HC1.out.cell 1 rfl⟩) (fun hHeld => ?_)
        clear hK K
        try simp only [List.getElem_toArray, List.getElem_cons_zero, List.getElem_cons_succ, Act.put, List.setIfInBounds_toArray, List.set_cons_zero, List.set_cons_succ]
        refine wpAnyH_ready (rs := [6, 7]) (by kernel_rfl) (by simp) ?_
        refine AllReadyH.cons rfl (fun K hK => ?_) (AllReadyH.cons rfl (fun K hK => ?_) AllReadyH.nil)
        · try simp only [List.getElem_toArray, List.getElem_cons_zero, List.getElem_cons_succ]
          go_simp
          obtain ⟨gX, hgX, hgX1, hBn, hAn, hKn⟩ := new_ex AB (Nat.le_refl _) 29 [.int .i64 0, .int .i64 0, .int .i64 0, .int .i64 0]
          have hgX2 : w.heap.size + 1 + 1 < gX := by rw [← hgX]; exact HC1.out.lt
          try simp only [World.size_alloc] at hgX
          rw [hgX]
          have HXB := Lib.hid hBn
          replace HA1 := Lib.hid (HA1.out.keep hKn)
          replace HP1 := Lib.hid (HP1.out.keep hKn)
          replace HC1 := Lib.hid (HC1.out.keep hKn)
          have AB := hAn
          clear hBn hAn hKn hgX
          refine hK.out _ _ (⟨HA1.out.cell 0 rfl, HA1.out.cell 1 rfl, HP1.out.cell 0 rfl, HP1.out.cell 1 rfl, HC1.out.cell 0 rfl, HC1.out.cell 1 rfl⟩) (fun hHeld => ?_)
          clear hK K
          try simp only [List.getElem_toArray, List.getElem_cons_zero, List.getElem_cons_succ, Act.put, List.setIfInBounds_toArray, List.set_cons_zero, List.set_cons_succ]
          refine wpAnyH_ready (rs := [7]) (by kernel_rfl) (by simp) ?_
          refine AllReadyH.cons rfl (fun K hK => ?_) AllReadyH.nil
          try simp only [List.getElem_toArray, List.getElem_cons_zero, List.getElem_cons_succ]
          go_simp
          obtain ⟨gY, hgY, hgY1, hBn, hAn, hKn⟩ := new_ex AB (Nat.le_refl _) 29 [.int .i64 0, .int .i64 0, .int .i64 0, .int .i64 0]
          have hgY2 : w.heap.size + 1 + 1 < gY := by rw [← hgY]; exact HC1.out.lt
          have hgxy : gX < gY := by rw [← hgY]; exact HXB.out.lt
          replace HXB := Lib.hid (HXB.out.keep hKn)
          try simp only [World.size_alloc] at hgY
          rw [hgY]
          have HYB := Lib.hid hBn
          replace HA1 := Lib.hid (HA1.out.keep hKn)
          replace HP1 := Lib.hid (HP1.out.keep hKn)
          replace HC1 := Lib.hid (HC1.out.keep hKn)
          have AB := hAn
          clear hBn hAn hKn hgY
          refine hK.out _ _ (⟨HA1.out.cell 0 rfl, HA1.out.cell 1 rfl, HP1.out.cell 0 rfl, HP1.out.cell 1 rfl, HC1.out.cell 0 rfl, HC1.out.cell 1 rfl⟩) (fun hHeld => ?_)
          clear hK K
          try simp only [List.getElem_toArray, List.getElem_cons_zero, List.getElem_cons_succ, Act.put, List.setIfInBounds_toArray, List.set_cons_zero, List.set_cons_succ]
          refine wpAnyH_ready (rs := [8]) (by kernel_rfl) (by simp) ?_
          refine AllReadyH.cons rfl (fun K hK => ?_) AllReadyH.nil
          try simp only [List.getElem_toArray, List.getElem_cons_zero, List.getElem_cons_succ]
          have x0 := HXB.out.cell 0 rfl
          have x1 := HXB.out.cell 1 rfl
          have x2 := HXB.out.cell 2 rfl
          have x3 := HXB.out.cell 3 rfl
          have xf := HXB.out.frozen
          have xl := HXB.out.lt
          go_simp
          replace HXB : Hid (Blk _ gX 29 [.int .i64 X.a.x, .int .i64 X.a.y, .int .i64 X.b.x, .int .i64 X.b.y]) := Lib.hid (blk_put4 HXB.out)
          replace HYB := Lib.hid (blk_oth4 (g := gX) (x := .int .i64 X.a.x) (y := .int .i64 X.a.y) (z := .int .i64 X.b.x) (v := .int .i64 X.b.y) HYB.out (by omega))
          replace HA1 := Lib.hid (blk_oth4 (g := gX) (x := .int .i64 X.a.x) (y := .int .i64 X.a.y) (z := .int .i64 X.b.x) (v := .int .i64 X.b.y) HA1.out (by omega))
          replace HP1 := Lib.hid (blk_oth4 (g := gX) (x := .int .i64 X.a.x) (y := .int .i64 X.a.y) (z := .int .i64 X.b.x) (v := .int .i64 X.b.y) HP1.out (by omega))
          replace HC1 := Lib.hid (blk_oth4 (g := gX) (x := .int .i64 X.a.x) (y := .int .i64 X.a.y) (z := .int .i64 X.b.x) (v := .int .i64 X.b.y) HC1.out (by omega))
          have AB := below_put4 (g := gX) (x := .int .i64 X.a.x) (y := .int .i64 X.a.y) (z := .int .i64 X.b.x) (v := .int .i64 X.b.y) AB hgX1
          clear x0 x1 x2 x3 xf xl
          refine hK.out _ _ (⟨HA1.out.cell 0 rfl, HA1.out.cell 1 rfl, HP1.out.cell 0 rfl, HP1.out.cell 1 rfl, HC1.out.cell 0 rfl, HC1.out.cell 1 rfl⟩) (fun hHeld => ?_)
          clear hK K
          try simp only [List.getElem_toArray, List.getElem_cons_zero, List.getElem_cons_succ, Act.put, List.setIfInBounds_toArray, List.set_cons_zero, List.set_cons_succ]
          refine wpAnyH_ready (rs := [9]) (by kernel_rfl) (by simp) ?_
          refine AllReadyH.cons rfl (fun K hK => ?_) AllReadyH.nil
          try simp only [List.getElem_toArray, List.getElem_cons_zero, List.getElem_cons_succ]
          have x0 := HYB.out.cell 0 rfl
          have x1 := HYB.out.cell 1 rfl
          have x2 := HYB.out.cell 2 rfl
          have x3 := HYB.out.cell 3 rfl
          have xf := HYB.out.frozen
          have xl := HYB.out.lt
          go_simp
          replace HYB : Hid (Blk _ gY 29 [.int .i64 Y.a.x, .int .i64 Y.a.y, .int .i64 Y.b.x, .int .i64 Y.b.y]) := Lib.hid (blk_put4 HYB.out)
          replace HXB := Lib.hid (blk_oth4 (g := gY) (x := .int .i64 Y.a.x) (y := .int .i64 Y.a.y) (z := .int .i64 Y.b.x) (v := .int .i64 Y.b.y) HXB.out (by omega))
          replace HA1 := Lib.hid (blk_oth4 (g := gY) (x := .int .i64 Y.a.x) (y := .int .i64 Y.a.y) (z := .int .i64 Y.b.x) (v := .int .i64 Y.b.y) HA1.out (by omega))
          replace HP1 := Lib.hid (blk_oth4 (g := gY) (x := .int .i64 Y.a.x) (y := .int .i64 Y.a.y) (z := .int .i64 Y.b.x) (v := .int .i64 Y.b.y) HP1.out (by omega))
          replace HC1 := Lib.hid (blk_oth4 (g := gY) (x := .int .i64 Y.a.x) (y := .int .i64 Y.a.y) (z := .int .i64 Y.b.x) (v := .int .i64 Y.b.y) HC1.out (by omega))
          have AB := below_put4 (g := gY) (x := .int .i64 Y.a.x) (y := .int .i64 Y.a.y) (z := .int .i64 Y.b.x) (v := .int .i64 Y.b.y) AB hgY1
          clear x0 x1 x2 x3 xf xl
          refine hK.out _ _ (⟨HA1.out.cell 0 rfl, HA1.out.cell 1 rfl, HP1.out.cell 0 rfl, HP1.out.cell 1 rfl, HC1.out.cell 0 rfl, HC1.out.cell 1 rfl⟩) (fun hHeld => ?_)
          clear hK K
          try simp only [List.getElem_toArray, List.getElem_cons_zero, List.getElem_cons_succ, Act.put, List.setIfInBounds_toArray, List.set_cons_zero, List.set_cons_succ]
          refine wpAnyH_done (by kernel_rfl) ?_ _
          go_wp2_with fail
          go_meet
          exact ⟨gX, gY, rfl, rfl, HXB, HYB, Lib.hid AB⟩
        · try simp only [List.getElem_toArray, List.getElem_cons_zero, List.getElem_cons_succ]
          go_simp
          obtain ⟨gY, hgY, hgY1, hBn, hAn, hKn⟩ := new_ex AB (Nat.le_refl _) 29 [.int .i64 0, .int .i64 0, .int .i64 0, .int .i64 0]
          have hgY2 : w.heap.size + 1 + 1 < gY := by rw [← hgY]; exact HC1.out.lt
          try simp only [World.size_alloc] at hgY
          rw [hgY]
          have HYB := Lib.hid hBn
          replace HA1 := Lib.hid (HA1.out.keep hKn)
          replace HP1 := Lib.hid (HP1.out.keep hKn)
          replace HC1 := Lib.hid (HC1.out.keep hKn)
          have AB := hAn
          clear hBn hAn hKn hgY
          refine hK.out _ _ (⟨HA1.out.cell 0 rfl, HA1.out.cell 1 rfl, HP1.out.cell 0 rfl, HP1.out.cell 1 rfl, HC1.out.cell 0 rfl, HC1.out.cell 1 rfl⟩) (fun hHeld => ?_)
          clear hK K
          try simp only [List.getElem_toArray, List.getElem_cons_zero, List.getElem_cons_succ, Act.put, List.setIfInBounds_toArray, List.set_cons_zero, List.set_cons_succ]
          refine wpAnyH_ready (rs := [6]) (by kernel_rfl) (by simp) ?_
          refine AllReadyH.cons rfl (fun K hK => ?_) AllReadyH.nil
          try simp only [List.getElem_toArray, List.getElem_cons_zero, List.getElem_cons_succ]
          go_simp
          obtain ⟨gX, hgX, hgX1, hBn, hAn, hKn⟩ := new_ex AB (Nat.le_refl _) 29 [.int .i64 0, .int .i64 0, .int .i64 0, .int .i64 0]
          have hgX2 : w.heap.size + 1 + 1 < gX := by rw [← hgX]; exact HC1.out.lt
          have hgxy : gY < gX := by rw [← hgX]; exact HYB.out.lt
          replace HYB := Lib.hid (HYB.out.keep hKn)
          try simp only [World.size_alloc] at hgX
          rw [hgX]
          have HXB := Lib.hid hBn
          replace HA1 := Lib.hid (HA1.out.keep hKn)
          replace HP1 := Lib.hid (HP1.out.keep hKn)
          replace HC1 := Lib.hid (HC1.out.keep hKn)
          have AB := hAn
          clear hBn hAn hKn hgX
          refine hK.out _ _ (⟨HA1.out.cell 0 rfl, HA1.out.cell 1 rfl, HP1.out.cell 0 rfl, HP1.out.cell 1 rfl, HC1.out.cell 0 rfl, HC1.out.cell 1 rfl⟩) (fun hHeld => ?_)
          clear hK K
          try simp only [List.getElem_toArray, List.getElem_cons_zero, List.getElem_cons_succ, Act.put, List.setIfInBounds_toArray, List.set_cons_zero, List.set_cons_succ]
          refine wpAnyH_ready (rs := [8]) (by kernel_rfl) (by simp) ?_
          refine AllReadyH.cons rfl (fun K hK => ?_) AllReadyH.nil
          try simp only [List.getElem_toArray, List.getElem_cons_zero, List.getElem_cons_succ]
          have x0 := HXB.out.cell 0 rfl
          have x1 := HXB.out.cell 1 rfl
          have x2 := HXB.out.cell 2 rfl
          have x3 := HXB.out.cell 3 rfl
          have xf := HXB.out.frozen
          have xl := HXB.out.lt
          go_simp
          replace HXB : Hid (Blk _ gX 29 [.int .i64 X.a.x, .int .i64 X.a.y, .int .i64 X.b.x, .int .i64 X.b.y]) := Lib.hid (blk_put4 HXB.out)
          replace HYB := Lib.hid (blk_oth4 (g := gX) (x := .int .i64 X.a.x) (y := .int .i64 X.a.y) (z := .int .i64 X.b.x) (v := .int .i64 X.b.y) HYB.out (by omega))
          replace HA1 := Lib.hid (blk_oth4 (g := gX) (x := .int .i64 X.a.x) (y := .int .i64 X.a.y) (z := .int .i64 X.b.x) (v := .int .i64 X.b.y) HA1.out (by omega))
          replace HP1 := Lib.hid (blk_oth4 (g := gX) (x := .int .i64 X.a.x) (y := .int .i64 X.a.y) (z := .int .i64 X.b.x) (v := .int .i64 X.b.y) HP1.out (by omega))
          replace HC1 := Lib.hid (blk_oth4 (g := gX) (x := .int .i64 X.a.x) (y := .int .i64 X.a.y) (z := .int .i64 X.b.x) (v := .int .i64 X.b.y) HC1.out (by omega))
          have AB := below_put4 (g := gX) (x := .int .i64 X.a.x) (y := .int .i64 X.a.y) (z := .int .i64 X.b.x) (v := .int .i64 X.b.y) AB hgX1
          clear x0 x1 x2 x3 xf xl
          refine hK.out _ _ (⟨HA1.out.cell 0 rfl, HA1.out.cell 1 rfl, HP1.out.cell 0 rfl, HP1.out.cell 1 rfl, HC1.out.cell 0 rfl, HC1.out.cell 1 rfl⟩) (fun hHeld => ?_)
          clear hK K
          try simp only [List.getElem_toArray, List.getElem_cons_zero, List.getElem_cons_succ, Act.put, List.setIfInBounds_toArray, List.set_cons_zero, List.set_cons_succ]
          refine wpAnyH_ready (rs := [9]) (by kernel_rfl) (by simp) ?_
          refine AllReadyH.cons rfl (fun K hK => ?_) AllReadyH.nil
          try simp only [List.getElem_toArray, List.getElem_cons_zero, List.getElem_cons_succ]
          have x0 := HYB.out.cell 0 rfl
          have x1 := HYB.out.cell 1 rfl
          have x2 := HYB.out.cell 2 rfl
          have x3 := HYB.out.cell 3 rfl
          have xf := HYB.out.frozen
          have xl := HYB.out.lt
          go_simp
          replace HYB : Hid (Blk _ gY 29 [.int .i64 Y.a.x, .int .i64 Y.a.y, .int .i64 Y.b.x, .int .i64 Y.b.y]) := Lib.hid (blk_put4 HYB.out)
          replace HXB := Lib.hid (blk_oth4 (g := gY) (x := .int .i64 Y.a.x) (y := .int .i64 Y.a.y) (z := .int .i64 Y.b.x) (v := .int .i64 Y.b.y) HXB.out (by omega))
          replace HA1 := Lib.hid (blk_oth4 (g := gY) (x := .int .i64 Y.a.x) (y := .int .i64 Y.a.y) (z := .int .i64 Y.b.x) (v := .int .i64 Y.b.y) HA1.out (by omega))
          replace HP1 := Lib.hid (blk_oth4 (g := gY) (x := .int .i64 Y.a.x) (y := .int .i64 Y.a.y) (z := .int .i64 Y.b.x) (v := .int .i64 Y.b.y) HP1.out (by omega))
          replace HC1 := Lib.hid (blk_oth4 (g := gY) (x := .int .i64 Y.a.x) (y := .int .i64 Y.a.y) (z := .int .i64 Y.b.x) (v := .int .i64 Y.b.y) HC1.out (by omega))
          have AB := below_put4 (g := gY) (x := .int .i64 Y.a.x) (y := .int .i64 Y.a.y) (z := .int .i64 Y.b.x) (v := .int .i64 Y.b.y) AB hgY1
          clear x0 x1 x2 x3 xf xl
          refine hK.out _ _ (⟨HA1.out.cell 0 rfl, HA1.out.cell 1 rfl, HP1.out.cell 0 rfl, HP1.out.cell 1 rfl, HC1.out.cell 0 rfl, HC1.out.cell 1 rfl⟩) (fun hHeld => ?_)
          clear hK K
          try simp only [List.getElem_toArray, List.getElem_cons_zero, List.getElem_cons_succ, Act.put, List.setIfInBounds_toArray, List.set_cons_zero, List.set_cons_succ]
          refine wpAnyH_done (by kernel_rfl) ?_ _
          go_wp2_with fail
          go_meet
          exact ⟨gX, gY, rfl, rfl, HXB, HYB, Lib.hid AB⟩
      · try simp only [List.getElem_toArray, List.getElem_cons_zero, List.getElem_cons_succ]
        go_simp
        obtain ⟨gX, hgX, hgX1, hBn, hAn, hKn⟩ := new_ex AB (Nat.le_refl _) 29 [.int .i64 0, .int .i64 0, .int .i64 0, .int .i64 0]
        have hgX2 : w.heap.size + 1 + 1 < gX := by rw [← hgX]; exact HC1.out.lt
        try simp only [World.size_alloc] at hgX
        rw [hgX]
        have HXB := Lib.hid hBn
        replace HA1 := Lib.hid (HA1.out.keep hKn)
        replace HP1 := Lib.hid (HP1.out.keep hKn)
        replace HC1 := Lib.hid (HC1.out.keep hKn)
        have AB := hAn
        clear hBn hAn hKn hgX
        refine hK.out _ _ (⟨HA1.out.cell 0 rfl, HA1.out.cell 1 rfl, HP1.out.cell 0 rfl, HP1.out.cell 1 rfl, HC1.out.cell 0 rfl, HC1.out.cell 1 rfl⟩) (fun hHeld => ?_)
        clear hK K
        try simp only [List.getElem_toArray, List.getElem_cons_zero, List.getElem_cons_succ, Act.put, List.setIfInBounds_toArray, List.set_cons_zero, List.set_cons_succ]
        refine wpAnyH_ready (rs := [5, 7]) (by kernel_rfl) (by simp) ?_
        refine AllReadyH.cons rfl (fun K hK => ?_) (AllReadyH.cons rfl (fun K hK => ?_) AllReadyH.nil)
        · try simp only [List.getElem_toArray, List.getElem_cons_zero, List.getElem_cons_succ]
          go_simp
          refine (HY.out _).mono ?_
          rintro e wn ⟨rfl, hbn⟩
          have AB := AB.trans (hbn.mono (AB.size))
          replace HA1 := Lib.hid (HA1.out.keep hbn)
          replace HP1 := Lib.hid (HP1.out.keep hbn)
          replace HC1 := Lib.hid (HC1.out.keep hbn)
          try replace HXB := Lib.hid (HXB.out.keep hbn)
          try replace HYB := Lib.hid (HYB.out.keep hbn)
          clear hbn
          go_wp2_with fail
          refine hK.out _ _ (⟨HA1.out.cell 0 rfl, HA1.out.cell 1 rfl, HP1.out.cell 0 rfl, HP1.out.cell 1 rfl, HC1.out.cell 0 rfl, HC1.out.cell 1 rfl⟩) (fun hHeld => ?_)
          clear hK K
          try simp only [List.getElem_toArray, List.getElem_cons_zero, List.getElem_cons_succ, Act.put, List.setIfInBounds_toArray, List.set_cons_zero, List.set_cons_succ]
          refine wpAnyH_ready (rs := [7]) (by kernel_rfl) (by simp) ?_
          refine AllReadyH.cons rfl (fun K hK => ?_) AllReadyH.nil
          try simp only [List.getElem_toArray, List.getElem_cons_zero, List.getElem_cons_succ]
          go_simp
          obtain ⟨gY, hgY, hgY1, hBn, hAn, hKn⟩ := new_ex AB (Nat.le_refl _) 29 [.int .i64 0, .int .i64 0, .int .i64 0, .int .i64 0]
          have hgY2 : w.heap.size + 1 + 1 < gY := by rw [← hgY]; exact HC1.out.lt
          have hgxy : gX < gY := by rw [← hgY]; exact HXB.out.lt
          replace HXB := Lib.hid (HXB.out.keep hKn)
          try simp only [World.size_alloc] at hgY
          rw [hgY]
          have HYB := Lib.hid hBn
          replace HA1 := Lib.hid (HA1.out.keep hKn)
          replace HP1 := Lib.hid (HP1.out.keep hKn)
          replace HC1 := Lib.hid (HC1.out.keep hKn)
          have AB := hAn
          clear hBn hAn hKn hgY
          refine hK.out _ _ (⟨HA1.out.cell 0 rfl, HA1.out.cell 1 rfl, HP1.out.cell 0 rfl, HP1.out.cell 1 rfl, HC1.out.cell 0 rfl, HC1.out.cell 1 rfl⟩) (fun hHeld => ?_)
          clear hK K
          try simp only [List.getElem_toArray, List.getElem_cons_zero, List.getElem_cons_succ, Act.put, List.setIfInBounds_toArray, List.set_cons_zero, List.set_cons_succ]
          refine wpAnyH_ready (rs := [8]) (by kernel_rfl) (by simp) ?_
          refine AllReadyH.cons rfl (fun K hK => ?_) AllReadyH.nil
          try simp only [List.getElem_toArray, List.getElem_cons_zero, List.getElem_cons_succ]
          have x0 := HXB.out.cell 0 rfl
          have x1 := HXB.out.cell 1 rfl
          have x2 := HXB.out.cell 2 rfl
          have x3 := HXB.out.cell 3 rfl
          have xf := HXB.out.frozen
          have xl := HXB.out.lt
          go_simp
          replace HXB : Hid (Blk _ gX 29 [.int .i64 X.a.x, .int .i64 X.a.y, .int .i64 X.b.x, .int .i64 X.b.y]) := Lib.hid (blk_put4 HXB.out)
          replace HYB := Lib.hid (blk_oth4 (g := gX) (x := .int .i64 X.a.x) (y := .int .i64 X.a.y) (z := .int .i64 X.b.x) (v := .int .i64 X.b.y) HYB.out (by omega))
          replace HA1 := Lib.hid (blk_oth4 (g := gX) (x := .int .i64 X.a.x) (y := .int .i64 X.a.y) (z := .int .i64 X.b.x) (v := .int .i64 X.b.y) HA1.out (by omega))
          replace HP1 := Lib.hid (blk_oth4 (g := gX) (x := .int .i64 X.a.x) (y := .int .i64 X.a.y) (z := .int .i64 X.b.x) (v := .int .i64 X.b.y) HP1.out (by omega))
          replace HC1 := Lib.hid (blk_oth4 (g := gX) (x := .int .i64 X.a.x) (y := .int .i64 X.a.y) (z := .int .i64 X.b.x) (v := .int .i64 X.b.y) HC1.out (by omega))
          have AB := below_put4 (g := gX) (x := .int .i64 X.a.x) (y := .int .i64 X.a.y) (z := .int .i64 X.b.x) (v := .int .i64 X.b.y) AB hgX1
          clear x0 x1 x2 x3 xf xl
          refine hK.out _ _ (⟨HA1.out.cell 0 rfl, HA1.out.cell 1 rfl, HP1.out.cell 0 rfl, HP1.out.cell 1 rfl, HC1.out.cell 0 rfl, HC1.out.cell 1 rfl⟩) (fun hHeld => ?_)
          clear hK K
          try simp only [List.getElem_toArray, List.getElem_cons_zero, List.getElem_cons_succ, Act.put, List.setIfInBounds_toArray, List.set_cons_zero, List.set_cons_succ]
          refine wpAnyH_ready (rs := [9]) (by kernel_rfl) (by simp) ?_
          refine AllReadyH.cons rfl (fun K hK => ?_) AllReadyH.nil
          try simp only [List.getElem_toArray, List.getElem_cons_zero, List.getElem_cons_succ]
          have x0 := HYB.out.cell 0 rfl
          have x1 := HYB.out.cell 1 rfl
          have x2 := HYB.out.cell 2 rfl
          have x3 := HYB.out.cell 3 rfl
          have xf := HYB.out.frozen
          have xl := HYB.out.lt
          go_simp
          replace HYB : Hid (Blk _ gY 29 [.int .i64 Y.a.x, .int .i64 Y.a.y, .int .i64 Y.b.x, .int .i64 Y.b.y]) := Lib.hid (blk_put4 HYB.out)
          replace HXB := Lib.hid (blk_oth4 (g := gY) (x := .int .i64 Y.a.x) (y := .int .i64 Y.a.y) (z := .int .i64 Y.b.x) (v := .int .i64 Y.b.y) HXB.out (by omega))
          replace HA1 := Lib.hid (blk_oth4 (g := gY) (x := .int .i64 Y.a.x) (y := .int .i64 Y.a.y) (z := .int .i64 Y.b.x) (v := .int .i64 Y.b.y) HA1.out (by omega))
          replace HP1 := Lib.hid (blk_oth4 (g := gY) (x := .int .i64 Y.a.x) (y := .int .i64 Y.a.y) (z := .int .i64 Y.b.x) (v := .int .i64 Y.b.y) HP1.out (by omega))
          replace HC1 := Lib.hid (blk_oth4 (g := gY) (x := .int .i64 Y.a.x) (y := .int .i64 Y.a.y) (z := .int .i64 Y.b.x) (v := .int .i64 Y.b.y) HC1.out (by omega))
          have AB := below_put4 (g := gY) (x := .int .i64 Y.a.x) (y := .int .i64 Y.a.y) (z := .int .i64 Y.b.x) (v := .int .i64 Y.b.y) AB hgY1
          clear x0 x1 x2 x3 xf xl
          refine hK.out _ _ (⟨HA1.out.cell 0 rfl, HA1.out.cell 1 rfl, HP1.out.cell 0 rfl, HP1.out.cell 1 rfl, HC1.out.cell 0 rfl, HC1.out.cell 1 rfl⟩) (fun hHeld => ?_)
          clear hK K
          try simp only [List.getElem_toArray, List.getElem_cons_zero, List.getElem_cons_succ, Act.put, List.setIfInBounds_toArray, List.set_cons_zero, List.set_cons_succ]
          refine wpAnyH_done (by kernel_rfl) ?_ _
          go_wp2_with fail
          go_meet
          exact ⟨gX, gY, rfl, rfl, HXB, HYB, Lib.hid AB⟩
        · try simp only [List.getElem_toArray, List.getElem_cons_zero, List.getElem_cons_succ]
          go_simp
          obtain ⟨gY, hgY, hgY1, hBn, hAn, hKn⟩ := new_ex AB (Nat.le_refl _) 29 [.int .i64 0, .int .i64 0, .int .i64 0, .int .i64 0]
          have hgY2 : w.heap.size + 1 + 1 < gY := by rw [← hgY]; exact HC1.out.lt
          have hgxy : gX < gY := by rw [← hgY]; exact HXB.out.lt
          replace HXB := Lib.hid (HXB.out.keep hKn)
          try simp only [World.size_alloc] at hgY
          rw [hgY]
          have HYB := Lib.hid hBn
          replace HA1 := Lib.hid (HA1.out.keep hKn)
          replace HP1 := Lib.hid (HP1.out.keep hKn)
          replace HC1 := Lib.hid (HC1.out.keep hKn)
          have AB := hAn
          clear hBn hAn hKn hgY
          refine hK.out _ _ (⟨HA1.out.cell 0 rfl, HA1.out.cell 1 rfl, HP1.out.cell 0 rfl, HP1.out.cell 1 rfl, HC1.out.cell 0 rfl, HC1.out.cell 1 rfl⟩) (fun hHeld => ?_)
          clear hK K
          try simp only [List.getElem_toArray, List.getElem_cons_zero, List.getElem_cons_succ, Act.put, List.setIfInBounds_toArray, List.set_cons_zero, List.set_cons_succ]
          refine wpAnyH_ready (rs := [5]) (by kernel_rfl) (by simp) ?_
          refine AllReadyH.cons rfl (fun K hK => ?_) AllReadyH.nil
          try simp only [List.getElem_toArray, List.getElem_cons_zero, List.getElem_cons_succ]
          go_simp
          refine (HY.out _).mono ?_
          rintro e wn ⟨rfl, hbn⟩
          have AB := AB.trans (hbn.mono (AB.size))
          replace HA1 := Lib.hid (HA1.out.keep hbn)
          replace HP1 := Lib.hid (HP1.out.keep hbn)
          replace HC1 := Lib.hid (HC1.out.keep hbn)
          try replace HXB := Lib.hid (HXB.out.keep hbn)
          try replace HYB := Lib.hid (HYB.out.keep hbn)
          clear hbn
          go_wp2_with fail
          refine hK.out _ _ (⟨HA1.out.cell 0 rfl, HA1.out.cell 1 rfl, HP1.out.cell 0 rfl, HP1.out.cell 1 rfl, HC1.out.cell 0 rfl, HC1.out.cell 1 rfl⟩) (fun hHeld => ?_)
          clear hK K
          try simp only [List.getElem_toArray, List.getElem_cons_zero, List.getElem_cons_succ, Act.put, List.setIfInBounds_toArray, List.set_cons_zero, List.set_cons_succ]
          refine wpAnyH_ready (rs := [8]) (by kernel_rfl) (by simp) ?_
          refine AllReadyH.cons rfl (fun K hK => ?_) AllReadyH.nil
          try simp only [List.getElem_toArray, List.getElem_cons_zero, List.getElem_cons_succ]
          have x0 := HXB.out.cell 0 rfl
          have x1 := HXB.out.cell 1 rfl
          have x2 := HXB.out.cell 2 rfl
          have x3 := HXB.out.cell 3 rfl
          have xf := HXB.out.frozen
          have xl := HXB.out.lt
          go_simp
          replace HXB : Hid (Blk _ gX 29 [.int .i64 X.a.x, .int .i64 X.a.y, .int .i64 X.b.x, .int .i64 X.b.y]) := Lib.hid (blk_put4 HXB.out)
          replace HYB := Lib.hid (blk_oth4 (g := gX) (x := .int .i64 X.a.x) (y := .int .i64 X.a.y) (z := .int .i64 X.b.x) (v := .int .i64 X.b.y) HYB.out (by omega))
          replace HA1 := Lib.hid (blk_oth4 (g := gX) (x := .int .i64 X.a.x) (y := .int .i64 X.a.y) (z := .int .i64 X.b.x) (v := .int .i64 X.b.y) HA1.out (by omega))
          replace HP1 := Lib.hid (blk_oth4 (g := gX) (x := .int .i64 X.a.x) (y := .int .i64 X.a.y) (z := .int .i64 X.b.x) (v := .int .i64 X.b.y) HP1.out (by omega))
          replace HC1 := Lib.hid (blk_oth4 (g := gX) (x := .int .i64 X.a.x) (y := .int .i64 X.a.y) (z := .int .i64 X.b.x) (v := .int .i64 X.b.y) HC1.out (by omega))
          have AB := below_put4 (g := gX) (x := .int .i64 X.a.x) (y := .int .i64 X.a.y) (z := .int .i64 X.b.x) (v := .int .i64 X.b.y) AB hgX1
          clear x0 x1 x2 x3 xf xl
          refine hK.out _ _ (⟨HA1.out.cell 0 rfl, HA1.out.cell 1 rfl, HP1.out.cell 0 rfl, HP1.out.cell 1 rfl, HC1.out.cell 0 rfl, HC1.out.cell 1 rfl⟩) (fun hHeld => ?_)
          clear hK K
          try simp only [List.getElem_toArray, List.getElem_cons_zero, List.getElem_cons_succ, Act.put, List.setIfInBounds_toArray, List.set_cons_zero, List.set_cons_succ]
          refine wpAnyH_ready (rs := [9]) (by kernel_rfl) (by simp) ?_
          refine AllReadyH.cons rfl (fun K hK => ?_) AllReadyH.nil
          try simp only [List.getElem_toArray, List.getElem_cons_zero, List.getElem_cons_succ]
          have x0 := HYB.out.cell 0 rfl
          have x1 := HYB.out.cell 1 rfl
          have x2 := HYB.out.cell 2 rfl
          have x3 := HYB.out.cell 3 rfl
          have xf := HYB.out.frozen
          have xl := HYB.out.lt
          go_simp
          replace HYB : Hid (Blk _ gY 29 [.int .i64 Y.a.x, .int .i64 Y.a.y, .int .i64 Y.b.x, .int .i64 Y.b.y]) := Lib.hid (blk_put4 HYB.out)
          replace HXB := Lib.hid (blk_oth4 (g := gY) (x := .int .i64 Y.a.x) (y := .int .i64 Y.a.y) (z := .int .i64 Y.b.x) (v := .int .i64 Y.b.y) HXB.out (by omega))
          replace HA1 := Lib.hid (blk_oth4 (g := gY) (x := .int .i64 Y.a.x) (y := .int .i64 Y.a.y) (z := .int .i64 Y.b.x) (v := .int .i64 Y.b.y) HA1.out (by omega))
          replace HP1 := Lib.hid (blk_oth4 (g := gY) (x := .int .i64 Y.a.x) (y := .int .i64 Y.a.y) (z := .int .i64 Y.b.x) (v := .int .i64 Y.b.y) HP1.out (by omega))
          replace HC1 := Lib.hid (blk_oth4 (g := gY) (x := .int .i64 Y.a.x) (y := .int .i64 Y.a.y) (z := .int .i64 Y.b.x) (v := .int .i64 Y.b.y) HC1.out (by omega))
          have AB := below_put4 (g := gY) (x := .int .i64 Y.a.x) (y := .int .i64 Y.a.y) (z := .int .i64 Y.b.x) (v := .int .i64 Y.b.y) AB hgY1
          clear x0 x1 x2 x3 xf xl
          refine hK.out _ _ (⟨HA1.out.cell 0 rfl, HA1.out.cell 1 rfl, HP1.out.cell 0 rfl, HP1.out.cell 1 rfl, HC1.out.cell 0 rfl, HC1.out.cell 1 rfl⟩) (fun hHeld => ?_)
          clear hK K
          try simp only [List.getElem_toArray, List.getElem_cons_zero, List.getElem_cons_succ, Act.put, List.setIfInBounds_toArray, List.set_cons_zero, List.set_cons_succ]
          refine wpAnyH_done (by kernel_rfl) ?_ _
          go_wp2_with fail
          go_meet
          exact ⟨gX, gY, rfl, rfl, HXB, HYB, Lib.hid AB⟩
      · try simp only [List.getElem_toArray, List.getElem_cons_zero, List.getElem_cons_succ]
        go_simp
        obtain ⟨gY, hgY, hgY1, hBn, hAn, hKn⟩ := new_ex AB (Nat.le_refl _) 29 [.int .i64 0, .int .i64 0, .int .i64 0, .int .i64 0]
        have hgY2 : w.heap.size + 1 + 1 < gY := by rw [← hgY]; exact HC1.out.lt
        try simp only [World.size_alloc] at hgY
        rw [hgY]
        have HYB := Lib.hid hBn
        replace HA1 := Lib.hid (HA1.out.keep hKn)
        replace HP1 := Lib.hid (HP1.out.keep hKn)
        replace HC1 := Lib.hid (HC1.out.keep hKn)
        have AB := hAn
        clear hBn hAn hKn hgY
        refine hK.out _ _ (⟨HA1.out.cell 0 rfl, HA1.out.cell 1 rfl, HP1.out.cell 0 rfl, HP1.out.cell 1 rfl, HC1.out.cell 0 rfl, HC1.out.cell 1 rfl⟩) (fun hHeld => ?_)
        clear hK K
        try simp only [List.getElem_toArray, List.getElem_cons_zero, List.getElem_cons_succ, Act.put, List.setIfInBounds_toArray, List.set_cons_zero, List.set_cons_succ]
        refine wpAnyH_ready (rs := [5, 6]) (by kernel_rfl) (by simp) ?_
        refine AllReadyH.cons rfl (fun K hK => ?_) (AllReadyH.cons rfl (fun K hK => ?_) AllReadyH.nil)
        · try simp only [List.getElem_toArray, List.getElem_cons_zero, List.getElem_cons_succ]
          go_simp
          refine (HY.out _).mono ?_
          rintro e wn ⟨rfl, hbn⟩
          have AB := AB.trans (hbn.mono (AB.size))
          replace HA1 := Lib.hid (HA1.out.keep hbn)
          replace HP1 := Lib.hid (HP1.out.keep hbn)
          replace HC1 := Lib.hid (HC1.out.keep hbn)
          try replace HXB := Lib.hid (HXB.out.keep hbn)
          try replace HYB := Lib.hid (HYB.out.keep hbn)
          clear hbn
          go_wp2_with fail
          refine hK.out _ _ (⟨HA1.out.cell 0 rfl, HA1.out.cell 1 rfl, HP1.out.cell 0 rfl, HP1.out.cell 1 rfl, HC1.out.cell 0 rfl, HC1.out.cell 1 rfl⟩) (fun hHeld => ?_)
          clear hK K
          try simp only [List.getElem_toArray, List.getElem_cons_zero, List.getElem_cons_succ, Act.put, List.setIfInBounds_toArray, List.set_cons_zero, List.set_cons_succ]
          refine wpAnyH_ready (rs := [6]) (by kernel_rfl) (by simp) ?_
          refine AllReadyH.cons rfl (fun K hK => ?_) AllReadyH.nil
          try simp only [List.getElem_toArray, List.getElem_cons_zero, List.getElem_cons_succ]
          go_simp
          obtain ⟨gX, hgX, hgX1, hBn, hAn, hKn⟩ := new_ex AB (Nat.le_refl _) 29 [.int .i64 0, .int .i64 0, .int .i64 0, .int .i64 0]
          have hgX2 : w.heap.size + 1 + 1 < gX := by rw [← hgX]; exact HC1.out.lt
          have hgxy : gY < gX := by rw [← hgX]; exact HYB.out.lt
          replace HYB := Lib.hid (HYB.out.keep hKn)
          try simp only [World.size_alloc] at hgX
          rw [hgX]
          have HXB := Lib.hid hBn
          replace HA1 := Lib.hid (HA1.out.keep hKn)
          replace HP1 := Lib.hid (HP1.out.keep hKn)
          replace HC1 := Lib.hid (HC1.out.keep hKn)
          have AB := hAn
          clear hBn hAn hKn hgX
          refine hK.out _ _ (⟨HA1.out.cell 0 rfl, HA1.out.cell 1 rfl, HP1.out.cell 0 rfl, HP1.out.cell 1 rfl, HC1.out.cell 0 rfl, HC1.out.cell 1 rfl⟩) (fun hHeld => ?_)
          clear hK K
          try simp only [List.getElem_toArray, List.getElem_cons_zero, List.getElem_cons_succ, Act.put, List.setIfInBounds_toArray, List.set_cons_zero, List.set_cons_succ]
          refine wpAnyH_ready (rs := [8]) (by kernel_rfl) (by simp) ?_
          refine AllReadyH.cons rfl (fun K hK => ?_) AllReadyH.nil
          try simp only [List.getElem_toArray, List.getElem_cons_zero, List.getElem_cons_succ]
          have x0 := HXB.out.cell 0 rfl
          have x1 := HXB.out.cell 1 rfl
          have x2 := HXB.out.cell 2 rfl
          have x3 := HXB.out.cell 3 rfl
          have xf := HXB.out.frozen
          have xl := HXB.out.lt
          go_simp
          replace HXB : Hid (Blk _ gX 29 [.int .i64 X.a.x, .int .i64 X.a.y, .int .i64 X.b.x, .int .i64 X.b.y]) := Lib.hid (blk_put4 HXB.out)
          replace HYB := Lib.hid (blk_oth4 (g := gX) (x := .int .i64 X.a.x) (y := .int .i64 X.a.y) (z := .int .i64 X.b.x) (v := .int .i64 X.b.y) HYB.out (by omega))
          replace HA1 := Lib.hid (blk_oth4 (g := gX) (x := .int .i64 X.a.x) (y := .int .i64 X.a.y) (z := .int .i64 X.b.x) (v := .int .i64 X.b.y) HA1.out (by omega))
          replace HP1 := Lib.hid (blk_oth4 (g := gX) (x := .int .i64 X.a.x) (y := .int .i64 X.a.y) (z := .int .i64 X.b.x) (v := .int .i64 X.b.y) HP1.out (by omega))
          replace HC1 := Lib.hid (blk_oth4 (g := gX) (x := .int .i64 X.a.x) (y := .int .i64 X.a.y) (z := .int .i64 X.b.x) (v := .int .i64 X.b.y) HC1.out (by omega))
          have AB := below_put4 (g := gX) (x := .int .i64 X.a.x) (y := .int .i64 X.a.y) (z := .int .i64 X.b.x) (v := .int .i64 X.b.y) AB hgX1
          clear x0 x1 x2 x3 xf xl
          refine hK.out _ _ (⟨HA1.out.cell 0 rfl, HA1.out.cell 1 rfl, HP1.out.cell 0 rfl, HP1.out.cell 1 rfl, HC1.out.cell 0 rfl, HC1.out.cell 1 rfl⟩) (fun hHeld => ?_)
          clear hK K
          try simp only [List.getElem_toArray, List.getElem_cons_zero, List.getElem_cons_succ, Act.put, List.setIfInBounds_toArray, List.set_cons_zero, List.set_cons_succ]
          refine wpAnyH_ready (rs := [9]) (by kernel_rfl) (by simp) ?_
          refine AllReadyH.cons rfl (fun K hK => ?_) AllReadyH.nil
          try simp only [List.getElem_toArray, List.getElem_cons_zero, List.getElem_cons_succ]
          have x0 := HYB.out.cell 0 rfl
          have x1 := HYB.out.cell 1 rfl
          have x2 := HYB.out.cell 2 rfl
          have x3 := HYB.out.cell 3 rfl
          have xf := HYB.out.frozen
          have xl := HYB.out.lt
          go_simp
          replace HYB : Hid (Blk _ gY 29 [.int .i64 Y.a.x, .int .i64 Y.a.y, .int .i64 Y.b.x, .int .i64 Y.b.y]) := Lib.hid (blk_put4 HYB.out)
          replace HXB := Lib.hid (blk_oth4 (g := gY) (x := .int .i64 Y.a.x) (y := .int .i64 Y.a.y) (z := .int .i64 Y.b.x) (v := .int .i64 Y.b.y) HXB.out (by omega))
          replace HA1 := Lib.hid (blk_oth4 (g := gY) (x := .int .i64 Y.a.x) (y := .int .i64 Y.a.y) (z := .int .i64 Y.b.x) (v := .int .i64 Y.b.y) HA1.out (by omega))
          replace HP1 := Lib.hid (blk_oth4 (g := gY) (x := .int .i64 Y.a.x) (y := .int .i64 Y.a.y) (z := .int .i64 Y.b.x) (v := .int .i64 Y.b.y) HP1.out (by omega))
          replace HC1 := Lib.hid (blk_oth4 (g := gY) (x := .int .i64 Y.a.x) (y := .int .i64 Y.a.y) (z := .int .i64 Y.b.x) (v := .int .i64 Y.b.y) HC1.out (by omega))
          have AB := below_put4 (g := gY) (x := .int .i64 Y.a.x) (y := .int .i64 Y.a.y) (z := .int .i64 Y.b.x) (v := .int .i64 Y.b.y) AB hgY1
          clear x0 x1 x2 x3 xf xl
          refine hK.out _ _ (⟨HA1.out.cell 0 rfl, HA1.out.cell 1 rfl, HP1.out.cell 0 rfl, HP1.out.cell 1 rfl, HC1.out.cell 0 rfl, HC1.out.cell 1 rfl⟩) (fun hHeld => ?_)
          clear hK K
          try simp only [List.getElem_toArray, List.getElem_cons_zero, List.getElem_cons_succ, Act.put, List.setIfInBounds_toArray, List.set_cons_zero, List.set_cons_succ]
          refine wpAnyH_done (by kernel_rfl) ?_ _
          go_wp2_with fail
          go_meet
          exact ⟨gX, gY, rfl, rfl, HXB, HYB, Lib.hid AB⟩
        · try simp only [List.getElem_toArray, List.getElem_cons_zero, List.getElem_cons_succ]
          go_simp
          obtain ⟨gX, hgX, hgX1, hBn, hAn, hKn⟩ := new_ex AB (Nat.le_refl _) 29 [.int .i64 0, .int .i64 0, .int .i64 0, .int .i64 0]
          have hgX2 : w.heap.size + 1 + 1 < gX := by rw [← hgX]; exact HC1.out.lt
          have hgxy : gY < gX := by rw [← hgX]; exact HYB.out.lt
          replace HYB := Lib.hid (HYB.out.keep hKn)
          try simp only [World.size_alloc] at hgX
          rw [hgX]
          have HXB := Lib.hid hBn
          replace HA1 := Lib.hid (HA1.out.keep hKn)
          replace HP1 := Lib.hid (HP1.out.keep hKn)
          replace HC1 := Lib.hid (HC1.out.keep hKn)
          have AB := hAn
          clear hBn hAn hKn hgX
          refine hK.out _ _ (⟨HA1.out.cell 0 rfl, HA1.out.cell 1 rfl, HP1.out.cell 0 rfl, HP1.out.cell 1 rfl, HC1.out.cell 0 rfl, HC1.out.cell 1 rfl⟩) (fun hHeld => ?_)
          clear hK K
          try simp only [List.getElem_toArray, List.getElem_cons_zero, List.getElem_cons_succ, Act.put, List.setIfInBounds_toArray, List.set_cons_zero, List.set_cons_succ]
          refine wpAnyH_ready (rs := [5]) (by kernel_rfl) (by simp) ?_
          refine AllReadyH.cons rfl (fun K hK => ?_) AllReadyH.nil
          try simp only [List.getElem_toArray, List.getElem_cons_zero, List.getElem_cons_succ]
          go_simp
          refine (HY.out _).mono ?_
          rintro e wn ⟨rfl, hbn⟩
          have AB := AB.trans (hbn.mono (AB.size))
          replace HA1 := Lib.hid (HA1.out.keep hbn)
          replace HP1 := Lib.hid (HP1.out.keep hbn)
          replace HC1 := Lib.hid (HC1.out.keep hbn)
          try replace HXB := Lib.hid (HXB.out.keep hbn)
          try replace HYB := Lib.hid (HYB.out.keep hbn)
          clear hbn
          go_wp2_with fail
          refine hK.out _ _ (⟨HA1.out.cell 0 rfl, HA1.out.cell 1 rfl, HP1.out.cell 0 rfl, HP1.out.cell 1 rfl, HC1.out.cell 0 rfl, HC1.out.cell 1 rfl⟩) (fun hHeld => ?_)
          clear hK K
          try simp only [List.getElem_toArray, List.getElem_cons_zero, List.getElem_cons_succ, Act.put, List.setIfInBounds_toArray, List.set_cons_zero, List.set_cons_succ]
          refine wpAnyH_ready (rs := [8]) (by kernel_rfl) (by simp) ?_
          refine AllReadyH.cons rfl (fun K hK => ?_) AllReadyH.nil
          try simp only [List.getElem_toArray, List.getElem_cons_zero, List.getElem_cons_succ]
          have x0 := HXB.out.cell 0 rfl
          have x1 := HXB.out.cell 1 rfl
          have x2 := HXB.out.cell 2 rfl
          have x3 := HXB.out.cell 3 rfl
          have xf := HXB.out.frozen
          have xl := HXB.out.lt
          go_simp
          replace HXB : Hid (Blk _ gX 29 [.int .i64 X.a.x, .int .i64 X.a.y, .int .i64 X.b.x, .int .i64 X.b.y]) := Lib.hid (blk_put4 HXB.out)
          replace HYB := Lib.hid (blk_oth4 (g := gX) (x := .int .i64 X.a.x) (y := .int .i64 X.a.y) (z := .int .i64 X.b.x) (v := .int .i64 X.b.y) HYB.out (by omega))
          replace HA1 := Lib.hid (blk_oth4 (g := gX) (x := .int .i64 X.a.x) (y := .int .i64 X.a.y) (z := .int .i64 X.b.x) (v := .int .i64 X.b.y) HA1.out (by omega))
          replace HP1 := Lib.hid (blk_oth4 (g := gX) (x := .int .i64 X.a.x) (y := .int .i64 X.a.y) (z := .int .i64 X.b.x) (v := .int .i64 X.b.y) HP1.out (by omega))
          replace HC1 := Lib.hid (blk_oth4 (g := gX) (x := .int .i64 X.a.x) (y := .int .i64 X.a.y) (z := .int .i64 X.b.x) (v := .int .i64 X.b.y) HC1.out (by omega))
          have AB := below_put4 (g := gX) (x := .int .i64 X.a.x) (y := .int .i64 X.a.y) (z := .int .i64 X.b.x) (v := .int .i64 X.b.y) AB hgX1
          clear x0 x1 x2 x3 xf xl
          refine hK.out _ _ (⟨HA1.out.cell 0 rfl, HA1.out.cell 1 rfl, HP1.out.cell 0 rfl, HP1.out.cell 1 rfl, HC1.out.cell 0 rfl, HC1.out.cell 1 rfl⟩) (fun hHeld => ?_)
          clear hK K
          try simp only [List.getElem_toArray, List.getElem_cons_zero, List.getElem_cons_succ, Act.put, List.setIfInBounds_toArray, List.set_cons_zero, List.set_cons_succ]
          refine wpAnyH_ready (rs := [9]) (by kernel_rfl) (by simp) ?_
          refine AllReadyH.cons rfl (fun K hK => ?_) AllReadyH.nil
          try simp only [List.getElem_toArray, List.getElem_cons_zero, List.getElem_cons_succ]
          have x0 := HYB.out.cell 0 rfl
          have x1 := HYB.out.cell 1 rfl
          have x2 := HYB.out.cell 2 rfl
          have x3 := HYB.out.cell 3 rfl
          have xf := HYB.out.frozen
          have xl := HYB.out.lt
          go_simp
          replace HYB : Hid (Blk _ gY 29 [.int .i64 Y.a.x, .int .i64 Y.a.y, .int .i64 Y.b.x, .int .i64 Y.b.y]) := Lib.hid (blk_put4 HYB.out)
          replace HXB := Lib.hid (blk_oth4 (g := gY) (x := .int .i64 Y.a.x) (y := .int .i64 Y.a.y) (z := .int .i64 Y.b.x) (v := .int .i64 Y.b.y) HXB.out (by omega))
          replace HA1 := Lib.hid (blk_oth4 (g := gY) (x := .int .i64 Y.a.x) (y := .int .i64 Y.a.y) (z := .int .i64 Y.b.x) (v := .int .i64 Y.b.y) HA1.out (by omega))
          replace HP1 := Lib.hid (blk_oth4 (g := gY) (x := .int .i64 Y.a.x) (y := .int .i64 Y.a.y) (z := .int .i64 Y.b.x) (v := .int .i64 Y.b.y) HP1.out (by omega))
          replace HC1 := Lib.hid (blk_oth4 (g := gY) (x := .int .i64 Y.a.x) (y := .int .i64 Y.a.y) (z := .int .i64 Y.b.x) (v := .int .i64 Y.b.y) HC1.out (by omega))
          have AB := below_put4 (g := gY) (x := .int .i64 Y.a.x) (y := .int .i64 Y.a.y) (z := .int .i64 Y.b.x) (v := .int .i64 Y.b.y) AB hgY1
          clear x0 x1 x2 x3 xf xl
          refine hK.out _ _ (⟨HA1.out.cell 0 rfl, HA1.out.cell 1 rfl, HP1.out.cell 0 rfl, HP1.out.cell 1 rfl, HC1.out.cell 0 rfl, HC1.out.cell 1 rfl⟩) (fun hHeld => ?_)
          clear hK K
          try simp only [List.getElem_toArray, List.getElem_cons_zero, List.getElem_cons_succ, Act.put, List.setIfInBounds_toArray, List.set_cons_zero, List.set_cons_succ]
          refine wpAnyH_done (by kernel_rfl) ?_ _
          go_wp2_with fail
          go_meet
          exact ⟨gX, gY, rfl, rfl, HXB, HYB, Lib.hid AB⟩
    · try simp only [List.getElem_toArray, List.getElem_cons_zero, List.getElem_cons_succ]
      go_simp
      obtain ⟨gX, hgX, hgX1, hBn, hAn, hKn⟩ := new_ex AB (Nat.le_refl _) 29 [.int .i64 0, .int .i64 0, .int .i64 0, .int .i64 0]
      have hgX2 : w.heap.size + 1 + 1 < gX := by rw [← hgX]; exact HC1.out.lt
      try simp only [World.size_alloc] at hgX
      rw [hgX]
      have HXB := Lib.hid hBn
      replace HA1 := Lib.hid (HA1.out.keep hKn)
      replace HP1 := Lib.hid (HP1.out.keep hKn)
      replace HC1 := Lib.hid (HC1.out.keep hKn)
      have AB := hAn
      clear hBn hAn hKn hgX
      refine hK.out _ _ (⟨HA1.out.cell 0 rfl, HA1.out.cell 1 rfl, HP1.out.cell 0 rfl, HP1.out.cell 1 rfl, HC1.out.cell 0 rfl, HC1.out.cell 1 rfl⟩) (fun hHeld => ?_)
      clear hK K
      try simp only [List.getElem_toArray, List.getElem_cons_zero, List.getElem_cons_succ, Act.put, List.setIfInBounds_toArray, List.set_cons_zero, List.set_cons_succ]
      refine wpAnyH_ready (rs := [2, 7]) (by kernel_rfl) (by simp) ?_
      refine AllReadyH.cons rfl (fun K hK => ?_) (AllReadyH.cons rfl (fun K hK => ?_) AllReadyH.nil)
      · try simp only [List.getElem_toArray, List.getElem_cons_zero, List.getElem_cons_succ]
        go_simp
        refine (HX.out _).mono ?_
        rintro e wn ⟨rfl, hbn⟩
        have AB := AB.trans (hbn.mono (AB.size))
        replace HA1 := Lib.hid (HA1.out.keep hbn)
        replace HP1 := Lib.hid (HP1.out.keep hbn)
        replace HC1 := Lib.hid (HC1.out.keep hbn)
        try replace HXB := Lib.hid (HXB.out.keep hbn)
        try replace HYB := Lib.hid (HYB.out.keep hbn)
        clear hbn
        go_wp2_with fail
        refine hK.out _ _ (⟨HA1.out.cell 0 rfl, HA1.out.cell 1 rfl, HP1.out.cell 0 rfl, HP1.out.cell 1 rfl, HC1.out.cell 0 rfl, HC1.out.cell 1 rfl⟩) (fun hHeld => ?_)
        clear hK K
        try simp only [List.getElem_toArray, List.getElem_cons_zero, List.getElem_cons_succ, Act.put, List.setIfInBounds_toArray, List.set_cons_zero, List.set_cons_succ]
        refine wpAnyH_ready (rs := [5, 7]) (by kernel_rfl) (by simp) ?_
        refine AllReadyH.cons rfl (fun K hK => ?_) (AllReadyH.cons rfl (fun K hK => ?_) AllReadyH.nil)
        · try simp only [List.getElem_toArray, List.getElem_cons_zero, List.getElem_cons_succ]
          go_simp
          refine (HY.out _).mono ?_
          rintro e wn ⟨rfl, hbn⟩
          have AB := AB.trans (hbn.mono (AB.size))
          replace HA1 := Lib.hid (HA1.out.keep hbn)
          replace HP1 := Lib.hid (HP1.out.keep hbn)
          replace HC1 := Lib.hid (HC1.out.keep hbn)
          try replace HXB := Lib.hid (HXB.out.keep hbn)
          try replace HYB := Lib.hid (HYB.out.keep hbn)
          clear hbn
          go_wp2_with fail
          refine hK.out _ _ (⟨HA1.out.cell 0 rfl, HA1.out.cell 1 rfl, HP1.out.cell 0 rfl, HP1.out.cell 1 rfl, HC1.out.cell 0 rfl, HC1.out.cell 1 rfl⟩) (fun hHeld => ?_)
          clear hK K
          try simp only [List.getElem_toArray, List.getElem_cons_zero, List.getElem_cons_succ, Act.put, List.setIfInBounds_toArray, List.set_cons_zero, List.set_cons_succ]
          refine wpAnyH_ready (rs := [7]) (by kernel_rfl) (by simp) ?_
          refine AllReadyH.cons rfl (fun K hK => ?_) AllReadyH.nil
          try simp only [List.getElem_toArray, List.getElem_cons_zero, List.getElem_cons_succ]
          go_simp
          obtain ⟨gY, hgY, hgY1, hBn, hAn, hKn⟩ := new_ex AB (Nat.le_refl _) 29 [.int .i64 0, .int .i64 0, .int .i64 0, .int .i64 0]
          have hgY2 : w.heap.size + 1 + 1 < gY := by rw [← hgY]; exact HC1.out.lt
          have hgxy : gX < gY := by rw [← hgY]; exact HXB.out.lt
          replace HXB := Lib.hid (HXB.out.keep hKn)
          try simp only [World.size_alloc] at hgY
          rw [hgY]
          have HYB := Lib.hid hBn
          replace HA1 := Lib.hid (HA1.out.keep hKn)
          replace HP1 := Lib.hid (HP1.out.keep hKn)
          replace HC1 := Lib.hid (HC1.out.keep hKn)
          have AB := hAn
          clear hBn hAn hKn hgY
          refine hK.out _ _ (⟨HA1.out.cell 0 rfl, HA1.out.cell 1 rfl, HP1.out.cell 0 rfl, HP1.out.cell 1 rfl, HC1.out.cell 0 rfl, HC1.out.cell 1 rfl⟩) (fun hHeld => ?_)
          clear hK K
          try simp only [List.getElem_toArray, List.getElem_cons_zero, List.getElem_cons_succ, Act.put, List.setIfInBounds_toArray, List.set_cons_zero, List.set_cons_succ]
          refine wpAnyH_ready (rs := [8]) (by kernel_rfl) (by simp) ?_
          refine AllReadyH.cons rfl (fun K hK => ?_) AllReadyH.nil
          try simp only [List.getElem_toArray, List.getElem_cons_zero, List.getElem_cons_succ]
          have x0 := HXB.out.cell 0 rfl
          have x1 := HXB.out.cell 1 rfl
          have x2 := HXB.out.cell 2 rfl
          have x3 := HXB.out.cell 3 rfl
          have xf := HXB.out.frozen
          have xl := HXB.out.lt
          go_simp
          replace HXB : Hid (Blk _ gX 29 [.int .i64 X.a.x, .int .i64 X.a.y, .int .i64 X.b.x, .int .i64 X.b.y]) := Lib.hid (blk_put4 HXB.out)
          replace HYB := Lib.hid (blk_oth4 (g := gX) (x := .int .i64 X.a.x) (y := .int .i64 X.a.y) (z := .int .i64 X.b.x) (v := .int .i64 X.b.y) HYB.out (by omega))
          replace HA1 := Lib.hid (blk_oth4 (g := gX) (x := .int .i64 X.a.x) (y := .int .i64 X.a.y) (z := .int .i64 X.b.x) (v := .int .i64 X.b.y) HA1.out (by omega))
          replace HP1 := Lib.hid (blk_oth4 (g := gX) (x := .int .i64 X.a.x) (y := .int .i64 X.a.y) (z := .int .i64 X.b.x) (v := .int .i64 X.b.y) HP1.out (by omega))
          replace HC1 := Lib.hid (blk_oth4 (g := gX) (x := .int .i64 X.a.x) (y := .int .i64 X.a.y) (z := .int .i64 X.b.x) (v := .int .i64 X.b.y) HC1.out (by omega))
          have AB := below_put4 (g := gX) (x := .int .i64 X.a.x) (y := .int .i64 X.a.y) (z := .int .i64 X.b.x) (v := .int .i64 X.b.y) AB hgX1
          clear x0 x1 x2 x3 xf xl
          refine hK.out _ _ (⟨HA1.out.cell 0 rfl, HA1.out.cell 1 rfl, HP1.out.cell 0 rfl, HP1.out.cell 1 rfl, HC1.out.cell 0 rfl, HC1.out.cell 1 rfl⟩) (fun hHeld => ?_)
          clear hK K
          try simp only [List.getElem_toArray, List.getElem_cons_zero, List.getElem_cons_succ, Act.put, List.setIfInBounds_toArray, List.set_cons_zero, List.set_cons_succ]
          refine wpAnyH_ready (rs := [9]) (by kernel_rfl) (by simp) ?_
          refine AllReadyH.cons rfl (fun K hK => ?_) AllReadyH.nil
          try simp only [List.getElem_toArray, List.getElem_cons_zero, List.getElem_cons_succ]
          have x0 := HYB.out.cell 0 rfl
          have x1 := HYB.out.cell 1 rfl
          have x2 := HYB.out.cell 2 rfl
          have x3 := HYB.out.cell 3 rfl
          have xf := HYB.out.frozen
          have xl := HYB.out.lt
          go_simp
          replace HYB : Hid (Blk _ gY 29 [.int .i64 Y.a.x, .int .i64 Y.a.y, .int .i64 Y.b.x, .int .i64 Y.b.y]) := Lib.hid (blk_put4 HYB.out)
          replace HXB := Lib.hid (blk_oth4 (g := gY) (x := .int .i64 Y.a.x) (y := .int .i64 Y.a.y) (z := .int .i64 Y.b.x) (v := .int .i64 Y.b.y) HXB.out (by omega))
          replace HA1 := Lib.hid (blk_oth4 (g := gY) (x := .int .i64 Y.a.x) (y := .int .i64 Y.a.y) (z := .int .i64 Y.b.x) (v := .int .i64 Y.b.y) HA1.out (by omega))
          replace HP1 := Lib.hid (blk_oth4 (g := gY) (x := .int .i64 Y.a.x) (y := .int .i64 Y.a.y) (z := .int .i64 Y.b.x) (v := .int .i64 Y.b.y) HP1.out (by omega))
          replace HC1 := Lib.hid (blk_oth4 (g := gY) (x := .int .i64 Y.a.x) (y := .int .i64 Y.a.y) (z := .int .i64 Y.b.x) (v := .int .i64 Y.b.y) HC1.out (by omega))
          have AB := below_put4 (g := gY) (x := .int .i64 Y.a.x) (y := .int .i64 Y.a.y) (z := .int .i64 Y.b.x) (v := .int .i64 Y.b.y) AB hgY1
          clear x0 x1 x2 x3 xf xl
          refine hK.out _ _ (⟨HA1.out.cell 0 rfl, HA1.out.cell 1 rfl, HP1.out.cell 0 rfl, HP1.out.cell 1 rfl, HC1.out.cell 0 rfl, HC1.out.cell 1 rfl⟩) (fun hHeld => ?_)
          clear hK K
          try simp only [List.getElem_toArray, List.getElem_cons_zero, List.getElem_cons_succ, Act.put, List.setIfInBounds_toArray, List.set_cons_zero, List.set_cons_succ]
          refine wpAnyH_done (by kernel_rfl) ?_ _
          go_wp2_with fail
          go_meet
          exact ⟨gX, gY, rfl, rfl, HXB, HYB, Lib.hid AB⟩
        · try simp only [List.getElem_toArray, List.getElem_cons_zero, List.getElem_cons_succ]
          go_simp
          obtain ⟨gY, hgY, hgY1, hBn, hAn, hKn⟩ := new_ex AB (Nat.le_refl _) 29 [.int .i64 0, .int .i64 0, .int .i64 0, .int .i64 0]
          have hgY2 : w.heap.size + 1 + 1 < gY := by rw [← hgY]; exact HC1.out.lt
          have hgxy : gX < gY := by rw [← hgY]; exact HXB.out.lt
          replace HXB := Lib.hid (HXB.out.keep hKn)
          try simp only [World.size_alloc] at hgY
          rw [hgY]
          have HYB := Lib.hid hBn
          replace HA1 := Lib.hid (HA1.out.keep hKn)
          replace HP1 := Lib.hid (HP1.out.keep hKn)
          replace HC1 := Lib.hid (HC1.out.keep hKn)
          have AB := hAn
          clear hBn hAn hKn hgY
          refine hK.out _ _ (⟨HA1.out.cell 0 rfl, HA1.out.cell 1 rfl, HP1.out.cell 0 rfl, HP1.out.cell 1 rfl, HC1.out.cell 0 rfl, HC1.out.cell 1 rfl⟩) (fun hHeld => ?_)
          clear hK K
          try simp only [List.getElem_toArray, List.getElem_cons_zero, List.getElem_cons_succ, Act.put, List.setIfInBounds_toArray, List.set_cons_zero, List.set_cons_succ]
          refine wpAnyH_ready (rs := [5]) (by kernel_rfl) (by simp) ?_
          refine AllReadyH.cons rfl (fun K hK => ?_) AllReadyH.nil
          try simp only [List.getElem_toArray, List.getElem_cons_zero, List.getElem_cons_succ]
          go_simp
          refine (HY.out _).mono ?_
          rintro e wn ⟨rfl, hbn⟩
          have AB := AB.trans (hbn.mono (AB.size))
          replace HA1 := Lib.hid (HA1.out.keep hbn)
          replace HP1 := Lib.hid (HP1.out.keep hbn)
          replace HC1 := Lib.hid (HC1.out.keep hbn)
          try replace HXB := Lib.hid (HXB.out.keep hbn)
          try replace HYB := Lib.hid (HYB.out.keep hbn)
          clear hbn
          go_wp2_with fail
          refine hK.out _ _ (⟨HA1.out.cell 0 rfl, HA1.out.cell 1 rfl, HP1.out.cell 0 rfl, HP1.out.cell 1 rfl, HC1.out.cell 0 rfl, HC1.out.cell 1 rfl⟩) (fun hHeld => ?_)
          clear hK K
          try simp only [List.getElem_toArray, List.getElem_cons_zero, List.getElem_cons_succ, Act.put, List.setIfInBounds_toArray, List.set_cons_zero, List.set_cons_succ]
          refine wpAnyH_ready (rs := [8]) (by kernel_rfl) (by simp) ?_
          refine AllReadyH.cons rfl (fun K hK => ?_) AllReadyH.nil
          try simp only [List.getElem_toArray, List.getElem_cons_zero, List.getElem_cons_succ]
          have x0 := HXB.out.cell 0 rfl
          have x1 := HXB.out.cell 1 rfl
          have x2 := HXB.out.cell 2 rfl
          have x3 := HXB.out.cell 3 rfl
          have xf := HXB.out.frozen
          have xl := HXB.out.lt
          go_simp
          replace HXB : Hid (Blk _ gX 29 [.int .i64 X.a.x, .int .i64 X.a.y, .int .i64 X.b.x, .int .i64 X.b.y]) := Lib.hid (blk_put4 HXB.out)
          replace HYB := Lib.hid (blk_oth4 (g := gX) (x := .int .i64 X.a.x) (y := .int .i64 X.a.y) (z := .int .i64 X.b.x) (v := .int .i64 X.b.y) HYB.out (by omega))
          replace HA1 := Lib.hid (blk_oth4 (g := gX) (x := .int .i64 X.a.x) (y := .int .i64 X.a.y) (z := .int .i64 X.b.x) (v := .int .i64 X.b.y) HA1.out (by omega))
          replace HP1 := Lib.hid (blk_oth4 (g := gX) (x := .int .i64 X.a.x) (y := .int .i64 X.a.y) (z := .int .i64 X.b.x) (v := .int .i64 X.b.y) HP1.out (by omega))
          replace HC1 := Lib.hid (blk_oth4 (g := gX) (x := .int .i64 X.a.x) (y := .int .i64 X.a.y) (z := .int .i64 X.b.x) (v := .int .i64 X.b.y) HC1.out (by omega))
          have AB := below_put4 (g := gX) (x := .int .i64 X.a.x) (y := .int .i64 X.a.y) (z := .int .i64 X.b.x) (v := .int .i64 X.b.y) AB hgX1
          clear x0 x1 x2 x3 xf xl
          refine hK.out _ _ (⟨HA1.out.cell 0 rfl, HA1.out.cell 1 rfl, HP1.out.cell 0 rfl, HP1.out.cell 1 rfl, HC1.out.cell 0 rfl, HC1.out.cell 1 rfl⟩) (fun hHeld => ?_)
          clear hK K
          try simp only [List.getElem_toArray, List.getElem_cons_zero, List.getElem_cons_succ, Act.put, List.setIfInBounds_toArray, List.set_cons_zero, List.set_cons_succ]
          refine wpAnyH_ready (rs := [9]) (by kernel_rfl) (by simp) ?_
          refine AllReadyH.cons rfl (fun K hK => ?_) AllReadyH.nil
          try simp only [List.getElem_toArray, List.getElem_cons_zero, List.getElem_cons_succ]
          have x0 := HYB.out.cell 0 rfl
          have x1 := HYB.out.cell 1 rfl
          have x2 := HYB.out.cell 2 rfl
          have x3 := HYB.out.cell 3 rfl
          have xf := HYB.out.frozen
          have xl := HYB.out.lt
          go_simp
          replace HYB : Hid (Blk _ gY 29 [.int .i64 Y.a.x, .int .i64 Y.a.y, .int .i64 Y.b.x, .int .i64 Y.b.y]) := Lib.hid (blk_put4 HYB.out)
          replace HXB := Lib.hid (blk_oth4 (g := gY) (x := .int .i64 Y.a.x) (y := .int .i64 Y.a.y) (z := .int .i64 Y.b.x) (v := .int .i64 Y.b.y) HXB.out (by omega))
          replace HA1 := Lib.hid (blk_oth4 (g := gY) (x := .int .i64 Y.a.x) (y := .int .i64 Y.a.y) (z := .int .i64 Y.b.x) (v := .int .i64 Y.b.y) HA1.out (by omega))
          replace HP1 := Lib.hid (blk_oth4 (g := gY) (x := .int .i64 Y.a.x) (y := .int .i64 Y.a.y) (z := .int .i64 Y.b.x) (v := .int .i64 Y.b.y) HP1.out (by omega))
          replace HC1 := Lib.hid (blk_oth4 (g := gY) (x := .int .i64 Y.a.x) (y := .int .i64 Y.a.y) (z := .int .i64 Y.b.x) (v := .int .i64 Y.b.y) HC1.out (by omega))
          have AB := below_put4 (g := gY) (x := .int .i64 Y.a.x) (y := .int .i64 Y.a.y) (z := .int .i64 Y.b.x) (v := .int .i64 Y.b.y) AB hgY1
          clear x0 x1 x2 x3 xf xl
          refine hK.out _ _ (⟨HA1.out.cell 0 rfl, HA1.out.cell 1 rfl, HP1.out.cell 0 rfl, HP1.out.cell 1 rfl, HC1.out.cell 0 rfl, HC1.out.cell 1 rfl⟩) (fun hHeld => ?_)
          clear hK K
          try simp only [List.getElem_toArray, List.getElem_cons_zero, List.getElem_cons_succ, Act.put, List.setIfInBounds_toArray, List.set_cons_zero, List.set_cons_succ]
          refine wpAnyH_done (by kernel_rfl) ?_ _
          go_wp2_with fail
          go_meet
          exact ⟨gX, gY, rfl, rfl, HXB, HYB, Lib.hid AB⟩
      · try simp only [List.getElem_toArray, List.getElem_cons_zero, List.getElem_cons_succ]
        go_simp
        obtain ⟨gY, hgY, hgY1, hBn, hAn, hKn⟩ := new_ex AB (Nat.le_refl _) 29 [.int .i64 0, .int .i64 0, .int .i64 0, .int .i64 0]
        have hgY2 : w.heap.size + 1 + 1 < gY := by rw [← hgY]; exact HC1.out.lt
        have hgxy : gX < gY := by rw [← hgY]; exact HXB.out.lt
        replace HXB := Lib.hid (HXB.out.keep hKn)
        try simp only [World.size_alloc] at hgY
        rw [hgY]
        have HYB := Lib.hid hBn
        replace HA1 := Lib.hid (HA1.out.keep hKn)
        replace HP1 := Lib.hid (HP1.out.keep hKn)
        replace HC1 := Lib.hid (HC1.out.keep hKn)
        have AB := hAn
        clear hBn hAn hKn hgY
        refine hK.out _ _ (⟨HA1.out.cell 0 rfl, HA1.out.cell 1 rfl, HP1.out.cell 0 rfl, HP1.out.cell 1 rfl, HC1.out.cell 0 rfl, HC1.out.cell 1 rfl⟩) (fun hHeld => ?_)
        clear hK K
        try simp only [List.getElem_toArray, List.getElem_cons_zero, List.getElem_cons_succ, Act.put, List.setIfInBounds_toArray, List.set_cons_zero, List.set_cons_succ]
        refine wpAnyH_ready (rs := [2]) (by kernel_rfl) (by simp) ?_
        refine AllReadyH.cons rfl (fun K hK => ?_) AllReadyH.nil
        try simp only [List.getElem_toArray, List.getElem_cons_zero, List.getElem_cons_succ]
        go_simp
        refine (HX.out _).mono ?_
        rintro e wn ⟨rfl, hbn⟩
        have AB := AB.trans (hbn.mono (AB.size))
        replace HA1 := Lib.hid (HA1.out.keep hbn)
        replace HP1 := Lib.hid (HP1.out.keep hbn)
        replace HC1 := Lib.hid (HC1.out.keep hbn)
        try replace HXB := Lib.hid (HXB.out.keep hbn)
        try replace HYB := Lib.hid (HYB.out.keep hbn)
        clear hbn
        go_wp2_with fail
        refine hK.out _ _ (⟨HA1.out.cell 0 rfl, HA1.out.cell 1 rfl, HP1.out.cell 0 rfl, HP1.out.cell 1 rfl, HC1.out.cell 0 rfl, HC1.out.cell 1 rfl⟩) (fun hHeld => ?_)
        clear hK K
        try simp only [List.getElem_toArray, List.getElem_cons_zero, List.getElem_cons_succ, Act.put, List.setIfInBounds_toArray, List.set_cons_zero, List.set_cons_succ]
        refine wpAnyH_ready (rs := [5]) (by kernel_rfl) (by simp) ?_
        refine AllReadyH.cons rfl (fun K hK => ?_) AllReadyH.nil
        try simp only [List.getElem_toArray, List.getElem_cons_zero, List.getElem_cons_succ]
        go_simp
        refine (HY.out _).mono ?_
        rintro e wn ⟨rfl, hbn⟩
        have AB := AB.trans (hbn.mono (AB.size))
        replace HA1 := Lib.hid (HA1.out.keep hbn)
        replace HP1 := Lib.hid (HP1.out.keep hbn)
        replace HC1 := Lib.hid (HC1.out.keep hbn)
        try replace HXB := Lib.hid (HXB.out.keep hbn)
        try replace HYB := Lib.hid (HYB.out.keep hbn)
        clear hbn
        go_wp2_with fail
        refine hK.out _ _ (⟨HA1.out.cell 0 rfl, HA1.out.cell 1 rfl, HP1.out.cell 0 rfl, HP1.out.cell 1 rfl, HC1.out.cell 0 rfl, HC1.out.cell 1 rfl⟩) (fun hHeld => ?_)
        clear hK K
        try simp only [List.getElem_toArray, List.getElem_cons_zero, List.getElem_cons_succ, Act.put, List.setIfInBounds_toArray, List.set_cons_zero, List.set_cons_succ]
        refine wpAnyH_ready (rs := [8]) (by kernel_rfl) (by simp) ?_
        refine AllReadyH.cons rfl (fun K hK => ?_) AllReadyH.nil
        try simp only [List.getElem_toArray, List.getElem_cons_zero, List.getElem_cons_succ]
        have x0 := HXB.out.cell 0 rfl
        have x1 := HXB.out.cell 1 rfl
        have x2 := HXB.out.cell 2 rfl
        have x3 := HXB.out.cell 3 rfl
        have xf := HXB.out.frozen
        have xl := HXB.out.lt
        go_simp
        replace HXB : Hid (Blk _ gX 29 [.int .i64 X.a.x, .int .i64 X.a.y, .int .i64 X.b.x, .int .i64 X.b.y]) := Lib.hid (blk_put4 HXB.out)
        replace HYB := Lib.hid (blk_oth4 (g := gX) (x := .int .i64 X.a.x) (y := .int .i64 X.a.y) (z := .int .i64 X.b.x) (v := .int .i64 X.b.y) HYB.out (by omega))
        replace HA1 := Lib.hid (blk_oth4 (g := gX) (x := .int .i64 X.a.x) (y := .int .i64 X.a.y) (z := .int .i64 X.b.x) (v := .int .i64 X.b.y) HA1.out (by omega))
        replace HP1 := Lib.hid (blk_oth4 (g := gX) (x := .int .i64 X.a.x) (y := .int .i64 X.a.y) (z := .int .i64 X.b.x) (v := .int .i64 X.b.y) HP1.out (by omega))
        replace HC1 := Lib.hid (blk_oth4 (g := gX) (x := .int .i64 X.a.x) (y := .int .i64 X.a.y) (z := .int .i64 X.b.x) (v := .int .i64 X.b.y) HC1.out (by omega))
        have AB := below_put4 (g := gX) (x := .int .i64 X.a.x) (y := .int .i64 X.a.y) (z := .int .i64 X.b.x) (v := .int .i64 X.b.y) AB hgX1
        clear x0 x1 x2 x3 xf xl
        refine hK.out _ _ (⟨HA1.out.cell 0 rfl, HA1.out.cell 1 rfl, HP1.out.cell 0 rfl, HP1.out.cell 1 rfl, HC1.out.cell 0 rfl, HC1.out.cell 1 rfl⟩) (fun hHeld => ?_)
        clear hK K
        try simp only [List.getElem_toArray, List.getElem_cons_zero, List.getElem_cons_succ, Act.put, List.setIfInBounds_toArray, List.set_cons_zero, List.set_cons_succ]
        refine wpAnyH_ready (rs := [9]) (by kernel_rfl) (by simp) ?_
        refine AllReadyH.cons rfl (fun K hK => ?_) AllReadyH.nil
        try simp only [List.getElem_toArray, List.getElem_cons_zero, List.getElem_cons_succ]
        have x0 := HYB.out.cell 0 rfl
        have x1 := HYB.out.cell 1 rfl
        have x2 := HYB.out.cell 2 rfl
        have x3 := HYB.out.cell 3 rfl
        have xf := HYB.out.frozen
        have xl := HYB.out.lt
        go_simp
        replace HYB : Hid (Blk _ gY 29 [.int .i64 Y.a.x, .int .i64 Y.a.y, .int .i64 Y.b.x, .int .i64 Y.b.y]) := Lib.hid (blk_put4 HYB.out)
        replace HXB := Lib.hid (blk_oth4 (g := gY) (x := .int .i64 Y.a.x) (y := .int .i64 Y.a.y) (z := .int .i64 Y.b.x) (v := .int .i64 Y.b.y) HXB.out (by omega))
        replace HA1 := Lib.hid (blk_oth4 (g := gY) (x := .int .i64 Y.a.x) (y := .int .i64 Y.a.y) (z := .int .i64 Y.b.x) (v := .int .i64 Y.b.y) HA1.out (by omega))
        replace HP1 := Lib.hid (blk_oth4 (g := gY) (x := .int .i64 Y.a.x) (y := .int .i64 Y.a.y) (z := .int .i64 Y.b.x) (v := .int .i64 Y.b.y) HP1.out (by omega))
        replace HC1 := Lib.hid (blk_oth4 (g := gY) (x := .int .i64 Y.a.x) (y := .int .i64 Y.a.y) (z := .int .i64 Y.b.x) (v := .int .i64 Y.b.y) HC1.out (by omega))
        have AB := below_put4 (g := gY) (x := .int .i64 Y.a.x) (y := .int .i64 Y.a.y) (z := .int .i64 Y.b.x) (v := .int .i64 Y.b.y) AB hgY1
        clear x0 x1 x2 x3 xf xl
        refine hK.out _ _ (⟨HA1.out.cell 0 rfl, HA1.out.cell 1 rfl, HP1.out.cell 0 rfl, HP1.out.cell 1 rfl, HC1.out.cell 0 rfl, HC1.out.cell 1 rfl⟩) (fun hHeld => ?_)
        clear hK K
        try simp only [List.getElem_toArray, List.getElem_cons_zero, List.getElem_cons_succ, Act.put, List.setIfInBounds_toArray, List.set_cons_zero, List.set_cons_succ]
        refine wpAnyH_done (by kernel_rfl) ?_ _
        go_wp2_with fail
        go_meet
        exact ⟨gX, gY, rfl, rfl, HXB, HYB, Lib.hid AB⟩
    · try simp only [List.getElem_toArray, List.getElem_cons_zero, List.getElem_cons_succ]
      go_simp
      obtain ⟨gY, hgY, hgY1, hBn, hAn, hKn⟩ := new_ex AB (Nat.le_refl _) 29 [.int .i64 0, .int .i64 0, .int .i64 0, .int .i64 0]
      have hgY2 : w.heap.size + 1 + 1 < gY := by rw [← hgY]; exact HC1.out.lt
      try simp only [World.size_alloc] at hgY
      rw [hgY]
      have HYB := Lib.hid hBn
      replace HA1 := Lib.hid (HA1.out.keep hKn)
      replace HP1 := Lib.hid (HP1.out.keep hKn)
      replace HC1 := Lib.hid (HC1.out.keep hKn)
      have AB := hAn
      clear hBn hAn hKn hgY
      refine hK.out _ _ (⟨HA1.out.cell 0 rfl, HA1.out.cell 1 rfl, HP1.out.cell 0 rfl, HP1.out.cell 1 rfl, HC1.out.cell 0 rfl, HC1.out.cell 1 rfl⟩) (fun hHeld => ?_)
      clear hK K
      try simp only [List.getElem_toArray, List.getElem_cons_zero, List.getElem_cons_succ, Act.put, List.setIfInBounds_toArray, List.set_cons_zero, List.set_cons_succ]
      refine wpAnyH_ready (rs := [2, 6]) (by kernel_rfl) (by simp) ?_
      refine AllReadyH.cons rfl (fun K hK => ?_) (AllReadyH.cons rfl (fun K hK => ?_) AllReadyH.nil)
      · try simp only [List.getElem_toArray, List.getElem_cons_zero, List.getElem_cons_succ]
        go_simp
        refine (HX.out _).mono ?_
        rintro e wn ⟨rfl, hbn⟩
        have AB := AB.trans (hbn.mono (AB.size))
        replace HA1 := Lib.hid (HA1.out.keep hbn)
        replace HP1 := Lib.hid (HP1.out.keep hbn)
        replace HC1 := Lib.hid (HC1.out.keep hbn)
        try replace HXB := Lib.hid (HXB.out.keep hbn)
        try replace HYB := Lib.hid (HYB.out.keep hbn)
        clear hbn
        go_wp2_with fail
        refine hK.out _ _ (⟨HA1.out.cell 0 rfl, HA1.out.cell 1 rfl, HP1.out.cell 0 rfl, HP1.out.cell 1 rfl, HC1.out.cell 0 rfl, HC1.out.cell 1 rfl⟩) (fun hHeld => ?_)
        clear hK K
        try simp only [List.getElem_toArray, List.getElem_cons_zero, List.getElem_cons_succ, Act.put, List.setIfInBounds_toArray, List.set_cons_zero, List.set_cons_succ]
        refine wpAnyH_ready (rs := [5, 6]) (by kernel_rfl) (by simp) ?_
        refine AllReadyH.cons rfl (fun K hK => ?_) (AllReadyH.cons rfl (fun K hK => ?_) AllReadyH.nil)
        · try simp only [List.getElem_toArray, List.getElem_cons_zero, List.getElem_cons_succ]
          go_simp
          refine (HY.out _).mono ?_
          rintro e wn ⟨rfl, hbn⟩
          have AB := AB.trans (hbn.mono (AB.size))
          replace HA1 := Lib.hid (HA1.out.keep hbn)
          replace HP1 := Lib.hid (HP1.out.keep hbn)
          replace HC1 := Lib.hid (HC1.out.keep hbn)
          try replace HXB := Lib.hid (HXB.out.keep hbn)
          try replace HYB := Lib.hid (HYB.out.keep hbn)
          clear hbn
          go_wp2_with fail
          refine hK.out _ _ (⟨HA1.out.cell 0 rfl, HA1.out.cell 1 rfl, HP1.out.cell 0 rfl, HP1.out.cell 1 rfl, HC1.out.cell 0 rfl, HC1.out.cell 1 rfl⟩) (fun hHeld => ?_)
          clear hK K
          try simp only [List.getElem_toArray, List.getElem_cons_zero, List.getElem_cons_succ, Act.put, List.setIfInBounds_toArray, List.set_cons_zero, List.set_cons_succ]
          refine wpAnyH_ready (rs := [6]) (by kernel_rfl) (by simp) ?_
          refine AllReadyH.cons rfl (fun K hK => ?_) AllReadyH.nil
          try simp only [List.getElem_toArray, List.getElem_cons_zero, List.getElem_cons_succ]
          go_simp
          obtain ⟨gX, hgX, hgX1, hBn, hAn, hKn⟩ := new_ex AB (Nat.le_refl _) 29 [.int .i64 0, .int .i64 0, .int .i64 0, .int .i64 0]
          have hgX2 : w.heap.size + 1 + 1 < gX := by rw [← hgX]; exact HC1.out.lt
          have hgxy : gY < gX := by rw [← hgX]; exact HYB.out.lt
          replace HYB := Lib.hid (HYB.out.keep hKn)
          try simp only [World.size_alloc] at hgX
          rw [hgX]
          have HXB := Lib.hid hBn
          replace HA1 := Lib.hid (HA1.out.keep hKn)
          replace HP1 := Lib.hid (HP1.out.keep hKn)
          replace HC1 := Lib.hid (HC1.out.keep hKn)
          have AB := hAn
          clear hBn hAn hKn hgX
          refine hK.out _ _ (⟨HA1.out.cell 0 rfl, HA1.out.cell 1 rfl, HP1.out.cell 0 rfl, HP1.out.cell 1 rfl, HC1.out.cell 0 rfl, HC1.out.cell 1 rfl⟩) (fun hHeld => ?_)
          clear hK K
          try simp only [List.getElem_toArray, List.getElem_cons_zero, List.getElem_cons_succ, Act.put, List.setIfInBounds_toArray, List.set_cons_zero, List.set_cons_succ]
          refine wpAnyH_ready (rs := [8]) (by kernel_rfl) (by simp) ?_
          refine AllReadyH.cons rfl (fun K hK => ?_) AllReadyH.nil
          try simp only [List.getElem_toArray, List.getElem_cons_zero, List.getElem_cons_succ]
          have x0 := HXB.out.cell 0 rfl
          have x1 := HXB.out.cell 1 rfl
          have x2 := HXB.out.cell 2 rfl
          have x3 := HXB.out.cell 3 rfl
          have xf := HXB.out.frozen
          have xl := HXB.out.lt
          go_simp
          replace HXB : Hid (Blk _ gX 29 [.int .i64 X.a.x, .int .i64 X.a.y, .int .i64 X.b.x, .int .i64 X.b.y]) := Lib.hid (blk_put4 HXB.out)
          replace HYB := Lib.hid (blk_oth4 (g := gX) (x := .int .i64 X.a.x) (y := .int .i64 X.a.y) (z := .int .i64 X.b.x) (v := .int .i64 X.b.y) HYB.out (by omega))
          replace HA1 := Lib.hid (blk_oth4 (g := gX) (x := .int .i64 X.a.x) (y := .int .i64 X.a.y) (z := .int .i64 X.b.x) (v := .int .i64 X.b.y) HA1.out (by omega))
          replace HP1 := Lib.hid (blk_oth4 (g := gX) (x := .int .i64 X.a.x) (y := .int .i64 X.a.y) (z := .int .i64 X.b.x) (v := .int .i64 X.b.y) HP1.out (by omega))
          replace HC1 := Lib.hid (blk_oth4 (g := gX) (x := .int .i64 X.a.x) (y := .int .i64 X.a.y) (z := .int .i64 X.b.x) (v := .int .i64 X.b.y) HC1.out (by omega))
          have AB := below_put4 (g := gX) (x := .int .i64 X.a.x) (y := .int .i64 X.a.y) (z := .int .i64 X.b.x) (v := .int .i64 X.b.y) AB hgX1
          clear x0 x1 x2 x3 xf xl
          refine hK.out _ _ (⟨HA1.out.cell 0 rfl, HA1.out.cell 1 rfl, HP1.out.cell 0 rfl, HP1.out.cell 1 rfl, HC1.out.cell 0 rfl, HC1.out.cell 1 rfl⟩) (fun hHeld => ?_)
          clear hK K
          try simp only [List.getElem_toArray, List.getElem_cons_zero, List.getElem_cons_succ, Act.put, List.setIfInBounds_toArray, List.set_cons_zero, List.set_cons_succ]
          refine wpAnyH_ready (rs := [9]) (by kernel_rfl) (by simp) ?_
          refine AllReadyH.cons rfl (fun K hK => ?_) AllReadyH.nil
          try simp only [List.getElem_toArray, List.getElem_cons_zero, List.getElem_cons_succ]
          have x0 := HYB.out.cell 0 rfl
          have x1 := HYB.out.cell 1 rfl
          have x2 := HYB.out.cell 2 rfl
          have x3 := HYB.out.cell 3 rfl
          have xf := HYB.out.frozen
          have xl := HYB.out.lt
          go_simp
          replace HYB : Hid (Blk _ gY 29 [.int .i64 Y.a.x, .int .i64 Y.a.y, .int .i64 Y.b.x, .int .i64 Y.b.y]) := Lib.hid (blk_put4 HYB.out)
          replace HXB := Lib.hid (blk_oth4 (g := gY) (x := .int .i64 Y.a.x) (y := .int .i64 Y.a.y) (z := .int .i64 Y.b.x) (v := .int .i64 Y.b.y) HXB.out (by omega))
          replace HA1 := Lib.hid (blk_oth4 (g := gY) (x := .int .i64 Y.a.x) (y := .int .i64 Y.a.y) (z := .int .i64 Y.b.x) (v := .int .i64 Y.b.y) HA1.out (by omega))
          replace HP1 := Lib.hid (blk_oth4 (g := gY) (x := .int .i64 Y.a.x) (y := .int .i64 Y.a.y) (z := .int .i64 Y.b.x) (v := .int .i64 Y.b.y) HP1.out (by omega))
          replace HC1 := Lib.hid (blk_oth4 (g := gY) (x := .int .i64 Y.a.x) (y := .int .i64 Y.a.y) (z := .int .i64 Y.b.x) (v := .int .i64 Y.b.y) HC1.out (by omega))
          have AB := below_put4 (g := gY) (x := .int .i64 Y.a.x) (y := .int .i64 Y.a.y) (z := .int .i64 Y.b.x) (v := .int .i64 Y.b.y) AB hgY1
          clear x0 x1 x2 x3 xf xl
          refine hK.out _ _ (⟨HA1.out.cell 0 rfl, HA1.out.cell 1 rfl, HP1.out.cell 0 rfl, HP1.out.cell 1 rfl, HC1.out.cell 0 rfl, HC1.out.cell 1 rfl⟩) (fun hHeld => ?_)
          clear hK K
          try simp only [List.getElem_toArray, List.getElem_cons_zero, List.getElem_cons_succ, Act.put, List.setIfInBounds_toArray, List.set_cons_zero, List.set_cons_succ]
          refine wpAnyH_done (by kernel_rfl) ?_ _
          go_wp2_with fail
          go_meet
          exact ⟨gX, gY, rfl, rfl, HXB, HYB, Lib.hid AB⟩
        · try simp only [List.getElem_toArray, List.getElem_cons_zero, List.getElem_cons_succ]
          go_simp
          obtain ⟨gX, hgX, hgX1, hBn, hAn, hKn⟩ := new_ex AB (Nat.le_refl _) 29 [.int .i64 0, .int .i64 0, .int .i64 0, .int .i64 0]
          have hgX2 : w.heap.size + 1 + 1 < gX := by rw [← hgX]; exact HC1.out.lt
          have hgxy : gY < gX := by rw [← hgX]; exact HYB.out.lt
          replace HYB := Lib.hid (HYB.out.keep hKn)
          try simp only [World.size_alloc] at hgX
          rw [hgX]
          have HXB := Lib.hid hBn
          replace HA1 := Lib.hid (HA1.out.keep hKn)
          replace HP1 := Lib.hid (HP1.out.keep hKn)
          replace HC1 := Lib.hid (HC1.out.keep hKn)
          have AB := hAn
          clear hBn hAn hKn hgX
          refine hK.out _ _ (⟨HA1.out.cell 0 rfl, HA1.out.cell 1 rfl, HP1.out.cell 0 rfl, HP1.out.cell 1 rfl, HC1.out.cell 0 rfl, HC1.out.cell 1 rfl⟩) (fun hHeld => ?_)
          clear hK K
          try simp only [List.getElem_toArray, List.getElem_cons_zero, List.getElem_cons_succ, Act.put, List.setIfInBounds_toArray, List.set_cons_zero, List.set_cons_succ]
          refine wpAnyH_ready (rs := [5]) (by kernel_rfl) (by simp) ?_
          refine AllReadyH.cons rfl (fun K hK => ?_) AllReadyH.nil
          try simp only [List.getElem_toArray, List.getElem_cons_zero, List.getElem_cons_succ]
          go_simp
          refine (HY.out _).mono ?_
          rintro e wn ⟨rfl, hbn⟩
          have AB := AB.trans (hbn.mono (AB.size))
          replace HA1 := Lib.hid (HA1.out.keep hbn)
          replace HP1 := Lib.hid (HP1.out.keep hbn)
          replace HC1 := Lib.hid (HC1.out.keep hbn)
          try replace HXB := Lib.hid (HXB.out.keep hbn)
          try replace HYB := Lib.hid (HYB.out.keep hbn)
          clear hbn
          go_wp2_with fail
          refine hK.out _ _ (⟨HA1.out.cell 0 rfl, HA1.out.cell 1 rfl, HP1.out.cell 0 rfl, HP1.out.cell 1 rfl, HC1.out.cell 0 rfl, HC1.out.cell 1 rfl⟩) (fun hHeld => ?_)
          clear hK K
          try simp only [List.getElem_toArray, List.getElem_cons_zero, List.getElem_cons_succ, Act.put, List.setIfInBounds_toArray, List.set_cons_zero, List.set_cons_succ]
          refine wpAnyH_ready (rs := [8]) (by kernel_rfl) (by simp) ?_
          refine AllReadyH.cons rfl (fun K hK => ?_) AllReadyH.nil
          try simp only [List.getElem_toArray, List.getElem_cons_zero, List.getElem_cons_succ]
          have x0 := HXB.out.cell 0 rfl
          have x1 := HXB.out.cell 1 rfl
          have x2 := HXB.out.cell 2 rfl
          have x3 := HXB.out.cell 3 rfl
          have xf := HXB.out.frozen
          have xl := HXB.out.lt
          go_simp
          replace HXB : Hid (Blk _ gX 29 [.int .i64 X.a.x, .int .i64 X.a.y, .int .i64 X.b.x, .int .i64 X.b.y]) := Lib.hid (blk_put4 HXB.out)
          replace HYB := Lib.hid (blk_oth4 (g := gX) (x := .int .i64 X.a.x) (y := .int .i64 X.a.y) (z := .int .i64 X.b.x) (v := .int .i64 X.b.y) HYB.out (by omega))
          replace HA1 := Lib.hid (blk_oth4 (g := gX) (x := .int .i64 X.a.x) (y := .int .i64 X.a.y) (z := .int .i64 X.b.x) (v := .int .i64 X.b.y) HA1.out (by omega))
          replace HP1 := Lib.hid (blk_oth4 (g := gX) (x := .int .i64 X.a.x) (y := .int .i64 X.a.y) (z := .int .i64 X.b.x) (v := .int .i64 X.b.y) HP1.out (by omega))
          replace HC1 := Lib.hid (blk_oth4 (g := gX) (x := .int .i64 X.a.x) (y := .int .i64 X.a.y) (z := .int .i64 X.b.x) (v := .int .i64 X.b.y) HC1.out (by omega))
          have AB := below_put4 (g := gX) (x := .int .i64 X.a.x) (y := .int .i64 X.a.y) (z := .int .i64 X.b.x) (v := .int .i64 X.b.y) AB hgX1
          clear x0 x1 x2 x3 xf xl
          refine hK.out _ _ (⟨HA1.out.cell 0 rfl, HA1.out.cell 1 rfl, HP1.out.cell 0 rfl, HP1.out.cell 1 rfl, HC1.out.cell 0 rfl, HC1.out.cell 1 rfl⟩) (fun hHeld => ?_)
          clear hK K
          try simp only [List.getElem_toArray, List.getElem_cons_zero, List.getElem_cons_succ, Act.put, List.setIfInBounds_toArray, List.set_cons_zero, List.set_cons_succ]
          refine wpAnyH_ready (rs := [9]) (by kernel_rfl) (by simp) ?_
          refine AllReadyH.cons rfl (fun K hK => ?_) AllReadyH.nil
          try simp only [List.getElem_toArray, List.getElem_cons_zero, List.getElem_cons_succ]
          have x0 := HYB.out.cell 0 rfl
          have x1 := HYB.out.cell 1 rfl
          have x2 := HYB.out.cell 2 rfl
          have x3 := HYB.out.cell 3 rfl
          have xf := HYB.out.frozen
          have xl := HYB.out.lt
          go_simp
          replace HYB : Hid (Blk _ gY 29 [.int .i64 Y.a.x, .int .i64 Y.a.y, .int .i64 Y.b.x, .int .i64 Y.b.y]) := Lib.hid (blk_put4 HYB.out)
          replace HXB := Lib.hid (blk_oth4 (g := gY) (x := .int .i64 Y.a.x) (y := .int .i64 Y.a.y) (z := .int .i64 Y.b.x) (v := .int .i64 Y.b.y) HXB.out (by omega))
          replace HA1 := Lib.hid (blk_oth4 (g := gY) (x := .int .i64 Y.a.x) (y := .int .i64 Y.a.y) (z := .int .i64 Y.b.x) (v := .int .i64 Y.b.y) HA1.out (by omega))
          replace HP1 := Lib.hid (blk_oth4 (g := gY) (x := .int .i64 Y.a.x) (y := .int .i64 Y.a.y) (z := .int .i64 Y.b.x) (v := .int .i64 Y.b.y) HP1.out (by omega))
          replace HC1 := Lib.hid (blk_oth4 (g := gY) (x := .int .i64 Y.a.x) (y := .int .i64 Y.a.y) (z := .int .i64 Y.b.x) (v := .int .i64 Y.b.y) HC1.out (by omega))
          have AB := below_put4 (g := gY) (x := .int .i64 Y.a.x) (y := .int .i64 Y.a.y) (z := .int .i64 Y.b.x) (v := .int .i64 Y.b.y) AB hgY1
          clear x0 x1 x2 x3 xf xl
          refine hK.out _ _ (⟨HA1.out.cell 0 rfl, HA1.out.cell 1 rfl, HP1.out.cell 0 rfl, HP1.out.cell 1 rfl, HC1.out.cell 0 rfl, HC1.out.cell 1 rfl⟩) (fun hHeld => ?_)
          clear hK K
          try simp only [List.getElem_toArray, List.getElem_cons_zero, List.getElem_cons_succ, Act.put, List.setIfInBounds_toArray, List.set_cons_zero, List.set_cons_succ]
          refine wpAnyH_done (by kernel_rfl) ?_ _
          go_wp2_with fail
          go_meet
          exact ⟨gX, gY, rfl, rfl, HXB, HYB, Lib.hid AB⟩
      · try simp only [List.getElem_toArray, List.getElem_cons_zero, List.getElem_cons_succ]
        go_simp
        obtain ⟨gX, hgX, hgX1, hBn, hAn, hKn⟩ := new_ex AB (Nat.le_refl _) 29 [.int .i64 0, .int .i64 0, .int .i64 0, .int .i64 0]
        have hgX2 : w.heap.size + 1 + 1 < gX := by rw [← hgX]; exact HC1.out.lt
        have hgxy : gY < gX := by rw [← hgX]; exact HYB.out.lt
        replace HYB := Lib.hid (HYB.out.keep hKn)
        try simp only [World.size_alloc] at hgX
        rw [hgX]
        have HXB := Lib.hid hBn
        replace HA1 := Lib.hid (HA1.out.keep hKn)
        replace HP1 := Lib.hid (HP1.out.keep hKn)
        replace HC1 := Lib.hid (HC1.out.keep hKn)
        have AB := hAn
        clear hBn hAn hKn hgX
        refine hK.out _ _ (⟨HA1.out.cell 0 rfl, HA1.out.cell 1 rfl, HP1.out.cell 0 rfl, HP1.out.cell 1 rfl, HC1.out.cell 0 rfl, HC1.out.cell 1 rfl⟩) (fun hHeld => ?_)
        clear hK K
        try simp only [List.getElem_toArray, List.getElem_cons_zero, List.getElem_cons_succ, Act.put, List.setIfInBounds_toArray, List.set_cons_zero, List.set_cons_succ]
        refine wpAnyH_ready (rs := [2]) (by kernel_rfl) (by simp) ?_
        refine AllReadyH.cons rfl (fun K hK => ?_) AllReadyH.nil
        try simp only [List.getElem_toArray, List.getElem_cons_zero, List.getElem_cons_succ]
        go_simp
        refine (HX.out _).mono ?_
        rintro e wn ⟨rfl, hbn⟩
        have AB := AB.trans (hbn.mono (AB.size))
        replace HA1 := Lib.hid (HA1.out.keep hbn)
        replace HP1 := Lib.hid (HP1.out.keep hbn)
        replace HC1 := Lib.hid (HC1.out.keep hbn)
        try replace HXB := Lib.hid (HXB.out.keep hbn)
        try replace HYB := Lib.hid (HYB.out.keep hbn)
        clear hbn
        go_wp2_with fail
        refine hK.out _ _ (⟨HA1.out.cell 0 rfl, HA1.out.cell 1 rfl, HP1.out.cell 0 rfl, HP1.out.cell 1 rfl, HC1.out.cell 0 rfl, HC1.out.cell 1 rfl⟩) (fun hHeld => ?_)
        clear hK K
        try simp only [List.getElem_toArray, List.getElem_cons_zero, List.getElem_cons_succ, Act.put, List.setIfInBounds_toArray, List.set_cons_zero, List.set_cons_succ]
        refine wpAnyH_ready (rs := [5]) (by kernel_rfl) (by simp) ?_
        refine AllReadyH.cons rfl (fun K hK => ?_) AllReadyH.nil
        try simp only [List.getElem_toArray, List.getElem_cons_zero, List.getElem_cons_succ]
        go_simp
        refine (HY.out _).mono ?_
        rintro e wn ⟨rfl, hbn⟩
        have AB := AB.trans (hbn.mono (AB.size))
        replace HA1 := Lib.hid (HA1.out.keep hbn)
        replace HP1 := Lib.hid (HP1.out.keep hbn)
        replace HC1 := Lib.hid (HC1.out.keep hbn)
        try replace HXB := Lib.hid (HXB.out.keep hbn)
        try replace HYB := Lib.hid (HYB.out.keep hbn)
        clear hbn
        go_wp2_with fail
        refine hK.out _ _ (⟨HA1.out.cell 0 rfl, HA1.out.cell 1 rfl, HP1.out.cell 0 rfl, HP1.out.cell 1 rfl, HC1.out.cell 0 rfl, HC1.out.cell 1 rfl⟩) (fun hHeld => ?_)
        clear hK K
        try simp only [List.getElem_toArray, List.getElem_cons_zero, List.getElem_cons_succ, Act.put, List.setIfInBounds_toArray, List.set_cons_zero, List.set_cons_succ]
        refine wpAnyH_ready (rs := [8]) (by kernel_rfl) (by simp) ?_
        refine AllReadyH.cons rfl (fun K hK => ?_) AllReadyH.nil
        try simp only [List.getElem_toArray, List.getElem_cons_zero, List.getElem_cons_succ]
        have x0 := HXB.out.cell 0 rfl
        have x1 := HXB.out.cell 1 rfl
        have x2 := HXB.out.cell 2 rfl
        have x3 := HXB.out.cell 3 rfl
        have xf := HXB.out.frozen
        have xl := HXB.out.lt
        go_simp
        replace HXB : Hid (Blk _ gX 29 [.int .i64 X.a.x, .int .i64 X.a.y, .int .i64 X.b.x, .int .i64 X.b.y]) := Lib.hid (blk_put4 HXB.out)
        replace HYB := Lib.hid (blk_oth4 (g := gX) (x := .int .i64 X.a.x) (y := .int .i64 X.a.y) (z := .int .i64 X.b.x) (v := .int .i64 X.b.y) HYB.out (by omega))
        replace HA1 := Lib.hid (blk_oth4 (g := gX) (x := .int .i64 X.a.x) (y := .int .i64 X.a.y) (z := .int .i64 X.b.x) (v := .int .i64 X.b.y) HA1.out (by omega))
        replace HP1 := Lib.hid (blk_oth4 (g := gX) (x := .int .i64 X.a.x) (y := .int .i64 X.a.y) (z := .int .i64 X.b.x) (v := .int .i64 X.b.y) HP1.out (by omega))
        replace HC1 := Lib.hid (blk_oth4 (g := gX) (x := .int .i64 X.a.x) (y := .int .i64 X.a.y) (z := .int .i64 X.b.x) (v := .int .i64 X.b.y) HC1.out (by omega))
        have AB := below_put4 (g := gX) (x := .int .i64 X.a.x) (y := .int .i64 X.a.y) (z := .int .i64 X.b.x) (v := .int .i64 X.b.y) AB hgX1
        clear x0 x1 x2 x3 xf xl
        refine hK.out _ _ (⟨HA1.out.cell 0 rfl, HA1.out.cell 1 rfl, HP1.out.cell 0 rfl, HP1.out.cell 1 rfl, HC1.out.cell 0 rfl, HC1.out.cell 1 rfl⟩) (fun hHeld => ?_)
        clear hK K
        try simp only [List.getElem_toArray, List.getElem_cons_zero, List.getElem_cons_succ, Act.put, List.setIfInBounds_toArray, List.set_cons_zero, List.set_cons_succ]
        refine wpAnyH_ready (rs := [9]) (by kernel_rfl) (by simp) ?_
        refine AllReadyH.cons rfl (fun K hK => ?_) AllReadyH.nil
        try simp only [List.getElem_toArray, List.getElem_cons_zero, List.getElem_cons_succ]
        have x0 := HYB.out.cell 0 rfl
        have x1 := HYB.out.cell 1 rfl
        have x2 := HYB.out.cell 2 rfl
        have x3 := HYB.out.cell 3 rfl
        have xf := HYB.out.frozen
        have xl := HYB.out.lt
        go_simp
        replace HYB : Hid (Blk _ gY 29 [.int .i64 Y.a.x, .int .i64 Y.a.y, .int .i64 Y.b.x, .int .i64 Y.b.y]) := Lib.hid (blk_put4 HYB.out)
        replace HXB := Lib.hid (blk_oth4 (g := gY) (x := .int .i64 Y.a.x) (y := .int .i64 Y.a.y) (z := .int .i64 Y.b.x) (v := .int .i64 Y.b.y) HXB.out (by omega))
        replace HA1 := Lib.hid (blk_oth4 (g := gY) (x := .int .i64 Y.a.x) (y := .int .i64 Y.a.y) (z := .int .i64 Y.b.x) (v := .int .i64 Y.b.y) HA1.out (by omega))
        replace HP1 := Lib.hid (blk_oth4 (g := gY) (x := .int .i64 Y.a.x) (y := .int .i64 Y.a.y) (z := .int .i64 Y.b.x) (v := .int .i64 Y.b.y) HP1.out (by omega))
        replace HC1 := Lib.hid (blk_oth4 (g := gY) (x := .int .i64 Y.a.x) (y := .int .i64 Y.a.y) (z := .int .i64 Y.b.x) (v := .int .i64 Y.b.y) HC1.out (by omega))
        have AB := below_put4 (g := gY) (x := .int .i64 Y.a.x) (y := .int .i64 Y.a.y) (z := .int .i64 Y.b.x) (v := .int .i64 Y.b.y) AB hgY1
        clear x0 x1 x2 x3 xf xl
        refine hK.out _ _ (⟨HA1.out.cell 0 rfl, HA1.out.cell 1 rfl, HP1.out.cell 0 rfl, HP1.out.cell 1 rfl, HC1.out.cell 0 rfl, HC1.out.cell 1 rfl⟩) (fun hHeld => ?_)
        clear hK K
        try simp only [List.getElem_toArray, List.getElem_cons_zero, List.getElem_cons_succ, Act.put, List.setIfInBounds_toArray, List.set_cons_zero, List.set_cons_succ]
        refine wpAnyH_done (by kernel_rfl) ?_ _
        go_wp2_with fail
        go_meet
        exact ⟨gX, gY, rfl, rfl, HXB, HYB, Lib.hid AB⟩
  case rest =>
    obtain ⟨gx, gy, rfl, rfl, HXB, HYB, HB2⟩ := hcut
    go_wp2_with fail
    cases t
    · have hd : Below wc.heap.size wc wc.drew := (Below.refl _ wc).drew
      have AB := HB2.out.drew
      replace HXB := Lib.hid (HXB.out.keep hd)
      replace HYB := Lib.hid (HYB.out.keep hd)
      clear hd HB2
      refine wp_region_held_drew (S := fun wx => wx.cell? ⟨gx, 0, none⟩ = some (.int .i64 X.a.x) ∧ wx.cell? ⟨gx, 1, none⟩ = some (.int .i64 X.a.y) ∧ wx.cell? ⟨gx, 2, none⟩ = some (.int .i64 X.b.x) ∧ wx.cell? ⟨gx, 3, none⟩ = some (.int .i64 X.b.y) ∧ wx.cell? ⟨gy, 0, none⟩ = some (.int .i64 Y.a.x) ∧ wx.cell? ⟨gy, 1, none⟩ = some (.int .i64 Y.a.y) ∧ wx.cell? ⟨gy, 2, none⟩ = some (.int .i64 Y.b.x) ∧ wx.cell? ⟨gy, 3, none⟩ = some (.int .i64 Y.b.y)) (by kernel_rfl) (⟨HXB.out.cell 0 rfl, HXB.out.cell 1 rfl, HXB.out.cell 2 rfl, HXB.out.cell 3 rfl, HYB.out.cell 0 rfl, HYB.out.cell 1 rfl, HYB.out.cell 2 rfl, HYB.out.cell 3 rfl⟩) (fun hHeld => ?_)
      refine wpAnyH_take (i := 0) (v := ?_) rfl (by kernel_rfl) (by kernel_rfl) (by kernel_rfl) (fun _ _ _ h => h) (Or.inl ⟨by rfl, ?_⟩) hHeld ?_
      rotate_left
      · intro w hSw
        (try dsimp only at hSw)
        (try simp only [List.getElem_toArray, List.getElem_cons_zero])
        go_simp
        all_goals with_reducible rfl
      try simp only [List.getElem_toArray, List.getElem_cons_zero, Act.put, List.setIfInBounds_toArray, List.set_cons_zero, List.set_cons_succ]
      refine wpAnyH_take (i := 1) (v := ?_) rfl (by kernel_rfl) (by kernel_rfl) (by kernel_rfl) (fun _ _ _ h => h) (Or.inl ⟨by rfl, ?_⟩) hHeld ?_
      rotate_left
      · intro w hSw
        (try dsimp only at hSw)
        (try simp only [List.getElem_toArray, List.getElem_cons_zero, List.getElem_cons_succ])
        go_simp
        all_goals with_reducible rfl
      try simp only [List.getElem_toArray, List.getElem_cons_zero, List.getElem_cons_succ, Act.put, List.setIfInBounds_toArray, List.set_cons_zero, List.set_cons_succ]
      refine wpAnyH_take (i := 3) (v := ?_) rfl (by kernel_rfl) (by kernel_rfl) (by kernel_rfl) (fun _ _ _ h => h) (Or.inl ⟨by rfl, ?_⟩) hHeld ?_
      rotate_left
      · intro w hSw
        (try dsimp only at hSw)
        (try simp only [List.getElem_toArray, List.getElem_cons_zero, List.getElem_cons_succ])
        go_simp
        all_goals with_reducible rfl
      try simp only [List.getElem_toArray, List.getElem_cons_zero, List.getElem_cons_succ, Act.put, List.setIfInBounds_toArray, List.set_cons_zero, List.set_cons_succ]
      refine wpAnyH_take (i := 4) (v := ?_) rfl (by kernel_rfl) (by kernel_rfl) (by kernel_rfl) (fun _ _ _ h => h) (Or.inl ⟨by rfl, ?_⟩) hHeld ?_
      rotate_left
      · intro w hSw
        (try dsimp only at hSw)
        (try simp only [List.getElem_toArray, List.getElem_cons_zero, List.getElem_cons_succ])
        go_simp
        all_goals with_reducible rfl
      try simp only [List.getElem_toArray, List.getElem_cons_zero, List.getElem_cons_succ, Act.put, List.setIfInBounds_toArray, List.set_cons_zero, List.set_cons_succ]
      refine wpAnyH_ready (rs := [2]) (by kernel_rfl) (by simp) ?_
      refine AllReadyH.cons rfl (fun K hK => ?_) AllReadyH.nil
      try simp only [List.getElem_toArray, List.getElem_cons_zero, List.getElem_cons_succ]
      go_simp
      refine (HI.out _).mono ?_
      rintro e wn ⟨rfl, hbn⟩
      have AB := AB.trans (hbn.mono (AB.size))
      replace HXB := Lib.hid (HXB.out.keep hbn)
      replace HYB := Lib.hid (HYB.out.keep hbn)
      clear hbn
      go_wp2_with fail
      refine hK.out _ _ (⟨HXB.out.cell 0 rfl, HXB.out.cell 1 rfl, HXB.out.cell 2 rfl, HXB.out.cell 3 rfl, HYB.out.cell 0 rfl, HYB.out.cell 1 rfl, HYB.out.cell 2 rfl, HYB.out.cell 3 rfl⟩) (fun hHeld => ?_)
      clear hK K
      try simp only [List.getElem_toArray, List.getElem_cons_zero, List.getElem_cons_succ, Act.put, List.setIfInBounds_toArray, List.set_cons_zero, List.set_cons_succ]
      refine wpAnyH_ready (rs := [5]) (by kernel_rfl) (by simp) ?_
      refine AllReadyH.cons rfl (fun K hK => ?_) AllReadyH.nil
      try simp only [List.getElem_toArray, List.getElem_cons_zero, List.getElem_cons_succ]
      go_simp
      refine (HL.out _).mono ?_
      rintro e wn ⟨rfl, hbn⟩
      have AB := AB.trans (hbn.mono (AB.size))
      replace HXB := Lib.hid (HXB.out.keep hbn)
      replace HYB := Lib.hid (HYB.out.keep hbn)
      clear hbn
      go_wp2_with fail
      refine hK.out _ _ (⟨HXB.out.cell 0 rfl, HXB.out.cell 1 rfl, HXB.out.cell 2 rfl, HXB.out.cell 3 rfl, HYB.out.cell 0 rfl, HYB.out.cell 1 rfl, HYB.out.cell 2 rfl, HYB.out.cell 3 rfl⟩) (fun hHeld => ?_)
      clear hK K
      try simp only [List.getElem_toArray, List.getElem_cons_zero, List.getElem_cons_succ, Act.put, List.setIfInBounds_toArray, List.set_cons_zero, List.set_cons_succ]
      refine wpAnyH_take (i := 6) (v := ?_) rfl (by kernel_rfl) (by kernel_rfl) (by kernel_rfl) (fun _ _ _ h => h) (Or.inl ⟨by rfl, ?_⟩) hHeld ?_
      rotate_left
      · intro w hSw
        (try dsimp only at hSw)
        (try simp only [List.getElem_toArray, List.getElem_cons_zero, List.getElem_cons_succ])
        go_simp
        all_goals with_reducible rfl
      try simp only [List.getElem_toArray, List.getElem_cons_zero, List.getElem_cons_succ, Act.put, List.setIfInBounds_toArray, List.set_cons_zero, List.set_cons_succ]
      refine wpAnyH_take (i := 7) (v := ?_) rfl (by kernel_rfl) (by kernel_rfl) (by kernel_rfl) (fun _ _ _ h => h) (Or.inl ⟨by rfl, ?_⟩) hHeld ?_
      rotate_left
      · intro w hSw
        (try dsimp only at hSw)
        (try simp only [List.getElem_toArray, List.getElem_cons_zero, List.getElem_cons_succ])
        go_simp
        all_goals with_reducible rfl
      try simp only [List.getElem_toArray, List.getElem_cons_zero, List.getElem_cons_succ, Act.put, List.setIfInBounds_toArray, List.set_cons_zero, List.set_cons_succ]
      refine wpAnyH_take (i := 8) (v := ?_) rfl (by kernel_rfl) (by kernel_rfl) (by kernel_rfl) (fun _ _ _ h => h) (Or.inl ⟨by rfl, ?_⟩) hHeld ?_
      rotate_left
      · intro w hSw
        (try dsimp only at hSw)
        (try simp only [List.getElem_toArray, List.getElem_cons_zero, List.getElem_cons_succ])
        go_simp
        all_goals with_reducible rfl
      try simp only [List.getElem_toArray, List.getElem_cons_zero, List.getElem_cons_succ, Act.put, List.setIfInBounds_toArray, List.set_cons_zero, List.set_cons_succ]
      refine wpAnyH_take (i := 9) (v := ?_) rfl (by kernel_rfl) (by kernel_rfl) (by kernel_rfl) (fun _ _ _ h => h) (Or.inl ⟨by rfl, ?_⟩) hHeld ?_
      rotate_left
      · intro w hSw
        (try dsimp only at hSw)
        (try simp only [List.getElem_toArray, List.getElem_cons_zero, List.getElem_cons_succ])
        go_simp
        all_goals with_reducible rfl
      try simp only [List.getElem_toArray, List.getElem_cons_zero, List.getElem_cons_succ, Act.put, List.setIfInBounds_toArray, List.set_cons_zero, List.set_cons_succ]
      refine wpAnyH_take (i := 10) (v := ?_) rfl (by kernel_rfl) (by kernel_rfl) (by kernel_rfl) (fun _ _ _ h => h) (Or.inl ⟨by rfl, ?_⟩) hHeld ?_
      rotate_left
      · intro w hSw
        (try dsimp only at hSw)
        (try simp only [List.getElem_toArray, List.getElem_cons_zero, List.getElem_cons_succ])
        go_simp
        all_goals with_reducible rfl
      try simp only [List.getElem_toArray, List.getElem_cons_zero, List.getElem_cons_succ, Act.put, List.setIfInBounds_toArray, List.set_cons_zero, List.set_cons_succ]
      refine wpAnyH_take (i := 11) (v := ?_) rfl (by kernel_rfl) (by kernel_rfl) (by kernel_rfl) (fun _ _ _ h => h) (Or.inl ⟨by rfl, ?_⟩) hHeld ?_
      rotate_left
      · intro w hSw
        (try dsimp only at hSw)
        (try simp only [List.getElem_toArray, List.getElem_cons_zero, List.getElem_cons_succ])
        go_simp
        all_goals with_reducible rfl
      try simp only [List.getElem_toArray, List.getElem_cons_zero, List.getElem_cons_succ, Act.put, List.setIfInBounds_toArray, List.set_cons_zero, List.set_cons_succ]
      refine wpAnyH_take (i := 12) (v := ?_) rfl (by kernel_rfl) (by kernel_rfl) (by kernel_rfl) (fun _ _ _ h => h) (Or.inl ⟨by rfl, ?_⟩) hHeld ?_
      rotate_left
      · intro w hSw
        (try dsimp only at hSw)
        (try simp only [List.getElem_toArray, List.getElem_cons_zero, List.getElem_cons_succ])
        go_simp
        all_goals with_reducible rfl
      try simp only [List.getElem_toArray, List.getElem_cons_zero, List.getElem_cons_succ, Act.put, List.setIfInBounds_toArray, List.set_cons_zero, List.set_cons_succ]
      refine wpAnyH_take (i := 13) (v := ?_) rfl (by kernel_rfl) (by kernel_rfl) (by kernel_rfl) (fun _ _ _ h => h) (Or.inl ⟨by rfl, ?_⟩) hHeld ?_
      rotate_left
      · intro w hSw
        (try dsimp only at hSw)
        (try simp only [List.getElem_toArray, List.getElem_cons_zero, List.getElem_cons_succ])
        go_simp
        all_goals with_reducible rfl
      try simp only [List.getElem_toArray, List.getElem_cons_zero, List.getElem_cons_succ, Act.put, List.setIfInBounds_toArray, List.set_cons_zero, List.set_cons_succ]
      refine wpAnyH_take (i := 14) (v := ?_) rfl (by kernel_rfl) (by kernel_rfl) (by kernel_rfl) (fun _ _ _ h => h) (Or.inl ⟨by rfl, ?_⟩) hHeld ?_
      rotate_left
      · intro w hSw
        (try dsimp only at hSw)
        (try simp only [List.getElem_toArray, List.getElem_cons_zero, List.getElem_cons_succ])
        go_simp
        all_goals with_reducible rfl
      try simp only [List.getElem_toArray, List.getElem_cons_zero, List.getElem_cons_succ, Act.put, List.setIfInBounds_toArray, List.set_cons_zero, List.set_cons_succ]
      refine wpAnyH_take (i := 15) (v := ?_) rfl (by kernel_rfl) (by kernel_rfl) (by kernel_rfl) (fun _ _ _ h => h) (Or.inl ⟨by rfl, ?_⟩) hHeld ?_
      rotate_left
      · intro w hSw
        (try dsimp only at hSw)
        (try simp only [List.getElem_toArray, List.getElem_cons_zero, List.getElem_cons_succ])
        go_simp
        all_goals with_reducible rfl
      try simp only [List.getElem_toArray, List.getElem_cons_zero, List.getElem_cons_succ, Act.put, List.setIfInBounds_toArray, List.set_cons_zero, List.set_cons_succ]
      refine wpAnyH_take (i := 16) (v := ?_) rfl (by kernel_rfl) (by kernel_rfl) (by kernel_rfl) (fun _ _ _ h => h) (Or.inl ⟨by rfl, ?_⟩) hHeld ?_
      rotate_left
      · intro w hSw
        (try dsimp only at hSw)
        (try simp only [List.getElem_toArray, List.getElem_cons_zero, List.getElem_cons_succ])
        go_simp
        all_goals with_reducible rfl
      try simp only [List.getElem_toArray, List.getElem_cons_zero, List.getElem_cons_succ, Act.put, List.setIfInBounds_toArray, List.set_cons_zero, List.set_cons_succ]
      refine wpAnyH_take (i := 17) (v := ?_) rfl (by kernel_rfl) (by kernel_rfl) (by kernel_rfl) (fun _ _ _ h => h) (Or.inl ⟨by rfl, ?_⟩) hHeld ?_
      rotate_left
      · intro w hSw
        (try dsimp only at hSw)
        (try simp only [List.getElem_toArray, List.getElem_cons_zero, List.getElem_cons_succ])
        go_simp
        all_goals with_reducible rfl
      try simp only [List.getElem_toArray, List.getElem_cons_zero, List.getElem_cons_succ, Act.put, List.setIfInBounds_toArray, List.set_cons_zero, List.set_cons_succ]
      refine wpAnyH_take (i := 19) (v := ?_) rfl (by kernel_rfl) (by kernel_rfl) (by kernel_rfl) (fun _ _ _ h => h) (Or.inl ⟨by rfl, ?_⟩) hHeld ?_
      rotate_left
      · intro w hSw
        (try dsimp only at hSw)
        (try simp only [List.getElem_toArray, List.getElem_cons_zero, List.getElem_cons_succ])
        go_simp
        all_goals with_reducible rfl
      try simp only [List.getElem_toArray, List.getElem_cons_zero, List.getElem_cons_succ, Act.put, List.setIfInBounds_toArray, List.set_cons_zero, List.set_cons_succ]
      refine wpAnyH_take (i := 20) (v := ?_) rfl (by kernel_rfl) (by kernel_rfl) (by kernel_rfl) (fun _ _ _ h => h) (Or.inl ⟨by rfl, ?_⟩) hHeld ?_
      rotate_left
      · intro w hSw
        (try dsimp only at hSw)
        (try simp only [List.getElem_toArray, List.getElem_cons_zero, List.getElem_cons_succ])
        go_simp
        all_goals with_reducible rfl
      try simp only [List.getElem_toArray, List.getElem_cons_zero, List.getElem_cons_succ, Act.put, List.setIfInBounds_toArray, List.set_cons_zero, List.set_cons_succ]
      refine wpAnyH_ready (rs := [18]) (by kernel_rfl) (by simp) ?_
      refine AllReadyH.cons rfl (fun K hK => ?_) AllReadyH.nil
      try simp only [List.getElem_toArray, List.getElem_cons_zero, List.getElem_cons_succ]
      go_simp
      refine (HIB.out _).mono ?_
      rintro e wn ⟨rfl, hbn⟩
      have AB := AB.trans (hbn.mono (AB.size))
      replace HXB := Lib.hid (HXB.out.keep hbn)
      replace HYB := Lib.hid (HYB.out.keep hbn)
      clear hbn
      go_wp2_with fail
      refine hK.out _ _ (⟨HXB.out.cell 0 rfl, HXB.out.cell 1 rfl, HXB.out.cell 2 rfl, HXB.out.cell 3 rfl, HYB.out.cell 0 rfl, HYB.out.cell 1 rfl, HYB.out.cell 2 rfl, HYB.out.cell 3 rfl⟩) (fun hHeld => ?_)
      clear hK K
      try simp only [List.getElem_toArray, List.getElem_cons_zero, List.getElem_cons_succ, Act.put, List.setIfInBounds_toArray, List.set_cons_zero, List.set_cons_succ]
      refine wpAnyH_ready (rs := [21]) (by kernel_rfl) (by simp) ?_
      refine AllReadyH.cons rfl (fun K hK => ?_) AllReadyH.nil
      try simp only [List.getElem_toArray, List.getElem_cons_zero, List.getElem_cons_succ]
      go_simp
      refine (HL.out _).mono ?_
      rintro e wn ⟨rfl, hbn⟩
      have AB := AB.trans (hbn.mono (AB.size))
      replace HXB := Lib.hid (HXB.out.keep hbn)
      replace HYB := Lib.hid (HYB.out.keep hbn)
      clear hbn
      go_wp2_with fail
      refine hK.out _ _ (⟨HXB.out.cell 0 rfl, HXB.out.cell 1 rfl, HXB.out.cell 2 rfl, HXB.out.cell 3 rfl, HYB.out.cell 0 rfl, HYB.out.cell 1 rfl, HYB.out.cell 2 rfl, HYB.out.cell 3 rfl⟩) (fun hHeld => ?_)
      clear hK K
      try simp only [List.getElem_toArray, List.getElem_cons_zero, List.getElem_cons_succ, Act.put, List.setIfInBounds_toArray, List.set_cons_zero, List.set_cons_succ]
      refine wpAnyH_take (i := 22) (v := ?_) rfl (by kernel_rfl) (by kernel_rfl) (by kernel_rfl) (fun _ _ _ h => h) (Or.inl ⟨by rfl, ?_⟩) hHeld ?_
      rotate_left
      · intro w hSw
        (try dsimp only at hSw)
        (try simp only [List.getElem_toArray, List.getElem_cons_zero, List.getElem_cons_succ])
        go_simp
        all_goals with_reducible rfl
      try simp only [List.getElem_toArray, List.getElem_cons_zero, List.getElem_cons_succ, Act.put, List.setIfInBounds_toArray, List.set_cons_zero, List.set_cons_succ]
      refine wpAnyH_take (i := 23) (v := ?_) rfl (by kernel_rfl) (by kernel_rfl) (by kernel_rfl) (fun _ _ _ h => h) (Or.inl ⟨by rfl, ?_⟩) hHeld ?_
      rotate_left
      · intro w hSw
        (try dsimp only at hSw)
        (try simp only [List.getElem_toArray, List.getElem_cons_zero, List.getElem_cons_succ])
        go_simp
        all_goals with_reducible rfl
      try simp only [List.getElem_toArray, List.getElem_cons_zero, List.getElem_cons_succ, Act.put, List.setIfInBounds_toArray, List.set_cons_zero, List.set_cons_succ]
      refine wpAnyH_take (i := 24) (v := ?_) rfl (by kernel_rfl) (by kernel_rfl) (by kernel_rfl) (fun _ _ _ h => h) (Or.inl ⟨by rfl, ?_⟩) hHeld ?_
      rotate_left
      · intro w hSw
        (try dsimp only at hSw)
        (try simp only [List.getElem_toArray, List.getElem_cons_zero, List.getElem_cons_succ])
        go_simp
        all_goals with_reducible rfl
      try simp only [List.getElem_toArray, List.getElem_cons_zero, List.getElem_cons_succ, Act.put, List.setIfInBounds_toArray, List.set_cons_zero, List.set_cons_succ]
      refine wpAnyH_done (by kernel_rfl) ?_ _
      go_wp2_with fail
      go_ret
      exact ⟨rfl, AB⟩
    · have hd : Below wc.heap.size wc wc.drew := (Below.refl _ wc).drew
      have AB := HB2.out.drew
      replace HXB := Lib.hid (HXB.out.keep hd)
      replace HYB := Lib.hid (HYB.out.keep hd)
      clear hd HB2
      refine wp_region_held_drew (S := fun wx => wx.cell? ⟨gx, 0, none⟩ = some (.int .i64 X.a.x) ∧ wx.cell? ⟨gx, 1, none⟩ = some (.int .i64 X.a.y) ∧ wx.cell? ⟨gx, 2, none⟩ = some (.int .i64 X.b.x) ∧ wx.cell? ⟨gx, 3, none⟩ = some (.int .i64 X.b.y) ∧ wx.cell? ⟨gy, 0, none⟩ = some (.int .i64 Y.a.x) ∧ wx.cell? ⟨gy, 1, none⟩ = some (.int .i64 Y.a.y) ∧ wx.cell? ⟨gy, 2, none⟩ = some (.int .i64 Y.b.x) ∧ wx.cell? ⟨gy, 3, none⟩ = some (.int .i64 Y.b.y)) (by kernel_rfl) (⟨HXB.out.cell 0 rfl, HXB.out.cell 1 rfl, HXB.out.cell 2 rfl, HXB.out.cell 3 rfl, HYB.out.cell 0 rfl, HYB.out.cell 1 rfl, HYB.out.cell 2 rfl, HYB.out.cell 3 rfl⟩) (fun hHeld => ?_)
      refine wpAnyH_take (i := 0) (v := ?_) rfl (by kernel_rfl) (by kernel_rfl) (by kernel_rfl) (fun _ _ _ h => h) (Or.inl ⟨by rfl, ?_⟩) hHeld ?_
      rotate_left
      · intro w hSw
        (try dsimp only at hSw)
        (try simp only [List.getElem_toArray, List.getElem_cons_zero])
        go_simp
        all_goals with_reducible rfl
      try simp only [List.getElem_toArray, List.getElem_cons_zero, Act.put, List.setIfInBounds_toArray, List.set_cons_zero, List.set_cons_succ]
      refine wpAnyH_take (i := 1) (v := ?_) rfl (by kernel_rfl) (by kernel_rfl) (by kernel_rfl) (fun _ _ _ h => h) (Or.inl ⟨by rfl, ?_⟩) hHeld ?_
      rotate_left
      · intro w hSw
        (try dsimp only at hSw)
        (try simp only [List.getElem_toArray, List.getElem_cons_zero, List.getElem_cons_succ])
        go_simp
        all_goals with_reducible rfl
      try simp only [List.getElem_toArray, List.getElem_cons_zero, List.getElem_cons_succ, Act.put, List.setIfInBounds_toArray, List.set_cons_zero, List.set_cons_succ]
      refine wpAnyH_take (i := 3) (v := ?_) rfl (by kernel_rfl) (by kernel_rfl) (by kernel_rfl) (fun _ _ _ h => h) (Or.inl ⟨by rfl, ?_⟩) hHeld ?_
      rotate_left
      · intro w hSw
        (try dsimp only at hSw)
        (try simp only [List.getElem_toArray, List.getElem_cons_zero, List.getElem_cons_succ])
        go_simp
        all_goals with_reducible rfl
      try simp only [List.getElem_toArray, List.getElem_cons_zero, List.getElem_cons_succ, Act.put, List.setIfInBounds_toArray, List.set_cons_zero, List.set_cons_succ]
      refine wpAnyH_take (i := 4) (v := ?_) rfl (by kernel_rfl) (by kernel_rfl) (by kernel_rfl) (fun _ _ _ h => h) (Or.inl ⟨by rfl, ?_⟩) hHeld ?_
      rotate_left
      · intro w hSw
        (try dsimp only at hSw)
        (try simp only [List.getElem_toArray, List.getElem_cons_zero, List.getElem_cons_succ])
        go_simp
        all_goals with_reducible rfl
      try simp only [List.getElem_toArray, List.getElem_cons_zero, List.getElem_cons_succ, Act.put, List.setIfInBounds_toArray, List.set_cons_zero, List.set_cons_succ]
      refine wpAnyH_ready (rs := [2]) (by kernel_rfl) (by simp) ?_
      refine AllReadyH.cons rfl (fun K hK => ?_) AllReadyH.nil
      try simp only [List.getElem_toArray, List.getElem_cons_zero, List.getElem_cons_succ]
      go_simp
      refine (HI.out _).mono ?_
      rintro e wn ⟨rfl, hbn⟩
      have AB := AB.trans (hbn.mono (AB.size))
      replace HXB := Lib.hid (HXB.out.keep hbn)
      replace HYB := Lib.hid (HYB.out.keep hbn)
      clear hbn
      go_wp2_with fail
      refine hK.out _ _ (⟨HXB.out.cell 0 rfl, HXB.out.cell 1 rfl, HXB.out.cell 2 rfl, HXB.out.cell 3 rfl, HYB.out.cell 0 rfl, HYB.out.cell 1 rfl, HYB.out.cell 2 rfl, HYB.out.cell 3 rfl⟩) (fun hHeld => ?_)
      clear hK K
      try simp only [List.getElem_toArray, List.getElem_cons_zero, List.getElem_cons_succ, Act.put, List.setIfInBounds_toArray, List.set_cons_zero, List.set_cons_succ]
      refine wpAnyH_ready (rs := [5]) (by kernel_rfl) (by simp) ?_
      refine AllReadyH.cons rfl (fun K hK => ?_) AllReadyH.nil
      try simp only [List.getElem_toArray, List.getElem_cons_zero, List.getElem_cons_succ]
      go_simp
      refine (HL.out _).mono ?_
      rintro e wn ⟨rfl, hbn⟩
      have AB := AB.trans (hbn.mono (AB.size))
      replace HXB := Lib.hid (HXB.out.keep hbn)
      replace HYB := Lib.hid (HYB.out.keep hbn)
      clear hbn
      go_wp2_with fail
      refine hK.out _ _ (⟨HXB.out.cell 0 rfl, HXB.out.cell 1 rfl, HXB.out.cell 2 rfl, HXB.out.cell 3 rfl, HYB.out.cell 0 rfl, HYB.out.cell 1 rfl, HYB.out.cell 2 rfl, HYB.out.cell 3 rfl⟩) (fun hHeld => ?_)
      clear hK K
      try simp only [List.getElem_toArray, List.getElem_cons_zero, List.getElem_cons_succ, Act.put, List.setIfInBounds_toArray, List.set_cons_zero, List.set_cons_succ]
      refine wpAnyH_take (i := 6) (v := ?_) rfl (by kernel_rfl) (by kernel_rfl) (by kernel_rfl) (fun _ _ _ h => h) (Or.inl ⟨by rfl, ?_⟩) hHeld ?_
      rotate_left
      · intro w hSw
        (try dsimp only at hSw)
        (try simp only [List.getElem_toArray, List.getElem_cons_zero, List.getElem_cons_succ])
        go_simp
        all_goals with_reducible rfl
      try simp only [List.getElem_toArray, List.getElem_cons_zero, List.getElem_cons_succ, Act.put, List.setIfInBounds_toArray, List.set_cons_zero, List.set_cons_succ]
      refine wpAnyH_take (i := 7) (v := ?_) rfl (by kernel_rfl) (by kernel_rfl) (by kernel_rfl) (fun _ _ _ h => h) (Or.inl ⟨by rfl, ?_⟩) hHeld ?_
      rotate_left
      · intro w hSw
        (try dsimp only at hSw)
        (try simp only [List.getElem_toArray, List.getElem_cons_zero, List.getElem_cons_succ])
        go_simp
        all_goals with_reducible rfl
      try simp only [List.getElem_toArray, List.getElem_cons_zero, List.getElem_cons_succ, Act.put, List.setIfInBounds_toArray, List.set_cons_zero, List.set_cons_succ]
      refine wpAnyH_take (i := 8) (v := ?_) rfl (by kernel_rfl) (by kernel_rfl) (by kernel_rfl) (fun _ _ _ h => h) (Or.inl ⟨by rfl, ?_⟩) hHeld ?_
      rotate_left
      · intro w hSw
        (try dsimp only at hSw)
        (try simp only [List.getElem_toArray, List.getElem_cons_zero, List.getElem_cons_succ])
        go_simp
        all_goals with_reducible rfl
      try simp only [List.getElem_toArray, List.getElem_cons_zero, List.getElem_cons_succ, Act.put, List.setIfInBounds_toArray, List.set_cons_zero, List.set_cons_succ]
      refine wpAnyH_take (i := 9) (v := ?_) rfl (by kernel_rfl) (by kernel_rfl) (by kernel_rfl) (fun _ _ _ h => h) (Or.inl ⟨by rfl, ?_⟩) hHeld ?_
      rotate_left
      · intro w hSw
        (try dsimp only at hSw)
        (try simp only [List.getElem_toArray, List.getElem_cons_zero, List.getElem_cons_succ])
        go_simp
        all_goals with_reducible rfl
      try simp only [List.getElem_toArray, List.getElem_cons_zero, List.getElem_cons_succ, Act.put, List.setIfInBounds_toArray, List.set_cons_zero, List.set_cons_succ]
      refine wpAnyH_take (i := 10) (v := ?_) rfl (by kernel_rfl) (by kernel_rfl) (by kernel_rfl) (fun _ _ _ h => h) (Or.inl ⟨by rfl, ?_⟩) hHeld ?_
      rotate_left
      · intro w hSw
        (try dsimp only at hSw)
        (try simp only [List.getElem_toArray, List.getElem_cons_zero, List.getElem_cons_succ])
        go_simp
        all_goals with_reducible rfl
      try simp only [List.getElem_toArray, List.getElem_cons_zero, List.getElem_cons_succ, Act.put, List.setIfInBounds_toArray, List.set_cons_zero, List.set_cons_succ]
      refine wpAnyH_take (i := 11) (v := ?_) rfl (by kernel_rfl) (by kernel_rfl) (by kernel_rfl) (fun _ _ _ h => h) (Or.inl ⟨by rfl, ?_⟩) hHeld ?_
      rotate_left
      · intro w hSw
        (try dsimp only at hSw)
        (try simp only [List.getElem_toArray, List.getElem_cons_zero, List.getElem_cons_succ])
        go_simp
        all_goals with_reducible rfl
      try simp only [List.getElem_toArray, List.getElem_cons_zero, List.getElem_cons_succ, Act.put, List.setIfInBounds_toArray, List.set_cons_zero, List.set_cons_succ]
      refine wpAnyH_take (i := 12) (v := ?_) rfl (by kernel_rfl) (by kernel_rfl) (by kernel_rfl) (fun _ _ _ h => h) (Or.inl ⟨by rfl, ?_⟩) hHeld ?_
      rotate_left
      · intro w hSw
        (try dsimp only at hSw)
        (try simp only [List.getElem_toArray, List.getElem_cons_zero, List.getElem_cons_succ])
        go_simp
        all_goals with_reducible rfl
      try simp only [List.getElem_toArray, List.getElem_cons_zero, List.getElem_cons_succ, Act.put, List.setIfInBounds_toArray, List.set_cons_zero, List.set_cons_succ]
      refine wpAnyH_take (i := 13) (v := ?_) rfl (by kernel_rfl) (by kernel_rfl) (by kernel_rfl) (fun _ _ _ h => h) (Or.inl ⟨by rfl, ?_⟩) hHeld ?_
      rotate_left
      · intro w hSw
        (try dsimp only at hSw)
        (try simp only [List.getElem_toArray, List.getElem_cons_zero, List.getElem_cons_succ])
        go_simp
        all_goals with_reducible rfl
      try simp only [List.getElem_toArray, List.getElem_cons_zero, List.getElem_cons_succ, Act.put, List.setIfInBounds_toArray, List.set_cons_zero, List.set_cons_succ]
      refine wpAnyH_take (i := 14) (v := ?_) rfl (by kernel_rfl) (by kernel_rfl) (by kernel_rfl) (fun _ _ _ h => h) (Or.inl ⟨by rfl, ?_⟩) hHeld ?_
      rotate_left
      · intro w hSw
        (try dsimp only at hSw)
        (try simp only [List.getElem_toArray, List.getElem_cons_zero, List.getElem_cons_succ])
        go_simp
        all_goals with_reducible rfl
      try simp only [List.getElem_toArray, List.getElem_cons_zero, List.getElem_cons_succ, Act.put, List.setIfInBounds_toArray, List.set_cons_zero, List.set_cons_succ]
      refine wpAnyH_take (i := 15) (v := ?_) rfl (by kernel_rfl) (by kernel_rfl) (by kernel_rfl) (fun _ _ _ h => h) (Or.inl ⟨by rfl, ?_⟩) hHeld ?_
      rotate_left
      · intro w hSw
        (try dsimp only at hSw)
        (try simp only [List.getElem_toArray, List.getElem_cons_zero, List.getElem_cons_succ])
        go_simp
        all_goals with_reducible rfl
      try simp only [List.getElem_toArray, List.getElem_cons_zero, List.getElem_cons_succ, Act.put, List.setIfInBounds_toArray, List.set_cons_zero, List.set_cons_succ]
      refine wpAnyH_take (i := 16) (v := ?_) rfl (by kernel_rfl) (by kernel_rfl) (by kernel_rfl) (fun _ _ _ h => h) (Or.inl ⟨by rfl, ?_⟩) hHeld ?_
      rotate_left
      · intro w hSw
        (try dsimp only at hSw)
        (try simp only [List.getElem_toArray, List.getElem_cons_zero, List.getElem_cons_succ])
        go_simp
        all_goals with_reducible rfl
      try simp only [List.getElem_toArray, List.getElem_cons_zero, List.getElem_cons_succ, Act.put, List.setIfInBounds_toArray, List.set_cons_zero, List.set_cons_succ]
      refine wpAnyH_take (i := 17) (v := ?_) rfl (by kernel_rfl) (by kernel_rfl) (by kernel_rfl) (fun _ _ _ h => h) (Or.inl ⟨by rfl, ?_⟩) hHeld ?_
      rotate_left
      · intro w hSw
        (try dsimp only at hSw)
        (try simp only [List.getElem_toArray, List.getElem_cons_zero, List.getElem_cons_succ])
        go_simp
        all_goals with_reducible rfl
      try simp only [List.getElem_toArray, List.getElem_cons_zero, List.getElem_cons_succ, Act.put, List.setIfInBounds_toArray, List.set_cons_zero, List.set_cons_succ]
      refine wpAnyH_take (i := 19) (v := ?_) rfl (by kernel_rfl) (by kernel_rfl) (by kernel_rfl) (fun _ _ _ h => h) (Or.inl ⟨by rfl, ?_⟩) hHeld ?_
      rotate_left
      · intro w hSw
        (try dsimp only at hSw)
        (try simp only [List.getElem_toArray, List.getElem_cons_zero, List.getElem_cons_succ])
        go_simp
        all_goals with_reducible rfl
      try simp only [List.getElem_toArray, List.getElem_cons_zero, List.getElem_cons_succ, Act.put, List.setIfInBounds_toArray, List.set_cons_zero, List.set_cons_succ]
      refine wpAnyH_take (i := 20) (v := ?_) rfl (by kernel_rfl) (by kernel_rfl) (by kernel_rfl) (fun _ _ _ h => h) (Or.inl ⟨by rfl, ?_⟩) hHeld ?_
      rotate_left
      · intro w hSw
        (try dsimp only at hSw)
        (try simp only [List.getElem_toArray, List.getElem_cons_zero, List.getElem_cons_succ])
        go_simp
        all_goals with_reducible rfl
      try simp only [List.getElem_toArray, List.getElem_cons_zero, List.getElem_cons_succ, Act.put, List.setIfInBounds_toArray, List.set_cons_zero, List.set_cons_succ]
      refine wpAnyH_ready (rs := [18]) (by kernel_rfl) (by simp) ?_
      refine AllReadyH.cons rfl (fun K hK => ?_) AllReadyH.nil
      try simp only [List.getElem_toArray, List.getElem_cons_zero, List.getElem_cons_succ]
      go_simp
      refine (HIB.out _).mono ?_
      rintro e wn ⟨rfl, hbn⟩
      have AB := AB.trans (hbn.mono (AB.size))
      replace HXB := Lib.hid (HXB.out.keep hbn)
      replace HYB := Lib.hid (HYB.out.keep hbn)
      clear hbn
      go_wp2_with fail
      refine hK.out _ _ (⟨HXB.out.cell 0 rfl, HXB.out.cell 1 rfl, HXB.out.cell 2 rfl, HXB.out.cell 3 rfl, HYB.out.cell 0 rfl, HYB.out.cell 1 rfl, HYB.out.cell 2 rfl, HYB.out.cell 3 rfl⟩) (fun hHeld => ?_)
      clear hK K
      try simp only [List.getElem_toArray, List.getElem_cons_zero, List.getElem_cons_succ, Act.put, List.setIfInBounds_toArray, List.set_cons_zero, List.set_cons_succ]
      refine wpAnyH_ready (rs := [21]) (by kernel_rfl) (by simp) ?_
      refine AllReadyH.cons rfl (fun K hK => ?_) AllReadyH.nil
      try simp only [List.getElem_toArray, List.getElem_cons_zero, List.getElem_cons_succ]
      go_simp
      refine (HL.out _).mono ?_
      rintro e wn ⟨rfl, hbn⟩
      have AB := AB.trans (hbn.mono (AB.size))
      replace HXB := Lib.hid (HXB.out.keep hbn)
      replace HYB := Lib.hid (HYB.out.keep hbn)
      clear hbn
      go_wp2_with fail
      refine hK.out _ _ (⟨HXB.out.cell 0 rfl, HXB.out.cell 1 rfl, HXB.out.cell 2 rfl, HXB.out.cell 3 rfl, HYB.out.cell 0 rfl, HYB.out.cell 1 rfl, HYB.out.cell 2 rfl, HYB.out.cell 3 rfl⟩) (fun hHeld => ?_)
      clear hK K
      try simp only [List.getElem_toArray, List.getElem_cons_zero, List.getElem_cons_succ, Act.put, List.setIfInBounds_toArray, List.set_cons_zero, List.set_cons_succ]
      refine wpAnyH_take (i := 22) (v := ?_) rfl (by kernel_rfl) (by kernel_rfl) (by kernel_rfl) (fun _ _ _ h => h) (Or.inl ⟨by rfl, ?_⟩) hHeld ?_
      rotate_left
      · intro w hSw
        (try dsimp only at hSw)
        (try simp only [List.getElem_toArray, List.getElem_cons_zero, List.getElem_cons_succ])
        go_simp
        all_goals with_reducible rfl
      try simp only [List.getElem_toArray, List.getElem_cons_zero, List.getElem_cons_succ, Act.put, List.setIfInBounds_toArray, List.set_cons_zero, List.set_cons_succ]
      refine wpAnyH_take (i := 23) (v := ?_) rfl (by kernel_rfl) (by kernel_rfl) (by kernel_rfl) (fun _ _ _ h => h) (Or.inl ⟨by rfl, ?_⟩) hHeld ?_
      rotate_left
      · intro w hSw
        (try dsimp only at hSw)
        (try simp only [List.getElem_toArray, List.getElem_cons_zero, List.getElem_cons_succ])
        go_simp
        all_goals with_reducible rfl
      try simp only [List.getElem_toArray, List.getElem_cons_zero, List.getElem_cons_succ, Act.put, List.setIfInBounds_toArray, List.set_cons_zero, List.set_cons_succ]
      refine wpAnyH_take (i := 24) (v := ?_) rfl (by kernel_rfl) (by kernel_rfl) (by kernel_rfl) (fun _ _ _ h => h) (Or.inl ⟨by rfl, ?_⟩) hHeld ?_
      rotate_left
      · intro w hSw
        (try dsimp only at hSw)
        (try simp only [List.getElem_toArray, List.getElem_cons_zero, List.getElem_cons_succ])
        go_simp
        all_goals with_reducible rfl
      try simp only [List.getElem_toArray, List.getElem_cons_zero, List.getElem_cons_succ, Act.put, List.setIfInBounds_toArray, List.set_cons_zero, List.set_cons_succ]
      refine wpAnyH_done (by kernel_rfl) ?_ _
      go_wp2_with fail
      go_ret
      exact ⟨rfl, AB⟩

end Go.Proofs.Ytbnjajhhbcnepaa
