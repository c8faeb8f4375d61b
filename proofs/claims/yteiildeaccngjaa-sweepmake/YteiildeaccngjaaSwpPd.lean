/-
  What the program's Known does in layer 13: contracts (no claim is made here).
-/
import Derived.Test.YteiildeaccngjaaSwpPc
import Derived.Test.YteiildeaccngjaaSwp2
namespace Go.Proofs.Yteiildeaccngjaa
open Go.RowKit

theorem finfo13 : (Try.prog.info? 47).map (fun i => (i.zero, i.size, i.bytes)) = some (some (.agg #[.int .i64 0, .int .i64 0]), 2, 16) := by kernel_rfl
theorem mkI {n : Nat} {w W : World} (AB : Below n w W) (hn : n ≤ w.heap.size) {M : Nat} (hM : M ≤ 24 * 24) : ∃ g wm, W.heap.size = g ∧ n ≤ g ∧ (Instr.makeSlice 31 (.int .i64 (M : Int)) (.int .i64 (M : Int))).run Try.prog W = .ok (.slice (some ⟨g, 0, none⟩) M M) wm ∧ NRw wm g M (ivals (List.replicate M 0)) ∧ Below n w wm ∧ Below W.heap.size W wm := by
  obtain ⟨i0, hi0, hz0, hz1, hz2⟩ := infos ninfo
  obtain ⟨wm, hr, hown, hg⟩ := run_make_full (P := Try.prog) W W.heap.size 31 3 i0 _ 1 Try.underlying31 hi0 hz0 hz1 .i64 .i64 M (by rw [hz2]; omega) (by unfold maxLen; omega) (Nat.le_refl _)
  refine ⟨_, wm, rfl, Nat.le_trans hn AB.size, hr, ?_, AB.grown hg (Nat.le_trans hn AB.size) (fun q hq => by cases hq), (Below.refl _ W).grown hg (Nat.le_refl _) (fun q hq => by cases hq)⟩
  rw [show (Value.int IntKind.i64 0).cells = #[.int .i64 0] from rfl, Nat.mul_one, toList_madeCells_one] at hown
  rw [show ivals (List.replicate M 0) = List.replicate M (.int .i64 0) by simp [ivals]]; exact ⟨by simp, hown⟩
theorem kn_neg (M n : Nat) : knS (List.replicate M (-1)) n < 0 := by
  unfold knS
  rw [List.getD_eq_getElem?_getD, List.getElem?_replicate]
  split <;> decide
theorem mkQ {n : Nat} {w W : World} (AB : Below n w W) (hn : n ≤ w.heap.size) {M : Nat} (hM : M ≤ 24 * 24) (es : List Ed) (P : Nat → Pt) : ∃ g wm, W.heap.size = g ∧ n ≤ g ∧ (Instr.makeSlice 70 (.int .i64 (M : Int)) (.int .i64 (M : Int))).run Try.prog W = .ok (.slice (some ⟨g, 0, none⟩) M M) wm ∧ SQw wm g M es P (List.replicate M (-1)) ∧ Below n w wm ∧ Below W.heap.size W wm := by
  obtain ⟨i0, hi0, hz0, hz1, hz2⟩ := infos finfo13
  obtain ⟨wm, hr, hown, hg⟩ := run_make_full (P := Try.prog) W W.heap.size 70 47 i0 _ 2 Try.underlying70 hi0 hz0 hz1 .i64 .i64 M (by rw [hz2]; omega) (by unfold maxLen; omega) (Nat.le_refl _)
  exact ⟨_, wm, rfl, Nat.le_trans hn AB.size, hr, SQw.new es P hown (kn_neg M), AB.grown hg (Nat.le_trans hn AB.size) (fun q hq => by cases hq), (Below.refl _ W).grown hg (Nat.le_refl _) (fun q hq => by cases hq)⟩
/-- Nine cells of a block. -/
def set9 (w : World) (g : Nat) (a b c d e f h i j : Value) : World := ((((((((w.setCell ⟨g, 0, none⟩ a).setCell ⟨g, 1, none⟩ b).setCell ⟨g, 2, none⟩ c).setCell ⟨g, 3, none⟩ d).setCell ⟨g, 4, none⟩ e).setCell ⟨g, 5, none⟩ f).setCell ⟨g, 6, none⟩ h).setCell ⟨g, 7, none⟩ i).setCell ⟨g, 8, none⟩ j
theorem put9 {w : World} {g : Nat} {t : TypeId} {a b c d e f h i j a' b' c' d' e' f' h' i' j' : Value} (H : Blk w g t [a', b', c', d', e', f', h', i', j']) : Blk (set9 w g a b c d e f h i j) g t [a, b, c, d, e, f, h, i, j] := ((((((((H.set 0 a).set 1 b).set 2 c).set 3 d).set 4 e).set 5 f).set 6 h).set 7 i).set 8 j
theorem heap9 (w : World) (g : Nat) (a b c d e f h i j : Value) {k : Nat} (hk : k ≠ g) : (set9 w g a b c d e f h i j).heap[k]? = w.heap[k]? := by
  unfold set9
  rw [heap_set _ ⟨g, 8, none⟩ _ k hk, heap_set _ ⟨g, 7, none⟩ _ k hk, heap_set _ ⟨g, 6, none⟩ _ k hk, heap_set _ ⟨g, 5, none⟩ _ k hk, heap_set _ ⟨g, 4, none⟩ _ k hk, heap_set _ ⟨g, 3, none⟩ _ k hk, heap_set _ ⟨g, 2, none⟩ _ k hk, heap_set _ ⟨g, 1, none⟩ _ k hk, heap_set _ ⟨g, 0, none⟩ _ k hk]
theorem below9 {w W : World} {n g : Nat} {a b c d e f h i j : Value} (H : Below n w W) (hg : n ≤ g) : Below n w (set9 W g a b c d e f h i j) :=
  ((((((((H.setCell (p := ⟨g, 0, none⟩) hg a).setCell (p := ⟨g, 1, none⟩) hg b).setCell (p := ⟨g, 2, none⟩) hg c).setCell (p := ⟨g, 3, none⟩) hg d).setCell (p := ⟨g, 4, none⟩) hg e).setCell (p := ⟨g, 5, none⟩) hg f).setCell (p := ⟨g, 6, none⟩) hg h).setCell (p := ⟨g, 7, none⟩) hg i).setCell (p := ⟨g, 8, none⟩) hg j


set_option maxRecDepth 100000 in
set_option maxHeartbeats 3200000 in
theorem pign_any (Ae : Option Addr) (N cape : Nat) (es : List Ed) (P : Nat → Pt) (x y p s : Int) (u v : Nat) (w : World) (hu : 0 < u ∧ u ≤ 24) (hv : 0 < v ∧ v ≤ 24) :
    Calls Try.prog 29 #[.slice Ae N cape, .agg #[.int .i64 x, .int .i64 y, .int .i64 p, .int .i64 u, .int .i64 v, .int .i64 s]] w fun e w' => ∃ gA gQ : Nat, e = .returned (.agg #[.slice Ae N cape, .int .i64 x, .int .i64 y, .int .i64 p, .int .i64 u, .int .i64 v, .int .i64 s, .slice (some ⟨gA, 0, none⟩) (u * v) (u * v), .slice (some ⟨gQ, 0, none⟩) (u * v) (u * v)]) ∧ (w.heap.size ≤ gA ∧ w.heap.size ≤ gQ ∧ gA ≠ gQ) ∧ NRw w' gA (u * v) (ivals (List.replicate (u * v) (-1))) ∧ SQw w' gQ (u * v) es P (List.replicate (u * v) (-1)) ∧ Below w.heap.size w w' := by
  obtain ⟨M, hM⟩ : ∃ M, u * v = M := ⟨_, rfl⟩
  have hMb : M ≤ 24 * 24 := by rw [← hM]; exact Nat.mul_le_mul hu.2 hv.2
  have hMw : IntKind.i64.wrap ((u : Int) * v) = (M : Int) := by rw [← hM, Int.natCast_mul]; exact wI (by rw [← Int.natCast_mul]; omega) (by rw [← Int.natCast_mul]; omega)
  rw [hM]
  have HG := Lib.hid ((Blk.new w 29 [.int .i64 x, .int .i64 y, .int .i64 p, .int .i64 u, .int .i64 v, .int .i64 s] rfl).alloc (.cells #[.slice none 0 0, .int .i64 0, .int .i64 0, .int .i64 0, .int .i64 0, .int .i64 0, .int .i64 0, .slice none 0 0, .slice none 0 0] 72))
  have HR0 := Lib.hid (Blk.new (w.alloc (.cells #[.int .i64 x, .int .i64 y, .int .i64 p, .int .i64 u, .int .i64 v, .int .i64 s] 29)) 72 [.slice none 0 0, .int .i64 0, .int .i64 0, .int .i64 0, .int .i64 0, .int .i64 0, .int .i64 0, .slice none 0 0, .slice none 0 0] (g := w.heap.size + 1) (by simp))
  have HB0 := Lib.hid (alloc2 w (.cells #[.int .i64 x, .int .i64 y, .int .i64 p, .int .i64 u, .int .i64 v, .int .i64 s] 29) (.cells #[.slice none 0 0, .int .i64 0, .int .i64 0, .int .i64 0, .int .i64 0, .int .i64 0, .int .i64 0, .slice none 0 0, .slice none 0 0] 72))
  go_enter Try.func29, Try.ntmps29
  go_wp2_with fail
  generalize (w.alloc (.cells #[.int .i64 x, .int .i64 y, .int .i64 p, .int .i64 u, .int .i64 v, .int .i64 s] 29)).alloc (.cells #[.slice none 0 0, .int .i64 0, .int .i64 0, .int .i64 0, .int .i64 0, .int .i64 0, .int .i64 0, .slice none 0 0, .slice none 0 0] 72) = w1 at *
  go_cut [6] (fun sp wx => ∃ gT gA gQ : Nat, sp = .pointer (some ⟨gT, 0, none⟩) ∧ (w1.heap.size ≤ gA ∧ w1.heap.size ≤ gQ ∧ w1.heap.size ≤ gT ∧ gA ≠ gQ ∧ gT ≠ gA ∧ gT ≠ gQ) ∧ Hid (Blk wx gT 72 [.slice Ae N cape, .int .i64 x, .int .i64 y, .int .i64 p, .int .i64 u, .int .i64 v, .int .i64 s, .slice (some ⟨gA, 0, none⟩) M M, .slice (some ⟨gQ, 0, none⟩) M M]) ∧ Hid (NRw wx gA M (ivals (List.replicate M 0))) ∧ Hid (SQw wx gQ M es P (List.replicate M (-1))) ∧ Hid (Below w1.heap.size w1 wx))
  case first =>
    clear HR0 HB0
    have hM0 := Nat.zero_le M
    have AB : Below w1.heap.size w1 w1.drew := (Below.refl _ w1).drew
    replace HG := Lib.hid (HG.out.keep AB)
    have hw0 : w.heap.size < w1.heap.size := HG.out.lt
    refine wp_region_held_drew (S := fun wx => wx.cell? ⟨w.heap.size, 0, none⟩ = some (.int .i64 x) ∧ wx.cell? ⟨w.heap.size, 1, none⟩ = some (.int .i64 y) ∧ wx.cell? ⟨w.heap.size, 2, none⟩ = some (.int .i64 p) ∧ wx.cell? ⟨w.heap.size, 3, none⟩ = some (.int .i64 u) ∧ wx.cell? ⟨w.heap.size, 4, none⟩ = some (.int .i64 v) ∧ wx.cell? ⟨w.heap.size, 5, none⟩ = some (.int .i64 s)) (by kernel_rfl) (⟨HG.out.cell 0 rfl, HG.out.cell 1 rfl, HG.out.cell 2 rfl, HG.out.cell 3 rfl, HG.out.cell 4 rfl, HG.out.cell 5 rfl⟩) (fun hHeld => ?_)
    generalize w1.drew = w2 at *
    refine wpAnyH_take (i := 0) (v := ?_) rfl (by kernel_rfl) (by kernel_rfl) (by kernel_rfl) (fun _ _ _ h => h) (Or.inl ⟨by rfl, ?_⟩) hHeld ?_
    rotate_left
    · intro w hSw
      (try dsimp only at hSw)
      (try simp only [List.getElem_toArray, List.getElem_cons_zero])
      go_simp
      all_goals with_reducible rfl
    try simp only [List.getElem_toArray, List.getElem_cons_zero, Act.put, List.setIfInBounds_toArray, List.set_cons_zero, List.set_cons_succ]
    refine wpAnyH_take (i := 1) (v := ?_) rfl (by kernel_rfl) (by kernel_rfl) (by kernel_rfl) (fun _ _ _ h => h) (Or.inl ⟨by rfl, ?_⟩) hHeld ?_
    rotate_left
    · intro w hSw
      (try dsimp only at hSw)
      (try simp only [List.getElem_toArray, List.getElem_cons_zero, List.getElem_cons_succ])
      go_simp
      all_goals with_reducible rfl
    try simp only [List.getElem_toArray, List.getElem_cons_zero, List.getElem_cons_succ, Act.put, List.setIfInBounds_toArray, List.set_cons_zero, List.set_cons_succ]
    refine wpAnyH_take (i := 2) (v := ?_) rfl (by kernel_rfl) (by kernel_rfl) (by kernel_rfl) (fun _ _ _ h => h) (Or.inl ⟨by rfl, ?_⟩) hHeld ?_
    rotate_left
    · intro w hSw
      (try dsimp only at hSw)
      (try simp only [List.getElem_toArray, List.getElem_cons_zero, List.getElem_cons_succ])
      go_simp
      all_goals with_reducible rfl
    try simp only [List.getElem_toArray, List.getElem_cons_zero, List.getElem_cons_succ, Act.put, List.setIfInBounds_toArray, List.set_cons_zero, List.set_cons_succ]
    refine wpAnyH_take (i := 4) (v := ?_) rfl (by kernel_rfl) (by kernel_rfl) (by kernel_rfl) (fun _ _ _ h => h) (Or.inl ⟨by rfl, ?_⟩) hHeld ?_
    rotate_left
    · intro w hSw
      (try dsimp only at hSw)
      (try simp only [List.getElem_toArray, List.getElem_cons_zero, List.getElem_cons_succ])
      go_simp
      all_goals with_reducible rfl
    try simp only [List.getElem_toArray, List.getElem_cons_zero, List.getElem_cons_succ, Act.put, List.setIfInBounds_toArray, List.set_cons_zero, List.set_cons_succ]
    refine wpAnyH_ready (rs := [3, 5, 7]) (by kernel_rfl) (by simp) ?_
    refine AllReadyH.cons rfl (fun K hK => ?_) (AllReadyH.cons rfl (fun K hK => ?_) (AllReadyH.cons rfl (fun K hK => ?_) AllReadyH.nil))
    · try simp only [List.getElem_toArray, List.getElem_cons_zero, List.getElem_cons_succ]
      obtain ⟨gA, wmA, hP, hPA, hr, hN, hAn, hKn⟩ := mkI AB (Nat.le_refl _) hMb
      try have oQA : gQ < gA := by rw [← hP]; exact HQ9.out.lt
      try have oTA : gT < gA := by rw [← hP]; exact HT9.out.lt
      go_simp
      replace HG := Lib.hid (HG.out.keep hKn)
      try replace HQ9 := Lib.hid (HQ9.out.keep hKn)
      try replace HT9 := Lib.hid (HT9.out.keep hKn)
      have HA9 := Lib.hid hN
      have AB := hAn
      clear hN hAn hKn hP
      clear hr
      refine hK.out _ _ (⟨HG.out.cell 0 rfl, HG.out.cell 1 rfl, HG.out.cell 2 rfl, HG.out.cell 3 rfl, HG.out.cell 4 rfl, HG.out.cell 5 rfl⟩) (fun hHeld => ?_)
      clear hK K
      try simp only [List.getElem_toArray, List.getElem_cons_zero, List.getElem_cons_succ, Act.put, List.setIfInBounds_toArray, List.set_cons_zero, List.set_cons_succ]
      refine wpAnyH_ready (rs := [5, 7]) (by kernel_rfl) (by simp) ?_
      refine AllReadyH.cons rfl (fun K hK => ?_) (AllReadyH.cons rfl (fun K hK => ?_) AllReadyH.nil)
      · try simp only [List.getElem_toArray, List.getElem_cons_zero, List.getElem_cons_succ]
        obtain ⟨gQ, wmQ, hP, hPQ, hr, hN, hAn, hKn⟩ := mkQ AB (Nat.le_refl _) hMb es P
        try have oAQ : gA < gQ := by rw [← hP]; exact HA9.out.lt
        try have oTQ : gT < gQ := by rw [← hP]; exact HT9.out.lt
        go_simp
        replace HG := Lib.hid (HG.out.keep hKn)
        try replace HA9 := Lib.hid (HA9.out.keep hKn)
        try replace HT9 := Lib.hid (HT9.out.keep hKn)
        have HQ9 := Lib.hid hN
        have AB := hAn
        clear hN hAn hKn hP
        clear hr
        refine hK.out _ _ (⟨HG.out.cell 0 rfl, HG.out.cell 1 rfl, HG.out.cell 2 rfl, HG.out.cell 3 rfl, HG.out.cell 4 rfl, HG.out.cell 5 rfl⟩) (fun hHeld => ?_)
        clear hK K
        try simp only [List.getElem_toArray, List.getElem_cons_zero, List.getElem_cons_succ, Act.put, List.setIfInBounds_toArray, List.set_cons_zero, List.set_cons_succ]
        refine wpAnyH_take (i := 6) (v := ?_) rfl (by kernel_rfl) (by kernel_rfl) (by kernel_rfl) (fun _ _ _ h => h) (Or.inl ⟨by rfl, ?_⟩) hHeld ?_
        rotate_left
        · intro w hSw
          (try dsimp only at hSw)
          (try simp only [List.getElem_toArray, List.getElem_cons_zero, List.getElem_cons_succ])
          go_simp
          all_goals with_reducible rfl
        try simp only [List.getElem_toArray, List.getElem_cons_zero, List.getElem_cons_succ, Act.put, List.setIfInBounds_toArray, List.set_cons_zero, List.set_cons_succ]
        refine wpAnyH_ready (rs := [7]) (by kernel_rfl) (by simp) ?_
        refine AllReadyH.cons rfl (fun K hK => ?_) AllReadyH.nil
        try simp only [List.getElem_toArray, List.getElem_cons_zero, List.getElem_cons_succ]
        obtain ⟨gT, hP, hPT, hN, hAn, hKn⟩ := snew_ex AB (Nat.le_refl _) 72 [.slice none 0 0, .int .i64 0, .int .i64 0, .int .i64 0, .int .i64 0, .int .i64 0, .int .i64 0, .slice none 0 0, .slice none 0 0]
        try have oAT : gA < gT := by rw [← hP]; exact HA9.out.lt
        try have oQT : gQ < gT := by rw [← hP]; exact HQ9.out.lt
        (try simp only [World.size_alloc] at hP)
        go_simp
        try rw [hP]
        replace HG := Lib.hid (HG.out.keep hKn)
        try replace HA9 := Lib.hid (HA9.out.keep hKn)
        try replace HQ9 := Lib.hid (HQ9.out.keep hKn)
        have HT9 := Lib.hid hN
        have AB := hAn
        clear hN hAn hKn hP
        refine hK.out _ _ (⟨HG.out.cell 0 rfl, HG.out.cell 1 rfl, HG.out.cell 2 rfl, HG.out.cell 3 rfl, HG.out.cell 4 rfl, HG.out.cell 5 rfl⟩) (fun hHeld => ?_)
        clear hK K
        try simp only [List.getElem_toArray, List.getElem_cons_zero, List.getElem_cons_succ, Act.put, List.setIfInBounds_toArray, List.set_cons_zero, List.set_cons_succ]
        refine wpAnyH_ready (rs := [8]) (by kernel_rfl) (by simp) ?_
        refine AllReadyH.cons rfl (fun K hK => ?_) AllReadyH.nil
        try simp only [List.getElem_toArray, List.getElem_cons_zero, List.getElem_cons_succ]
        have y0 := HT9.out.cell 0 rfl
        have y1 := HT9.out.cell 1 rfl
        have y2 := HT9.out.cell 2 rfl
        have y3 := HT9.out.cell 3 rfl
        have y4 := HT9.out.cell 4 rfl
        have y5 := HT9.out.cell 5 rfl
        have y6 := HT9.out.cell 6 rfl
        have y7 := HT9.out.cell 7 rfl
        have y8 := HT9.out.cell 8 rfl
        have yf := HT9.out.frozen
        have yl := HT9.out.lt
        go_simp
        have z1 := put9 (a := .slice Ae N cape) (b := (.int .i64 x)) (c := (.int .i64 y)) (d := (.int .i64 p)) (e := (.int .i64 u)) (f := (.int .i64 v)) (h := (.int .i64 s)) (i := (.slice (some ⟨gA, 0, none⟩) M M)) (j := (.slice (some ⟨gQ, 0, none⟩) M M)) HT9.out
        have z2 := HA9.out.heap (heap9 _ gT (.slice Ae N cape) (.int .i64 x) (.int .i64 y) (.int .i64 p) (.int .i64 u) (.int .i64 v) (.int .i64 s) (.slice (some ⟨gA, 0, none⟩) M M) (.slice (some ⟨gQ, 0, none⟩) M M) (show gA ≠ gT by omega))
        have z3 := HQ9.out.heap (heap9 _ gT (.slice Ae N cape) (.int .i64 x) (.int .i64 y) (.int .i64 p) (.int .i64 u) (.int .i64 v) (.int .i64 s) (.slice (some ⟨gA, 0, none⟩) M M) (.slice (some ⟨gQ, 0, none⟩) M M) (show gQ ≠ gT by omega))
        have z4 := HG.out.heap (heap9 _ gT (.slice Ae N cape) (.int .i64 x) (.int .i64 y) (.int .i64 p) (.int .i64 u) (.int .i64 v) (.int .i64 s) (.slice (some ⟨gA, 0, none⟩) M M) (.slice (some ⟨gQ, 0, none⟩) M M) (show w.heap.size ≠ gT by omega))
        have z5 := below9 (a := .slice Ae N cape) (b := (.int .i64 x)) (c := (.int .i64 y)) (d := (.int .i64 p)) (e := (.int .i64 u)) (f := (.int .i64 v)) (h := (.int .i64 s)) (i := (.slice (some ⟨gA, 0, none⟩) M M)) (j := (.slice (some ⟨gQ, 0, none⟩) M M)) AB hPT
        unfold set9 at z1 z2 z3 z4 z5
        replace HT9 := Lib.hid z1
        replace HA9 := Lib.hid z2
        replace HQ9 := Lib.hid z3
        replace HG := Lib.hid z4
        have AB := z5
        clear z1 z2 z3 z4 z5 yf yl y0 y1 y2 y3 y4 y5 y6 y7 y8
        refine hK.out _ _ (⟨HG.out.cell 0 rfl, HG.out.cell 1 rfl, HG.out.cell 2 rfl, HG.out.cell 3 rfl, HG.out.cell 4 rfl, HG.out.cell 5 rfl⟩) (fun hHeld => ?_)
        clear hK K
        try simp only [List.getElem_toArray, List.getElem_cons_zero, List.getElem_cons_succ, Act.put, List.setIfInBounds_toArray, List.set_cons_zero, List.set_cons_succ]
        refine wpAnyH_done (by kernel_rfl) ?_ _
        go_wp2_with fail
        go_meet
        exact ⟨gT, gA, gQ, rfl, ⟨hPA, hPQ, hPT, by omega, by omega, by omega⟩, HT9, HA9, HQ9, Lib.hid AB⟩
      · try simp only [List.getElem_toArray, List.getElem_cons_zero, List.getElem_cons_succ]
        obtain ⟨gT, hP, hPT, hN, hAn, hKn⟩ := snew_ex AB (Nat.le_refl _) 72 [.slice none 0 0, .int .i64 0, .int .i64 0, .int .i64 0, .int .i64 0, .int .i64 0, .int .i64 0, .slice none 0 0, .slice none 0 0]
        try have oAT : gA < gT := by rw [← hP]; exact HA9.out.lt
        try have oQT : gQ < gT := by rw [← hP]; exact HQ9.out.lt
        (try simp only [World.size_alloc] at hP)
        go_simp
        try rw [hP]
        replace HG := Lib.hid (HG.out.keep hKn)
        try replace HA9 := Lib.hid (HA9.out.keep hKn)
        try replace HQ9 := Lib.hid (HQ9.out.keep hKn)
        have HT9 := Lib.hid hN
        have AB := hAn
        clear hN hAn hKn hP
        refine hK.out _ _ (⟨HG.out.cell 0 rfl, HG.out.cell 1 rfl, HG.out.cell 2 rfl, HG.out.cell 3 rfl, HG.out.cell 4 rfl, HG.out.cell 5 rfl⟩) (fun hHeld => ?_)
        clear hK K
        try simp only [List.getElem_toArray, List.getElem_cons_zero, List.getElem_cons_succ, Act.put, List.setIfInBounds_toArray, List.set_cons_zero, List.set_cons_succ]
        refine wpAnyH_ready (rs := [5]) (by kernel_rfl) (by simp) ?_
        refine AllReadyH.cons rfl (fun K hK => ?_) AllReadyH.nil
        try simp only [List.getElem_toArray, List.getElem_cons_zero, List.getElem_cons_succ]
        obtain ⟨gQ, wmQ, hP, hPQ, hr, hN, hAn, hKn⟩ := mkQ AB (Nat.le_refl _) hMb es P
        try have oAQ : gA < gQ := by rw [← hP]; exact HA9.out.lt
        try have oTQ : gT < gQ := by rw [← hP]; exact HT9.out.lt
        go_simp
        replace HG := Lib.hid (HG.out.keep hKn)
        try replace HA9 := Lib.hid (HA9.out.keep hKn)
        try replace HT9 := Lib.hid (HT9.out.keep hKn)
        have HQ9 := Lib.hid hN
        have AB := hAn
        clear hN hAn hKn hP
        clear hr
        refine hK.out _ _ (⟨HG.out.cell 0 rfl, HG.out.cell 1 rfl, HG.out.cell 2 rfl, HG.out.cell 3 rfl, HG.out.cell 4 rfl, HG.out.cell 5 rfl⟩) (fun hHeld => ?_)
        clear hK K
        try simp only [List.getElem_toArray, List.getElem_cons_zero, List.getElem_cons_succ, Act.put, List.setIfInBounds_toArray, List.set_cons_zero, List.set_cons_succ]
        refine wpAnyH_take (i := 6) (v := ?_) rfl (by kernel_rfl) (by kernel_rfl) (by kernel_rfl) (fun _ _ _ h => h) (Or.inl ⟨by rfl, ?_⟩) hHeld ?_
        rotate_left
        · intro w hSw
          (try dsimp only at hSw)
          (try simp only [List.getElem_toArray, List.getElem_cons_zero, List.getElem_cons_succ])
          go_simp
          all_goals with_reducible rfl
        try simp only [List.getElem_toArray, List.getElem_cons_zero, List.getElem_cons_succ, Act.put, List.setIfInBounds_toArray, List.set_cons_zero, List.set_cons_succ]
        refine wpAnyH_ready (rs := [8]) (by kernel_rfl) (by simp) ?_
        refine AllReadyH.cons rfl (fun K hK => ?_) AllReadyH.nil
        try simp only [List.getElem_toArray, List.getElem_cons_zero, List.getElem_cons_succ]
        have y0 := HT9.out.cell 0 rfl
        have y1 := HT9.out.cell 1 rfl
        have y2 := HT9.out.cell 2 rfl
        have y3 := HT9.out.cell 3 rfl
        have y4 := HT9.out.cell 4 rfl
        have y5 := HT9.out.cell 5 rfl
        have y6 := HT9.out.cell 6 rfl
        have y7 := HT9.out.cell 7 rfl
        have y8 := HT9.out.cell 8 rfl
        have yf := HT9.out.frozen
        have yl := HT9.out.lt
        go_simp
        have z1 := put9 (a := .slice Ae N cape) (b := (.int .i64 x)) (c := (.int .i64 y)) (d := (.int .i64 p)) (e := (.int .i64 u)) (f := (.int .i64 v)) (h := (.int .i64 s)) (i := (.slice (some ⟨gA, 0, none⟩) M M)) (j := (.slice (some ⟨gQ, 0, none⟩) M M)) HT9.out
        have z2 := HA9.out.heap (heap9 _ gT (.slice Ae N cape) (.int .i64 x) (.int .i64 y) (.int .i64 p) (.int .i64 u) (.int .i64 v) (.int .i64 s) (.slice (some ⟨gA, 0, none⟩) M M) (.slice (some ⟨gQ, 0, none⟩) M M) (show gA ≠ gT by omega))
        have z3 := HQ9.out.heap (heap9 _ gT (.slice Ae N cape) (.int .i64 x) (.int .i64 y) (.int .i64 p) (.int .i64 u) (.int .i64 v) (.int .i64 s) (.slice (some ⟨gA, 0, none⟩) M M) (.slice (some ⟨gQ, 0, none⟩) M M) (show gQ ≠ gT by omega))
        have z4 := HG.out.heap (heap9 _ gT (.slice Ae N cape) (.int .i64 x) (.int .i64 y) (.int .i64 p) (.int .i64 u) (.int .i64 v) (.int .i64 s) (.slice (some ⟨gA, 0, none⟩) M M) (.slice (some ⟨gQ, 0, none⟩) M M) (show w.heap.size ≠ gT by omega))
        have z5 := below9 (a := .slice Ae N cape) (b := (.int .i64 x)) (c := (.int .i64 y)) (d := (.int .i64 p)) (e := (.int .i64 u)) (f := (.int .i64 v)) (h := (.int .i64 s)) (i := (.slice (some ⟨gA, 0, none⟩) M M)) (j := (.slice (some ⟨gQ, 0, none⟩) M M)) AB hPT
        unfold set9 at z1 z2 z3 z4 z5
        replace HT9 := Lib.hid z1
        replace HA9 := Lib.hid z2
        replace HQ9 := Lib.hid z3
        replace HG := Lib.hid z4
        have AB := z5
        clear z1 z2 z3 z4 z5 yf yl y0 y1 y2 y3 y4 y5 y6 y7 y8
        refine hK.out _ _ (⟨HG.out.cell 0 rfl, HG.out.cell 1 rfl, HG.out.cell 2 rfl, HG.out.cell 3 rfl, HG.out.cell 4 rfl, HG.out.cell 5 rfl⟩) (fun hHeld => ?_)
        clear hK K
        try simp only [List.getElem_toArray, List.getElem_cons_zero, List.getElem_cons_succ, Act.put, List.setIfInBounds_toArray, List.set_cons_zero, List.set_cons_succ]
        refine wpAnyH_done (by kernel_rfl) ?_ _
        go_wp2_with fail
        go_meet
        exact ⟨gT, gA, gQ, rfl, ⟨hPA, hPQ, hPT, by omega, by omega, by omega⟩, HT9, HA9, HQ9, Lib.hid AB⟩
    · try simp only [List.getElem_toArray, List.getElem_cons_zero, List.getElem_cons_succ]
      obtain ⟨gQ, wmQ, hP, hPQ, hr, hN, hAn, hKn⟩ := mkQ AB (Nat.le_refl _) hMb es P
      try have oAQ : gA < gQ := by rw [← hP]; exact HA9.out.lt
      try have oTQ : gT < gQ := by rw [← hP]; exact HT9.out.lt
      go_simp
      replace HG := Lib.hid (HG.out.keep hKn)
      try replace HA9 := Lib.hid (HA9.out.keep hKn)
      try replace HT9 := Lib.hid (HT9.out.keep hKn)
      have HQ9 := Lib.hid hN
      have AB := hAn
      clear hN hAn hKn hP
      clear hr
      refine hK.out _ _ (⟨HG.out.cell 0 rfl, HG.out.cell 1 rfl, HG.out.cell 2 rfl, HG.out.cell 3 rfl, HG.out.cell 4 rfl, HG.out.cell 5 rfl⟩) (fun hHeld => ?_)
      clear hK K
      try simp only [List.getElem_toArray, List.getElem_cons_zero, List.getElem_cons_succ, Act.put, List.setIfInBounds_toArray, List.set_cons_zero, List.set_cons_succ]
      refine wpAnyH_ready (rs := [3, 7]) (by kernel_rfl) (by simp) ?_
      refine AllReadyH.cons rfl (fun K hK => ?_) (AllReadyH.cons rfl (fun K hK => ?_) AllReadyH.nil)
      · try simp only [List.getElem_toArray, List.getElem_cons_zero, List.getElem_cons_succ]
        obtain ⟨gA, wmA, hP, hPA, hr, hN, hAn, hKn⟩ := mkI AB (Nat.le_refl _) hMb
        try have oQA : gQ < gA := by rw [← hP]; exact HQ9.out.lt
        try have oTA : gT < gA := by rw [← hP]; exact HT9.out.lt
        go_simp
        replace HG := Lib.hid (HG.out.keep hKn)
        try replace HQ9 := Lib.hid (HQ9.out.keep hKn)
        try replace HT9 := Lib.hid (HT9.out.keep hKn)
        have HA9 := Lib.hid hN
        have AB := hAn
        clear hN hAn hKn hP
        clear hr
        refine hK.out _ _ (⟨HG.out.cell 0 rfl, HG.out.cell 1 rfl, HG.out.cell 2 rfl, HG.out.cell 3 rfl, HG.out.cell 4 rfl, HG.out.cell 5 rfl⟩) (fun hHeld => ?_)
        clear hK K
        try simp only [List.getElem_toArray, List.getElem_cons_zero, List.getElem_cons_succ, Act.put, List.setIfInBounds_toArray, List.set_cons_zero, List.set_cons_succ]
        refine wpAnyH_take (i := 6) (v := ?_) rfl (by kernel_rfl) (by kernel_rfl) (by kernel_rfl) (fun _ _ _ h => h) (Or.inl ⟨by rfl, ?_⟩) hHeld ?_
        rotate_left
        · intro w hSw
          (try dsimp only at hSw)
          (try simp only [List.getElem_toArray, List.getElem_cons_zero, List.getElem_cons_succ])
          go_simp
          all_goals with_reducible rfl
        try simp only [List.getElem_toArray, List.getElem_cons_zero, List.getElem_cons_succ, Act.put, List.setIfInBounds_toArray, List.set_cons_zero, List.set_cons_succ]
        refine wpAnyH_ready (rs := [7]) (by kernel_rfl) (by simp) ?_
        refine AllReadyH.cons rfl (fun K hK => ?_) AllReadyH.nil
        try simp only [List.getElem_toArray, List.getElem_cons_zero, List.getElem_cons_succ]
        obtain ⟨gT, hP, hPT, hN, hAn, hKn⟩ := snew_ex AB (Nat.le_refl _) 72 [.slice none 0 0, .int .i64 0, .int .i64 0, .int .i64 0, .int .i64 0, .int .i64 0, .int .i64 0, .slice none 0 0, .slice none 0 0]
        try have oAT : gA < gT := by rw [← hP]; exact HA9.out.lt
        try have oQT : gQ < gT := by rw [← hP]; exact HQ9.out.lt
        (try simp only [World.size_alloc] at hP)
        go_simp
        try rw [hP]
        replace HG := Lib.hid (HG.out.keep hKn)
        try replace HA9 := Lib.hid (HA9.out.keep hKn)
        try replace HQ9 := Lib.hid (HQ9.out.keep hKn)
        have HT9 := Lib.hid hN
        have AB := hAn
        clear hN hAn hKn hP
        refine hK.out _ _ (⟨HG.out.cell 0 rfl, HG.out.cell 1 rfl, HG.out.cell 2 rfl, HG.out.cell 3 rfl, HG.out.cell 4 rfl, HG.out.cell 5 rfl⟩) (fun hHeld => ?_)
        clear hK K
        try simp only [List.getElem_toArray, List.getElem_cons_zero, List.getElem_cons_succ, Act.put, List.setIfInBounds_toArray, List.set_cons_zero, List.set_cons_succ]
        refine wpAnyH_ready (rs := [8]) (by kernel_rfl) (by simp) ?_
        refine AllReadyH.cons rfl (fun K hK => ?_) AllReadyH.nil
        try simp only [List.getElem_toArray, List.getElem_cons_zero, List.getElem_cons_succ]
        have y0 := HT9.out.cell 0 rfl
        have y1 := HT9.out.cell 1 rfl
        have y2 := HT9.out.cell 2 rfl
        have y3 := HT9.out.cell 3 rfl
        have y4 := HT9.out.cell 4 rfl
        have y5 := HT9.out.cell 5 rfl
        have y6 := HT9.out.cell 6 rfl
        have y7 := HT9.out.cell 7 rfl
        have y8 := HT9.out.cell 8 rfl
        have yf := HT9.out.frozen
        have yl := HT9.out.lt
        go_simp
        have z1 := put9 (a := .slice Ae N cape) (b := (.int .i64 x)) (c := (.int .i64 y)) (d := (.int .i64 p)) (e := (.int .i64 u)) (f := (.int .i64 v)) (h := (.int .i64 s)) (i := (.slice (some ⟨gA, 0, none⟩) M M)) (j := (.slice (some ⟨gQ, 0, none⟩) M M)) HT9.out
        have z2 := HA9.out.heap (heap9 _ gT (.slice Ae N cape) (.int .i64 x) (.int .i64 y) (.int .i64 p) (.int .i64 u) (.int .i64 v) (.int .i64 s) (.slice (some ⟨gA, 0, none⟩) M M) (.slice (some ⟨gQ, 0, none⟩) M M) (show gA ≠ gT by omega))
        have z3 := HQ9.out.heap (heap9 _ gT (.slice Ae N cape) (.int .i64 x) (.int .i64 y) (.int .i64 p) (.int .i64 u) (.int .i64 v) (.int .i64 s) (.slice (some ⟨gA, 0, none⟩) M M) (.slice (some ⟨gQ, 0, none⟩) M M) (show gQ ≠ gT by omega))
        have z4 := HG.out.heap (heap9 _ gT (.slice Ae N cape) (.int .i64 x) (.int .i64 y) (.int .i64 p) (.int .i64 u) (.int .i64 v) (.int .i64 s) (.slice (some ⟨gA, 0, none⟩) M M) (.slice (some ⟨gQ, 0, none⟩) M M) (show w.heap.size ≠ gT by omega))
        have z5 := below9 (a := .slice Ae N cape) (b := (.int .i64 x)) (c := (.int .i64 y)) (d := (.int .i64 p)) (e := (.int .i64 u)) (f := (.int .i64 v)) (h := (.int .i64 s)) (i := (.slice (some ⟨gA, 0, none⟩) M M)) (j := (.slice (some ⟨gQ, 0, none⟩) M M)) AB hPT
        unfold set9 at z1 z2 z3 z4 z5
        replace HT9 := Lib.hid z1
        replace HA9 := Lib.hid z2
        replace HQ9 := Lib.hid z3
        replace HG := Lib.hid z4
        have AB := z5
        clear z1 z2 z3 z4 z5 yf yl y0 y1 y2 y3 y4 y5 y6 y7 y8
        refine hK.out _ _ (⟨HG.out.cell 0 rfl, HG.out.cell 1 rfl, HG.out.cell 2 rfl, HG.out.cell 3 rfl, HG.out.cell 4 rfl, HG.out.cell 5 rfl⟩) (fun hHeld => ?_)
        clear hK K
        try simp only [List.getElem_toArray, List.getElem_cons_zero, List.getElem_cons_succ, Act.put, List.setIfInBounds_toArray, List.set_cons_zero, List.set_cons_succ]
        refine wpAnyH_done (by kernel_rfl) ?_ _
        go_wp2_with fail
        go_meet
        exact ⟨gT, gA, gQ, rfl, ⟨hPA, hPQ, hPT, by omega, by omega, by omega⟩, HT9, HA9, HQ9, Lib.hid AB⟩
      · try simp only [List.getElem_toArray, List.getElem_cons_zero, List.getElem_cons_succ]
        obtain ⟨gT, hP, hPT, hN, hAn, hKn⟩ := snew_ex AB (Nat.le_refl _) 72 [.slice none 0 0, .int .i64 0, .int .i64 0, .int .i64 0, .int .i64 0, .int .i64 0, .int .i64 0, .slice none 0 0, .slice none 0 0]
        try have oAT : gA < gT := by rw [← hP]; exact HA9.out.lt
        try have oQT : gQ < gT := by rw [← hP]; exact HQ9.out.lt
        (try simp only [World.size_alloc] at hP)
        go_simp
        try rw [hP]
        replace HG := Lib.hid (HG.out.keep hKn)
        try replace HA9 := Lib.hid (HA9.out.keep hKn)
        try replace HQ9 := Lib.hid (HQ9.out.keep hKn)
        have HT9 := Lib.hid hN
        have AB := hAn
        clear hN hAn hKn hP
        refine hK.out _ _ (⟨HG.out.cell 0 rfl, HG.out.cell 1 rfl, HG.out.cell 2 rfl, HG.out.cell 3 rfl, HG.out.cell 4 rfl, HG.out.cell 5 rfl⟩) (fun hHeld => ?_)
        clear hK K
        try simp only [List.getElem_toArray, List.getElem_cons_zero, List.getElem_cons_succ, Act.put, List.setIfInBounds_toArray, List.set_cons_zero, List.set_cons_succ]
        refine wpAnyH_ready (rs := [3]) (by kernel_rfl) (by simp) ?_
        refine AllReadyH.cons rfl (fun K hK => ?_) AllReadyH.nil
        try simp only [List.getElem_toArray, List.getElem_cons_zero, List.getElem_cons_succ]
        obtain ⟨gA, wmA, hP, hPA, hr, hN, hAn, hKn⟩ := mkI AB (Nat.le_refl _) hMb
        try have oQA : gQ < gA := by rw [← hP]; exact HQ9.out.lt
        try have oTA : gT < gA := by rw [← hP]; exact HT9.out.lt
        go_simp
        replace HG := Lib.hid (HG.out.keep hKn)
        try replace HQ9 := Lib.hid (HQ9.out.keep hKn)
        try replace HT9 := Lib.hid (HT9.out.keep hKn)
        have HA9 := Lib.hid hN
        have AB := hAn
        clear hN hAn hKn hP
        clear hr
        refine hK.out _ _ (⟨HG.out.cell 0 rfl, HG.out.cell 1 rfl, HG.out.cell 2 rfl, HG.out.cell 3 rfl, HG.out.cell 4 rfl, HG.out.cell 5 rfl⟩) (fun hHeld => ?_)
        clear hK K
        try simp only [List.getElem_toArray, List.getElem_cons_zero, List.getElem_cons_succ, Act.put, List.setIfInBounds_toArray, List.set_cons_zero, List.set_cons_succ]
        refine wpAnyH_take (i := 6) (v := ?_) rfl (by kernel_rfl) (by kernel_rfl) (by kernel_rfl) (fun _ _ _ h => h) (Or.inl ⟨by rfl, ?_⟩) hHeld ?_
        rotate_left
        · intro w hSw
          (try dsimp only at hSw)
          (try simp only [List.getElem_toArray, List.getElem_cons_zero, List.getElem_cons_succ])
          go_simp
          all_goals with_reducible rfl
        try simp only [List.getElem_toArray, List.getElem_cons_zero, List.getElem_cons_succ, Act.put, List.setIfInBounds_toArray, List.set_cons_zero, List.set_cons_succ]
        refine wpAnyH_ready (rs := [8]) (by kernel_rfl) (by simp) ?_
        refine AllReadyH.cons rfl (fun K hK => ?_) AllReadyH.nil
        try simp only [List.getElem_toArray, List.getElem_cons_zero, List.getElem_cons_succ]
        have y0 := HT9.out.cell 0 rfl
        have y1 := HT9.out.cell 1 rfl
        have y2 := HT9.out.cell 2 rfl
        have y3 := HT9.out.cell 3 rfl
        have y4 := HT9.out.cell 4 rfl
        have y5 := HT9.out.cell 5 rfl
        have y6 := HT9.out.cell 6 rfl
        have y7 := HT9.out.cell 7 rfl
        have y8 := HT9.out.cell 8 rfl
        have yf := HT9.out.frozen
        have yl := HT9.out.lt
        go_simp
        have z1 := put9 (a := .slice Ae N cape) (b := (.int .i64 x)) (c := (.int .i64 y)) (d := (.int .i64 p)) (e := (.int .i64 u)) (f := (.int .i64 v)) (h := (.int .i64 s)) (i := (.slice (some ⟨gA, 0, none⟩) M M)) (j := (.slice (some ⟨gQ, 0, none⟩) M M)) HT9.out
        have z2 := HA9.out.heap (heap9 _ gT (.slice Ae N cape) (.int .i64 x) (.int .i64 y) (.int .i64 p) (.int .i64 u) (.int .i64 v) (.int .i64 s) (.slice (some ⟨gA, 0, none⟩) M M) (.slice (some ⟨gQ, 0, none⟩) M M) (show gA ≠ gT by omega))
        have z3 := HQ9.out.heap (heap9 _ gT (.slice Ae N cape) (.int .i64 x) (.int .i64 y) (.int .i64 p) (.int .i64 u) (.int .i64 v) (.int .i64 s) (.slice (some ⟨gA, 0, none⟩) M M) (.slice (some ⟨gQ, 0, none⟩) M M) (show gQ ≠ gT by omega))
        have z4 := HG.out.heap (heap9 _ gT (.slice Ae N cape) (.int .i64 x) (.int .i64 y) (.int .i64 p) (.int .i64 u) (.int .i64 v) (.int .i64 s) (.slice (some ⟨gA, 0, none⟩) M M) (.slice (some ⟨gQ, 0, none⟩) M M) (show w.heap.size ≠ gT by omega))
        have z5 := below9 (a := .slice Ae N cape) (b := (.int .i64 x)) (c := (.int .i64 y)) (d := (.int .i64 p)) (e := (.int .i64 u)) (f := (.int .i64 v)) (h := (.int .i64 s)) (i := (.slice (some ⟨gA, 0, none⟩) M M)) (j := (.slice (some ⟨gQ, 0, none⟩) M M)) AB hPT
        unfold set9 at z1 z2 z3 z4 z5
        replace HT9 := Lib.hid z1
        replace HA9 := Lib.hid z2
        replace HQ9 := Lib.hid z3
        replace HG := Lib.hid z4
        have AB := z5
        clear z1 z2 z3 z4 z5 yf yl y0 y1 y2 y3 y4 y5 y6 y7 y8
        refine hK.out _ _ (⟨HG.out.cell 0 rfl, HG.out.cell 1 rfl, HG.out.cell 2 rfl, HG.out.cell 3 rfl, HG.out.cell 4 rfl, HG.out.cell 5 rfl⟩) (fun hHeld => ?_)
        clear hK K
        try simp only [List.getElem_toArray, List.getElem_cons_zero, List.getElem_cons_succ, Act.put, List.setIfInBounds_toArray, List.set_cons_zero, List.set_cons_succ]
        refine wpAnyH_done (by kernel_rfl) ?_ _
        go_wp2_with fail
        go_meet
        exact ⟨gT, gA, gQ, rfl, ⟨hPA, hPQ, hPT, by omega, by omega, by omega⟩, HT9, HA9, HQ9, Lib.hid AB⟩
    · try simp only [List.getElem_toArray, List.getElem_cons_zero, List.getElem_cons_succ]
      obtain ⟨gT, hP, hPT, hN, hAn, hKn⟩ := snew_ex AB (Nat.le_refl _) 72 [.slice none 0 0, .int .i64 0, .int .i64 0, .int .i64 0, .int .i64 0, .int .i64 0, .int .i64 0, .slice none 0 0, .slice none 0 0]
      try have oAT : gA < gT := by rw [← hP]; exact HA9.out.lt
      try have oQT : gQ < gT := by rw [← hP]; exact HQ9.out.lt
      (try simp only [World.size_alloc] at hP)
      go_simp
      try rw [hP]
      replace HG := Lib.hid (HG.out.keep hKn)
      try replace HA9 := Lib.hid (HA9.out.keep hKn)
      try replace HQ9 := Lib.hid (HQ9.out.keep hKn)
      have HT9 := Lib.hid hN
      have AB := hAn
      clear hN hAn hKn hP
      refine hK.out _ _ (⟨HG.out.cell 0 rfl, HG.out.cell 1 rfl, HG.out.cell 2 rfl, HG.out.cell 3 rfl, HG.out.cell 4 rfl, HG.out.cell 5 rfl⟩) (fun hHeld => ?_)
      clear hK K
      try simp only [List.getElem_toArray, List.getElem_cons_zero, List.getElem_cons_succ, Act.put, List.setIfInBounds_toArray, List.set_cons_zero, List.set_cons_succ]
      refine wpAnyH_ready (rs := [3, 5]) (by kernel_rfl) (by simp) ?_
      refine AllReadyH.cons rfl (fun K hK => ?_) (AllReadyH.cons rfl (fun K hK => ?_) AllReadyH.nil)
      · try simp only [List.getElem_toArray, List.getElem_cons_zero, List.getElem_cons_succ]
        obtain ⟨gA, wmA, hP, hPA, hr, hN, hAn, hKn⟩ := mkI AB (Nat.le_refl _) hMb
        try have oQA : gQ < gA := by rw [← hP]; exact HQ9.out.lt
        try have oTA : gT < gA := by rw [← hP]; exact HT9.out.lt
        go_simp
        replace HG := Lib.hid (HG.out.keep hKn)
        try replace HQ9 := Lib.hid (HQ9.out.keep hKn)
        try replace HT9 := Lib.hid (HT9.out.keep hKn)
        have HA9 := Lib.hid hN
        have AB := hAn
        clear hN hAn hKn hP
        clear hr
        refine hK.out _ _ (⟨HG.out.cell 0 rfl, HG.out.cell 1 rfl, HG.out.cell 2 rfl, HG.out.cell 3 rfl, HG.out.cell 4 rfl, HG.out.cell 5 rfl⟩) (fun hHeld => ?_)
        clear hK K
        try simp only [List.getElem_toArray, List.getElem_cons_zero, List.getElem_cons_succ, Act.put, List.setIfInBounds_toArray, List.set_cons_zero, List.set_cons_succ]
        refine wpAnyH_ready (rs := [5]) (by kernel_rfl) (by simp) ?_
        refine AllReadyH.cons rfl (fun K hK => ?_) AllReadyH.nil
        try simp only [List.getElem_toArray, List.getElem_cons_zero, List.getElem_cons_succ]
        obtain ⟨gQ, wmQ, hP, hPQ, hr, hN, hAn, hKn⟩ := mkQ AB (Nat.le_refl _) hMb es P
        try have oAQ : gA < gQ := by rw [← hP]; exact HA9.out.lt
        try have oTQ : gT < gQ := by rw [← hP]; exact HT9.out.lt
        go_simp
        replace HG := Lib.hid (HG.out.keep hKn)
        try replace HA9 := Lib.hid (HA9.out.keep hKn)
        try replace HT9 := Lib.hid (HT9.out.keep hKn)
        have HQ9 := Lib.hid hN
        have AB := hAn
        clear hN hAn hKn hP
        clear hr
        refine hK.out _ _ (⟨HG.out.cell 0 rfl, HG.out.cell 1 rfl, HG.out.cell 2 rfl, HG.out.cell 3 rfl, HG.out.cell 4 rfl, HG.out.cell 5 rfl⟩) (fun hHeld => ?_)
        clear hK K
        try simp only [List.getElem_toArray, List.getElem_cons_zero, List.getElem_cons_succ, Act.put, List.setIfInBounds_toArray, List.set_cons_zero, List.set_cons_succ]
        refine wpAnyH_take (i := 6) (v := ?_) rfl (by kernel_rfl) (by kernel_rfl) (by kernel_rfl) (fun _ _ _ h => h) (Or.inl ⟨by rfl, ?_⟩) hHeld ?_
        rotate_left
        · intro w hSw
          (try dsimp only at hSw)
          (try simp only [List.getElem_toArray, List.getElem_cons_zero, List.getElem_cons_succ])
          go_simp
          all_goals with_reducible rfl
        try simp only [List.getElem_toArray, List.getElem_cons_zero, List.getElem_cons_succ, Act.put, List.setIfInBounds_toArray, List.set_cons_zero, List.set_cons_succ]
        refine wpAnyH_ready (rs := [8]) (by kernel_rfl) (by simp) ?_
        refine AllReadyH.cons rfl (fun K hK => ?_) AllReadyH.nil
        try simp only [List.getElem_toArray, List.getElem_cons_zero, List.getElem_cons_succ]
        have y0 := HT9.out.cell 0 rfl
        have y1 := HT9.out.cell 1 rfl
        have y2 := HT9.out.cell 2 rfl
        have y3 := HT9.out.cell 3 rfl
        have y4 := HT9.out.cell 4 rfl
        have y5 := HT9.out.cell 5 rfl
        have y6 := HT9.out.cell 6 rfl
        have y7 := HT9.out.cell 7 rfl
        have y8 := HT9.out.cell 8 rfl
        have yf := HT9.out.frozen
        have yl := HT9.out.lt
        go_simp
        have z1 := put9 (a := .slice Ae N cape) (b := (.int .i64 x)) (c := (.int .i64 y)) (d := (.int .i64 p)) (e := (.int .i64 u)) (f := (.int .i64 v)) (h := (.int .i64 s)) (i := (.slice (some ⟨gA, 0, none⟩) M M)) (j := (.slice (some ⟨gQ, 0, none⟩) M M)) HT9.out
        have z2 := HA9.out.heap (heap9 _ gT (.slice Ae N cape) (.int .i64 x) (.int .i64 y) (.int .i64 p) (.int .i64 u) (.int .i64 v) (.int .i64 s) (.slice (some ⟨gA, 0, none⟩) M M) (.slice (some ⟨gQ, 0, none⟩) M M) (show gA ≠ gT by omega))
        have z3 := HQ9.out.heap (heap9 _ gT (.slice Ae N cape) (.int .i64 x) (.int .i64 y) (.int .i64 p) (.int .i64 u) (.int .i64 v) (.int .i64 s) (.slice (some ⟨gA, 0, none⟩) M M) (.slice (some ⟨gQ, 0, none⟩) M M) (show gQ ≠ gT by omega))
        have z4 := HG.out.heap (heap9 _ gT (.slice Ae N cape) (.int .i64 x) (.int .i64 y) (.int .i64 p) (.int .i64 u) (.int .i64 v) (.int .i64 s) (.slice (some ⟨gA, 0, none⟩) M M) (.slice (some ⟨gQ, 0, none⟩) M M) (show w.heap.size ≠ gT by omega))
        have z5 := below9 (a := .slice Ae N cape) (b := (.int .i64 x)) (c := (.int .i64 y)) (d := (.int .i64 p)) (e := (.int .i64 u)) (f := (.int .i64 v)) (h := (.int .i64 s)) (i := (.slice (some ⟨gA, 0, none⟩) M M)) (j := (.slice (some ⟨gQ, 0, none⟩) M M)) AB hPT
        unfold set9 at z1 z2 z3 z4 z5
        replace HT9 := Lib.hid z1
        replace HA9 := Lib.hid z2
        replace HQ9 := Lib.hid z3
        replace HG := Lib.hid z4
        have AB := z5
        clear z1 z2 z3 z4 z5 yf yl y0 y1 y2 y3 y4 y5 y6 y7 y8
        refine hK.out _ _ (⟨HG.out.cell 0 rfl, HG.out.cell 1 rfl, HG.out.cell 2 rfl, HG.out.cell 3 rfl, HG.out.cell 4 rfl, HG.out.cell 5 rfl⟩) (fun hHeld => ?_)
        clear hK K
        try simp only [List.getElem_toArray, List.getElem_cons_zero, List.getElem_cons_succ, Act.put, List.setIfInBounds_toArray, List.set_cons_zero, List.set_cons_succ]
        refine wpAnyH_done (by kernel_rfl) ?_ _
        go_wp2_with fail
        go_meet
        exact ⟨gT, gA, gQ, rfl, ⟨hPA, hPQ, hPT, by omega, by omega, by omega⟩, HT9, HA9, HQ9, Lib.hid AB⟩
      · try simp only [List.getElem_toArray, List.getElem_cons_zero, List.getElem_cons_succ]
        obtain ⟨gQ, wmQ, hP, hPQ, hr, hN, hAn, hKn⟩ := mkQ AB (Nat.le_refl _) hMb es P
        try have oAQ : gA < gQ := by rw [← hP]; exact HA9.out.lt
        try have oTQ : gT < gQ := by rw [← hP]; exact HT9.out.lt
        go_simp
        replace HG := Lib.hid (HG.out.keep hKn)
        try replace HA9 := Lib.hid (HA9.out.keep hKn)
        try replace HT9 := Lib.hid (HT9.out.keep hKn)
        have HQ9 := Lib.hid hN
        have AB := hAn
        clear hN hAn hKn hP
        clear hr
        refine hK.out _ _ (⟨HG.out.cell 0 rfl, HG.out.cell 1 rfl, HG.out.cell 2 rfl, HG.out.cell 3 rfl, HG.out.cell 4 rfl, HG.out.cell 5 rfl⟩) (fun hHeld => ?_)
        clear hK K
        try simp only [List.getElem_toArray, List.getElem_cons_zero, List.getElem_cons_succ, Act.put, List.setIfInBounds_toArray, List.set_cons_zero, List.set_cons_succ]
        refine wpAnyH_ready (rs := [3]) (by kernel_rfl) (by simp) ?_
        refine AllReadyH.cons rfl (fun K hK => ?_) AllReadyH.nil
        try simp only [List.getElem_toArray, List.getElem_cons_zero, List.getElem_cons_succ]
        obtain ⟨gA, wmA, hP, hPA, hr, hN, hAn, hKn⟩ := mkI AB (Nat.le_refl _) hMb
        try have oQA : gQ < gA := by rw [← hP]; exact HQ9.out.lt
        try have oTA : gT < gA := by rw [← hP]; exact HT9.out.lt
        go_simp
        replace HG := Lib.hid (HG.out.keep hKn)
        try replace HQ9 := Lib.hid (HQ9.out.keep hKn)
        try replace HT9 := Lib.hid (HT9.out.keep hKn)
        have HA9 := Lib.hid hN
        have AB := hAn
        clear hN hAn hKn hP
        clear hr
        refine hK.out _ _ (⟨HG.out.cell 0 rfl, HG.out.cell 1 rfl, HG.out.cell 2 rfl, HG.out.cell 3 rfl, HG.out.cell 4 rfl, HG.out.cell 5 rfl⟩) (fun hHeld => ?_)
        clear hK K
        try simp only [List.getElem_toArray, List.getElem_cons_zero, List.getElem_cons_succ, Act.put, List.setIfInBounds_toArray, List.set_cons_zero, List.set_cons_succ]
        refine wpAnyH_take (i := 6) (v := ?_) rfl (by kernel_rfl) (by kernel_rfl) (by kernel_rfl) (fun _ _ _ h => h) (Or.inl ⟨by rfl, ?_⟩) hHeld ?_
        rotate_left
        · intro w hSw
          (try dsimp only at hSw)
          (try simp only [List.getElem_toArray, List.getElem_cons_zero, List.getElem_cons_succ])
          go_simp
          all_goals with_reducible rfl
        try simp only [List.getElem_toArray, List.getElem_cons_zero, List.getElem_cons_succ, Act.put, List.setIfInBounds_toArray, List.set_cons_zero, List.set_cons_succ]
        refine wpAnyH_ready (rs := [8]) (by kernel_rfl) (by simp) ?_
        refine AllReadyH.cons rfl (fun K hK => ?_) AllReadyH.nil
        try simp only [List.getElem_toArray, List.getElem_cons_zero, List.getElem_cons_succ]
        have y0 := HT9.out.cell 0 rfl
        have y1 := HT9.out.cell 1 rfl
        have y2 := HT9.out.cell 2 rfl
        have y3 := HT9.out.cell 3 rfl
        have y4 := HT9.out.cell 4 rfl
        have y5 := HT9.out.cell 5 rfl
        have y6 := HT9.out.cell 6 rfl
        have y7 := HT9.out.cell 7 rfl
        have y8 := HT9.out.cell 8 rfl
        have yf := HT9.out.frozen
        have yl := HT9.out.lt
        go_simp
        have z1 := put9 (a := .slice Ae N cape) (b := (.int .i64 x)) (c := (.int .i64 y)) (d := (.int .i64 p)) (e := (.int .i64 u)) (f := (.int .i64 v)) (h := (.int .i64 s)) (i := (.slice (some ⟨gA, 0, none⟩) M M)) (j := (.slice (some ⟨gQ, 0, none⟩) M M)) HT9.out
        have z2 := HA9.out.heap (heap9 _ gT (.slice Ae N cape) (.int .i64 x) (.int .i64 y) (.int .i64 p) (.int .i64 u) (.int .i64 v) (.int .i64 s) (.slice (some ⟨gA, 0, none⟩) M M) (.slice (some ⟨gQ, 0, none⟩) M M) (show gA ≠ gT by omega))
        have z3 := HQ9.out.heap (heap9 _ gT (.slice Ae N cape) (.int .i64 x) (.int .i64 y) (.int .i64 p) (.int .i64 u) (.int .i64 v) (.int .i64 s) (.slice (some ⟨gA, 0, none⟩) M M) (.slice (some ⟨gQ, 0, none⟩) M M) (show gQ ≠ gT by omega))
        have z4 := HG.out.heap (heap9 _ gT (.slice Ae N cape) (.int .i64 x) (.int .i64 y) (.int .i64 p) (.int .i64 u) (.int .i64 v) (.int .i64 s) (.slice (some ⟨gA, 0, none⟩) M M) (.slice (some ⟨gQ, 0, none⟩) M M) (show w.heap.size ≠ gT by omega))
        have z5 := below9 (a := .slice Ae N cape) (b := (.int .i64 x)) (c := (.int .i64 y)) (d := (.int .i64 p)) (e := (.int .i64 u)) (f := (.int .i64 v)) (h := (.int .i64 s)) (i := (.slice (some ⟨gA, 0, none⟩) M M)) (j := (.slice (some ⟨gQ, 0, none⟩) M M)) AB hPT
        unfold set9 at z1 z2 z3 z4 z5
        replace HT9 := Lib.hid z1
        replace HA9 := Lib.hid z2
        replace HQ9 := Lib.hid z3
        replace HG := Lib.hid z4
        have AB := z5
        clear z1 z2 z3 z4 z5 yf yl y0 y1 y2 y3 y4 y5 y6 y7 y8
        refine hK.out _ _ (⟨HG.out.cell 0 rfl, HG.out.cell 1 rfl, HG.out.cell 2 rfl, HG.out.cell 3 rfl, HG.out.cell 4 rfl, HG.out.cell 5 rfl⟩) (fun hHeld => ?_)
        clear hK K
        try simp only [List.getElem_toArray, List.getElem_cons_zero, List.getElem_cons_succ, Act.put, List.setIfInBounds_toArray, List.set_cons_zero, List.set_cons_succ]
        refine wpAnyH_done (by kernel_rfl) ?_ _
        go_wp2_with fail
        go_meet
        exact ⟨gT, gA, gQ, rfl, ⟨hPA, hPQ, hPT, by omega, by omega, by omega⟩, HT9, HA9, HQ9, Lib.hid AB⟩

  case rest =>
    obtain ⟨gT, gA, gQ, rfl, hd, HT9, HA9, HQ9, HWC⟩ := hcut
    have HB9 := Lib.hid (below2 HB0.out HWC.out)
    have HR9 := Lib.hid (HR0.out.keep HWC.out)
    have HHd := Lib.hid hd
    have hw0 := HWC.out.size
    have hw1 : w.heap.size + 1 < w1.heap.size := HR0.out.lt
    have hd2 : w.heap.size + 1 < gA ∧ w.heap.size + 1 < gQ ∧ w.heap.size + 1 < gT := by omega
    have hd3 : gA ≠ gQ ∧ gT ≠ gA ∧ gT ≠ gQ := by omega
    have t7 := HT9.out.cell 7 rfl
    have tl := HT9.out.lt
    clear HG HWC HB0 HR0 hd HHd hw0 hw1
    go_wp2_with fail
    go_loopw [23] (fun i wr => ∃ r : Nat, r ≤ M ∧ i = .int .i64 r ∧ Hid (NRw wr gA M (ivals (List.replicate r (-1) ++ List.replicate (M - r) 0))) ∧ Hid (But (fun g => g = gA) wc wr)) (fun i _ => M - (intOf i).toNat)
    case atStart => exact ⟨0, Nat.zero_le _, rfl, HA9, Lib.hid (But.of (Below.refl _ _))⟩
    case round =>
      obtain ⟨r, hr, rfl, HAr, HWr⟩ := hrel
      have HTr := Lib.hid (HT9.out.but HWr.out hd3.2.1)
      clear t7 tl
      by_cases hrn : r < M
      · have hrb : decide ((r : Int) < M) = true := by simp; omega
        have t7 := HTr.out.cell 7 rfl
        have tl := HTr.out.lt
        have hfr := (HAr.out.cell r hrn).2
        obtain ⟨ov, hov⟩ := (HAr.out.cell r hrn).1
        have hal := HAr.out.lt
        have HA2 := HAr.out.store r (.int .i64 (-1))
        rw [ivals_set, fill_set r M _ _ hrn] at HA2
        have HA3 := Lib.hid HA2
        have HW3 := Lib.hid (HWr.out.set ⟨gA, r, none⟩ rfl (.int .i64 (-1)))
        clear HA2
        go_wp2_with fail
        exact ⟨⟨r + 1, hrn, by go_num, HA3, HW3⟩, by simp [intOf]; omega⟩
      · obtain rfl : r = M := by omega
        have hrb : decide ((r : Int) < r) = false := by simp
        have HRr := Lib.hid (HR9.out.but HWr.out (show ¬ w.heap.size + 1 = gA by omega))
        have HQr := Lib.hid (HQ9.out.heap (HWr.out.block gQ HQ9.out.lt (Ne.symm hd3.1)))
        have HBr := Lib.hid (HB9.out.trans (HWr.out.below (B := w.heap.size) (fun k hk => by omega) HB9.out.size))
        rw [Nat.sub_self, List.replicate_zero, List.append_nil] at HAr
        have t0 := HTr.out.cell 0 rfl
        have y0 := HRr.out.cell 0 rfl
        have t1 := HTr.out.cell 1 rfl
        have y1 := HRr.out.cell 1 rfl
        have t2 := HTr.out.cell 2 rfl
        have y2 := HRr.out.cell 2 rfl
        have t3 := HTr.out.cell 3 rfl
        have y3 := HRr.out.cell 3 rfl
        have t4 := HTr.out.cell 4 rfl
        have y4 := HRr.out.cell 4 rfl
        have t5 := HTr.out.cell 5 rfl
        have y5 := HRr.out.cell 5 rfl
        have t6 := HTr.out.cell 6 rfl
        have y6 := HRr.out.cell 6 rfl
        have t7 := HTr.out.cell 7 rfl
        have y7 := HRr.out.cell 7 rfl
        have t8 := HTr.out.cell 8 rfl
        have y8 := HRr.out.cell 8 rfl
        have tl := HTr.out.lt
        have yf := HRr.out.frozen
        have yl := HRr.out.lt
        have z1 := put9 (a := .slice Ae N cape) (b := (.int .i64 x)) (c := (.int .i64 y)) (d := (.int .i64 p)) (e := (.int .i64 u)) (f := (.int .i64 v)) (h := (.int .i64 s)) (i := (.slice (some ⟨gA, 0, none⟩) r r)) (j := (.slice (some ⟨gQ, 0, none⟩) r r)) HRr.out
        have z2 := HAr.out.heap (heap9 _ (w.heap.size + 1) (.slice Ae N cape) (.int .i64 x) (.int .i64 y) (.int .i64 p) (.int .i64 u) (.int .i64 v) (.int .i64 s) (.slice (some ⟨gA, 0, none⟩) r r) (.slice (some ⟨gQ, 0, none⟩) r r) (show gA ≠ w.heap.size + 1 by omega))
        have z3 := HQr.out.heap (heap9 _ (w.heap.size + 1) (.slice Ae N cape) (.int .i64 x) (.int .i64 y) (.int .i64 p) (.int .i64 u) (.int .i64 v) (.int .i64 s) (.slice (some ⟨gA, 0, none⟩) r r) (.slice (some ⟨gQ, 0, none⟩) r r) (show gQ ≠ w.heap.size + 1 by omega))
        have z5 := below9 (a := .slice Ae N cape) (b := (.int .i64 x)) (c := (.int .i64 y)) (d := (.int .i64 p)) (e := (.int .i64 u)) (f := (.int .i64 v)) (h := (.int .i64 s)) (i := (.slice (some ⟨gA, 0, none⟩) r r)) (j := (.slice (some ⟨gQ, 0, none⟩) r r)) HBr.out (show w.heap.size ≤ w.heap.size + 1 by omega)
        unfold set9 at z1 z2 z3 z5
        have Z1 := Lib.hid z1
        have Z2 := Lib.hid z2
        have Z3 := Lib.hid z3
        have Z5 := Lib.hid z5
        clear z1 z2 z3 z5 HTr HRr HAr HQr HBr HWr
        go_wp2_with fail
        have q0 := Z1.out.cell 0 rfl
        have q1 := Z1.out.cell 1 rfl
        have q2 := Z1.out.cell 2 rfl
        have q3 := Z1.out.cell 3 rfl
        have q4 := Z1.out.cell 4 rfl
        have q5 := Z1.out.cell 5 rfl
        have q6 := Z1.out.cell 6 rfl
        have q7 := Z1.out.cell 7 rfl
        have q8 := Z1.out.cell 8 rfl
        refine bodyPost_ret (v := .agg #[.slice Ae N cape, .int .i64 x, .int .i64 y, .int .i64 p, .int .i64 u, .int .i64 v, .int .i64 s, .slice (some ⟨gA, 0, none⟩) r r, .slice (some ⟨gQ, 0, none⟩) r r]) (by simp [results, Try.results29, go_sem, q0, q1, q2, q3, q4, q5, q6, q7, q8]) rfl ?_
        exact ⟨gA, gQ, rfl, ⟨by omega, by omega, hd3.1⟩, Z2.out, Z3.out, Z5.out⟩


end Go.Proofs.Yteiildeaccngjaa
