/-
  What the program's greatest and Steps of layer 14 do to any world: contracts (no claim is made here).
-/
import Derived.Test.YtklajpadnbeplaaSkyPa
namespace Go.Proofs.Ytklajpadnbeplaa
open Go.RowKit

theorem over_one (l : List Nat) (x : Nat) : overL l x 1 = hgt l x := by unfold overL overL; simp
set_option maxRecDepth 100000 in
set_option maxHeartbeats 1600000 in
theorem pmax14_any (g X W c n : Nat) (l : List Nat) (w : World) (h : HRw w g n l) (hW : 1 ≤ W) (hX : X + W ≤ n) (hn : n ≤ 64) : Calls Try.prog 26 #[.slice (some ⟨g, X, none⟩) W c] w fun e w' => e = .returned (.int .i64 (overL l X W : Nat)) ∧ w = w' := by
  have HG := Lib.hid h
  have c0 := (h.cell X (by omega)).1
  have h1 : decide ((W : Int) < 1) = false := by simp; omega
  have h2 : decide ((0 : Int) < W) = true := by simp; omega
  have HO := Lib.hid (over_one l X)
  generalize hgt l X = y0 at *
  go_enter Try.func26, Try.ntmps26
  go_wp2_with fail
  go_loopw [4, 3] (fun i o wr => ∃ r : Nat, 1 ≤ r ∧ r ≤ W ∧ i = .int .i64 r ∧ o = .int .i64 (overL l X r : Nat) ∧ wr = w) (fun i _ _ => W - (intOf i).toNat)
  case atStart => exact ⟨1, Nat.le_refl _, hW, rfl, by rw [HO.out], rfl⟩
  case round =>
    obtain ⟨r, hr1, hr, rfl, rfl, hw⟩ := hrel
    subst hw
    by_cases hrn : r < W
    · have hrb : decide ((r : Int) < W) = true := by simp; omega
      have cx := (HG.out.cell (X + r) (by omega)).1
      have hst : overL l X (r + 1) = max (overL l X r) (hgt l (X + r)) := rfl
      have HST := Lib.hid hst
      have hm := fun w => run_max2i (P := Try.prog) #[3, 3] 3 (overL l X r : Nat) (hgt l (X + r) : Nat) w
      clear hst
      generalize overL l X r = o at *
      generalize hgt l (X + r) = y at *
      go_wp2_with fail
      exact ⟨⟨r + 1, by omega, hrn, by go_num, by rw [HST.out]; congr 1; omega, trivial⟩, by simp [intOf]; omega⟩
    · have hrb : decide ((r : Int) < W) = false := by simp; omega
      obtain rfl : r = W := by omega
      go_wp2_with fail
      go_ret
      exact ⟨rfl, rfl⟩

set_option maxRecDepth 100000 in
set_option maxHeartbeats 1600000 in
theorem pgreatest_any (ks : Nat → Prop) (v : Value) (l : List Nat) (H X W : Nat) (Y G : Int) (w : World) (h : Rsky w ks v l H) (hW : 1 ≤ W) (hX : X + W ≤ l.length) : Calls Try.prog 22 #[v, rcV (X, Y, W, G)] w fun e w' => e = .returned (.int .i64 (overL l X W : Nat)) ∧ Below w.heap.size w w' := by
  obtain ⟨p, g, rfl, hne, hk, hP, hG, h1, h2, h3⟩ := h
  have hal := (Below.refl _ w).alloc (Nat.le_refl _) (.cells #[.int .i64 X, .int .i64 Y, .int .i64 W, .int .i64 G] 31)
  have pl := hP.lt
  have hP1 := Lib.hid (hP.keep hal)
  have hG1 := Lib.hid (hG.keep hal)
  have hR1 := Lib.hid (Blk.new w 31 [.int .i64 X, .int .i64 Y, .int .i64 W, .int .i64 G] rfl)
  have HB := Lib.hid hal
  have HM := Lib.hid (fun c w h => pmax14_any g X W c l.length l w h hW hX h1)
  obtain ⟨n, hn⟩ : ∃ n, l.length = n := ⟨_, rfl⟩
  rw [hn] at h1 hX hP1 hG1 HM
  clear hP hG h3 hk hn hal pl
  obtain ⟨E, hE⟩ : ∃ E, X + W = E := ⟨_, rfl⟩
  have hsum : IntKind.i64.wrap ((X : Int) + W) = (E : Int) := by rw [← hE, Int.natCast_add]; exact wI (by omega) (by omega)
  have hEn : E ≤ n := by omega
  have hXE : X ≤ E := by omega
  have hnX : ¬ (n = X) := by omega
  have hEX : E - X = W := by omega
  clear hE hX
  go_enter Try.func22, Try.ntmps22
  go_wp2_with fail
  generalize w.alloc (.cells #[.int .i64 X, .int .i64 Y, .int .i64 W, .int .i64 G] 31) = w1 at *
  have HP := Lib.hid (hP1.out.drew)
  have HR := Lib.hid (hR1.out.drew)
  have HH : Hid (HRw w1.drew g n l) := Lib.hid hG1.out
  have AB := HB.out.drew
  clear hP1 hR1 HB hG1
  refine wp_region_held_drew (S := fun wx => wx.cell? ⟨w.heap.size, 0, none⟩ = some (.int .i64 X) ∧ wx.cell? ⟨w.heap.size, 2, none⟩ = some (.int .i64 W) ∧ wx.cell? ⟨p, 0, none⟩ = some (.slice (some ⟨g, 0, none⟩) n n)) (by kernel_rfl) (⟨HR.out.cell 0 rfl, HR.out.cell 2 rfl, HP.out.cell 0 rfl⟩) (fun hHeld => ?_)
  refine wpAnyH_take (i := 0) (v := ?_) rfl (by kernel_rfl) (by kernel_rfl) (by kernel_rfl) (fun _ _ _ h => h) (Or.inl ⟨by rfl, ?_⟩) hHeld ?_
  rotate_left
  · intro w hSw
    (try dsimp only at hSw)
    (try simp only [List.getElem_toArray, List.getElem_cons_zero])
    go_simp
    all_goals with_reducible rfl
  try simp only [List.getElem_toArray, List.getElem_cons_zero, Act.put, List.setIfInBounds_toArray, List.set_cons_zero, List.set_cons_succ]
  refine wpAnyH_take (i := 1) (v := ?_) rfl (by kernel_rfl) (by kernel_rfl) (by kernel_rfl) (fun _ _ _ h => h) (Or.inl ⟨by rfl, ?_⟩) hHeld ?_
  rotate_left
  · intro w hSw
    (try dsimp only at hSw)
    (try simp only [List.getElem_toArray, List.getElem_cons_zero, List.getElem_cons_succ])
    go_simp
    all_goals with_reducible rfl
  try simp only [List.getElem_toArray, List.getElem_cons_zero, List.getElem_cons_succ, Act.put, List.setIfInBounds_toArray, List.set_cons_zero, List.set_cons_succ]
  refine wpAnyH_take (i := 2) (v := ?_) rfl (by kernel_rfl) (by kernel_rfl) (by kernel_rfl) (fun _ _ _ h => h) (Or.inl ⟨by rfl, ?_⟩) hHeld ?_
  rotate_left
  · intro w hSw
    (try dsimp only at hSw)
    (try simp only [List.getElem_toArray, List.getElem_cons_zero, List.getElem_cons_succ])
    go_simp
    all_goals with_reducible rfl
  try simp only [List.getElem_toArray, List.getElem_cons_zero, List.getElem_cons_succ, Act.put, List.setIfInBounds_toArray, List.set_cons_zero, List.set_cons_succ]
  refine wpAnyH_take (i := 3) (v := ?_) rfl (by kernel_rfl) (by kernel_rfl) (by kernel_rfl) (fun _ _ _ h => h) (Or.inl ⟨by rfl, ?_⟩) hHeld ?_
  rotate_left
  · intro w hSw
    (try dsimp only at hSw)
    (try simp only [List.getElem_toArray, List.getElem_cons_zero, List.getElem_cons_succ])
    go_simp
    all_goals with_reducible rfl
  try simp only [List.getElem_toArray, List.getElem_cons_zero, List.getElem_cons_succ, Act.put, List.setIfInBounds_toArray, List.set_cons_zero, List.set_cons_succ]
  refine wpAnyH_take (i := 4) (v := ?_) rfl (by kernel_rfl) (by kernel_rfl) (by kernel_rfl) (fun _ _ _ h => h) (Or.inl ⟨by rfl, ?_⟩) hHeld ?_
  rotate_left
  · intro w hSw
    (try dsimp only at hSw)
    (try simp only [List.getElem_toArray, List.getElem_cons_zero, List.getElem_cons_succ])
    go_simp
    all_goals with_reducible rfl
  try simp only [List.getElem_toArray, List.getElem_cons_zero, List.getElem_cons_succ, Act.put, List.setIfInBounds_toArray, List.set_cons_zero, List.set_cons_succ]
  refine wpAnyH_take (i := 5) (v := ?_) rfl (by kernel_rfl) (by kernel_rfl) (by kernel_rfl) (fun _ _ _ h => h) (Or.inl ⟨by rfl, ?_⟩) hHeld ?_
  rotate_left
  · intro w hSw
    (try dsimp only at hSw)
    (try simp only [List.getElem_toArray, List.getElem_cons_zero, List.getElem_cons_succ])
    go_simp
    all_goals with_reducible rfl
  try simp only [List.getElem_toArray, List.getElem_cons_zero, List.getElem_cons_succ, Act.put, List.setIfInBounds_toArray, List.set_cons_zero, List.set_cons_succ]
  refine wpAnyH_take (i := 6) (v := ?_) rfl (by kernel_rfl) (by kernel_rfl) (by kernel_rfl) (fun _ _ _ h => h) (Or.inl ⟨by rfl, ?_⟩) hHeld ?_
  rotate_left
  · intro w hSw
    (try dsimp only at hSw)
    (try simp only [List.getElem_toArray, List.getElem_cons_zero, List.getElem_cons_succ])
    go_simp
    all_goals with_reducible rfl
  try simp only [List.getElem_toArray, List.getElem_cons_zero, List.getElem_cons_succ, Act.put, List.setIfInBounds_toArray, List.set_cons_zero, List.set_cons_succ]
  refine wpAnyH_take (i := 7) (v := ?_) rfl (by kernel_rfl) (by kernel_rfl) (by kernel_rfl) (fun _ _ _ h => h) (Or.inl ⟨by rfl, ?_⟩) hHeld ?_
  rotate_left
  · intro w hSw
    (try dsimp only at hSw)
    (try simp only [List.getElem_toArray, List.getElem_cons_zero, List.getElem_cons_succ])
    go_simp
    all_goals with_reducible rfl
  try simp only [List.getElem_toArray, List.getElem_cons_zero, List.getElem_cons_succ, Act.put, List.setIfInBounds_toArray, List.set_cons_zero, List.set_cons_succ]
  refine wpAnyH_take (i := 8) (v := ?_) rfl (by kernel_rfl) (by kernel_rfl) (by kernel_rfl) (fun _ _ _ h => h) (Or.inl ⟨by rfl, ?_⟩) hHeld ?_
  rotate_left
  · intro w hSw
    (try dsimp only at hSw)
    (try simp only [List.getElem_toArray, List.getElem_cons_zero, List.getElem_cons_succ])
    go_simp
    all_goals with_reducible rfl
  try simp only [List.getElem_toArray, List.getElem_cons_zero, List.getElem_cons_succ, Act.put, List.setIfInBounds_toArray, List.set_cons_zero, List.set_cons_succ]
  refine wpAnyH_take (i := 9) (v := ?_) rfl (by kernel_rfl) (by kernel_rfl) (by kernel_rfl) (fun _ _ _ h => h) (Or.inl ⟨by rfl, ?_⟩) hHeld ?_
  rotate_left
  · intro w hSw
    (try dsimp only at hSw)
    (try simp only [List.getElem_toArray, List.getElem_cons_zero, List.getElem_cons_succ])
    go_simp
    all_goals with_reducible rfl
  try simp only [List.getElem_toArray, List.getElem_cons_zero, List.getElem_cons_succ, Act.put, List.setIfInBounds_toArray, List.set_cons_zero, List.set_cons_succ]
  refine wpAnyH_take (i := 10) (v := ?_) rfl (by kernel_rfl) (by kernel_rfl) (by kernel_rfl) (fun _ _ _ h => h) (Or.inl ⟨by rfl, ?_⟩) hHeld ?_
  rotate_left
  · intro w hSw
    (try dsimp only at hSw)
    (try simp only [List.getElem_toArray, List.getElem_cons_zero, List.getElem_cons_succ])
    go_simp
    all_goals with_reducible rfl
  try simp only [List.getElem_toArray, List.getElem_cons_zero, List.getElem_cons_succ, Act.put, List.setIfInBounds_toArray, List.set_cons_zero, List.set_cons_succ]
  refine wpAnyH_take (i := 11) (v := ?_) rfl (by kernel_rfl) (by kernel_rfl) (by kernel_rfl) (fun _ _ _ h => h) (Or.inl ⟨by rfl, ?_⟩) hHeld ?_
  rotate_left
  · intro w hSw
    (try dsimp only at hSw)
    (try simp only [List.getElem_toArray, List.getElem_cons_zero, List.getElem_cons_succ])
    go_simp
    all_goals with_reducible rfl
  try simp only [List.getElem_toArray, List.getElem_cons_zero, List.getElem_cons_succ, Act.put, List.setIfInBounds_toArray, List.set_cons_zero, List.set_cons_succ]
  refine wpAnyH_ready (rs := [12]) (by kernel_rfl) (by simp) ?_
  refine AllReadyH.cons rfl (fun K hK => ?_) AllReadyH.nil
  try simp only [List.getElem_toArray, List.getElem_cons_zero, List.getElem_cons_succ]
  go_simp
  refine (HM.out _ _ HH.out).mono ?_
  rintro e wn ⟨rfl, rfl⟩
  go_wp2_with fail
  refine hK.out _ _ (⟨HR.out.cell 0 rfl, HR.out.cell 2 rfl, HP.out.cell 0 rfl⟩) (fun hHeld => ?_)
  clear hK K
  try simp only [List.getElem_toArray, List.getElem_cons_zero, List.getElem_cons_succ, Act.put, List.setIfInBounds_toArray, List.set_cons_zero, List.set_cons_succ]
  refine wpAnyH_take (i := 13) (v := ?_) rfl (by kernel_rfl) (by kernel_rfl) (by kernel_rfl) (fun _ _ _ h => h) (Or.inl ⟨by rfl, ?_⟩) hHeld ?_
  rotate_left
  · intro w hSw
    (try dsimp only at hSw)
    (try simp only [List.getElem_toArray, List.getElem_cons_zero, List.getElem_cons_succ])
    go_simp
    all_goals with_reducible rfl
  try simp only [List.getElem_toArray, List.getElem_cons_zero, List.getElem_cons_succ, Act.put, List.setIfInBounds_toArray, List.set_cons_zero, List.set_cons_succ]
  refine wpAnyH_done (by kernel_rfl) ?_ _
  go_wp2_with fail
  go_ret
  exact ⟨rfl, AB⟩

set_option maxRecDepth 100000 in
set_option maxHeartbeats 1600000 in
theorem psteps14_any (ks : Nat → Prop) (v : Value) (l : List Nat) (H : Nat) (w : World) (h : Rsky w ks v l H) : Calls Try.prog 18 #[v] w fun e w' => ∃ V, e = .returned V ∧ PRow w' w.heap.size V (stepsL l) ∧ Below w.heap.size w w' := by
  obtain ⟨p, g, rfl, hne, hk, hP, hG, h1, h2, h3⟩ := h
  have pl := hP.lt
  have HP := Lib.hid hP
  have HG := Lib.hid hG
  have q0 := hP.cell 0 rfl
  clear hP hG hk h3
  obtain ⟨N, hN⟩ : ∃ N, l.length = N := ⟨_, rfl⟩
  have HN := Lib.hid hN
  rw [hN] at HG h1 HP q0
  clear hN
  obtain ⟨i0, hi0, hz0, hz1, hz2⟩ := infos pr2info
  go_enter Try.func18, Try.ntmps18
  go_wp2_with fail
  have HST0 := Lib.hid (show stepsTo l 0 = [] from rfl)
  go_loopw [11, 3] (fun i o wr => ∃ r : Nat, r ≤ N ∧ i = .int .i64 r ∧ Hid (PRow wr w.heap.size o (stepsTo l r)) ∧ Hid (Below w.heap.size w wr)) (fun i _ _ => N - (intOf i).toNat)
  case atStart => exact ⟨0, Nat.zero_le _, rfl, Lib.hid (PRow.nil _ _), Lib.hid (Below.refl _ _)⟩
  case round =>
    obtain ⟨r, hr, rfl, HO, HB⟩ := hrel
    by_cases hrn : r < N
    · have hrb : decide ((r : Int) < N) = true := by simp; omega
      have a0 := ((HG.out.keep HB.out).cell r hrn).1
      have q1 := (HP.out.keep HB.out).cell 0 rfl
      have ql := (HP.out.keep HB.out).lt
      have hlen := stepsTo_len l r
      obtain ⟨K, hK⟩ : ∃ K, (stepsTo l r).length = K := ⟨_, rfl⟩
      rw [hK] at hlen
      have hnx : stepsTo l (r + 1) = if isStep l r = true then stepsTo l r ++ [(r, hgt l r)] else stepsTo l r := rfl
      have HOwn := Lib.hid (HO.out.own hK)
      have HLK := Lib.hid hK
      obtain ⟨Ao, co, e⟩ := HO.out.form
      rw [hK] at e
      subst e
      clear hK
      by_cases hr0 : r = 0
      · subst hr0
        have HNX : Hid (stepsTo l (0 + 1) = stepsTo l 0 ++ [(0, hgt l 0)]) := Lib.hid (by rw [hnx, if_pos (show isStep l 0 = true from rfl)])
        generalize hgt l 0 = y at *
        clear hnx
        have HNB := Lib.hid (heap_alloc_new wr (.cells #[.int .i64 0, .int .i64 (y : Int)] 44))
        have hsz := HB.out.size
        go_wp2_with (at_builtin; refine wpList_append_lies _ rfl _ _ _ (by rfl) w.heap.size 44 i0 _ 2 16 Try.underlying42 hi0 hz0 hz1 hz2 (by rfl) (by omega) _ K _ (by rfl) (HOwn.out.alloc _) ⟨wr.heap.size, 0, none⟩ 1 1 [.int .i64 0, .int .i64 (y : Int)] (by rfl) (by rfl) (World.news_of_block HNB.out) (by simp [Value.oneCell']) (by omega) (by simp [maxLen]; omega) (by omega) (by simp; omega) (wr.heap.size + 1) (by simp) ?_; intro g cp w4 hown hgrow hat hlt)
        refine ⟨⟨0 + 1, hrn, by go_num, Lib.hid ?_, Lib.hid ((HB.out.alloc hsz _).grown hgrow (by simp; omega) (fun q hq => (HO.out.lt q hq).1))⟩, by simp [intOf]; omega⟩
        rw [HNX.out]
        unfold PRow
        rw [List.length_append, HLK.out, pr2s_push]
        exact hown
      · obtain ⟨q, hrq⟩ : ∃ q, q + 1 = r := ⟨r - 1, by omega⟩
        have aq := ((HG.out.keep HB.out).cell q (by omega)).1
        have hq1 : IntKind.i64.wrap ((r : Int) - 1) = (q : Int) := by rw [← hrq]; exact (wI (by omega) (by omega)).trans (by omega)
        have hq2 : (r : Int) - 1 = (q : Int) := by omega
        have hrz : ((r : Int) == 0) = false := by simp; omega
        have hqn : decide ((q : Int) < N) = true := by simp; omega
        have his : isStep l r = decide (hgt l q ≠ hgt l r) := by unfold isStep; rw [show r - 1 = q by omega]; simp [hr0]
        rw [his] at hnx
        by_cases hne2 : hgt l q = hgt l r
        · have HNX : Hid (stepsTo l (r + 1) = stepsTo l r) := Lib.hid (by rw [hnx, if_neg (by simp [hne2])])
          have hb : ((hgt l r : Int) != (hgt l q : Int)) = false := by simp [hne2]
          generalize hgt l r = y at *
          generalize hgt l q = yq at *
          clear hnx his hne2 hrq
          go_wp2_with fail
          exact ⟨⟨r + 1, hrn, by go_num, Lib.hid (by rw [HNX.out]; exact HO.out), HB⟩, by simp [intOf]; omega⟩
        · have HNX : Hid (stepsTo l (r + 1) = stepsTo l r ++ [(r, hgt l r)]) := Lib.hid (by rw [hnx, if_pos (by simp [hne2])])
          have hb : ((hgt l r : Int) != (hgt l q : Int)) = true := by simp; omega
          generalize hgt l r = y at *
          generalize hgt l q = yq at *
          clear hnx his hne2 hrq
          have HNB := Lib.hid (heap_alloc_new wr (.cells #[.int .i64 (r : Int), .int .i64 (y : Int)] 44))
          have hsz := HB.out.size
          go_wp2_with (at_builtin; refine wpList_append_lies _ rfl _ _ _ (by rfl) w.heap.size 44 i0 _ 2 16 Try.underlying42 hi0 hz0 hz1 hz2 (by rfl) (by omega) _ K _ (by rfl) (HOwn.out.alloc _) ⟨wr.heap.size, 0, none⟩ 1 1 [.int .i64 (r : Int), .int .i64 (y : Int)] (by rfl) (by rfl) (World.news_of_block HNB.out) (by simp [Value.oneCell']) (by omega) (by simp [maxLen]; omega) (by omega) (by simp; omega) (wr.heap.size + 1) (by simp) ?_; intro g cp w4 hown hgrow hat hlt)
          refine ⟨⟨r + 1, hrn, by go_num, Lib.hid ?_, Lib.hid ((HB.out.alloc hsz _).grown hgrow (by simp; omega) (fun q hq => (HO.out.lt q hq).1))⟩, by simp [intOf]; omega⟩
          rw [HNX.out]
          unfold PRow
          rw [List.length_append, HLK.out, pr2s_push]
          exact hown
    · obtain rfl : r = N := by omega
      have HO2 : Hid (PRow wr w.heap.size u3 (stepsL l)) := Lib.hid (by unfold stepsL; rw [HN.out]; exact HO.out)
      go_wp2_with fail
      go_ret
      exact ⟨_, rfl, HO2.out, HB.out⟩

end Go.Proofs.Ytklajpadnbeplaa
