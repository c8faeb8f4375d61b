/-
  The walk of punchcutlaw09.GridCheck (no claim is made here).
-/
import Derived.Test.YtaadponhmnaccaaAwake9
import Derived.Test.YtaadponhmnaccaaGrd4
namespace Go.Proofs.Ytaadponhmnaccaa
open Go.RowKit

set_option maxRecDepth 100000 in
set_option maxHeartbeats 3200000 in
theorem gridCheck_walk (a0 a1 a2 a3 a4 a5 s0 s1 s2 s3 s4 s5 t n : Int) (w : World) (_ : (Lit.int .i64 a0).wf = true ∧ (Lit.int .i64 a1).wf = true ∧ (Lit.int .i64 a2).wf = true ∧ (Lit.int .i64 a3).wf = true ∧ (Lit.int .i64 a4).wf = true ∧ (Lit.int .i64 a5).wf = true) (hs : (0 ≤ s0 ∧ s0 ≤ 255) ∧ (0 ≤ s1 ∧ s1 ≤ 255) ∧ (0 ≤ s2 ∧ s2 ≤ 255) ∧ (0 ≤ s3 ∧ s3 ≤ 255) ∧ (0 ≤ s4 ∧ s4 ≤ 255) ∧ (0 ≤ s5 ∧ s5 ≤ 255)) (ht : 0 ≤ t ∧ t ≤ 255) (_ : -9223372036854775808 ≤ n ∧ n ≤ 9223372036854775807) :
    Calls Try.prog 3 #[.agg #[.int .i64 a0, .int .i64 a1, .int .i64 a2, .int .i64 a3, .int .i64 a4, .int .i64 a5], .agg #[.int .u8 s0, .int .u8 s1, .int .u8 s2, .int .u8 s3, .int .u8 s4, .int .u8 s5], .int .u8 t, .int .i64 n] w fun e w' => e = .returned (.bool true) ∧ Below w.heap.size w w' := by
  obtain ⟨h0, h1, h2, h3, h4, h5⟩ := hs
  have HS := Lib.hid (fun w => sgrid_any s0 s1 s2 s3 s4 s5 h0 h1 h2 h3 h4 h5 w)
  have hB0 := alloc2 w (.cells #[.int .i64 a0, .int .i64 a1, .int .i64 a2, .int .i64 a3, .int .i64 a4, .int .i64 a5] 23) (.cells #[.int .u8 s0, .int .u8 s1, .int .u8 s2, .int .u8 s3, .int .u8 s4, .int .u8 s5] 25)
  have hG0 := (Blk.new w 23 [.int .i64 a0, .int .i64 a1, .int .i64 a2, .int .i64 a3, .int .i64 a4, .int .i64 a5] rfl).alloc (.cells #[.int .u8 s0, .int .u8 s1, .int .u8 s2, .int .u8 s3, .int .u8 s4, .int .u8 s5] 25)
  have hK0 := Blk.new (w.alloc (.cells #[.int .i64 a0, .int .i64 a1, .int .i64 a2, .int .i64 a3, .int .i64 a4, .int .i64 a5] 23)) 25 [.int .u8 s0, .int .u8 s1, .int .u8 s2, .int .u8 s3, .int .u8 s4, .int .u8 s5] (g := w.heap.size + 1) (by simp)
  have HB0 := Lib.hid hB0
  have HK0 := Lib.hid hK0
  have HG0 := Lib.hid hG0
  have hck : checkG (s0 - 128) (s1 - 128) (1 + s2 % 16) (1 + s3 % 10) (1 + s4 % 10) (1 + s5 % 64) = 0 := by unfold checkG; rw [if_neg (by omega), if_neg (by omega)]
  clear h0 h1 h2 h3 h4 h5 hB0 hK0 hG0
  generalize s0 - 128 = x at *
  generalize s1 - 128 = y at *
  generalize 1 + s2 % 16 = p at *
  generalize 1 + s3 % 10 = u at *
  generalize 1 + s4 % 10 = v at *
  generalize 1 + s5 % 64 = s at *
  have HC0 := Lib.hid (fun w => gcheck_any x y p u v s w)
  rw [hck] at HC0
  have HCG := Lib.hid (fun w => gcheck_any a0 a1 a2 a3 a4 a5 w)
  have HLG := Lib.hid (fun w => lcheck_any a0 a1 a2 a3 a4 a5 w)
  generalize checkG a0 a1 a2 a3 a4 a5 = R at *
  have ht6 : t % 6 = 0 ∨ t % 6 = 1 ∨ t % 6 = 2 ∨ t % 6 = 3 ∨ t % 6 = 4 ∨ t % 6 = 5 := by omega
  clear hck
  go_enter Try.func3, Try.ntmps3
  go_wp2_with fail
  refine (awake9 _).mono ?_
  rintro e w1 ⟨rfl, hb⟩
  have HB1 := Lib.hid (HB0.out.trans (hb.mono HB0.out.size))
  have HK1 := Lib.hid (HK0.out.keep hb)
  have HG1 := Lib.hid (HG0.out.keep hb)
  clear hb HB0 HK0 HG0
  have k0 := HK1.out.cell 0 rfl
  have k1 := HK1.out.cell 1 rfl
  have k2 := HK1.out.cell 2 rfl
  have k3 := HK1.out.cell 3 rfl
  have k4 := HK1.out.cell 4 rfl
  have k5 := HK1.out.cell 5 rfl
  have kl := HK1.out.lt
  go_wp2_with fail
  refine (HS.out _).mono ?_
  rintro e w2 ⟨rfl, hb⟩
  have HB2 := Lib.hid ((HB1.out.trans (hb.mono HB1.out.size)).alloc (Nat.le_trans HB1.out.size hb.size) (.cells #[.int .i64 x, .int .i64 y, .int .i64 p, .int .i64 u, .int .i64 v, .int .i64 s] 23))
  have HG2 := Lib.hid ((HG1.out.keep hb).alloc (.cells #[.int .i64 x, .int .i64 y, .int .i64 p, .int .i64 u, .int .i64 v, .int .i64 s] 23))
  have HX2 := Lib.hid (Blk.new w2 23 [.int .i64 x, .int .i64 y, .int .i64 p, .int .i64 u, .int .i64 v, .int .i64 s] rfl)
  have hXg : w.heap.size < w2.heap.size := Nat.lt_of_lt_of_le HG1.out.lt hb.size
  have hXw : w.heap.size ≤ w2.heap.size := by omega
  clear hb HB1 HK1 HG1 HS k0 k1 k2 k3 k4 k5 kl
  go_wp2_with fail
  generalize hX : w2.heap.size = X at *
  generalize hW : w2.alloc (.cells #[.int .i64 x, .int .i64 y, .int .i64 p, .int .i64 u, .int .i64 v, .int .i64 s] 23) = w3 at *
  clear hX hW
  refine (HC0.out _).mono ?_
  rintro e w4 ⟨rfl, hb⟩
  have HB4 := Lib.hid (HB2.out.trans (hb.mono HB2.out.size))
  have HG4 := Lib.hid (HG2.out.keep hb)
  have HX4 := Lib.hid (HX2.out.keep hb)
  clear hb HB2 HG2 HX2 HC0
  have x0 := HX4.out.cell 0 rfl
  have x1 := HX4.out.cell 1 rfl
  have x2 := HX4.out.cell 2 rfl
  have x3 := HX4.out.cell 3 rfl
  have x4 := HX4.out.cell 4 rfl
  have x5 := HX4.out.cell 5 rfl
  have xf := HX4.out.frozen
  have xl := HX4.out.lt
  rcases ht6 with hq | hq | hq | hq | hq | hq
  · go_wp2_with fail
    have HX5 := Lib.hid ((HX4.out.set 0 (.int .i64 n)).alloc (.cells #[.pointer (some ⟨X, 0, none⟩), .pointer (some ⟨X, 1, none⟩), .pointer (some ⟨X, 2, none⟩), .pointer (some ⟨X, 3, none⟩), .pointer (some ⟨X, 4, none⟩), .pointer (some ⟨X, 5, none⟩)] 30))
    have HG5 := Lib.hid ((HG4.out.other (k := X) 0 (.int .i64 n) (by omega)).alloc (.cells #[.pointer (some ⟨X, 0, none⟩), .pointer (some ⟨X, 1, none⟩), .pointer (some ⟨X, 2, none⟩), .pointer (some ⟨X, 3, none⟩), .pointer (some ⟨X, 4, none⟩), .pointer (some ⟨X, 5, none⟩)] 30))
    have hs5 := HB4.out.setCell (p := ⟨X, 0, none⟩) hXw (.int .i64 n)
    have HB5 := Lib.hid (hs5.alloc hs5.size (.cells #[.pointer (some ⟨X, 0, none⟩), .pointer (some ⟨X, 1, none⟩), .pointer (some ⟨X, 2, none⟩), .pointer (some ⟨X, 3, none⟩), .pointer (some ⟨X, 4, none⟩), .pointer (some ⟨X, 5, none⟩)] 30))
    clear HX4 HG4 HB4 x0 x1 x2 x3 x4 x5 xf xl hs5
    simp only [List.set] at HX5
    generalize (w4.setCell ⟨X, 0, none⟩ (.int .i64 n)).alloc (.cells #[.pointer (some ⟨X, 0, none⟩), .pointer (some ⟨X, 1, none⟩), .pointer (some ⟨X, 2, none⟩), .pointer (some ⟨X, 3, none⟩), .pointer (some ⟨X, 4, none⟩), .pointer (some ⟨X, 5, none⟩)] 30) = w5 at *
    have HCX := Lib.hid (fun w => gcheck_any n y p u v s w)
    have HLX := Lib.hid (fun w => lcheck_any n y p u v s w)
    generalize checkG n y p u v s = T at *
    have AB := HB5.out.drew
    replace HG5 := Lib.hid (HG5.out.drew)
    replace HX5 := Lib.hid (HX5.out.drew)
    refine wp_region_held_drew (S := fun wx => wx.cell? ⟨w.heap.size, 0, none⟩ = some (.int .i64 a0) ∧ wx.cell? ⟨w.heap.size, 1, none⟩ = some (.int .i64 a1) ∧ wx.cell? ⟨w.heap.size, 2, none⟩ = some (.int .i64 a2) ∧ wx.cell? ⟨w.heap.size, 3, none⟩ = some (.int .i64 a3) ∧ wx.cell? ⟨w.heap.size, 4, none⟩ = some (.int .i64 a4) ∧ wx.cell? ⟨w.heap.size, 5, none⟩ = some (.int .i64 a5) ∧ wx.cell? ⟨X, 0, none⟩ = some (.int .i64 n) ∧ wx.cell? ⟨X, 1, none⟩ = some (.int .i64 y) ∧ wx.cell? ⟨X, 2, none⟩ = some (.int .i64 p) ∧ wx.cell? ⟨X, 3, none⟩ = some (.int .i64 u) ∧ wx.cell? ⟨X, 4, none⟩ = some (.int .i64 v) ∧ wx.cell? ⟨X, 5, none⟩ = some (.int .i64 s)) (by kernel_rfl) (⟨HG5.out.cell 0 rfl, HG5.out.cell 1 rfl, HG5.out.cell 2 rfl, HG5.out.cell 3 rfl, HG5.out.cell 4 rfl, HG5.out.cell 5 rfl, HX5.out.cell 0 rfl, HX5.out.cell 1 rfl, HX5.out.cell 2 rfl, HX5.out.cell 3 rfl, HX5.out.cell 4 rfl, HX5.out.cell 5 rfl⟩) (fun hHeld => ?_)
    refine wpAnyH_take (i := 0) (v := ?_) rfl (by kernel_rfl) (by kernel_rfl) (by kernel_rfl) (fun _ _ _ h => h) (Or.inl ⟨by rfl, ?_⟩) hHeld ?_
    rotate_left
    · intro w hSw
      (try dsimp only at hSw)
      (try simp only [List.getElem_toArray, List.getElem_cons_zero])
      go_simp
      all_goals with_reducible rfl
    try simp only [List.getElem_toArray, List.getElem_cons_zero, Act.put, List.setIfInBounds_toArray, List.set_cons_zero, List.set_cons_succ]
    refine wpAnyH_take (i := 2) (v := ?_) rfl (by kernel_rfl) (by kernel_rfl) (by kernel_rfl) (fun _ _ _ h => h) (Or.inl ⟨by rfl, ?_⟩) hHeld ?_
    rotate_left
    · intro w hSw
      (try dsimp only at hSw)
      (try simp only [List.getElem_toArray, List.getElem_cons_zero, List.getElem_cons_succ])
      go_simp
      all_goals with_reducible rfl
    try simp only [List.getElem_toArray, List.getElem_cons_zero, List.getElem_cons_succ, Act.put, List.setIfInBounds_toArray, List.set_cons_zero, List.set_cons_succ]
    refine wpAnyH_ready (rs := [1]) (by kernel_rfl) (by simp) ?_
    refine AllReadyH.cons rfl (fun K hK => ?_) AllReadyH.nil
    try simp only [List.getElem_toArray, List.getElem_cons_zero, List.getElem_cons_succ]
    go_simp
    refine (HCG.out _).mono ?_
    rintro e wn ⟨rfl, hbn⟩
    have AB := AB.trans (hbn.mono (AB.size))
    replace HG5 := Lib.hid (HG5.out.keep hbn)
    replace HX5 := Lib.hid (HX5.out.keep hbn)
    clear hbn
    go_wp2_with fail
    refine hK.out _ _ (⟨HG5.out.cell 0 rfl, HG5.out.cell 1 rfl, HG5.out.cell 2 rfl, HG5.out.cell 3 rfl, HG5.out.cell 4 rfl, HG5.out.cell 5 rfl, HX5.out.cell 0 rfl, HX5.out.cell 1 rfl, HX5.out.cell 2 rfl, HX5.out.cell 3 rfl, HX5.out.cell 4 rfl, HX5.out.cell 5 rfl⟩) (fun hHeld => ?_)
    clear hK K
    try simp only [List.getElem_toArray, List.getElem_cons_zero, List.getElem_cons_succ, Act.put, List.setIfInBounds_toArray, List.set_cons_zero, List.set_cons_succ]
    refine wpAnyH_ready (rs := [3]) (by kernel_rfl) (by simp) ?_
    refine AllReadyH.cons rfl (fun K hK => ?_) AllReadyH.nil
    try simp only [List.getElem_toArray, List.getElem_cons_zero, List.getElem_cons_succ]
    go_simp
    refine (HLG.out _).mono ?_
    rintro e wn ⟨rfl, hbn⟩
    have AB := AB.trans (hbn.mono (AB.size))
    replace HG5 := Lib.hid (HG5.out.keep hbn)
    replace HX5 := Lib.hid (HX5.out.keep hbn)
    clear hbn
    go_wp2_with fail
    refine hK.out _ _ (⟨HG5.out.cell 0 rfl, HG5.out.cell 1 rfl, HG5.out.cell 2 rfl, HG5.out.cell 3 rfl, HG5.out.cell 4 rfl, HG5.out.cell 5 rfl, HX5.out.cell 0 rfl, HX5.out.cell 1 rfl, HX5.out.cell 2 rfl, HX5.out.cell 3 rfl, HX5.out.cell 4 rfl, HX5.out.cell 5 rfl⟩) (fun hHeld => ?_)
    clear hK K
    try simp only [List.getElem_toArray, List.getElem_cons_zero, List.getElem_cons_succ, Act.put, List.setIfInBounds_toArray, List.set_cons_zero, List.set_cons_succ]
    refine wpAnyH_take (i := 4) (v := ?_) rfl (by kernel_rfl) (by kernel_rfl) (by kernel_rfl) (fun _ _ _ h => h) (Or.inl ⟨by rfl, ?_⟩) hHeld ?_
    rotate_left
    · intro w hSw
      (try dsimp only at hSw)
      (try simp only [List.getElem_toArray, List.getElem_cons_zero, List.getElem_cons_succ])
      go_simp
      all_goals with_reducible rfl
    try simp only [List.getElem_toArray, List.getElem_cons_zero, List.getElem_cons_succ, Act.put, List.setIfInBounds_toArray, List.set_cons_zero, List.set_cons_succ]
    refine wpAnyH_take (i := 5) (v := ?_) rfl (by kernel_rfl) (by kernel_rfl) (by kernel_rfl) (fun _ _ _ h => h) (Or.inl ⟨by rfl, ?_⟩) hHeld ?_
    rotate_left
    · intro w hSw
      (try dsimp only at hSw)
      (try simp only [List.getElem_toArray, List.getElem_cons_zero, List.getElem_cons_succ])
      go_simp
      all_goals with_reducible rfl
    try simp only [List.getElem_toArray, List.getElem_cons_zero, List.getElem_cons_succ, Act.put, List.setIfInBounds_toArray, List.set_cons_zero, List.set_cons_succ]
    refine wpAnyH_take (i := 6) (v := ?_) rfl (by kernel_rfl) (by kernel_rfl) (by kernel_rfl) (fun _ _ _ h => h) (Or.inl ⟨by rfl, ?_⟩) hHeld ?_
    rotate_left
    · intro w hSw
      (try dsimp only at hSw)
      (try simp only [List.getElem_toArray, List.getElem_cons_zero, List.getElem_cons_succ])
      go_simp
      all_goals with_reducible rfl
    try simp only [List.getElem_toArray, List.getElem_cons_zero, List.getElem_cons_succ, Act.put, List.setIfInBounds_toArray, List.set_cons_zero, List.set_cons_succ]
    refine wpAnyH_take (i := 8) (v := ?_) rfl (by kernel_rfl) (by kernel_rfl) (by kernel_rfl) (fun _ _ _ h => h) (Or.inl ⟨by rfl, ?_⟩) hHeld ?_
    rotate_left
    · intro w hSw
      (try dsimp only at hSw)
      (try simp only [List.getElem_toArray, List.getElem_cons_zero, List.getElem_cons_succ])
      go_simp
      all_goals with_reducible rfl
    try simp only [List.getElem_toArray, List.getElem_cons_zero, List.getElem_cons_succ, Act.put, List.setIfInBounds_toArray, List.set_cons_zero, List.set_cons_succ]
    refine wpAnyH_ready (rs := [7]) (by kernel_rfl) (by simp) ?_
    refine AllReadyH.cons rfl (fun K hK => ?_) AllReadyH.nil
    try simp only [List.getElem_toArray, List.getElem_cons_zero, List.getElem_cons_succ]
    go_simp
    refine (HCX.out _).mono ?_
    rintro e wn ⟨rfl, hbn⟩
    have AB := AB.trans (hbn.mono (AB.size))
    replace HG5 := Lib.hid (HG5.out.keep hbn)
    replace HX5 := Lib.hid (HX5.out.keep hbn)
    clear hbn
    go_wp2_with fail
    refine hK.out _ _ (⟨HG5.out.cell 0 rfl, HG5.out.cell 1 rfl, HG5.out.cell 2 rfl, HG5.out.cell 3 rfl, HG5.out.cell 4 rfl, HG5.out.cell 5 rfl, HX5.out.cell 0 rfl, HX5.out.cell 1 rfl, HX5.out.cell 2 rfl, HX5.out.cell 3 rfl, HX5.out.cell 4 rfl, HX5.out.cell 5 rfl⟩) (fun hHeld => ?_)
    clear hK K
    try simp only [List.getElem_toArray, List.getElem_cons_zero, List.getElem_cons_succ, Act.put, List.setIfInBounds_toArray, List.set_cons_zero, List.set_cons_succ]
    refine wpAnyH_ready (rs := [9]) (by kernel_rfl) (by simp) ?_
    refine AllReadyH.cons rfl (fun K hK => ?_) AllReadyH.nil
    try simp only [List.getElem_toArray, List.getElem_cons_zero, List.getElem_cons_succ]
    go_simp
    refine (HLX.out _).mono ?_
    rintro e wn ⟨rfl, hbn⟩
    have AB := AB.trans (hbn.mono (AB.size))
    replace HG5 := Lib.hid (HG5.out.keep hbn)
    replace HX5 := Lib.hid (HX5.out.keep hbn)
    clear hbn
    go_wp2_with fail
    refine hK.out _ _ (⟨HG5.out.cell 0 rfl, HG5.out.cell 1 rfl, HG5.out.cell 2 rfl, HG5.out.cell 3 rfl, HG5.out.cell 4 rfl, HG5.out.cell 5 rfl, HX5.out.cell 0 rfl, HX5.out.cell 1 rfl, HX5.out.cell 2 rfl, HX5.out.cell 3 rfl, HX5.out.cell 4 rfl, HX5.out.cell 5 rfl⟩) (fun hHeld => ?_)
    clear hK K
    try simp only [List.getElem_toArray, List.getElem_cons_zero, List.getElem_cons_succ, Act.put, List.setIfInBounds_toArray, List.set_cons_zero, List.set_cons_succ]
    refine wpAnyH_take (i := 10) (v := ?_) rfl (by kernel_rfl) (by kernel_rfl) (by kernel_rfl) (fun _ _ _ h => h) (Or.inl ⟨by rfl, ?_⟩) hHeld ?_
    rotate_left
    · intro w hSw
      (try dsimp only at hSw)
      (try simp only [List.getElem_toArray, List.getElem_cons_zero, List.getElem_cons_succ])
      go_simp
      all_goals with_reducible rfl
    try simp only [List.getElem_toArray, List.getElem_cons_zero, List.getElem_cons_succ, Act.put, List.setIfInBounds_toArray, List.set_cons_zero, List.set_cons_succ]
    refine wpAnyH_take (i := 11) (v := ?_) rfl (by kernel_rfl) (by kernel_rfl) (by kernel_rfl) (fun _ _ _ h => h) (Or.inl ⟨by rfl, ?_⟩) hHeld ?_
    rotate_left
    · intro w hSw
      (try dsimp only at hSw)
      (try simp only [List.getElem_toArray, List.getElem_cons_zero, List.getElem_cons_succ])
      go_simp
      all_goals with_reducible rfl
    try simp only [List.getElem_toArray, List.getElem_cons_zero, List.getElem_cons_succ, Act.put, List.setIfInBounds_toArray, List.set_cons_zero, List.set_cons_succ]
    refine wpAnyH_take (i := 12) (v := ?_) rfl (by kernel_rfl) (by kernel_rfl) (by kernel_rfl) (fun _ _ _ h => h) (Or.inl ⟨by rfl, ?_⟩) hHeld ?_
    rotate_left
    · intro w hSw
      (try dsimp only at hSw)
      (try simp only [List.getElem_toArray, List.getElem_cons_zero, List.getElem_cons_succ])
      go_simp
      all_goals with_reducible rfl
    try simp only [List.getElem_toArray, List.getElem_cons_zero, List.getElem_cons_succ, Act.put, List.setIfInBounds_toArray, List.set_cons_zero, List.set_cons_succ]
    refine wpAnyH_done (by kernel_rfl) ?_ _
    have HBz := Lib.hid AB
    clear AB hHeld
    go_wp2
    go_ret
    exact ⟨rfl, HBz.out⟩
  · go_wp2_with fail
    have HX5 := Lib.hid ((HX4.out.set 1 (.int .i64 n)).alloc (.cells #[.pointer (some ⟨X, 0, none⟩), .pointer (some ⟨X, 1, none⟩), .pointer (some ⟨X, 2, none⟩), .pointer (some ⟨X, 3, none⟩), .pointer (some ⟨X, 4, none⟩), .pointer (some ⟨X, 5, none⟩)] 30))
    have HG5 := Lib.hid ((HG4.out.other (k := X) 1 (.int .i64 n) (by omega)).alloc (.cells #[.pointer (some ⟨X, 0, none⟩), .pointer (some ⟨X, 1, none⟩), .pointer (some ⟨X, 2, none⟩), .pointer (some ⟨X, 3, none⟩), .pointer (some ⟨X, 4, none⟩), .pointer (some ⟨X, 5, none⟩)] 30))
    have hs5 := HB4.out.setCell (p := ⟨X, 1, none⟩) hXw (.int .i64 n)
    have HB5 := Lib.hid (hs5.alloc hs5.size (.cells #[.pointer (some ⟨X, 0, none⟩), .pointer (some ⟨X, 1, none⟩), .pointer (some ⟨X, 2, none⟩), .pointer (some ⟨X, 3, none⟩), .pointer (some ⟨X, 4, none⟩), .pointer (some ⟨X, 5, none⟩)] 30))
    clear HX4 HG4 HB4 x0 x1 x2 x3 x4 x5 xf xl hs5
    simp only [List.set] at HX5
    generalize (w4.setCell ⟨X, 1, none⟩ (.int .i64 n)).alloc (.cells #[.pointer (some ⟨X, 0, none⟩), .pointer (some ⟨X, 1, none⟩), .pointer (some ⟨X, 2, none⟩), .pointer (some ⟨X, 3, none⟩), .pointer (some ⟨X, 4, none⟩), .pointer (some ⟨X, 5, none⟩)] 30) = w5 at *
    have HCX := Lib.hid (fun w => gcheck_any x n p u v s w)
    have HLX := Lib.hid (fun w => lcheck_any x n p u v s w)
    generalize checkG x n p u v s = T at *
    have AB := HB5.out.drew
    replace HG5 := Lib.hid (HG5.out.drew)
    replace HX5 := Lib.hid (HX5.out.drew)
    refine wp_region_held_drew (S := fun wx => wx.cell? ⟨w.heap.size, 0, none⟩ = some (.int .i64 a0) ∧ wx.cell? ⟨w.heap.size, 1, none⟩ = some (.int .i64 a1) ∧ wx.cell? ⟨w.heap.size, 2, none⟩ = some (.int .i64 a2) ∧ wx.cell? ⟨w.heap.size, 3, none⟩ = some (.int .i64 a3) ∧ wx.cell? ⟨w.heap.size, 4, none⟩ = some (.int .i64 a4) ∧ wx.cell? ⟨w.heap.size, 5, none⟩ = some (.int .i64 a5) ∧ wx.cell? ⟨X, 0, none⟩ = some (.int .i64 x) ∧ wx.cell? ⟨X, 1, none⟩ = some (.int .i64 n) ∧ wx.cell? ⟨X, 2, none⟩ = some (.int .i64 p) ∧ wx.cell? ⟨X, 3, none⟩ = some (.int .i64 u) ∧ wx.cell? ⟨X, 4, none⟩ = some (.int .i64 v) ∧ wx.cell? ⟨X, 5, none⟩ = some (.int .i64 s)) (by kernel_rfl) (⟨HG5.out.cell 0 rfl, HG5.out.cell 1 rfl, HG5.out.cell 2 rfl, HG5.out.cell 3 rfl, HG5.out.cell 4 rfl, HG5.out.cell 5 rfl, HX5.out.cell 0 rfl, HX5.out.cell 1 rfl, HX5.out.cell 2 rfl, HX5.out.cell 3 rfl, HX5.out.cell 4 rfl, HX5.out.cell 5 rfl⟩) (fun hHeld => ?_)
    refine wpAnyH_take (i := 0) (v := ?_) rfl (by kernel_rfl) (by kernel_rfl) (by kernel_rfl) (fun _ _ _ h => h) (Or.inl ⟨by rfl, ?_⟩) hHeld ?_
    rotate_left
    · intro w hSw
      (try dsimp only at hSw)
      (try simp only [List.getElem_toArray, List.getElem_cons_zero])
      go_simp
      all_goals with_reducible rfl
    try simp only [List.getElem_toArray, List.getElem_cons_zero, Act.put, List.setIfInBounds_toArray, List.set_cons_zero, List.set_cons_succ]
    refine wpAnyH_take (i := 2) (v := ?_) rfl (by kernel_rfl) (by kernel_rfl) (by kernel_rfl) (fun _ _ _ h => h) (Or.inl ⟨by rfl, ?_⟩) hHeld ?_
    rotate_left
    · intro w hSw
      (try dsimp only at hSw)
      (try simp only [List.getElem_toArray, List.getElem_cons_zero, List.getElem_cons_succ])
      go_simp
      all_goals with_reducible rfl
    try simp only [List.getElem_toArray, List.getElem_cons_zero, List.getElem_cons_succ, Act.put, List.setIfInBounds_toArray, List.set_cons_zero, List.set_cons_succ]
    refine wpAnyH_ready (rs := [1]) (by kernel_rfl) (by simp) ?_
    refine AllReadyH.cons rfl (fun K hK => ?_) AllReadyH.nil
    try simp only [List.getElem_toArray, List.getElem_cons_zero, List.getElem_cons_succ]
    go_simp
    refine (HCG.out _).mono ?_
    rintro e wn ⟨rfl, hbn⟩
    have AB := AB.trans (hbn.mono (AB.size))
    replace HG5 := Lib.hid (HG5.out.keep hbn)
    replace HX5 := Lib.hid (HX5.out.keep hbn)
    clear hbn
    go_wp2_with fail
    refine hK.out _ _ (⟨HG5.out.cell 0 rfl, HG5.out.cell 1 rfl, HG5.out.cell 2 rfl, HG5.out.cell 3 rfl, HG5.out.cell 4 rfl, HG5.out.cell 5 rfl, HX5.out.cell 0 rfl, HX5.out.cell 1 rfl, HX5.out.cell 2 rfl, HX5.out.cell 3 rfl, HX5.out.cell 4 rfl, HX5.out.cell 5 rfl⟩) (fun hHeld => ?_)
    clear hK K
    try simp only [List.getElem_toArray, List.getElem_cons_zero, List.getElem_cons_succ, Act.put, List.setIfInBounds_toArray, List.set_cons_zero, List.set_cons_succ]
    refine wpAnyH_ready (rs := [3]) (by kernel_rfl) (by simp) ?_
    refine AllReadyH.cons rfl (fun K hK => ?_) AllReadyH.nil
    try simp only [List.getElem_toArray, List.getElem_cons_zero, List.getElem_cons_succ]
    go_simp
    refine (HLG.out _).mono ?_
    rintro e wn ⟨rfl, hbn⟩
    have AB := AB.trans (hbn.mono (AB.size))
    replace HG5 := Lib.hid (HG5.out.keep hbn)
    replace HX5 := Lib.hid (HX5.out.keep hbn)
    clear hbn
    go_wp2_with fail
    refine hK.out _ _ (⟨HG5.out.cell 0 rfl, HG5.out.cell 1 rfl, HG5.out.cell 2 rfl, HG5.out.cell 3 rfl, HG5.out.cell 4 rfl, HG5.out.cell 5 rfl, HX5.out.cell 0 rfl, HX5.out.cell 1 rfl, HX5.out.cell 2 rfl, HX5.out.cell 3 rfl, HX5.out.cell 4 rfl, HX5.out.cell 5 rfl⟩) (fun hHeld => ?_)
    clear hK K
    try simp only [List.getElem_toArray, List.getElem_cons_zero, List.getElem_cons_succ, Act.put, List.setIfInBounds_toArray, List.set_cons_zero, List.set_cons_succ]
    refine wpAnyH_take (i := 4) (v := ?_) rfl (by kernel_rfl) (by kernel_rfl) (by kernel_rfl) (fun _ _ _ h => h) (Or.inl ⟨by rfl, ?_⟩) hHeld ?_
    rotate_left
    · intro w hSw
      (try dsimp only at hSw)
      (try simp only [List.getElem_toArray, List.getElem_cons_zero, List.getElem_cons_succ])
      go_simp
      all_goals with_reducible rfl
    try simp only [List.getElem_toArray, List.getElem_cons_zero, List.getElem_cons_succ, Act.put, List.setIfInBounds_toArray, List.set_cons_zero, List.set_cons_succ]
    refine wpAnyH_take (i := 5) (v := ?_) rfl (by kernel_rfl) (by kernel_rfl) (by kernel_rfl) (fun _ _ _ h => h) (Or.inl ⟨by rfl, ?_⟩) hHeld ?_
    rotate_left
    · intro w hSw
      (try dsimp only at hSw)
      (try simp only [List.getElem_toArray, List.getElem_cons_zero, List.getElem_cons_succ])
      go_simp
      all_goals with_reducible rfl
    try simp only [List.getElem_toArray, List.getElem_cons_zero, List.getElem_cons_succ, Act.put, List.setIfInBounds_toArray, List.set_cons_zero, List.set_cons_succ]
    refine wpAnyH_take (i := 6) (v := ?_) rfl (by kernel_rfl) (by kernel_rfl) (by kernel_rfl) (fun _ _ _ h => h) (Or.inl ⟨by rfl, ?_⟩) hHeld ?_
    rotate_left
    · intro w hSw
      (try dsimp only at hSw)
      (try simp only [List.getElem_toArray, List.getElem_cons_zero, List.getElem_cons_succ])
      go_simp
      all_goals with_reducible rfl
    try simp only [List.getElem_toArray, List.getElem_cons_zero, List.getElem_cons_succ, Act.put, List.setIfInBounds_toArray, List.set_cons_zero, List.set_cons_succ]
    refine wpAnyH_take (i := 8) (v := ?_) rfl (by kernel_rfl) (by kernel_rfl) (by kernel_rfl) (fun _ _ _ h => h) (Or.inl ⟨by rfl, ?_⟩) hHeld ?_
    rotate_left
    · intro w hSw
      (try dsimp only at hSw)
      (try simp only [List.getElem_toArray, List.getElem_cons_zero, List.getElem_cons_succ])
      go_simp
      all_goals with_reducible rfl
    try simp only [List.getElem_toArray, List.getElem_cons_zero, List.getElem_cons_succ, Act.put, List.setIfInBounds_toArray, List.set_cons_zero, List.set_cons_succ]
    refine wpAnyH_ready (rs := [7]) (by kernel_rfl) (by simp) ?_
    refine AllReadyH.cons rfl (fun K hK => ?_) AllReadyH.nil
    try simp only [List.getElem_toArray, List.getElem_cons_zero, List.getElem_cons_succ]
    go_simp
    refine (HCX.out _).mono ?_
    rintro e wn ⟨rfl, hbn⟩
    have AB := AB.trans (hbn.mono (AB.size))
    replace HG5 := Lib.hid (HG5.out.keep hbn)
    replace HX5 := Lib.hid (HX5.out.keep hbn)
    clear hbn
    go_wp2_with fail
    refine hK.out _ _ (⟨HG5.out.cell 0 rfl, HG5.out.cell 1 rfl, HG5.out.cell 2 rfl, HG5.out.cell 3 rfl, HG5.out.cell 4 rfl, HG5.out.cell 5 rfl, HX5.out.cell 0 rfl, HX5.out.cell 1 rfl, HX5.out.cell 2 rfl, HX5.out.cell 3 rfl, HX5.out.cell 4 rfl, HX5.out.cell 5 rfl⟩) (fun hHeld => ?_)
    clear hK K
    try simp only [List.getElem_toArray, List.getElem_cons_zero, List.getElem_cons_succ, Act.put, List.setIfInBounds_toArray, List.set_cons_zero, List.set_cons_succ]
    refine wpAnyH_ready (rs := [9]) (by kernel_rfl) (by simp) ?_
    refine AllReadyH.cons rfl (fun K hK => ?_) AllReadyH.nil
    try simp only [List.getElem_toArray, List.getElem_cons_zero, List.getElem_cons_succ]
    go_simp
    refine (HLX.out _).mono ?_
    rintro e wn ⟨rfl, hbn⟩
    have AB := AB.trans (hbn.mono (AB.size))
    replace HG5 := Lib.hid (HG5.out.keep hbn)
    replace HX5 := Lib.hid (HX5.out.keep hbn)
    clear hbn
    go_wp2_with fail
    refine hK.out _ _ (⟨HG5.out.cell 0 rfl, HG5.out.cell 1 rfl, HG5.out.cell 2 rfl, HG5.out.cell 3 rfl, HG5.out.cell 4 rfl, HG5.out.cell 5 rfl, HX5.out.cell 0 rfl, HX5.out.cell 1 rfl, HX5.out.cell 2 rfl, HX5.out.cell 3 rfl, HX5.out.cell 4 rfl, HX5.out.cell 5 rfl⟩) (fun hHeld => ?_)
    clear hK K
    try simp only [List.getElem_toArray, List.getElem_cons_zero, List.getElem_cons_succ, Act.put, List.setIfInBounds_toArray, List.set_cons_zero, List.set_cons_succ]
    refine wpAnyH_take (i := 10) (v := ?_) rfl (by kernel_rfl) (by kernel_rfl) (by kernel_rfl) (fun _ _ _ h => h) (Or.inl ⟨by rfl, ?_⟩) hHeld ?_
    rotate_left
    · intro w hSw
      (try dsimp only at hSw)
      (try simp only [List.getElem_toArray, List.getElem_cons_zero, List.getElem_cons_succ])
      go_simp
      all_goals with_reducible rfl
    try simp only [List.getElem_toArray, List.getElem_cons_zero, List.getElem_cons_succ, Act.put, List.setIfInBounds_toArray, List.set_cons_zero, List.set_cons_succ]
    refine wpAnyH_take (i := 11) (v := ?_) rfl (by kernel_rfl) (by kernel_rfl) (by kernel_rfl) (fun _ _ _ h => h) (Or.inl ⟨by rfl, ?_⟩) hHeld ?_
    rotate_left
    · intro w hSw
      (try dsimp only at hSw)
      (try simp only [List.getElem_toArray, List.getElem_cons_zero, List.getElem_cons_succ])
      go_simp
      all_goals with_reducible rfl
    try simp only [List.getElem_toArray, List.getElem_cons_zero, List.getElem_cons_succ, Act.put, List.setIfInBounds_toArray, List.set_cons_zero, List.set_cons_succ]
    refine wpAnyH_take (i := 12) (v := ?_) rfl (by kernel_rfl) (by kernel_rfl) (by kernel_rfl) (fun _ _ _ h => h) (Or.inl ⟨by rfl, ?_⟩) hHeld ?_
    rotate_left
    · intro w hSw
      (try dsimp only at hSw)
      (try simp only [List.getElem_toArray, List.getElem_cons_zero, List.getElem_cons_succ])
      go_simp
      all_goals with_reducible rfl
    try simp only [List.getElem_toArray, List.getElem_cons_zero, List.getElem_cons_succ, Act.put, List.setIfInBounds_toArray, List.set_cons_zero, List.set_cons_succ]
    refine wpAnyH_done (by kernel_rfl) ?_ _
    have HBz := Lib.hid AB
    clear AB hHeld
    go_wp2
    go_ret
    exact ⟨rfl, HBz.out⟩
  · go_wp2_with fail
    have HX5 := Lib.hid ((HX4.out.set 2 (.int .i64 n)).alloc (.cells #[.pointer (some ⟨X, 0, none⟩), .pointer (some ⟨X, 1, none⟩), .pointer (some ⟨X, 2, none⟩), .pointer (some ⟨X, 3, none⟩), .pointer (some ⟨X, 4, none⟩), .pointer (some ⟨X, 5, none⟩)] 30))
    have HG5 := Lib.hid ((HG4.out.other (k := X) 2 (.int .i64 n) (by omega)).alloc (.cells #[.pointer (some ⟨X, 0, none⟩), .pointer (some ⟨X, 1, none⟩), .pointer (some ⟨X, 2, none⟩), .pointer (some ⟨X, 3, none⟩), .pointer (some ⟨X, 4, none⟩), .pointer (some ⟨X, 5, none⟩)] 30))
    have hs5 := HB4.out.setCell (p := ⟨X, 2, none⟩) hXw (.int .i64 n)
    have HB5 := Lib.hid (hs5.alloc hs5.size (.cells #[.pointer (some ⟨X, 0, none⟩), .pointer (some ⟨X, 1, none⟩), .pointer (some ⟨X, 2, none⟩), .pointer (some ⟨X, 3, none⟩), .pointer (some ⟨X, 4, none⟩), .pointer (some ⟨X, 5, none⟩)] 30))
    clear HX4 HG4 HB4 x0 x1 x2 x3 x4 x5 xf xl hs5
    simp only [List.set] at HX5
    generalize (w4.setCell ⟨X, 2, none⟩ (.int .i64 n)).alloc (.cells #[.pointer (some ⟨X, 0, none⟩), .pointer (some ⟨X, 1, none⟩), .pointer (some ⟨X, 2, none⟩), .pointer (some ⟨X, 3, none⟩), .pointer (some ⟨X, 4, none⟩), .pointer (some ⟨X, 5, none⟩)] 30) = w5 at *
    have HCX := Lib.hid (fun w => gcheck_any x y n u v s w)
    have HLX := Lib.hid (fun w => lcheck_any x y n u v s w)
    generalize checkG x y n u v s = T at *
    have AB := HB5.out.drew
    replace HG5 := Lib.hid (HG5.out.drew)
    replace HX5 := Lib.hid (HX5.out.drew)
    refine wp_region_held_drew (S := fun wx => wx.cell? ⟨w.heap.size, 0, none⟩ = some (.int .i64 a0) ∧ wx.cell? ⟨w.heap.size, 1, none⟩ = some (.int .i64 a1) ∧ wx.cell? ⟨w.heap.size, 2, none⟩ = some (.int .i64 a2) ∧ wx.cell? ⟨w.heap.size, 3, none⟩ = some (.int .i64 a3) ∧ wx.cell? ⟨w.heap.size, 4, none⟩ = some (.int .i64 a4) ∧ wx.cell? ⟨w.heap.size, 5, none⟩ = some (.int .i64 a5) ∧ wx.cell? ⟨X, 0, none⟩ = some (.int .i64 x) ∧ wx.cell? ⟨X, 1, none⟩ = some (.int .i64 y) ∧ wx.cell? ⟨X, 2, none⟩ = some (.int .i64 n) ∧ wx.cell? ⟨X, 3, none⟩ = some (.int .i64 u) ∧ wx.cell? ⟨X, 4, none⟩ = some (.int .i64 v) ∧ wx.cell? ⟨X, 5, none⟩ = some (.int .i64 s)) (by kernel_rfl) (⟨HG5.out.cell 0 rfl, HG5.out.cell 1 rfl, HG5.out.cell 2 rfl, HG5.out.cell 3 rfl, HG5.out.cell 4 rfl, HG5.out.cell 5 rfl, HX5.out.cell 0 rfl, HX5.out.cell 1 rfl, HX5.out.cell 2 rfl, HX5.out.cell 3 rfl, HX5.out.cell 4 rfl, HX5.out.cell 5 rfl⟩) (fun hHeld => ?_)
    refine wpAnyH_take (i := 0) (v := ?_) rfl (by kernel_rfl) (by kernel_rfl) (by kernel_rfl) (fun _ _ _ h => h) (Or.inl ⟨by rfl, ?_⟩) hHeld ?_
    rotate_left
    · intro w hSw
      (try dsimp only at hSw)
      (try simp only [List.getElem_toArray, List.getElem_cons_zero])
      go_simp
      all_goals with_reducible rfl
    try simp only [List.getElem_toArray, List.getElem_cons_zero, Act.put, List.setIfInBounds_toArray, List.set_cons_zero, List.set_cons_succ]
    refine wpAnyH_take (i := 2) (v := ?_) rfl (by kernel_rfl) (by kernel_rfl) (by kernel_rfl) (fun _ _ _ h => h) (Or.inl ⟨by rfl, ?_⟩) hHeld ?_
    rotate_left
    · intro w hSw
      (try dsimp only at hSw)
      (try simp only [List.getElem_toArray, List.getElem_cons_zero, List.getElem_cons_succ])
      go_simp
      all_goals with_reducible rfl
    try simp only [List.getElem_toArray, List.getElem_cons_zero, List.getElem_cons_succ, Act.put, List.setIfInBounds_toArray, List.set_cons_zero, List.set_cons_succ]
    refine wpAnyH_ready (rs := [1]) (by kernel_rfl) (by simp) ?_
    refine AllReadyH.cons rfl (fun K hK => ?_) AllReadyH.nil
    try simp only [List.getElem_toArray, List.getElem_cons_zero, List.getElem_cons_succ]
    go_simp
    refine (HCG.out _).mono ?_
    rintro e wn ⟨rfl, hbn⟩
    have AB := AB.trans (hbn.mono (AB.size))
    replace HG5 := Lib.hid (HG5.out.keep hbn)
    replace HX5 := Lib.hid (HX5.out.keep hbn)
    clear hbn
    go_wp2_with fail
    refine hK.out _ _ (⟨HG5.out.cell 0 rfl, HG5.out.cell 1 rfl, HG5.out.cell 2 rfl, HG5.out.cell 3 rfl, HG5.out.cell 4 rfl, HG5.out.cell 5 rfl, HX5.out.cell 0 rfl, HX5.out.cell 1 rfl, HX5.out.cell 2 rfl, HX5.out.cell 3 rfl, HX5.out.cell 4 rfl, HX5.out.cell 5 rfl⟩) (fun hHeld => ?_)
    clear hK K
    try simp only [List.getElem_toArray, List.getElem_cons_zero, List.getElem_cons_succ, Act.put, List.setIfInBounds_toArray, List.set_cons_zero, List.set_cons_succ]
    refine wpAnyH_ready (rs := [3]) (by kernel_rfl) (by simp) ?_
    refine AllReadyH.cons rfl (fun K hK => ?_) AllReadyH.nil
    try simp only [List.getElem_toArray, List.getElem_cons_zero, List.getElem_cons_succ]
    go_simp
    refine (HLG.out _).mono ?_
    rintro e wn ⟨rfl, hbn⟩
    have AB := AB.trans (hbn.mono (AB.size))
    replace HG5 := Lib.hid (HG5.out.keep hbn)
    replace HX5 := Lib.hid (HX5.out.keep hbn)
    clear hbn
    go_wp2_with fail
    refine hK.out _ _ (⟨HG5.out.cell 0 rfl, HG5.out.cell 1 rfl, HG5.out.cell 2 rfl, HG5.out.cell 3 rfl, HG5.out.cell 4 rfl, HG5.out.cell 5 rfl, HX5.out.cell 0 rfl, HX5.out.cell 1 rfl, HX5.out.cell 2 rfl, HX5.out.cell 3 rfl, HX5.out.cell 4 rfl, HX5.out.cell 5 rfl⟩) (fun hHeld => ?_)
    clear hK K
    try simp only [List.getElem_toArray, List.getElem_cons_zero, List.getElem_cons_succ, Act.put, List.setIfInBounds_toArray, List.set_cons_zero, List.set_cons_succ]
    refine wpAnyH_take (i := 4) (v := ?_) rfl (by kernel_rfl) (by kernel_rfl) (by kernel_rfl) (fun _ _ _ h => h) (Or.inl ⟨by rfl, ?_⟩) hHeld ?_
    rotate_left
    · intro w hSw
      (try dsimp only at hSw)
      (try simp only [List.getElem_toArray, List.getElem_cons_zero, List.getElem_cons_succ])
      go_simp
      all_goals with_reducible rfl
    try simp only [List.getElem_toArray, List.getElem_cons_zero, List.getElem_cons_succ, Act.put, List.setIfInBounds_toArray, List.set_cons_zero, List.set_cons_succ]
    refine wpAnyH_take (i := 5) (v := ?_) rfl (by kernel_rfl) (by kernel_rfl) (by kernel_rfl) (fun _ _ _ h => h) (Or.inl ⟨by rfl, ?_⟩) hHeld ?_
    rotate_left
    · intro w hSw
      (try dsimp only at hSw)
      (try simp only [List.getElem_toArray, List.getElem_cons_zero, List.getElem_cons_succ])
      go_simp
      all_goals with_reducible rfl
    try simp only [List.getElem_toArray, List.getElem_cons_zero, List.getElem_cons_succ, Act.put, List.setIfInBounds_toArray, List.set_cons_zero, List.set_cons_succ]
    refine wpAnyH_take (i := 6) (v := ?_) rfl (by kernel_rfl) (by kernel_rfl) (by kernel_rfl) (fun _ _ _ h => h) (Or.inl ⟨by rfl, ?_⟩) hHeld ?_
    rotate_left
    · intro w hSw
      (try dsimp only at hSw)
      (try simp only [List.getElem_toArray, List.getElem_cons_zero, List.getElem_cons_succ])
      go_simp
      all_goals with_reducible rfl
    try simp only [List.getElem_toArray, List.getElem_cons_zero, List.getElem_cons_succ, Act.put, List.setIfInBounds_toArray, List.set_cons_zero, List.set_cons_succ]
    refine wpAnyH_take (i := 8) (v := ?_) rfl (by kernel_rfl) (by kernel_rfl) (by kernel_rfl) (fun _ _ _ h => h) (Or.inl ⟨by rfl, ?_⟩) hHeld ?_
    rotate_left
    · intro w hSw
      (try dsimp only at hSw)
      (try simp only [List.getElem_toArray, List.getElem_cons_zero, List.getElem_cons_succ])
      go_simp
      all_goals with_reducible rfl
    try simp only [List.getElem_toArray, List.getElem_cons_zero, List.getElem_cons_succ, Act.put, List.setIfInBounds_toArray, List.set_cons_zero, List.set_cons_succ]
    refine wpAnyH_ready (rs := [7]) (by kernel_rfl) (by simp) ?_
    refine AllReadyH.cons rfl (fun K hK => ?_) AllReadyH.nil
    try simp only [List.getElem_toArray, List.getElem_cons_zero, List.getElem_cons_succ]
    go_simp
    refine (HCX.out _).mono ?_
    rintro e wn ⟨rfl, hbn⟩
    have AB := AB.trans (hbn.mono (AB.size))
    replace HG5 := Lib.hid (HG5.out.keep hbn)
    replace HX5 := Lib.hid (HX5.out.keep hbn)
    clear hbn
    go_wp2_with fail
    refine hK.out _ _ (⟨HG5.out.cell 0 rfl, HG5.out.cell 1 rfl, HG5.out.cell 2 rfl, HG5.out.cell 3 rfl, HG5.out.cell 4 rfl, HG5.out.cell 5 rfl, HX5.out.cell 0 rfl, HX5.out.cell 1 rfl, HX5.out.cell 2 rfl, HX5.out.cell 3 rfl, HX5.out.cell 4 rfl, HX5.out.cell 5 rfl⟩) (fun hHeld => ?_)
    clear hK K
    try simp only [List.getElem_toArray, List.getElem_cons_zero, List.getElem_cons_succ, Act.put, List.setIfInBounds_toArray, List.set_cons_zero, List.set_cons_succ]
    refine wpAnyH_ready (rs := [9]) (by kernel_rfl) (by simp) ?_
    refine AllReadyH.cons rfl (fun K hK => ?_) AllReadyH.nil
    try simp only [List.getElem_toArray, List.getElem_cons_zero, List.getElem_cons_succ]
    go_simp
    refine (HLX.out _).mono ?_
    rintro e wn ⟨rfl, hbn⟩
    have AB := AB.trans (hbn.mono (AB.size))
    replace HG5 := Lib.hid (HG5.out.keep hbn)
    replace HX5 := Lib.hid (HX5.out.keep hbn)
    clear hbn
    go_wp2_with fail
    refine hK.out _ _ (⟨HG5.out.cell 0 rfl, HG5.out.cell 1 rfl, HG5.out.cell 2 rfl, HG5.out.cell 3 rfl, HG5.out.cell 4 rfl, HG5.out.cell 5 rfl, HX5.out.cell 0 rfl, HX5.out.cell 1 rfl, HX5.out.cell 2 rfl, HX5.out.cell 3 rfl, HX5.out.cell 4 rfl, HX5.out.cell 5 rfl⟩) (fun hHeld => ?_)
    clear hK K
    try simp only [List.getElem_toArray, List.getElem_cons_zero, List.getElem_cons_succ, Act.put, List.setIfInBounds_toArray, List.set_cons_zero, List.set_cons_succ]
    refine wpAnyH_take (i := 10) (v := ?_) rfl (by kernel_rfl) (by kernel_rfl) (by kernel_rfl) (fun _ _ _ h => h) (Or.inl ⟨by rfl, ?_⟩) hHeld ?_
    rotate_left
    · intro w hSw
      (try dsimp only at hSw)
      (try simp only [List.getElem_toArray, List.getElem_cons_zero, List.getElem_cons_succ])
      go_simp
      all_goals with_reducible rfl
    try simp only [List.getElem_toArray, List.getElem_cons_zero, List.getElem_cons_succ, Act.put, List.setIfInBounds_toArray, List.set_cons_zero, List.set_cons_succ]
    refine wpAnyH_take (i := 11) (v := ?_) rfl (by kernel_rfl) (by kernel_rfl) (by kernel_rfl) (fun _ _ _ h => h) (Or.inl ⟨by rfl, ?_⟩) hHeld ?_
    rotate_left
    · intro w hSw
      (try dsimp only at hSw)
      (try simp only [List.getElem_toArray, List.getElem_cons_zero, List.getElem_cons_succ])
      go_simp
      all_goals with_reducible rfl
    try simp only [List.getElem_toArray, List.getElem_cons_zero, List.getElem_cons_succ, Act.put, List.setIfInBounds_toArray, List.set_cons_zero, List.set_cons_succ]
    refine wpAnyH_take (i := 12) (v := ?_) rfl (by kernel_rfl) (by kernel_rfl) (by kernel_rfl) (fun _ _ _ h => h) (Or.inl ⟨by rfl, ?_⟩) hHeld ?_
    rotate_left
    · intro w hSw
      (try dsimp only at hSw)
      (try simp only [List.getElem_toArray, List.getElem_cons_zero, List.getElem_cons_succ])
      go_simp
      all_goals with_reducible rfl
    try simp only [List.getElem_toArray, List.getElem_cons_zero, List.getElem_cons_succ, Act.put, List.setIfInBounds_toArray, List.set_cons_zero, List.set_cons_succ]
    refine wpAnyH_done (by kernel_rfl) ?_ _
    have HBz := Lib.hid AB
    clear AB hHeld
    go_wp2
    go_ret
    exact ⟨rfl, HBz.out⟩
  · go_wp2_with fail
    have HX5 := Lib.hid ((HX4.out.set 3 (.int .i64 n)).alloc (.cells #[.pointer (some ⟨X, 0, none⟩), .pointer (some ⟨X, 1, none⟩), .pointer (some ⟨X, 2, none⟩), .pointer (some ⟨X, 3, none⟩), .pointer (some ⟨X, 4, none⟩), .pointer (some ⟨X, 5, none⟩)] 30))
    have HG5 := Lib.hid ((HG4.out.other (k := X) 3 (.int .i64 n) (by omega)).alloc (.cells #[.pointer (some ⟨X, 0, none⟩), .pointer (some ⟨X, 1, none⟩), .pointer (some ⟨X, 2, none⟩), .pointer (some ⟨X, 3, none⟩), .pointer (some ⟨X, 4, none⟩), .pointer (some ⟨X, 5, none⟩)] 30))
    have hs5 := HB4.out.setCell (p := ⟨X, 3, none⟩) hXw (.int .i64 n)
    have HB5 := Lib.hid (hs5.alloc hs5.size (.cells #[.pointer (some ⟨X, 0, none⟩), .pointer (some ⟨X, 1, none⟩), .pointer (some ⟨X, 2, none⟩), .pointer (some ⟨X, 3, none⟩), .pointer (some ⟨X, 4, none⟩), .pointer (some ⟨X, 5, none⟩)] 30))
    clear HX4 HG4 HB4 x0 x1 x2 x3 x4 x5 xf xl hs5
    simp only [List.set] at HX5
    generalize (w4.setCell ⟨X, 3, none⟩ (.int .i64 n)).alloc (.cells #[.pointer (some ⟨X, 0, none⟩), .pointer (some ⟨X, 1, none⟩), .pointer (some ⟨X, 2, none⟩), .pointer (some ⟨X, 3, none⟩), .pointer (some ⟨X, 4, none⟩), .pointer (some ⟨X, 5, none⟩)] 30) = w5 at *
    have HCX := Lib.hid (fun w => gcheck_any x y p n v s w)
    have HLX := Lib.hid (fun w => lcheck_any x y p n v s w)
    generalize checkG x y p n v s = T at *
    have AB := HB5.out.drew
    replace HG5 := Lib.hid (HG5.out.drew)
    replace HX5 := Lib.hid (HX5.out.drew)
    refine wp_region_held_drew (S := fun wx => wx.cell? ⟨w.heap.size, 0, none⟩ = some (.int .i64 a0) ∧ wx.cell? ⟨w.heap.size, 1, none⟩ = some (.int .i64 a1) ∧ wx.cell? ⟨w.heap.size, 2, none⟩ = some (.int .i64 a2) ∧ wx.cell? ⟨w.heap.size, 3, none⟩ = some (.int .i64 a3) ∧ wx.cell? ⟨w.heap.size, 4, none⟩ = some (.int .i64 a4) ∧ wx.cell? ⟨w.heap.size, 5, none⟩ = some (.int .i64 a5) ∧ wx.cell? ⟨X, 0, none⟩ = some (.int .i64 x) ∧ wx.cell? ⟨X, 1, none⟩ = some (.int .i64 y) ∧ wx.cell? ⟨X, 2, none⟩ = some (.int .i64 p) ∧ wx.cell? ⟨X, 3, none⟩ = some (.int .i64 n) ∧ wx.cell? ⟨X, 4, none⟩ = some (.int .i64 v) ∧ wx.cell? ⟨X, 5, none⟩ = some (.int .i64 s)) (by kernel_rfl) (⟨HG5.out.cell 0 rfl, HG5.out.cell 1 rfl, HG5.out.cell 2 rfl, HG5.out.cell 3 rfl, HG5.out.cell 4 rfl, HG5.out.cell 5 rfl, HX5.out.cell 0 rfl, HX5.out.cell 1 rfl, HX5.out.cell 2 rfl, HX5.out.cell 3 rfl, HX5.out.cell 4 rfl, HX5.out.cell 5 rfl⟩) (fun hHeld => ?_)
    refine wpAnyH_take (i := 0) (v := ?_) rfl (by kernel_rfl) (by kernel_rfl) (by kernel_rfl) (fun _ _ _ h => h) (Or.inl ⟨by rfl, ?_⟩) hHeld ?_
    rotate_left
    · intro w hSw
      (try dsimp only at hSw)
      (try simp only [List.getElem_toArray, List.getElem_cons_zero])
      go_simp
      all_goals with_reducible rfl
    try simp only [List.getElem_toArray, List.getElem_cons_zero, Act.put, List.setIfInBounds_toArray, List.set_cons_zero, List.set_cons_succ]
    refine wpAnyH_take (i := 2) (v := ?_) rfl (by kernel_rfl) (by kernel_rfl) (by kernel_rfl) (fun _ _ _ h => h) (Or.inl ⟨by rfl, ?_⟩) hHeld ?_
    rotate_left
    · intro w hSw
      (try dsimp only at hSw)
      (try simp only [List.getElem_toArray, List.getElem_cons_zero, List.getElem_cons_succ])
      go_simp
      all_goals with_reducible rfl
    try simp only [List.getElem_toArray, List.getElem_cons_zero, List.getElem_cons_succ, Act.put, List.setIfInBounds_toArray, List.set_cons_zero, List.set_cons_succ]
    refine wpAnyH_ready (rs := [1]) (by kernel_rfl) (by simp) ?_
    refine AllReadyH.cons rfl (fun K hK => ?_) AllReadyH.nil
    try simp only [List.getElem_toArray, List.getElem_cons_zero, List.getElem_cons_succ]
    go_simp
    refine (HCG.out _).mono ?_
    rintro e wn ⟨rfl, hbn⟩
    have AB := AB.trans (hbn.mono (AB.size))
    replace HG5 := Lib.hid (HG5.out.keep hbn)
    replace HX5 := Lib.hid (HX5.out.keep hbn)
    clear hbn
    go_wp2_with fail
    refine hK.out _ _ (⟨HG5.out.cell 0 rfl, HG5.out.cell 1 rfl, HG5.out.cell 2 rfl, HG5.out.cell 3 rfl, HG5.out.cell 4 rfl, HG5.out.cell 5 rfl, HX5.out.cell 0 rfl, HX5.out.cell 1 rfl, HX5.out.cell 2 rfl, HX5.out.cell 3 rfl, HX5.out.cell 4 rfl, HX5.out.cell 5 rfl⟩) (fun hHeld => ?_)
    clear hK K
    try simp only [List.getElem_toArray, List.getElem_cons_zero, List.getElem_cons_succ, Act.put, List.setIfInBounds_toArray, List.set_cons_zero, List.set_cons_succ]
    refine wpAnyH_ready (rs := [3]) (by kernel_rfl) (by simp) ?_
    refine AllReadyH.cons rfl (fun K hK => ?_) AllReadyH.nil
    try simp only [List.getElem_toArray, List.getElem_cons_zero, List.getElem_cons_succ]
    go_simp
    refine (HLG.out _).mono ?_
    rintro e wn ⟨rfl, hbn⟩
    have AB := AB.trans (hbn.mono (AB.size))
    replace HG5 := Lib.hid (HG5.out.keep hbn)
    replace HX5 := Lib.hid (HX5.out.keep hbn)
    clear hbn
    go_wp2_with fail
    refine hK.out _ _ (⟨HG5.out.cell 0 rfl, HG5.out.cell 1 rfl, HG5.out.cell 2 rfl, HG5.out.cell 3 rfl, HG5.out.cell 4 rfl, HG5.out.cell 5 rfl, HX5.out.cell 0 rfl, HX5.out.cell 1 rfl, HX5.out.cell 2 rfl, HX5.out.cell 3 rfl, HX5.out.cell 4 rfl, HX5.out.cell 5 rfl⟩) (fun hHeld => ?_)
    clear hK K
    try simp only [List.getElem_toArray, List.getElem_cons_zero, List.getElem_cons_succ, Act.put, List.setIfInBounds_toArray, List.set_cons_zero, List.set_cons_succ]
    refine wpAnyH_take (i := 4) (v := ?_) rfl (by kernel_rfl) (by kernel_rfl) (by kernel_rfl) (fun _ _ _ h => h) (Or.inl ⟨by rfl, ?_⟩) hHeld ?_
    rotate_left
    · intro w hSw
      (try dsimp only at hSw)
      (try simp only [List.getElem_toArray, List.getElem_cons_zero, List.getElem_cons_succ])
      go_simp
      all_goals with_reducible rfl
    try simp only [List.getElem_toArray, List.getElem_cons_zero, List.getElem_cons_succ, Act.put, List.setIfInBounds_toArray, List.set_cons_zero, List.set_cons_succ]
    refine wpAnyH_take (i := 5) (v := ?_) rfl (by kernel_rfl) (by kernel_rfl) (by kernel_rfl) (fun _ _ _ h => h) (Or.inl ⟨by rfl, ?_⟩) hHeld ?_
    rotate_left
    · intro w hSw
      (try dsimp only at hSw)
      (try simp only [List.getElem_toArray, List.getElem_cons_zero, List.getElem_cons_succ])
      go_simp
      all_goals with_reducible rfl
    try simp only [List.getElem_toArray, List.getElem_cons_zero, List.getElem_cons_succ, Act.put, List.setIfInBounds_toArray, List.set_cons_zero, List.set_cons_succ]
    refine wpAnyH_take (i := 6) (v := ?_) rfl (by kernel_rfl) (by kernel_rfl) (by kernel_rfl) (fun _ _ _ h => h) (Or.inl ⟨by rfl, ?_⟩) hHeld ?_
    rotate_left
    · intro w hSw
      (try dsimp only at hSw)
      (try simp only [List.getElem_toArray, List.getElem_cons_zero, List.getElem_cons_succ])
      go_simp
      all_goals with_reducible rfl
    try simp only [List.getElem_toArray, List.getElem_cons_zero, List.getElem_cons_succ, Act.put, List.setIfInBounds_toArray, List.set_cons_zero, List.set_cons_succ]
    refine wpAnyH_take (i := 8) (v := ?_) rfl (by kernel_rfl) (by kernel_rfl) (by kernel_rfl) (fun _ _ _ h => h) (Or.inl ⟨by rfl, ?_⟩) hHeld ?_
    rotate_left
    · intro w hSw
      (try dsimp only at hSw)
      (try simp only [List.getElem_toArray, List.getElem_cons_zero, List.getElem_cons_succ])
      go_simp
      all_goals with_reducible rfl
    try simp only [List.getElem_toArray, List.getElem_cons_zero, List.getElem_cons_succ, Act.put, List.setIfInBounds_toArray, List.set_cons_zero, List.set_cons_succ]
    refine wpAnyH_ready (rs := [7]) (by kernel_rfl) (by simp) ?_
    refine AllReadyH.cons rfl (fun K hK => ?_) AllReadyH.nil
    try simp only [List.getElem_toArray, List.getElem_cons_zero, List.getElem_cons_succ]
    go_simp
    refine (HCX.out _).mono ?_
    rintro e wn ⟨rfl, hbn⟩
    have AB := AB.trans (hbn.mono (AB.size))
    replace HG5 := Lib.hid (HG5.out.keep hbn)
    replace HX5 := Lib.hid (HX5.out.keep hbn)
    clear hbn
    go_wp2_with fail
    refine hK.out _ _ (⟨HG5.out.cell 0 rfl, HG5.out.cell 1 rfl, HG5.out.cell 2 rfl, HG5.out.cell 3 rfl, HG5.out.cell 4 rfl, HG5.out.cell 5 rfl, HX5.out.cell 0 rfl, HX5.out.cell 1 rfl, HX5.out.cell 2 rfl, HX5.out.cell 3 rfl, HX5.out.cell 4 rfl, HX5.out.cell 5 rfl⟩) (fun hHeld => ?_)
    clear hK K
    try simp only [List.getElem_toArray, List.getElem_cons_zero, List.getElem_cons_succ, Act.put, List.setIfInBounds_toArray, List.set_cons_zero, List.set_cons_succ]
    refine wpAnyH_ready (rs := [9]) (by kernel_rfl) (by simp) ?_
    refine AllReadyH.cons rfl (fun K hK => ?_) AllReadyH.nil
    try simp only [List.getElem_toArray, List.getElem_cons_zero, List.getElem_cons_succ]
    go_simp
    refine (HLX.out _).mono ?_
    rintro e wn ⟨rfl, hbn⟩
    have AB := AB.trans (hbn.mono (AB.size))
    replace HG5 := Lib.hid (HG5.out.keep hbn)
    replace HX5 := Lib.hid (HX5.out.keep hbn)
    clear hbn
    go_wp2_with fail
    refine hK.out _ _ (⟨HG5.out.cell 0 rfl, HG5.out.cell 1 rfl, HG5.out.cell 2 rfl, HG5.out.cell 3 rfl, HG5.out.cell 4 rfl, HG5.out.cell 5 rfl, HX5.out.cell 0 rfl, HX5.out.cell 1 rfl, HX5.out.cell 2 rfl, HX5.out.cell 3 rfl, HX5.out.cell 4 rfl, HX5.out.cell 5 rfl⟩) (fun hHeld => ?_)
    clear hK K
    try simp only [List.getElem_toArray, List.getElem_cons_zero, List.getElem_cons_succ, Act.put, List.setIfInBounds_toArray, List.set_cons_zero, List.set_cons_succ]
    refine wpAnyH_take (i := 10) (v := ?_) rfl (by kernel_rfl) (by kernel_rfl) (by kernel_rfl) (fun _ _ _ h => h) (Or.inl ⟨by rfl, ?_⟩) hHeld ?_
    rotate_left
    · intro w hSw
      (try dsimp only at hSw)
      (try simp only [List.getElem_toArray, List.getElem_cons_zero, List.getElem_cons_succ])
      go_simp
      all_goals with_reducible rfl
    try simp only [List.getElem_toArray, List.getElem_cons_zero, List.getElem_cons_succ, Act.put, List.setIfInBounds_toArray, List.set_cons_zero, List.set_cons_succ]
    refine wpAnyH_take (i := 11) (v := ?_) rfl (by kernel_rfl) (by kernel_rfl) (by kernel_rfl) (fun _ _ _ h => h) (Or.inl ⟨by rfl, ?_⟩) hHeld ?_
    rotate_left
    · intro w hSw
      (try dsimp only at hSw)
      (try simp only [List.getElem_toArray, List.getElem_cons_zero, List.getElem_cons_succ])
      go_simp
      all_goals with_reducible rfl
    try simp only [List.getElem_toArray, List.getElem_cons_zero, List.getElem_cons_succ, Act.put, List.setIfInBounds_toArray, List.set_cons_zero, List.set_cons_succ]
    refine wpAnyH_take (i := 12) (v := ?_) rfl (by kernel_rfl) (by kernel_rfl) (by kernel_rfl) (fun _ _ _ h => h) (Or.inl ⟨by rfl, ?_⟩) hHeld ?_
    rotate_left
    · intro w hSw
      (try dsimp only at hSw)
      (try simp only [List.getElem_toArray, List.getElem_cons_zero, List.getElem_cons_succ])
      go_simp
      all_goals with_reducible rfl
    try simp only [List.getElem_toArray, List.getElem_cons_zero, List.getElem_cons_succ, Act.put, List.setIfInBounds_toArray, List.set_cons_zero, List.set_cons_succ]
    refine wpAnyH_done (by kernel_rfl) ?_ _
    have HBz := Lib.hid AB
    clear AB hHeld
    go_wp2
    go_ret
    exact ⟨rfl, HBz.out⟩
  · go_wp2_with fail
    have HX5 := Lib.hid ((HX4.out.set 4 (.int .i64 n)).alloc (.cells #[.pointer (some ⟨X, 0, none⟩), .pointer (some ⟨X, 1, none⟩), .pointer (some ⟨X, 2, none⟩), .pointer (some ⟨X, 3, none⟩), .pointer (some ⟨X, 4, none⟩), .pointer (some ⟨X, 5, none⟩)] 30))
    have HG5 := Lib.hid ((HG4.out.other (k := X) 4 (.int .i64 n) (by omega)).alloc (.cells #[.pointer (some ⟨X, 0, none⟩), .pointer (some ⟨X, 1, none⟩), .pointer (some ⟨X, 2, none⟩), .pointer (some ⟨X, 3, none⟩), .pointer (some ⟨X, 4, none⟩), .pointer (some ⟨X, 5, none⟩)] 30))
    have hs5 := HB4.out.setCell (p := ⟨X, 4, none⟩) hXw (.int .i64 n)
    have HB5 := Lib.hid (hs5.alloc hs5.size (.cells #[.pointer (some ⟨X, 0, none⟩), .pointer (some ⟨X, 1, none⟩), .pointer (some ⟨X, 2, none⟩), .pointer (some ⟨X, 3, none⟩), .pointer (some ⟨X, 4, none⟩), .pointer (some ⟨X, 5, none⟩)] 30))
    clear HX4 HG4 HB4 x0 x1 x2 x3 x4 x5 xf xl hs5
    simp only [List.set] at HX5
    generalize (w4.setCell ⟨X, 4, none⟩ (.int .i64 n)).alloc (.cells #[.pointer (some ⟨X, 0, none⟩), .pointer (some ⟨X, 1, none⟩), .pointer (some ⟨X, 2, none⟩), .pointer (some ⟨X, 3, none⟩), .pointer (some ⟨X, 4, none⟩), .pointer (some ⟨X, 5, none⟩)] 30) = w5 at *
    have HCX := Lib.hid (fun w => gcheck_any x y p u n s w)
    have HLX := Lib.hid (fun w => lcheck_any x y p u n s w)
    generalize checkG x y p u n s = T at *
    have AB := HB5.out.drew
    replace HG5 := Lib.hid (HG5.out.drew)
    replace HX5 := Lib.hid (HX5.out.drew)
    refine wp_region_held_drew (S := fun wx => wx.cell? ⟨w.heap.size, 0, none⟩ = some (.int .i64 a0) ∧ wx.cell? ⟨w.heap.size, 1, none⟩ = some (.int .i64 a1) ∧ wx.cell? ⟨w.heap.size, 2, none⟩ = some (.int .i64 a2) ∧ wx.cell? ⟨w.heap.size, 3, none⟩ = some (.int .i64 a3) ∧ wx.cell? ⟨w.heap.size, 4, none⟩ = some (.int .i64 a4) ∧ wx.cell? ⟨w.heap.size, 5, none⟩ = some (.int .i64 a5) ∧ wx.cell? ⟨X, 0, none⟩ = some (.int .i64 x) ∧ wx.cell? ⟨X, 1, none⟩ = some (.int .i64 y) ∧ wx.cell? ⟨X, 2, none⟩ = some (.int .i64 p) ∧ wx.cell? ⟨X, 3, none⟩ = some (.int .i64 u) ∧ wx.cell? ⟨X, 4, none⟩ = some (.int .i64 n) ∧ wx.cell? ⟨X, 5, none⟩ = some (.int .i64 s)) (by kernel_rfl) (⟨HG5.out.cell 0 rfl, HG5.out.cell 1 rfl, HG5.out.cell 2 rfl, HG5.out.cell 3 rfl, HG5.out.cell 4 rfl, HG5.out.cell 5 rfl, HX5.out.cell 0 rfl, HX5.out.cell 1 rfl, HX5.out.cell 2 rfl, HX5.out.cell 3 rfl, HX5.out.cell 4 rfl, HX5.out.cell 5 rfl⟩) (fun hHeld => ?_)
    refine wpAnyH_take (i := 0) (v := ?_) rfl (by kernel_rfl) (by kernel_rfl) (by kernel_rfl) (fun _ _ _ h => h) (Or.inl ⟨by rfl, ?_⟩) hHeld ?_
    rotate_left
    · intro w hSw
      (try dsimp only at hSw)
      (try simp only [List.getElem_toArray, List.getElem_cons_zero])
      go_simp
      all_goals with_reducible rfl
    try simp only [List.getElem_toArray, List.getElem_cons_zero, Act.put, List.setIfInBounds_toArray, List.set_cons_zero, List.set_cons_succ]
    refine wpAnyH_take (i := 2) (v := ?_) rfl (by kernel_rfl) (by kernel_rfl) (by kernel_rfl) (fun _ _ _ h => h) (Or.inl ⟨by rfl, ?_⟩) hHeld ?_
    rotate_left
    · intro w hSw
      (try dsimp only at hSw)
      (try simp only [List.getElem_toArray, List.getElem_cons_zero, List.getElem_cons_succ])
      go_simp
      all_goals with_reducible rfl
    try simp only [List.getElem_toArray, List.getElem_cons_zero, List.getElem_cons_succ, Act.put, List.setIfInBounds_toArray, List.set_cons_zero, List.set_cons_succ]
    refine wpAnyH_ready (rs := [1]) (by kernel_rfl) (by simp) ?_
    refine AllReadyH.cons rfl (fun K hK => ?_) AllReadyH.nil
    try simp only [List.getElem_toArray, List.getElem_cons_zero, List.getElem_cons_succ]
    go_simp
    refine (HCG.out _).mono ?_
    rintro e wn ⟨rfl, hbn⟩
    have AB := AB.trans (hbn.mono (AB.size))
    replace HG5 := Lib.hid (HG5.out.keep hbn)
    replace HX5 := Lib.hid (HX5.out.keep hbn)
    clear hbn
    go_wp2_with fail
    refine hK.out _ _ (⟨HG5.out.cell 0 rfl, HG5.out.cell 1 rfl, HG5.out.cell 2 rfl, HG5.out.cell 3 rfl, HG5.out.cell 4 rfl, HG5.out.cell 5 rfl, HX5.out.cell 0 rfl, HX5.out.cell 1 rfl, HX5.out.cell 2 rfl, HX5.out.cell 3 rfl, HX5.out.cell 4 rfl, HX5.out.cell 5 rfl⟩) (fun hHeld => ?_)
    clear hK K
    try simp only [List.getElem_toArray, List.getElem_cons_zero, List.getElem_cons_succ, Act.put, List.setIfInBounds_toArray, List.set_cons_zero, List.set_cons_succ]
    refine wpAnyH_ready (rs := [3]) (by kernel_rfl) (by simp) ?_
    refine AllReadyH.cons rfl (fun K hK => ?_) AllReadyH.nil
    try simp only [List.getElem_toArray, List.getElem_cons_zero, List.getElem_cons_succ]
    go_simp
    refine (HLG.out _).mono ?_
    rintro e wn ⟨rfl, hbn⟩
    have AB := AB.trans (hbn.mono (AB.size))
    replace HG5 := Lib.hid (HG5.out.keep hbn)
    replace HX5 := Lib.hid (HX5.out.keep hbn)
    clear hbn
    go_wp2_with fail
    refine hK.out _ _ (⟨HG5.out.cell 0 rfl, HG5.out.cell 1 rfl, HG5.out.cell 2 rfl, HG5.out.cell 3 rfl, HG5.out.cell 4 rfl, HG5.out.cell 5 rfl, HX5.out.cell 0 rfl, HX5.out.cell 1 rfl, HX5.out.cell 2 rfl, HX5.out.cell 3 rfl, HX5.out.cell 4 rfl, HX5.out.cell 5 rfl⟩) (fun hHeld => ?_)
    clear hK K
    try simp only [List.getElem_toArray, List.getElem_cons_zero, List.getElem_cons_succ, Act.put, List.setIfInBounds_toArray, List.set_cons_zero, List.set_cons_succ]
    refine wpAnyH_take (i := 4) (v := ?_) rfl (by kernel_rfl) (by kernel_rfl) (by kernel_rfl) (fun _ _ _ h => h) (Or.inl ⟨by rfl, ?_⟩) hHeld ?_
    rotate_left
    · intro w hSw
      (try dsimp only at hSw)
      (try simp only [List.getElem_toArray, List.getElem_cons_zero, List.getElem_cons_succ])
      go_simp
      all_goals with_reducible rfl
    try simp only [List.getElem_toArray, List.getElem_cons_zero, List.getElem_cons_succ, Act.put, List.setIfInBounds_toArray, List.set_cons_zero, List.set_cons_succ]
    refine wpAnyH_take (i := 5) (v := ?_) rfl (by kernel_rfl) (by kernel_rfl) (by kernel_rfl) (fun _ _ _ h => h) (Or.inl ⟨by rfl, ?_⟩) hHeld ?_
    rotate_left
    · intro w hSw
      (try dsimp only at hSw)
      (try simp only [List.getElem_toArray, List.getElem_cons_zero, List.getElem_cons_succ])
      go_simp
      all_goals with_reducible rfl
    try simp only [List.getElem_toArray, List.getElem_cons_zero, List.getElem_cons_succ, Act.put, List.setIfInBounds_toArray, List.set_cons_zero, List.set_cons_succ]
    refine wpAnyH_take (i := 6) (v := ?_) rfl (by kernel_rfl) (by kernel_rfl) (by kernel_rfl) (fun _ _ _ h => h) (Or.inl ⟨by rfl, ?_⟩) hHeld ?_
    rotate_left
    · intro w hSw
      (try dsimp only at hSw)
      (try simp only [List.getElem_toArray, List.getElem_cons_zero, List.getElem_cons_succ])
      go_simp
      all_goals with_reducible rfl
    try simp only [List.getElem_toArray, List.getElem_cons_zero, List.getElem_cons_succ, Act.put, List.setIfInBounds_toArray, List.set_cons_zero, List.set_cons_succ]
    refine wpAnyH_take (i := 8) (v := ?_) rfl (by kernel_rfl) (by kernel_rfl) (by kernel_rfl) (fun _ _ _ h => h) (Or.inl ⟨by rfl, ?_⟩) hHeld ?_
    rotate_left
    · intro w hSw
      (try dsimp only at hSw)
      (try simp only [List.getElem_toArray, List.getElem_cons_zero, List.getElem_cons_succ])
      go_simp
      all_goals with_reducible rfl
    try simp only [List.getElem_toArray, List.getElem_cons_zero, List.getElem_cons_succ, Act.put, List.setIfInBounds_toArray, List.set_cons_zero, List.set_cons_succ]
    refine wpAnyH_ready (rs := [7]) (by kernel_rfl) (by simp) ?_
    refine AllReadyH.cons rfl (fun K hK => ?_) AllReadyH.nil
    try simp only [List.getElem_toArray, List.getElem_cons_zero, List.getElem_cons_succ]
    go_simp
    refine (HCX.out _).mono ?_
    rintro e wn ⟨rfl, hbn⟩
    have AB := AB.trans (hbn.mono (AB.size))
    replace HG5 := Lib.hid (HG5.out.keep hbn)
    replace HX5 := Lib.hid (HX5.out.keep hbn)
    clear hbn
    go_wp2_with fail
    refine hK.out _ _ (⟨HG5.out.cell 0 rfl, HG5.out.cell 1 rfl, HG5.out.cell 2 rfl, HG5.out.cell 3 rfl, HG5.out.cell 4 rfl, HG5.out.cell 5 rfl, HX5.out.cell 0 rfl, HX5.out.cell 1 rfl, HX5.out.cell 2 rfl, HX5.out.cell 3 rfl, HX5.out.cell 4 rfl, HX5.out.cell 5 rfl⟩) (fun hHeld => ?_)
    clear hK K
    try simp only [List.getElem_toArray, List.getElem_cons_zero, List.getElem_cons_succ, Act.put, List.setIfInBounds_toArray, List.set_cons_zero, List.set_cons_succ]
    refine wpAnyH_ready (rs := [9]) (by kernel_rfl) (by simp) ?_
    refine AllReadyH.cons rfl (fun K hK => ?_) AllReadyH.nil
    try simp only [List.getElem_toArray, List.getElem_cons_zero, List.getElem_cons_succ]
    go_simp
    refine (HLX.out _).mono ?_
    rintro e wn ⟨rfl, hbn⟩
    have AB := AB.trans (hbn.mono (AB.size))
    replace HG5 := Lib.hid (HG5.out.keep hbn)
    replace HX5 := Lib.hid (HX5.out.keep hbn)
    clear hbn
    go_wp2_with fail
    refine hK.out _ _ (⟨HG5.out.cell 0 rfl, HG5.out.cell 1 rfl, HG5.out.cell 2 rfl, HG5.out.cell 3 rfl, HG5.out.cell 4 rfl, HG5.out.cell 5 rfl, HX5.out.cell 0 rfl, HX5.out.cell 1 rfl, HX5.out.cell 2 rfl, HX5.out.cell 3 rfl, HX5.out.cell 4 rfl, HX5.out.cell 5 rfl⟩) (fun hHeld => ?_)
    clear hK K
    try simp only [List.getElem_toArray, List.getElem_cons_zero, List.getElem_cons_succ, Act.put, List.setIfInBounds_toArray, List.set_cons_zero, List.set_cons_succ]
    refine wpAnyH_take (i := 10) (v := ?_) rfl (by kernel_rfl) (by kernel_rfl) (by kernel_rfl) (fun _ _ _ h => h) (Or.inl ⟨by rfl, ?_⟩) hHeld ?_
    rotate_left
    · intro w hSw
      (try dsimp only at hSw)
      (try simp only [List.getElem_toArray, List.getElem_cons_zero, List.getElem_cons_succ])
      go_simp
      all_goals with_reducible rfl
    try simp only [List.getElem_toArray, List.getElem_cons_zero, List.getElem_cons_succ, Act.put, List.setIfInBounds_toArray, List.set_cons_zero, List.set_cons_succ]
    refine wpAnyH_take (i := 11) (v := ?_) rfl (by kernel_rfl) (by kernel_rfl) (by kernel_rfl) (fun _ _ _ h => h) (Or.inl ⟨by rfl, ?_⟩) hHeld ?_
    rotate_left
    · intro w hSw
      (try dsimp only at hSw)
      (try simp only [List.getElem_toArray, List.getElem_cons_zero, List.getElem_cons_succ])
      go_simp
      all_goals with_reducible rfl
    try simp only [List.getElem_toArray, List.getElem_cons_zero, List.getElem_cons_succ, Act.put, List.setIfInBounds_toArray, List.set_cons_zero, List.set_cons_succ]
    refine wpAnyH_take (i := 12) (v := ?_) rfl (by kernel_rfl) (by kernel_rfl) (by kernel_rfl) (fun _ _ _ h => h) (Or.inl ⟨by rfl, ?_⟩) hHeld ?_
    rotate_left
    · intro w hSw
      (try dsimp only at hSw)
      (try simp only [List.getElem_toArray, List.getElem_cons_zero, List.getElem_cons_succ])
      go_simp
      all_goals with_reducible rfl
    try simp only [List.getElem_toArray, List.getElem_cons_zero, List.getElem_cons_succ, Act.put, List.setIfInBounds_toArray, List.set_cons_zero, List.set_cons_succ]
    refine wpAnyH_done (by kernel_rfl) ?_ _
    have HBz := Lib.hid AB
    clear AB hHeld
    go_wp2
    go_ret
    exact ⟨rfl, HBz.out⟩
  · go_wp2_with fail
    have HX5 := Lib.hid ((HX4.out.set 5 (.int .i64 n)).alloc (.cells #[.pointer (some ⟨X, 0, none⟩), .pointer (some ⟨X, 1, none⟩), .pointer (some ⟨X, 2, none⟩), .pointer (some ⟨X, 3, none⟩), .pointer (some ⟨X, 4, none⟩), .pointer (some ⟨X, 5, none⟩)] 30))
    have HG5 := Lib.hid ((HG4.out.other (k := X) 5 (.int .i64 n) (by omega)).alloc (.cells #[.pointer (some ⟨X, 0, none⟩), .pointer (some ⟨X, 1, none⟩), .pointer (some ⟨X, 2, none⟩), .pointer (some ⟨X, 3, none⟩), .pointer (some ⟨X, 4, none⟩), .pointer (some ⟨X, 5, none⟩)] 30))
    have hs5 := HB4.out.setCell (p := ⟨X, 5, none⟩) hXw (.int .i64 n)
    have HB5 := Lib.hid (hs5.alloc hs5.size (.cells #[.pointer (some ⟨X, 0, none⟩), .pointer (some ⟨X, 1, none⟩), .pointer (some ⟨X, 2, none⟩), .pointer (some ⟨X, 3, none⟩), .pointer (some ⟨X, 4, none⟩), .pointer (some ⟨X, 5, none⟩)] 30))
    clear HX4 HG4 HB4 x0 x1 x2 x3 x4 x5 xf xl hs5
    simp only [List.set] at HX5
    generalize (w4.setCell ⟨X, 5, none⟩ (.int .i64 n)).alloc (.cells #[.pointer (some ⟨X, 0, none⟩), .pointer (some ⟨X, 1, none⟩), .pointer (some ⟨X, 2, none⟩), .pointer (some ⟨X, 3, none⟩), .pointer (some ⟨X, 4, none⟩), .pointer (some ⟨X, 5, none⟩)] 30) = w5 at *
    have HCX := Lib.hid (fun w => gcheck_any x y p u v n w)
    have HLX := Lib.hid (fun w => lcheck_any x y p u v n w)
    generalize checkG x y p u v n = T at *
    have AB := HB5.out.drew
    replace HG5 := Lib.hid (HG5.out.drew)
    replace HX5 := Lib.hid (HX5.out.drew)
    refine wp_region_held_drew (S := fun wx => wx.cell? ⟨w.heap.size, 0, none⟩ = some (.int .i64 a0) ∧ wx.cell? ⟨w.heap.size, 1, none⟩ = some (.int .i64 a1) ∧ wx.cell? ⟨w.heap.size, 2, none⟩ = some (.int .i64 a2) ∧ wx.cell? ⟨w.heap.size, 3, none⟩ = some (.int .i64 a3) ∧ wx.cell? ⟨w.heap.size, 4, none⟩ = some (.int .i64 a4) ∧ wx.cell? ⟨w.heap.size, 5, none⟩ = some (.int .i64 a5) ∧ wx.cell? ⟨X, 0, none⟩ = some (.int .i64 x) ∧ wx.cell? ⟨X, 1, none⟩ = some (.int .i64 y) ∧ wx.cell? ⟨X, 2, none⟩ = some (.int .i64 p) ∧ wx.cell? ⟨X, 3, none⟩ = some (.int .i64 u) ∧ wx.cell? ⟨X, 4, none⟩ = some (.int .i64 v) ∧ wx.cell? ⟨X, 5, none⟩ = some (.int .i64 n)) (by kernel_rfl) (⟨HG5.out.cell 0 rfl, HG5.out.cell 1 rfl, HG5.out.cell 2 rfl, HG5.out.cell 3 rfl, HG5.out.cell 4 rfl, HG5.out.cell 5 rfl, HX5.out.cell 0 rfl, HX5.out.cell 1 rfl, HX5.out.cell 2 rfl, HX5.out.cell 3 rfl, HX5.out.cell 4 rfl, HX5.out.cell 5 rfl⟩) (fun hHeld => ?_)
    refine wpAnyH_take (i := 0) (v := ?_) rfl (by kernel_rfl) (by kernel_rfl) (by kernel_rfl) (fun _ _ _ h => h) (Or.inl ⟨by rfl, ?_⟩) hHeld ?_
    rotate_left
    · intro w hSw
      (try dsimp only at hSw)
      (try simp only [List.getElem_toArray, List.getElem_cons_zero])
      go_simp
      all_goals with_reducible rfl
    try simp only [List.getElem_toArray, List.getElem_cons_zero, Act.put, List.setIfInBounds_toArray, List.set_cons_zero, List.set_cons_succ]
    refine wpAnyH_take (i := 2) (v := ?_) rfl (by kernel_rfl) (by kernel_rfl) (by kernel_rfl) (fun _ _ _ h => h) (Or.inl ⟨by rfl, ?_⟩) hHeld ?_
    rotate_left
    · intro w hSw
      (try dsimp only at hSw)
      (try simp only [List.getElem_toArray, List.getElem_cons_zero, List.getElem_cons_succ])
      go_simp
      all_goals with_reducible rfl
    try simp only [List.getElem_toArray, List.getElem_cons_zero, List.getElem_cons_succ, Act.put, List.setIfInBounds_toArray, List.set_cons_zero, List.set_cons_succ]
    refine wpAnyH_ready (rs := [1]) (by kernel_rfl) (by simp) ?_
    refine AllReadyH.cons rfl (fun K hK => ?_) AllReadyH.nil
    try simp only [List.getElem_toArray, List.getElem_cons_zero, List.getElem_cons_succ]
    go_simp
    refine (HCG.out _).mono ?_
    rintro e wn ⟨rfl, hbn⟩
    have AB := AB.trans (hbn.mono (AB.size))
    replace HG5 := Lib.hid (HG5.out.keep hbn)
    replace HX5 := Lib.hid (HX5.out.keep hbn)
    clear hbn
    go_wp2_with fail
    refine hK.out _ _ (⟨HG5.out.cell 0 rfl, HG5.out.cell 1 rfl, HG5.out.cell 2 rfl, HG5.out.cell 3 rfl, HG5.out.cell 4 rfl, HG5.out.cell 5 rfl, HX5.out.cell 0 rfl, HX5.out.cell 1 rfl, HX5.out.cell 2 rfl, HX5.out.cell 3 rfl, HX5.out.cell 4 rfl, HX5.out.cell 5 rfl⟩) (fun hHeld => ?_)
    clear hK K
    try simp only [List.getElem_toArray, List.getElem_cons_zero, List.getElem_cons_succ, Act.put, List.setIfInBounds_toArray, List.set_cons_zero, List.set_cons_succ]
    refine wpAnyH_ready (rs := [3]) (by kernel_rfl) (by simp) ?_
    refine AllReadyH.cons rfl (fun K hK => ?_) AllReadyH.nil
    try simp only [List.getElem_toArray, List.getElem_cons_zero, List.getElem_cons_succ]
    go_simp
    refine (HLG.out _).mono ?_
    rintro e wn ⟨rfl, hbn⟩
    have AB := AB.trans (hbn.mono (AB.size))
    replace HG5 := Lib.hid (HG5.out.keep hbn)
    replace HX5 := Lib.hid (HX5.out.keep hbn)
    clear hbn
    go_wp2_with fail
    refine hK.out _ _ (⟨HG5.out.cell 0 rfl, HG5.out.cell 1 rfl, HG5.out.cell 2 rfl, HG5.out.cell 3 rfl, HG5.out.cell 4 rfl, HG5.out.cell 5 rfl, HX5.out.cell 0 rfl, HX5.out.cell 1 rfl, HX5.out.cell 2 rfl, HX5.out.cell 3 rfl, HX5.out.cell 4 rfl, HX5.out.cell 5 rfl⟩) (fun hHeld => ?_)
    clear hK K
    try simp only [List.getElem_toArray, List.getElem_cons_zero, List.getElem_cons_succ, Act.put, List.setIfInBounds_toArray, List.set_cons_zero, List.set_cons_succ]
    refine wpAnyH_take (i := 4) (v := ?_) rfl (by kernel_rfl) (by kernel_rfl) (by kernel_rfl) (fun _ _ _ h => h) (Or.inl ⟨by rfl, ?_⟩) hHeld ?_
    rotate_left
    · intro w hSw
      (try dsimp only at hSw)
      (try simp only [List.getElem_toArray, List.getElem_cons_zero, List.getElem_cons_succ])
      go_simp
      all_goals with_reducible rfl
    try simp only [List.getElem_toArray, List.getElem_cons_zero, List.getElem_cons_succ, Act.put, List.setIfInBounds_toArray, List.set_cons_zero, List.set_cons_succ]
    refine wpAnyH_take (i := 5) (v := ?_) rfl (by kernel_rfl) (by kernel_rfl) (by kernel_rfl) (fun _ _ _ h => h) (Or.inl ⟨by rfl, ?_⟩) hHeld ?_
    rotate_left
    · intro w hSw
      (try dsimp only at hSw)
      (try simp only [List.getElem_toArray, List.getElem_cons_zero, List.getElem_cons_succ])
      go_simp
      all_goals with_reducible rfl
    try simp only [List.getElem_toArray, List.getElem_cons_zero, List.getElem_cons_succ, Act.put, List.setIfInBounds_toArray, List.set_cons_zero, List.set_cons_succ]
    refine wpAnyH_take (i := 6) (v := ?_) rfl (by kernel_rfl) (by kernel_rfl) (by kernel_rfl) (fun _ _ _ h => h) (Or.inl ⟨by rfl, ?_⟩) hHeld ?_
    rotate_left
    · intro w hSw
      (try dsimp only at hSw)
      (try simp only [List.getElem_toArray, List.getElem_cons_zero, List.getElem_cons_succ])
      go_simp
      all_goals with_reducible rfl
    try simp only [List.getElem_toArray, List.getElem_cons_zero, List.getElem_cons_succ, Act.put, List.setIfInBounds_toArray, List.set_cons_zero, List.set_cons_succ]
    refine wpAnyH_take (i := 8) (v := ?_) rfl (by kernel_rfl) (by kernel_rfl) (by kernel_rfl) (fun _ _ _ h => h) (Or.inl ⟨by rfl, ?_⟩) hHeld ?_
    rotate_left
    · intro w hSw
      (try dsimp only at hSw)
      (try simp only [List.getElem_toArray, List.getElem_cons_zero, List.getElem_cons_succ])
      go_simp
      all_goals with_reducible rfl
    try simp only [List.getElem_toArray, List.getElem_cons_zero, List.getElem_cons_succ, Act.put, List.setIfInBounds_toArray, List.set_cons_zero, List.set_cons_succ]
    refine wpAnyH_ready (rs := [7]) (by kernel_rfl) (by simp) ?_
    refine AllReadyH.cons rfl (fun K hK => ?_) AllReadyH.nil
    try simp only [List.getElem_toArray, List.getElem_cons_zero, List.getElem_cons_succ]
    go_simp
    refine (HCX.out _).mono ?_
    rintro e wn ⟨rfl, hbn⟩
    have AB := AB.trans (hbn.mono (AB.size))
    replace HG5 := Lib.hid (HG5.out.keep hbn)
    replace HX5 := Lib.hid (HX5.out.keep hbn)
    clear hbn
    go_wp2_with fail
    refine hK.out _ _ (⟨HG5.out.cell 0 rfl, HG5.out.cell 1 rfl, HG5.out.cell 2 rfl, HG5.out.cell 3 rfl, HG5.out.cell 4 rfl, HG5.out.cell 5 rfl, HX5.out.cell 0 rfl, HX5.out.cell 1 rfl, HX5.out.cell 2 rfl, HX5.out.cell 3 rfl, HX5.out.cell 4 rfl, HX5.out.cell 5 rfl⟩) (fun hHeld => ?_)
    clear hK K
    try simp only [List.getElem_toArray, List.getElem_cons_zero, List.getElem_cons_succ, Act.put, List.setIfInBounds_toArray, List.set_cons_zero, List.set_cons_succ]
    refine wpAnyH_ready (rs := [9]) (by kernel_rfl) (by simp) ?_
    refine AllReadyH.cons rfl (fun K hK => ?_) AllReadyH.nil
    try simp only [List.getElem_toArray, List.getElem_cons_zero, List.getElem_cons_succ]
    go_simp
    refine (HLX.out _).mono ?_
    rintro e wn ⟨rfl, hbn⟩
    have AB := AB.trans (hbn.mono (AB.size))
    replace HG5 := Lib.hid (HG5.out.keep hbn)
    replace HX5 := Lib.hid (HX5.out.keep hbn)
    clear hbn
    go_wp2_with fail
    refine hK.out _ _ (⟨HG5.out.cell 0 rfl, HG5.out.cell 1 rfl, HG5.out.cell 2 rfl, HG5.out.cell 3 rfl, HG5.out.cell 4 rfl, HG5.out.cell 5 rfl, HX5.out.cell 0 rfl, HX5.out.cell 1 rfl, HX5.out.cell 2 rfl, HX5.out.cell 3 rfl, HX5.out.cell 4 rfl, HX5.out.cell 5 rfl⟩) (fun hHeld => ?_)
    clear hK K
    try simp only [List.getElem_toArray, List.getElem_cons_zero, List.getElem_cons_succ, Act.put, List.setIfInBounds_toArray, List.set_cons_zero, List.set_cons_succ]
    refine wpAnyH_take (i := 10) (v := ?_) rfl (by kernel_rfl) (by kernel_rfl) (by kernel_rfl) (fun _ _ _ h => h) (Or.inl ⟨by rfl, ?_⟩) hHeld ?_
    rotate_left
    · intro w hSw
      (try dsimp only at hSw)
      (try simp only [List.getElem_toArray, List.getElem_cons_zero, List.getElem_cons_succ])
      go_simp
      all_goals with_reducible rfl
    try simp only [List.getElem_toArray, List.getElem_cons_zero, List.getElem_cons_succ, Act.put, List.setIfInBounds_toArray, List.set_cons_zero, List.set_cons_succ]
    refine wpAnyH_take (i := 11) (v := ?_) rfl (by kernel_rfl) (by kernel_rfl) (by kernel_rfl) (fun _ _ _ h => h) (Or.inl ⟨by rfl, ?_⟩) hHeld ?_
    rotate_left
    · intro w hSw
      (try dsimp only at hSw)
      (try simp only [List.getElem_toArray, List.getElem_cons_zero, List.getElem_cons_succ])
      go_simp
      all_goals with_reducible rfl
    try simp only [List.getElem_toArray, List.getElem_cons_zero, List.getElem_cons_succ, Act.put, List.setIfInBounds_toArray, List.set_cons_zero, List.set_cons_succ]
    refine wpAnyH_take (i := 12) (v := ?_) rfl (by kernel_rfl) (by kernel_rfl) (by kernel_rfl) (fun _ _ _ h => h) (Or.inl ⟨by rfl, ?_⟩) hHeld ?_
    rotate_left
    · intro w hSw
      (try dsimp only at hSw)
      (try simp only [List.getElem_toArray, List.getElem_cons_zero, List.getElem_cons_succ])
      go_simp
      all_goals with_reducible rfl
    try simp only [List.getElem_toArray, List.getElem_cons_zero, List.getElem_cons_succ, Act.put, List.setIfInBounds_toArray, List.set_cons_zero, List.set_cons_succ]
    refine wpAnyH_done (by kernel_rfl) ?_ _
    have HBz := Lib.hid AB
    clear AB hHeld
    go_wp2
    go_ret
    exact ⟨rfl, HBz.out⟩

end Go.Proofs.Ytaadponhmnaccaa
