/-
  The program's texel of layer 13: its contract (no claim is made here).
-/
import Derived.Test.YteiildeaccngjaaSwp4
import Derived.Test.YteiildeaccngjaaMgrd
namespace Go.Proofs.Yteiildeaccngjaa
open Go.RowKit


set_option maxRecDepth 100000 in
set_option maxHeartbeats 3200000 in
theorem ptexel13_any (ve : Value) (es : List Ed) (x y p s : Int) (u v : Nat) (k X Y : Int) (w : World) (hv : ERd w ve es) (hl : es.length ≤ 200000) (hin : ∀ s ∈ es, InD s) (hs : 1 ≤ s ∧ s ≤ 64) (hP : InP ⟨X, Y⟩) (hk : -1 ≤ k ∧ k < es.length) :
    Calls Try.prog 35 #[ve, .int .i64 k, .agg #[.int .i64 x, .int .i64 y, .int .i64 p, .int .i64 u, .int .i64 v, .int .i64 s], .agg #[.int .i64 X, .int .i64 Y]] w fun e w' => e = .returned (.int .u8 ((swN es s ⟨X, Y⟩ k : Nat) : Int)) ∧ Below w.heap.size w w' := by
  have hsw := swN_is es s ⟨X, Y⟩ k hs.1
  by_cases h0 : k < 0
  · obtain rfl : k = -1 := by omega
    have hs1 : ((swN es s ⟨X, Y⟩ (-1) : Nat) : Int) = 1 := by rw [hsw]; unfold swG; rw [if_neg (by omega)]
    rw [hs1]
    clear hsw hs1
    go_enter Try.func35, Try.ntmps35
    go_wp2_with fail
    go_ret
    exact ⟨rfl, alloc2 w (.cells #[.int .i64 x, .int .i64 y, .int .i64 p, .int .i64 u, .int .i64 v, .int .i64 s] 29) (.cells #[.int .i64 X, .int .i64 Y] 41)⟩
  · obtain ⟨m, rfl⟩ : ∃ n : Nat, k = n := ⟨k.toNat, by omega⟩
    have hkb : ((m : Int) == -1) = false := by simp
    obtain ⟨E, hE0⟩ : ∃ c, es[m]? = some c := ⟨_, List.getElem?_eq_getElem (by omega)⟩
    have hIE := hin E (List.mem_of_getElem? hE0)
    obtain ⟨Ae, cape, rfl, hce, -⟩ := id hv
    obtain ⟨ae, rfl, hal, hEm⟩ := hv.at m E hE0
    have HSG := Lib.hid (fun w h => sign_any (.slice (some ae) es.length cape) es X Y w h hl hin hP)
    have HSQ := Lib.hid (fun w => square_any E.a.x E.a.y E.b.x E.b.y X Y ⟨hIE.1, hIE.2, hP⟩ w)
    change Hid (∀ w, Calls _ _ _ _ fun e w' => e = .returned (.agg #[.int .i64 (sqF E ⟨X, Y⟩).1, .int .i64 (sqF E ⟨X, Y⟩).2]) ∧ _) at HSQ
    have q1 := sq_small E ⟨X, Y⟩ hIE hP
    have HSC := Lib.hid (fun w => scaled_e8 (sqF E ⟨X, Y⟩).1 (sqF E ⟨X, Y⟩).2 (by omega) (by omega) q1.2.2 w)
    have hpair : ((sqF E ⟨X, Y⟩).1, (sqF E ⟨X, Y⟩).2) = sqF E ⟨X, Y⟩ := rfl
    rw [hpair] at HSC
    have q8 := e8_sq_small8 E ⟨X, Y⟩ hIE hP
    have HCD := Lib.hid (fun w => code_any x y p u v s (sgS es ⟨X, Y⟩) (e8 (sqF E ⟨X, Y⟩)) hs (sgS_in es ⟨X, Y⟩) q8 w)
    have hsv : 128 + sgS es ⟨X, Y⟩ * stepG s (e8 (sqF E ⟨X, Y⟩)) = ((swN es s ⟨X, Y⟩ m : Nat) : Int) := by
      rw [hsw]; unfold swG; rw [if_pos (by omega)]
      unfold sqK
      rw [Int.toNat_natCast, show es.getD m edZ = E by rw [List.getD_eq_getElem?_getD, hE0]; rfl]
    rw [hsv] at HCD
    clear hsv hsw hpair q1 q8 hIE
    generalize e8 (sqF E ⟨X, Y⟩) = e8v at *
    generalize (sqF E ⟨X, Y⟩).1 = n1 at *
    generalize (sqF E ⟨X, Y⟩).2 = d1 at *
    generalize sgS es ⟨X, Y⟩ = sg at *
    generalize swN es s ⟨X, Y⟩ m = SV at *
    have HV := Lib.hid hv
    have HEx := Lib.hid hEm
    have HEl := Lib.hid hal
    obtain ⟨N, hN⟩ : ∃ N, es.length = N := ⟨_, rfl⟩
    rw [hN] at HV HSG hk hce ⊢
    have hmN : m < N := by omega
    have HG := Lib.hid ((Blk.new w 29 [.int .i64 x, .int .i64 y, .int .i64 p, .int .i64 u, .int .i64 v, .int .i64 s] rfl).alloc (.cells #[.int .i64 X, .int .i64 Y] 41))
    have HPt := Lib.hid (Blk.new (w.alloc (.cells #[.int .i64 x, .int .i64 y, .int .i64 p, .int .i64 u, .int .i64 v, .int .i64 s] 29)) 41 [.int .i64 X, .int .i64 Y] (g := w.heap.size + 1) (by simp))
    have AB := alloc2 w (.cells #[.int .i64 x, .int .i64 y, .int .i64 p, .int .i64 u, .int .i64 v, .int .i64 s] 29) (.cells #[.int .i64 X, .int .i64 Y] 41)
    replace HV := Lib.hid (HV.out.keep AB)
    replace HEx := Lib.hid (eats_keep HEx.out HEl.out AB)
    replace HEl := Lib.hid (Nat.lt_of_lt_of_le HEl.out AB.size)
    clear hv hEm hal hE0 hin hl hN
    go_enter Try.func35, Try.ntmps35
    go_wp2_with fail
    generalize (w.alloc (.cells #[.int .i64 x, .int .i64 y, .int .i64 p, .int .i64 u, .int .i64 v, .int .i64 s] 29)).alloc (.cells #[.int .i64 X, .int .i64 Y] 41) = W at *
    have hdr : Below W.heap.size W W.drew := (Below.refl _ W).drew
    replace HG := Lib.hid (HG.out.keep hdr)
    replace HPt := Lib.hid (HPt.out.keep hdr)
    replace HV := Lib.hid (HV.out.keep hdr)
    replace HEx := Lib.hid (eats_keep HEx.out HEl.out hdr)
    replace HEl := Lib.hid (Nat.lt_of_lt_of_le HEl.out hdr.size)
    have AB := AB.trans (hdr.mono AB.size)
    clear hdr
    refine wp_region_held_drew (S := fun wx => wx.cell? ⟨w.heap.size, 0, none⟩ = some (.int .i64 x) ∧ wx.cell? ⟨w.heap.size, 1, none⟩ = some (.int .i64 y) ∧ wx.cell? ⟨w.heap.size, 2, none⟩ = some (.int .i64 p) ∧ wx.cell? ⟨w.heap.size, 3, none⟩ = some (.int .i64 u) ∧ wx.cell? ⟨w.heap.size, 4, none⟩ = some (.int .i64 v) ∧ wx.cell? ⟨w.heap.size, 5, none⟩ = some (.int .i64 s) ∧ wx.cell? ⟨w.heap.size + 1, 0, none⟩ = some (.int .i64 X) ∧ wx.cell? ⟨w.heap.size + 1, 1, none⟩ = some (.int .i64 Y) ∧ wx.cell? (ae.add (m * 4)) = some (.int .i64 E.a.x) ∧ wx.cell? ⟨(ae.add (m * 4)).block, (ae.add (m * 4)).off + 1, none⟩ = some (.int .i64 E.a.y) ∧ wx.cell? ⟨(ae.add (m * 4)).block, (ae.add (m * 4)).off + 2, none⟩ = some (.int .i64 E.b.x) ∧ wx.cell? ⟨(ae.add (m * 4)).block, (ae.add (m * 4)).off + 3, none⟩ = some (.int .i64 E.b.y)) (by kernel_rfl) (⟨HG.out.cell 0 rfl, HG.out.cell 1 rfl, HG.out.cell 2 rfl, HG.out.cell 3 rfl, HG.out.cell 4 rfl, HG.out.cell 5 rfl, HPt.out.cell 0 rfl, HPt.out.cell 1 rfl, HEx.out.1, HEx.out.2.1, HEx.out.2.2.1, HEx.out.2.2.2⟩) (fun hHeld => ?_)
    generalize W.drew = w2 at *
    refine wpAnyH_take (i := 0) (v := ?_) rfl (by kernel_rfl) (by kernel_rfl) (by kernel_rfl) (fun _ _ _ h => h) (Or.inl ⟨by rfl, ?_⟩) hHeld ?_
    rotate_left
    · intro w hSw
      (try dsimp only at hSw)
      (try simp only [List.getElem_toArray, List.getElem_cons_zero])
      go_simp
      all_goals with_reducible rfl
    try simp only [List.getElem_toArray, List.getElem_cons_zero, Act.put, List.setIfInBounds_toArray, List.set_cons_zero, List.set_cons_succ]
    refine wpAnyH_take (i := 1) (v := ?_) rfl (by kernel_rfl) (by kernel_rfl) (by kernel_rfl) (fun _ _ _ h => h) (Or.inl ⟨by rfl, ?_⟩) hHeld ?_
    rotate_left
    · intro w hSw
      (try dsimp only at hSw)
      (try simp only [List.getElem_toArray, List.getElem_cons_zero, List.getElem_cons_succ])
      go_simp
      all_goals with_reducible rfl
    try simp only [List.getElem_toArray, List.getElem_cons_zero, List.getElem_cons_succ, Act.put, List.setIfInBounds_toArray, List.set_cons_zero, List.set_cons_succ]
    refine wpAnyH_take (i := 2) (v := ?_) rfl (by kernel_rfl) (by kernel_rfl) (by kernel_rfl) (fun _ _ _ h => h) (Or.inl ⟨by rfl, ?_⟩) hHeld ?_
    rotate_left
    · intro w hSw
      (try dsimp only at hSw)
      (try simp only [List.getElem_toArray, List.getElem_cons_zero, List.getElem_cons_succ])
      go_simp
      all_goals with_reducible rfl
    try simp only [List.getElem_toArray, List.getElem_cons_zero, List.getElem_cons_succ, Act.put, List.setIfInBounds_toArray, List.set_cons_zero, List.set_cons_succ]
    refine wpAnyH_take (i := 4) (v := ?_) rfl (by kernel_rfl) (by kernel_rfl) (by kernel_rfl) (fun _ _ _ h => h) (Or.inl ⟨by rfl, ?_⟩) hHeld ?_
    rotate_left
    · intro w hSw
      (try dsimp only at hSw)
      (try simp only [List.getElem_toArray, List.getElem_cons_zero, List.getElem_cons_succ])
      go_simp
      all_goals with_reducible rfl
    try simp only [List.getElem_toArray, List.getElem_cons_zero, List.getElem_cons_succ, Act.put, List.setIfInBounds_toArray, List.set_cons_zero, List.set_cons_succ]
    refine wpAnyH_take (i := 5) (v := ?_) rfl (by kernel_rfl) (by kernel_rfl) (by kernel_rfl) (fun _ _ _ h => h) (Or.inl ⟨by rfl, ?_⟩) hHeld ?_
    rotate_left
    · intro w hSw
      (try dsimp only at hSw)
      (try simp only [List.getElem_toArray, List.getElem_cons_zero, List.getElem_cons_succ])
      go_simp
      all_goals with_reducible rfl
    try simp only [List.getElem_toArray, List.getElem_cons_zero, List.getElem_cons_succ, Act.put, List.setIfInBounds_toArray, List.set_cons_zero, List.set_cons_succ]
    refine wpAnyH_take (i := 6) (v := ?_) rfl (by kernel_rfl) (by kernel_rfl) (by kernel_rfl) (fun _ _ _ h => h) (Or.inl ⟨by rfl, ?_⟩) hHeld ?_
    rotate_left
    · intro w hSw
      (try dsimp only at hSw)
      (try simp only [List.getElem_toArray, List.getElem_cons_zero, List.getElem_cons_succ])
      go_simp
      all_goals with_reducible rfl
    try simp only [List.getElem_toArray, List.getElem_cons_zero, List.getElem_cons_succ, Act.put, List.setIfInBounds_toArray, List.set_cons_zero, List.set_cons_succ]
    refine wpAnyH_take (i := 7) (v := ?_) rfl (by kernel_rfl) (by kernel_rfl) (by kernel_rfl) (fun _ _ _ h => h) (Or.inl ⟨by rfl, ?_⟩) hHeld ?_
    rotate_left
    · intro w hSw
      (try dsimp only at hSw)
      (try simp only [List.getElem_toArray, List.getElem_cons_zero, List.getElem_cons_succ])
      go_simp
      all_goals with_reducible rfl
    try simp only [List.getElem_toArray, List.getElem_cons_zero, List.getElem_cons_succ, Act.put, List.setIfInBounds_toArray, List.set_cons_zero, List.set_cons_succ]
    refine wpAnyH_take (i := 8) (v := ?_) rfl (by kernel_rfl) (by kernel_rfl) (by kernel_rfl) (fun _ _ _ h => h) (Or.inl ⟨by rfl, ?_⟩) hHeld ?_
    rotate_left
    · intro w hSw
      (try dsimp only at hSw)
      (try simp only [List.getElem_toArray, List.getElem_cons_zero, List.getElem_cons_succ])
      go_simp
      all_goals with_reducible rfl
    try simp only [List.getElem_toArray, List.getElem_cons_zero, List.getElem_cons_succ, Act.put, List.setIfInBounds_toArray, List.set_cons_zero, List.set_cons_succ]
    refine wpAnyH_ready (rs := [3]) (by kernel_rfl) (by simp) ?_
    refine AllReadyH.cons rfl (fun K hK => ?_) AllReadyH.nil
    try simp only [List.getElem_toArray, List.getElem_cons_zero, List.getElem_cons_succ]
    go_simp
    refine (HSG.out _ HV.out).mono ?_
    rintro e wn ⟨rfl, hbn⟩
    have AB := AB.trans (hbn.mono (AB.size))
    replace HG := Lib.hid (HG.out.keep hbn)
    replace HPt := Lib.hid (HPt.out.keep hbn)
    replace HV := Lib.hid (HV.out.keep hbn)
    replace HEx := Lib.hid (eats_keep HEx.out HEl.out hbn)
    replace HEl := Lib.hid (Nat.lt_of_lt_of_le HEl.out hbn.size)
    clear hbn
    go_wp2_with fail
    refine hK.out _ _ (⟨HG.out.cell 0 rfl, HG.out.cell 1 rfl, HG.out.cell 2 rfl, HG.out.cell 3 rfl, HG.out.cell 4 rfl, HG.out.cell 5 rfl, HPt.out.cell 0 rfl, HPt.out.cell 1 rfl, HEx.out.1, HEx.out.2.1, HEx.out.2.2.1, HEx.out.2.2.2⟩) (fun hHeld => ?_)
    clear hK K
    try simp only [List.getElem_toArray, List.getElem_cons_zero, List.getElem_cons_succ, Act.put, List.setIfInBounds_toArray, List.set_cons_zero, List.set_cons_succ]
    refine wpAnyH_ready (rs := [9]) (by kernel_rfl) (by simp) ?_
    refine AllReadyH.cons rfl (fun K hK => ?_) AllReadyH.nil
    try simp only [List.getElem_toArray, List.getElem_cons_zero, List.getElem_cons_succ]
    go_simp
    refine (HSQ.out _).mono ?_
    rintro e wn ⟨rfl, hbn⟩
    have AB := AB.trans (hbn.mono (AB.size))
    replace HG := Lib.hid (HG.out.keep hbn)
    replace HPt := Lib.hid (HPt.out.keep hbn)
    replace HV := Lib.hid (HV.out.keep hbn)
    replace HEx := Lib.hid (eats_keep HEx.out HEl.out hbn)
    replace HEl := Lib.hid (Nat.lt_of_lt_of_le HEl.out hbn.size)
    clear hbn
    go_wp2_with fail
    refine hK.out _ _ (⟨HG.out.cell 0 rfl, HG.out.cell 1 rfl, HG.out.cell 2 rfl, HG.out.cell 3 rfl, HG.out.cell 4 rfl, HG.out.cell 5 rfl, HPt.out.cell 0 rfl, HPt.out.cell 1 rfl, HEx.out.1, HEx.out.2.1, HEx.out.2.2.1, HEx.out.2.2.2⟩) (fun hHeld => ?_)
    clear hK K
    try simp only [List.getElem_toArray, List.getElem_cons_zero, List.getElem_cons_succ, Act.put, List.setIfInBounds_toArray, List.set_cons_zero, List.set_cons_succ]
    refine wpAnyH_ready (rs := [10]) (by kernel_rfl) (by simp) ?_
    refine AllReadyH.cons rfl (fun K hK => ?_) AllReadyH.nil
    try simp only [List.getElem_toArray, List.getElem_cons_zero, List.getElem_cons_succ]
    go_simp
    refine (HSC.out _).mono ?_
    rintro e wn ⟨rfl, hbn⟩
    have AB := AB.trans (hbn.mono (AB.size))
    replace HG := Lib.hid (HG.out.keep hbn)
    replace HPt := Lib.hid (HPt.out.keep hbn)
    replace HV := Lib.hid (HV.out.keep hbn)
    replace HEx := Lib.hid (eats_keep HEx.out HEl.out hbn)
    replace HEl := Lib.hid (Nat.lt_of_lt_of_le HEl.out hbn.size)
    clear hbn
    go_wp2_with fail
    refine hK.out _ _ (⟨HG.out.cell 0 rfl, HG.out.cell 1 rfl, HG.out.cell 2 rfl, HG.out.cell 3 rfl, HG.out.cell 4 rfl, HG.out.cell 5 rfl, HPt.out.cell 0 rfl, HPt.out.cell 1 rfl, HEx.out.1, HEx.out.2.1, HEx.out.2.2.1, HEx.out.2.2.2⟩) (fun hHeld => ?_)
    clear hK K
    try simp only [List.getElem_toArray, List.getElem_cons_zero, List.getElem_cons_succ, Act.put, List.setIfInBounds_toArray, List.set_cons_zero, List.set_cons_succ]
    refine wpAnyH_ready (rs := [11]) (by kernel_rfl) (by simp) ?_
    refine AllReadyH.cons rfl (fun K hK => ?_) AllReadyH.nil
    try simp only [List.getElem_toArray, List.getElem_cons_zero, List.getElem_cons_succ]
    go_simp
    refine (HCD.out _).mono ?_
    rintro e wn ⟨rfl, hbn⟩
    have AB := AB.trans (hbn.mono (AB.size))
    replace HG := Lib.hid (HG.out.keep hbn)
    replace HPt := Lib.hid (HPt.out.keep hbn)
    replace HV := Lib.hid (HV.out.keep hbn)
    replace HEx := Lib.hid (eats_keep HEx.out HEl.out hbn)
    replace HEl := Lib.hid (Nat.lt_of_lt_of_le HEl.out hbn.size)
    clear hbn
    go_wp2_with fail
    refine hK.out _ _ (⟨HG.out.cell 0 rfl, HG.out.cell 1 rfl, HG.out.cell 2 rfl, HG.out.cell 3 rfl, HG.out.cell 4 rfl, HG.out.cell 5 rfl, HPt.out.cell 0 rfl, HPt.out.cell 1 rfl, HEx.out.1, HEx.out.2.1, HEx.out.2.2.1, HEx.out.2.2.2⟩) (fun hHeld => ?_)
    clear hK K
    try simp only [List.getElem_toArray, List.getElem_cons_zero, List.getElem_cons_succ, Act.put, List.setIfInBounds_toArray, List.set_cons_zero, List.set_cons_succ]
    refine wpAnyH_take (i := 12) (v := ?_) rfl (by kernel_rfl) (by kernel_rfl) (by kernel_rfl) (fun _ _ _ h => h) (Or.inl ⟨by rfl, ?_⟩) hHeld ?_
    rotate_left
    · intro w hSw
      (try dsimp only at hSw)
      (try simp only [List.getElem_toArray, List.getElem_cons_zero, List.getElem_cons_succ])
      go_simp
      all_goals with_reducible rfl
    try simp only [List.getElem_toArray, List.getElem_cons_zero, List.getElem_cons_succ, Act.put, List.setIfInBounds_toArray, List.set_cons_zero, List.set_cons_succ]
    refine wpAnyH_done (by kernel_rfl) ?_ _
    go_wp2_with fail
    go_ret
    exact ⟨rfl, AB⟩


end Go.Proofs.Yteiildeaccngjaa
