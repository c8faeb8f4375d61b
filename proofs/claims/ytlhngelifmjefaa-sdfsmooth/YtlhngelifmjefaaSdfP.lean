/-
  What the program's Texel, Row and Make of layer 10 do to any world: contracts (no claim is made here).
-/
import Derived.Test.YtlhngelifmjefaaSdf1
import Derived.Test.YtlhngelifmjefaaSdfQ
namespace Go.Proofs.Ytlhngelifmjefaa
open Go.RowKit

theorem checkG_zero {x y p u v s : Int} (h : checkG x y p u v s = 0) : (x.natAbs ≤ 300 ∧ y.natAbs ≤ 300) ∧ (1 ≤ p ∧ p ≤ 16) ∧ (1 ≤ s ∧ s ≤ 64) ∧ (1 ≤ u ∧ u ≤ 24) ∧ 1 ≤ v ∧ v ≤ 24 := by
  unfold checkG at h
  by_cases k : u < 1 ∨ v < 1 ∨ 24 < u ∨ 24 < v
  · rw [if_pos k] at h; omega
  · rw [if_neg k] at h
    split at h
    · omega
    · omega

set_option maxRecDepth 100000 in
set_option maxHeartbeats 3200000 in
theorem ptexel_any (ve : Value) (es : List Ed) (x y p s : Int) (u v i k : Nat) (w : World) (hv : ERd w ve es) (hl : es.length ≤ 200000) (hin : ∀ s ∈ es, InD s) (hg : checkG x y p u v s = 0) (hi : i < u) (hk : k < v) :
    Calls Try.prog 16 #[ve, .agg #[.int .i64 x, .int .i64 y, .int .i64 p, .int .i64 u, .int .i64 v, .int .i64 s], .int .i64 i, .int .i64 k] w fun e w' => e = .returned (.int .u8 (texN es s (midP x y p i k) : Nat)) ∧ Below w.heap.size w w' := by
  obtain ⟨⟨hx, hy⟩, hp, hs, hu, hv2⟩ := checkG_zero hg
  have HV := Lib.hid hv
  have HL := Lib.hid hl
  have HI := Lib.hid hin
  obtain ⟨Ae, cape, rfl, hce, -⟩ := hv
  have HC := Lib.hid (fun w => centre_any x y p u v s i k (by omega) (by omega) (by omega) (by omega) (by omega) w)
  have hpm := mid_in x y p i k hx hy hp (by omega) (by omega)
  have HPM := Lib.hid (show InP ⟨midG x p i, midG y p k⟩ from hpm)
  have HB0 := Lib.hid ((Below.refl _ w).alloc (Nat.le_refl _) (.cells #[.int .i64 x, .int .i64 y, .int .i64 p, .int .i64 u, .int .i64 v, .int .i64 s] 35))
  have HG0 := Lib.hid (Blk.new w 35 [.int .i64 x, .int .i64 y, .int .i64 p, .int .i64 u, .int .i64 v, .int .i64 s] rfl)
  obtain ⟨N, hN⟩ : ∃ N, es.length = N := ⟨_, rfl⟩
  rw [hN] at HV hl hce
  have HN := Lib.hid hN
  rw [hN]
  clear hin hg hi hk hpm hN
  by_cases hN0 : N = 0
  · subst hN0
    obtain rfl : es = [] := List.eq_nil_of_length_eq_zero HN.out
    go_enter Try.func16, Try.ntmps16
    go_wp2_with fail
    go_ret
    exact ⟨rfl, HB0.out⟩
  · have hN1 : 0 < (N : Int) := by omega
    have hes : es ≠ [] := fun e => hN0 (by have := HN.out; rw [e] at this; exact this.symm)
    have HE := Lib.hid (fun w (h : ERd w (.slice Ae N cape) es) => eight_any _ es (midG x p i) (midG y p k) w h HL.out HI.out HPM.out)
    have HS := Lib.hid (fun w (h : ERd w (.slice Ae N cape) es) => sign_any _ es (midG x p i) (midG y p k) w h HL.out HI.out HPM.out)
    have hE := (E8.is es ⟨midG x p i, midG y p k⟩).small HI.out HPM.out
    have hE0 := eight_pos (p := ⟨midG x p i, midG y p k⟩) hes
    have hG := sgS_in es ⟨midG x p i, midG y p k⟩
    have hX := texN_is es s ⟨midG x p i, midG y p k⟩ hs.1
    unfold texG at hX
    rw [if_neg hes] at hX
    have HCD := Lib.hid (fun w => code_any x y p u v s _ _ hs hG ⟨hE0, by omega⟩ w)
    rw [← hX] at HCD
    rw [show midP x y p i k = ⟨midG x p i, midG y p k⟩ from rfl]
    generalize eightS es ⟨midG x p i, midG y p k⟩ = E8v at *
    generalize sgS es ⟨midG x p i, midG y p k⟩ = SGv at *
    generalize texN es s ⟨midG x p i, midG y p k⟩ = TXv at *
    generalize midG x p i = mx at *
    generalize midG y p k = my at *
    clear hE hE0 hG hX
    go_enter Try.func16, Try.ntmps16
    go_wp2_with fail
    refine (HC.out _).mono ?_
    rintro e w1 ⟨rfl, hb⟩
    have HGb := Lib.hid (HG0.out.keep hb)
    have HBb := Lib.hid (below2 HB0.out hb)
    clear hb HG0 HB0 HC
    go_wp2_with fail
    have hal : Below w1.heap.size w1 (w1.alloc (.cells #[.int .i64 mx, .int .i64 my] 49)) := (Below.refl _ _).alloc (Nat.le_refl _) _
    have AB := (below2 HBb.out hal).drew
    have HBX := Lib.hid ((HGb.out.keep hal).drew)
    have HP1 := Lib.hid ((Blk.new w1 49 [.int .i64 mx, .int .i64 my] rfl).drew)
    have HVw := Lib.hid (HV.out.keep AB)
    clear hal HGb HBb
    generalize w1.alloc (.cells #[.int .i64 mx, .int .i64 my] 49) = w2 at *
    generalize w1.heap.size = P at *
    refine wp_region_held_drew (S := fun wx => wx.cell? ⟨w.heap.size, 0, none⟩ = some (.int .i64 x) ∧ wx.cell? ⟨w.heap.size, 1, none⟩ = some (.int .i64 y) ∧ wx.cell? ⟨w.heap.size, 2, none⟩ = some (.int .i64 p) ∧ wx.cell? ⟨w.heap.size, 3, none⟩ = some (.int .i64 u) ∧ wx.cell? ⟨w.heap.size, 4, none⟩ = some (.int .i64 v) ∧ wx.cell? ⟨w.heap.size, 5, none⟩ = some (.int .i64 s) ∧ wx.cell? ⟨P, 0, none⟩ = some (.int .i64 mx) ∧ wx.cell? ⟨P, 1, none⟩ = some (.int .i64 my)) (by kernel_rfl) (⟨HBX.out.cell 0 rfl, HBX.out.cell 1 rfl, HBX.out.cell 2 rfl, HBX.out.cell 3 rfl, HBX.out.cell 4 rfl, HBX.out.cell 5 rfl, HP1.out.cell 0 rfl, HP1.out.cell 1 rfl⟩) (fun hHeld => ?_)
    refine wpAnyH_take (i := 0) (v := ?_) rfl (by kernel_rfl) (by kernel_rfl) (by kernel_rfl) (fun _ _ _ h => h) (Or.inl ⟨by rfl, ?_⟩) hHeld ?_
    rotate_left
    · intro w hSw
      (try dsimp only at hSw)
      (try simp only [List.getElem_toArray, List.getElem_cons_zero])
      go_simp
      all_goals with_reducible rfl
    try simp only [List.getElem_toArray, List.getElem_cons_zero, Act.put, List.setIfInBounds_toArray, List.set_cons_zero, List.set_cons_succ]
    refine wpAnyH_take (i := 1) (v := ?_) rfl (by kernel_rfl) (by kernel_rfl) (by kernel_rfl) (fun _ _ _ h => h) (Or.inl ⟨by rfl, ?_⟩) hHeld ?_
    rotate_left
    · intro w hSw
      (try dsimp only at hSw)
      (try simp only [List.getElem_toArray, List.getElem_cons_zero, List.getElem_cons_succ])
      go_simp
      all_goals with_reducible rfl
    try simp only [List.getElem_toArray, List.getElem_cons_zero, List.getElem_cons_succ, Act.put, List.setIfInBounds_toArray, List.set_cons_zero, List.set_cons_succ]
    refine wpAnyH_take (i := 2) (v := ?_) rfl (by kernel_rfl) (by kernel_rfl) (by kernel_rfl) (fun _ _ _ h => h) (Or.inl ⟨by rfl, ?_⟩) hHeld ?_
    rotate_left
    · intro w hSw
      (try dsimp only at hSw)
      (try simp only [List.getElem_toArray, List.getElem_cons_zero, List.getElem_cons_succ])
      go_simp
      all_goals with_reducible rfl
    try simp only [List.getElem_toArray, List.getElem_cons_zero, List.getElem_cons_succ, Act.put, List.setIfInBounds_toArray, List.set_cons_zero, List.set_cons_succ]
    refine wpAnyH_take (i := 4) (v := ?_) rfl (by kernel_rfl) (by kernel_rfl) (by kernel_rfl) (fun _ _ _ h => h) (Or.inl ⟨by rfl, ?_⟩) hHeld ?_
    rotate_left
    · intro w hSw
      (try dsimp only at hSw)
      (try simp only [List.getElem_toArray, List.getElem_cons_zero, List.getElem_cons_succ])
      go_simp
      all_goals with_reducible rfl
    try simp only [List.getElem_toArray, List.getElem_cons_zero, List.getElem_cons_succ, Act.put, List.setIfInBounds_toArray, List.set_cons_zero, List.set_cons_succ]
    refine wpAnyH_take (i := 5) (v := ?_) rfl (by kernel_rfl) (by kernel_rfl) (by kernel_rfl) (fun _ _ _ h => h) (Or.inl ⟨by rfl, ?_⟩) hHeld ?_
    rotate_left
    · intro w hSw
      (try dsimp only at hSw)
      (try simp only [List.getElem_toArray, List.getElem_cons_zero, List.getElem_cons_succ])
      go_simp
      all_goals with_reducible rfl
    try simp only [List.getElem_toArray, List.getElem_cons_zero, List.getElem_cons_succ, Act.put, List.setIfInBounds_toArray, List.set_cons_zero, List.set_cons_succ]
    refine wpAnyH_ready (rs := [3]) (by kernel_rfl) (by simp) ?_
    refine AllReadyH.cons rfl (fun K hK => ?_) AllReadyH.nil
    try simp only [List.getElem_toArray, List.getElem_cons_zero, List.getElem_cons_succ]
    go_simp
    refine (HS.out _ HVw.out).mono ?_
    rintro e wn ⟨rfl, hbn⟩
    have AB := AB.trans (hbn.mono (AB.size))
    replace HBX := Lib.hid (HBX.out.keep hbn)
    replace HP1 := Lib.hid (HP1.out.keep hbn)
    replace HVw := Lib.hid (HVw.out.keep hbn)
    clear hbn
    go_wp2_with fail
    refine hK.out _ _ (⟨HBX.out.cell 0 rfl, HBX.out.cell 1 rfl, HBX.out.cell 2 rfl, HBX.out.cell 3 rfl, HBX.out.cell 4 rfl, HBX.out.cell 5 rfl, HP1.out.cell 0 rfl, HP1.out.cell 1 rfl⟩) (fun hHeld => ?_)
    clear hK K
    try simp only [List.getElem_toArray, List.getElem_cons_zero, List.getElem_cons_succ, Act.put, List.setIfInBounds_toArray, List.set_cons_zero, List.set_cons_succ]
    refine wpAnyH_ready (rs := [6]) (by kernel_rfl) (by simp) ?_
    refine AllReadyH.cons rfl (fun K hK => ?_) AllReadyH.nil
    try simp only [List.getElem_toArray, List.getElem_cons_zero, List.getElem_cons_succ]
    go_simp
    refine (HE.out _ HVw.out).mono ?_
    rintro e wn ⟨rfl, hbn⟩
    have AB := AB.trans (hbn.mono (AB.size))
    replace HBX := Lib.hid (HBX.out.keep hbn)
    replace HP1 := Lib.hid (HP1.out.keep hbn)
    replace HVw := Lib.hid (HVw.out.keep hbn)
    clear hbn
    go_wp2_with fail
    refine hK.out _ _ (⟨HBX.out.cell 0 rfl, HBX.out.cell 1 rfl, HBX.out.cell 2 rfl, HBX.out.cell 3 rfl, HBX.out.cell 4 rfl, HBX.out.cell 5 rfl, HP1.out.cell 0 rfl, HP1.out.cell 1 rfl⟩) (fun hHeld => ?_)
    clear hK K
    try simp only [List.getElem_toArray, List.getElem_cons_zero, List.getElem_cons_succ, Act.put, List.setIfInBounds_toArray, List.set_cons_zero, List.set_cons_succ]
    refine wpAnyH_ready (rs := [7]) (by kernel_rfl) (by simp) ?_
    refine AllReadyH.cons rfl (fun K hK => ?_) AllReadyH.nil
    try simp only [List.getElem_toArray, List.getElem_cons_zero, List.getElem_cons_succ]
    go_simp
    refine (HCD.out _).mono ?_
    rintro e wn ⟨rfl, hbn⟩
    have AB := AB.trans (hbn.mono (AB.size))
    replace HBX := Lib.hid (HBX.out.keep hbn)
    replace HP1 := Lib.hid (HP1.out.keep hbn)
    replace HVw := Lib.hid (HVw.out.keep hbn)
    clear hbn
    go_wp2_with fail
    refine hK.out _ _ (⟨HBX.out.cell 0 rfl, HBX.out.cell 1 rfl, HBX.out.cell 2 rfl, HBX.out.cell 3 rfl, HBX.out.cell 4 rfl, HBX.out.cell 5 rfl, HP1.out.cell 0 rfl, HP1.out.cell 1 rfl⟩) (fun hHeld => ?_)
    clear hK K
    try simp only [List.getElem_toArray, List.getElem_cons_zero, List.getElem_cons_succ, Act.put, List.setIfInBounds_toArray, List.set_cons_zero, List.set_cons_succ]
    refine wpAnyH_take (i := 8) (v := ?_) rfl (by kernel_rfl) (by kernel_rfl) (by kernel_rfl) (fun _ _ _ h => h) (Or.inl ⟨by rfl, ?_⟩) hHeld ?_
    rotate_left
    · intro w hSw
      (try dsimp only at hSw)
      (try simp only [List.getElem_toArray, List.getElem_cons_zero, List.getElem_cons_succ])
      go_simp
      all_goals with_reducible rfl
    try simp only [List.getElem_toArray, List.getElem_cons_zero, List.getElem_cons_succ, Act.put, List.setIfInBounds_toArray, List.set_cons_zero, List.set_cons_succ]
    refine wpAnyH_done (by kernel_rfl) ?_ _
    go_wp2_with fail
    go_ret
    exact ⟨rfl, AB⟩

theorem fld_mid (es : List Ed) (x y p s : Int) (u k : Nat) : rowN es x y p s u k = (List.range u).map (fun (i : Nat) => texN es s (midP x y p i k)) := rfl
theorem fld_next_row (es : List Ed) (x y p s : Int) (u k : Nat) : fldN es x y p s u ((k + 1) * u) = fldN es x y p s u (k * u) ++ rowN es x y p s u k := by
  rw [Nat.add_mul, Nat.one_mul]
  exact fldN_row es x y p s u k

theorem prow10_any (ve : Value) (es : List Ed) (x y p s : Int) (u v k : Nat) (w : World) (hv : ERd w ve es) (hl : es.length ≤ 200000) (hin : ∀ s ∈ es, InD s) (hg : checkG x y p u v s = 0) (hk : k < v) :
    Calls Try.prog 17 #[ve, .agg #[.int .i64 x, .int .i64 y, .int .i64 p, .int .i64 u, .int .i64 v, .int .i64 s], .int .i64 k] w fun e w' => ∃ V, e = .returned V ∧ BRow w' w.heap.size V (rowN es x y p s u k) ∧ Below w.heap.size w w' := by
  obtain ⟨_, _, _, hu, _⟩ := checkG_zero hg
  exact prow_any ve x y p s u v k (fun i => texN es s (midP x y p i k)) w (fun w => ERd w ve es) hv (fun w1 w2 h hb => h.keep hb) (by omega) (fun i w h hi => ptexel_any ve es x y p s u v i k w h hl hin hg hi hk)

theorem pmake10_any (ve : Value) (es : List Ed) (x y p s : Int) (u v : Nat) (w : World) (hv : ERd w ve es) (hl : es.length ≤ 200000) (hin : ∀ s ∈ es, InD s) (hg : checkG x y p u v s = 0) :
    Calls Try.prog 12 #[ve, .agg #[.int .i64 x, .int .i64 y, .int .i64 p, .int .i64 u, .int .i64 v, .int .i64 s]] w fun e w' => ∃ V, e = .returned (.tuple #[.agg #[.int .i64 u, .int .i64 v, V], .int .i64 0]) ∧ BRow w' w.heap.size V (fldN es x y p s u (u * v)) ∧ Below w.heap.size w w' := by
  obtain ⟨_, _, _, hu, hv2⟩ := checkG_zero hg
  have h := pmake_any ve x y p s u v (fun k => fldN es x y p s u (k * u)) (fun k => rowN es x y p s u k) w (fun w => ERd w ve es) hv (fun w1 w2 h hb => h.keep hb) hg (by omega) (by omega)
    (by simp [fldN]) (fun k => fld_next_row es x y p s u k) (fun k => fldN_length _ _ _ _ _ _ _) (fun k => by simp [rowN]) (fun k w h hk => prow10_any ve es x y p s u v k w h hl hin hg hk)
  rw [Nat.mul_comm u v]
  exact h

set_option maxRecDepth 100000 in
set_option maxHeartbeats 1600000 in
theorem pwrong10_any (ve : Value) (x y p u v s : Int) (w : World) (hg : checkG x y p u v s ≠ 0) :
    Calls Try.prog 12 #[ve, .agg #[.int .i64 x, .int .i64 y, .int .i64 p, .int .i64 u, .int .i64 v, .int .i64 s]] w fun e w' => e = .returned (.tuple #[.agg #[.int .i64 0, .int .i64 0, .slice none 0 0], .int .i64 (checkG x y p u v s)]) ∧ Below w.heap.size w w' := by
  have HCK := Lib.hid (fun w => gcheck_any x y p u v s w)
  have HB0 := Lib.hid (alloc2 w (.cells #[.int .i64 x, .int .i64 y, .int .i64 p, .int .i64 u, .int .i64 v, .int .i64 s] 35) (.cells #[.int .i64 0, .int .i64 0, .slice none 0 0] 30))
  have HG0 := Lib.hid ((Blk.new w 35 [.int .i64 x, .int .i64 y, .int .i64 p, .int .i64 u, .int .i64 v, .int .i64 s] rfl).alloc (.cells #[.int .i64 0, .int .i64 0, .slice none 0 0] 30))
  have HR0 := Lib.hid (Blk.new (w.alloc (.cells #[.int .i64 x, .int .i64 y, .int .i64 p, .int .i64 u, .int .i64 v, .int .i64 s] 35)) 30 [.int .i64 0, .int .i64 0, .slice none 0 0] (g := w.heap.size + 1) (by simp))
  generalize checkG x y p u v s = C at *
  have hC : (C == 0) = false := by simpa using hg
  go_enter Try.func12, Try.ntmps12
  go_wp2_with fail
  refine (HCK.out _).mono ?_
  rintro e w1 ⟨rfl, hb⟩
  have HG1 := Lib.hid (HG0.out.keep hb)
  have HR1 := Lib.hid (HR0.out.keep hb)
  have HB1 := Lib.hid (below2 HB0.out hb)
  clear hb HG0 HR0 HB0 HCK
  have r0 := HR1.out.cell 0 rfl
  have r1 := HR1.out.cell 1 rfl
  have r2 := HR1.out.cell 2 rfl
  have rf := HR1.out.frozen
  have rl := HR1.out.lt
  have HF5 := Lib.hid (((HR1.out.set 0 (.int .i64 0)).set 1 (.int .i64 0)).set 2 (.slice none 0 0))
  have HBB := Lib.hid (((HB1.out.setCell (p := ⟨w.heap.size + 1, 0, none⟩) (by simp) (.int .i64 0)).setCell (p := ⟨w.heap.size + 1, 1, none⟩) (by simp) (.int .i64 0)).setCell (p := ⟨w.heap.size + 1, 2, none⟩) (by simp) (.slice none 0 0))
  clear HG1 HR1 HB1
  go_wp2_with fail
  have q0 := HF5.out.cell 0 rfl
  have q1 := HF5.out.cell 1 rfl
  have q2 := HF5.out.cell 2 rfl
  exact bodyPost_ret (v := .tuple #[.agg #[.int .i64 0, .int .i64 0, .slice none 0 0], .int .i64 C]) (by simp [results, Try.results12, go_sem, q0, q1, q2]) rfl ⟨rfl, HBB.out⟩

/-- What the document asks of the program's Texel, Row and Make. -/
theorem sdfOK : SdfOK where
  texel := ptexel_any
  row := prow10_any
  make := pmake10_any
  wrong := fun ve _ x y p u v s w _ hg => pwrong10_any ve x y p u v s w hg

end Go.Proofs.Ytlhngelifmjefaa
