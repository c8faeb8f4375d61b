/-
  The walk of punchcutlaw10.SdfMake, over what the program is to do (no claim is made here).
-/
import Derived.Test.YtlhngelifmjefaaSdf1
import Derived.Test.YtlhngelifmjefaaGrd4
namespace Go.Proofs.Ytlhngelifmjefaa
open Go.RowKit

set_option maxRecDepth 100000 in
set_option maxHeartbeats 3200000 in
theorem sdfMake_walk (H : SdfOK) (A : Option Addr) (n cap : Nat) (cs : List (List Dot)) (s0 s1 s2 s3 s4 s5 : Int) (w : World) (hcs : DotRows w A n cap cs) (hs : (0 ≤ s0 ∧ s0 ≤ 255) ∧ (0 ≤ s1 ∧ s1 ≤ 255) ∧ (0 ≤ s2 ∧ s2 ≤ 255) ∧ (0 ≤ s3 ∧ s3 ≤ 255) ∧ (0 ≤ s4 ∧ s4 ≤ 255) ∧ (0 ≤ s5 ∧ s5 ≤ 255)) :
    Calls Try.prog 3 #[.slice A n cap, .agg #[.int .u8 s0, .int .u8 s1, .int .u8 s2, .int .u8 s3, .int .u8 s4, .int .u8 s5]] w fun e w' => e = .returned (.bool true) ∧ Below w.heap.size w w' := by
  have HD := Lib.hid hcs
  have HAW := Lib.hid (fun w => awake10 H w)
  obtain ⟨h0, h1, h2, h3, h4, h5⟩ := hs
  have HS := Lib.hid (fun w => sgrid_any s0 s1 s2 s3 s4 s5 h0 h1 h2 h3 h4 h5 w)
  have HB0 := Lib.hid ((Below.refl _ w).alloc (Nat.le_refl _) (.cells #[.int .u8 s0, .int .u8 s1, .int .u8 s2, .int .u8 s3, .int .u8 s4, .int .u8 s5] 24))
  have HK0 := Lib.hid (Blk.new w 24 [.int .u8 s0, .int .u8 s1, .int .u8 s2, .int .u8 s3, .int .u8 s4, .int .u8 s5] rfl)
  have hck : checkG (s0 - 128) (s1 - 128) (1 + s2 % 16) (1 + s3 % 10) (1 + s4 % 10) (1 + s5 % 64) = 0 := by unfold checkG; rw [if_neg (by omega), if_neg (by omega)]
  obtain ⟨u, hu⟩ : ∃ u : Nat, 1 + s3 % 10 = u := ⟨(1 + s3 % 10).toNat, by omega⟩
  obtain ⟨v, hv⟩ : ∃ v : Nat, 1 + s4 % 10 = v := ⟨(1 + s4 % 10).toNat, by omega⟩
  rw [hu, hv] at hck HS
  have bu : 1 ≤ u ∧ u ≤ 10 := by omega
  have bv : 1 ≤ v ∧ v ≤ 10 := by omega
  have bx : -128 ≤ s0 - 128 ∧ s0 - 128 ≤ 127 := by omega
  have by' : -128 ≤ s1 - 128 ∧ s1 - 128 ≤ 127 := by omega
  have bp : 1 ≤ 1 + s2 % 16 ∧ 1 + s2 % 16 ≤ 16 := by omega
  have bs : 1 ≤ 1 + s5 % 64 ∧ 1 + s5 % 64 ≤ 64 := by omega
  clear h0 h1 h2 h3 h4 h5 hu hv hcs
  generalize s0 - 128 = x at *
  generalize s1 - 128 = y at *
  generalize 1 + s2 % 16 = p at *
  generalize 1 + s5 % 64 = s at *
  go_enter Try.func3, Try.ntmps3
  go_wp2_with fail
  refine (HAW.out _).mono ?_
  rintro e w1 ⟨rfl, hb⟩
  have HK1 := Lib.hid (HK0.out.keep hb)
  have HB1 := Lib.hid (below2 HB0.out hb)
  have HC := Lib.hid (glyph7 A n cap cs w1 (HD.out.keep HB1.out))
  clear hb HK0 HB0 HD HAW
  go_wp2_with fail
  refine HC.out.mono ?_
  rintro e w2 ⟨U, es, rfl, hU, hln, hin, hcl, hb⟩
  have HK2 := Lib.hid (HK1.out.keep hb)
  have HB2 := Lib.hid (below2 HB1.out hb)
  have HU2 := Lib.hid hU.read
  have HIN := Lib.hid hin
  have HCL := Lib.hid hcl
  have hln2 : es.length ≤ 200000 := by omega
  have HLN := Lib.hid hln2
  obtain ⟨Au, capu, rfl⟩ := hU.form
  obtain ⟨N, hN⟩ : ∃ N, es.length = N := ⟨_, rfl⟩
  rw [hN] at HU2
  rw [hN]
  have HN := Lib.hid hN
  clear hb HK1 HB1 hU hin hcl hln hln2 hN HC
  have k0 := HK2.out.cell 0 rfl
  have k1 := HK2.out.cell 1 rfl
  have k2 := HK2.out.cell 2 rfl
  have k3 := HK2.out.cell 3 rfl
  have k4 := HK2.out.cell 4 rfl
  have k5 := HK2.out.cell 5 rfl
  have kl := HK2.out.lt
  have HMK := Lib.hid (fun w h => H.make (.slice Au N capu) es x y p s u v w h HLN.out HIN.out hck)
  have HFD := Lib.hid (fun w h => field10_any (.slice Au N capu) es x y p s u v w h HLN.out HIN.out (by omega) (by omega) bp bs (by omega) (by omega))
  have HLT := Lib.hid (fldN_lt es x y p s u (u * v) bs.1)
  generalize fldN es x y p s u (u * v) = bb at *
  clear hck
  go_wp2_with fail
  refine (HS.out _).mono ?_
  rintro e w3 ⟨rfl, hb⟩
  have HK3 := Lib.hid (HK2.out.keep hb)
  have HB3 := Lib.hid (below2 HB2.out hb)
  have HU3 := Lib.hid (HU2.out.keep hb)
  clear hb HK2 HB2 HU2 k0 k1 k2 k3 k4 k5 kl
  go_wp2_with fail
  refine (HMK.out _ HU3.out).mono ?_
  rintro e w4 ⟨V, rfl, hV, hb⟩
  have hal : Below w4.heap.size w4 (w4.alloc (.cells #[.int .i64 u, .int .i64 v, V] 30)) := (Below.refl _ _).alloc (Nat.le_refl _) _
  have HK5 := Lib.hid ((HK3.out.keep hb).keep hal)
  have HB5 := Lib.hid (below2 (below2 HB3.out hb) hal)
  have HU5 := Lib.hid ((HU3.out.keep hb).keep hal)
  have HV5 := Lib.hid (hV.keep hal)
  have HF5 := Lib.hid (Blk.new w4 30 [.int .i64 u, .int .i64 v, V] rfl)
  clear hb hal HK3 HB3 HU3 hV HMK
  obtain ⟨Av, capv, rfl⟩ := HV5.out.form
  generalize bb.length = L at *
  go_wp2_with fail
  generalize w4.alloc (.cells #[.int .i64 u, .int .i64 v, .slice Av L capv] 30) = w5 at *
  generalize w4.heap.size = F at *
  have AB := HB5.out.drew
  replace HK5 := Lib.hid (HK5.out.drew)
  replace HF5 := Lib.hid (HF5.out.drew)
  replace HU5 := Lib.hid (HU5.out.keep (Below.refl _ w5).drew)
  replace HV5 := Lib.hid (HV5.out.keep (Below.refl _ w5).drew)
  refine wp_region_held_drew (S := fun wx => wx.cell? ⟨w.heap.size, 0, none⟩ = some (.int .u8 s0) ∧ wx.cell? ⟨w.heap.size, 1, none⟩ = some (.int .u8 s1) ∧ wx.cell? ⟨w.heap.size, 2, none⟩ = some (.int .u8 s2) ∧ wx.cell? ⟨w.heap.size, 3, none⟩ = some (.int .u8 s3) ∧ wx.cell? ⟨w.heap.size, 4, none⟩ = some (.int .u8 s4) ∧ wx.cell? ⟨w.heap.size, 5, none⟩ = some (.int .u8 s5) ∧ wx.cell? ⟨F, 0, none⟩ = some (.int .i64 u) ∧ wx.cell? ⟨F, 1, none⟩ = some (.int .i64 v) ∧ wx.cell? ⟨F, 2, none⟩ = some (.slice Av L capv)) (by kernel_rfl) (⟨HK5.out.cell 0 rfl, HK5.out.cell 1 rfl, HK5.out.cell 2 rfl, HK5.out.cell 3 rfl, HK5.out.cell 4 rfl, HK5.out.cell 5 rfl, HF5.out.cell 0 rfl, HF5.out.cell 1 rfl, HF5.out.cell 2 rfl⟩) (fun hHeld => ?_)
  refine wpAnyH_take (i := 0) (v := ?_) rfl (by kernel_rfl) (by kernel_rfl) (by kernel_rfl) (fun _ _ _ h => h) (Or.inl ⟨by rfl, ?_⟩) hHeld ?_
  rotate_left
  · intro w hSw
    (try dsimp only at hSw)
    (try simp only [List.getElem_toArray, List.getElem_cons_zero])
    go_simp
    all_goals with_reducible rfl
  try simp only [List.getElem_toArray, List.getElem_cons_zero, Act.put, List.setIfInBounds_toArray, List.set_cons_zero, List.set_cons_succ]
  refine wpAnyH_take (i := 1) (v := ?_) rfl (by kernel_rfl) (by kernel_rfl) (by kernel_rfl) (fun _ _ _ h => h) (Or.inl ⟨by rfl, ?_⟩) hHeld ?_
  rotate_left
  · intro w hSw
    (try dsimp only at hSw)
    (try simp only [List.getElem_toArray, List.getElem_cons_zero, List.getElem_cons_succ])
    go_simp
    all_goals with_reducible rfl
  try simp only [List.getElem_toArray, List.getElem_cons_zero, List.getElem_cons_succ, Act.put, List.setIfInBounds_toArray, List.set_cons_zero, List.set_cons_succ]
  refine wpAnyH_take (i := 2) (v := ?_) rfl (by kernel_rfl) (by kernel_rfl) (by kernel_rfl) (fun _ _ _ h => h) (Or.inl ⟨by rfl, ?_⟩) hHeld ?_
  rotate_left
  · intro w hSw
    (try dsimp only at hSw)
    (try simp only [List.getElem_toArray, List.getElem_cons_zero, List.getElem_cons_succ])
    go_simp
    all_goals with_reducible rfl
  try simp only [List.getElem_toArray, List.getElem_cons_zero, List.getElem_cons_succ, Act.put, List.setIfInBounds_toArray, List.set_cons_zero, List.set_cons_succ]
  refine wpAnyH_take (i := 3) (v := ?_) rfl (by kernel_rfl) (by kernel_rfl) (by kernel_rfl) (fun _ _ _ h => h) (Or.inl ⟨by rfl, ?_⟩) hHeld ?_
  rotate_left
  · intro w hSw
    (try dsimp only at hSw)
    (try simp only [List.getElem_toArray, List.getElem_cons_zero, List.getElem_cons_succ])
    go_simp
    all_goals with_reducible rfl
  try simp only [List.getElem_toArray, List.getElem_cons_zero, List.getElem_cons_succ, Act.put, List.setIfInBounds_toArray, List.set_cons_zero, List.set_cons_succ]
  refine wpAnyH_take (i := 4) (v := ?_) rfl (by kernel_rfl) (by kernel_rfl) (by kernel_rfl) (fun _ _ _ h => h) (Or.inl ⟨by rfl, ?_⟩) hHeld ?_
  rotate_left
  · intro w hSw
    (try dsimp only at hSw)
    (try simp only [List.getElem_toArray, List.getElem_cons_zero, List.getElem_cons_succ])
    go_simp
    all_goals with_reducible rfl
  try simp only [List.getElem_toArray, List.getElem_cons_zero, List.getElem_cons_succ, Act.put, List.setIfInBounds_toArray, List.set_cons_zero, List.set_cons_succ]
  refine wpAnyH_take (i := 5) (v := ?_) rfl (by kernel_rfl) (by kernel_rfl) (by kernel_rfl) (fun _ _ _ h => h) (Or.inl ⟨by rfl, ?_⟩) hHeld ?_
  rotate_left
  · intro w hSw
    (try dsimp only at hSw)
    (try simp only [List.getElem_toArray, List.getElem_cons_zero, List.getElem_cons_succ])
    go_simp
    all_goals with_reducible rfl
  try simp only [List.getElem_toArray, List.getElem_cons_zero, List.getElem_cons_succ, Act.put, List.setIfInBounds_toArray, List.set_cons_zero, List.set_cons_succ]
  refine wpAnyH_ready (rs := [6]) (by kernel_rfl) (by simp) ?_
  refine AllReadyH.cons rfl (fun K hK => ?_) AllReadyH.nil
  try simp only [List.getElem_toArray, List.getElem_cons_zero, List.getElem_cons_succ]
  go_simp
  refine (HS.out _).mono ?_
  rintro e wn ⟨rfl, hbn⟩
  have AB := AB.trans (hbn.mono (AB.size))
  replace HK5 := Lib.hid (HK5.out.keep hbn)
  replace HF5 := Lib.hid (HF5.out.keep hbn)
  replace HU5 := Lib.hid (HU5.out.keep hbn)
  replace HV5 := Lib.hid (HV5.out.keep hbn)
  clear hbn
  go_wp2_with fail
  refine hK.out _ _ (⟨HK5.out.cell 0 rfl, HK5.out.cell 1 rfl, HK5.out.cell 2 rfl, HK5.out.cell 3 rfl, HK5.out.cell 4 rfl, HK5.out.cell 5 rfl, HF5.out.cell 0 rfl, HF5.out.cell 1 rfl, HF5.out.cell 2 rfl⟩) (fun hHeld => ?_)
  clear hK K
  try simp only [List.getElem_toArray, List.getElem_cons_zero, List.getElem_cons_succ, Act.put, List.setIfInBounds_toArray, List.set_cons_zero, List.set_cons_succ]
  refine wpAnyH_ready (rs := [7]) (by kernel_rfl) (by simp) ?_
  refine AllReadyH.cons rfl (fun K hK => ?_) AllReadyH.nil
  try simp only [List.getElem_toArray, List.getElem_cons_zero, List.getElem_cons_succ]
  go_simp
  refine (HFD.out _ HU5.out).mono ?_
  rintro e wn ⟨V2, rfl, hV2, hbn⟩
  have AB := AB.trans (hbn.mono (AB.size))
  replace HK5 := Lib.hid (HK5.out.keep hbn)
  replace HF5 := Lib.hid (HF5.out.keep hbn)
  replace HU5 := Lib.hid (HU5.out.keep hbn)
  replace HV5 := Lib.hid (HV5.out.keep hbn)
  have HV2 := Lib.hid hV2
  clear hV2
  clear hbn
  go_wp2_with fail
  refine hK.out _ _ (⟨HK5.out.cell 0 rfl, HK5.out.cell 1 rfl, HK5.out.cell 2 rfl, HK5.out.cell 3 rfl, HK5.out.cell 4 rfl, HK5.out.cell 5 rfl, HF5.out.cell 0 rfl, HF5.out.cell 1 rfl, HF5.out.cell 2 rfl⟩) (fun hHeld => ?_)
  clear hK K
  try simp only [List.getElem_toArray, List.getElem_cons_zero, List.getElem_cons_succ, Act.put, List.setIfInBounds_toArray, List.set_cons_zero, List.set_cons_succ]
  refine wpAnyH_ready (rs := [8]) (by kernel_rfl) (by simp) ?_
  refine AllReadyH.cons rfl (fun K hK => ?_) AllReadyH.nil
  try simp only [List.getElem_toArray, List.getElem_cons_zero, List.getElem_cons_succ]
  go_simp
  refine (same10_any _ _ _ _ _ _ (HV5.out.read HLT.out) (HV2.out.read HLT.out)).mono ?_
  rintro e wn ⟨rfl, hbn⟩
  have AB := AB.trans (hbn.mono (AB.size))
  replace HK5 := Lib.hid (HK5.out.keep hbn)
  replace HF5 := Lib.hid (HF5.out.keep hbn)
  replace HU5 := Lib.hid (HU5.out.keep hbn)
  replace HV5 := Lib.hid (HV5.out.keep hbn)
  clear hbn
  go_wp2_with fail
  refine hK.out _ _ (⟨HK5.out.cell 0 rfl, HK5.out.cell 1 rfl, HK5.out.cell 2 rfl, HK5.out.cell 3 rfl, HK5.out.cell 4 rfl, HK5.out.cell 5 rfl, HF5.out.cell 0 rfl, HF5.out.cell 1 rfl, HF5.out.cell 2 rfl⟩) (fun hHeld => ?_)
  clear hK K
  try simp only [List.getElem_toArray, List.getElem_cons_zero, List.getElem_cons_succ, Act.put, List.setIfInBounds_toArray, List.set_cons_zero, List.set_cons_succ]
  refine wpAnyH_take (i := 9) (v := ?_) rfl (by kernel_rfl) (by kernel_rfl) (by kernel_rfl) (fun _ _ _ h => h) (Or.inl ⟨by rfl, ?_⟩) hHeld ?_
  rotate_left
  · intro w hSw
    (try dsimp only at hSw)
    (try simp only [List.getElem_toArray, List.getElem_cons_zero, List.getElem_cons_succ])
    go_simp
    all_goals with_reducible rfl
  try simp only [List.getElem_toArray, List.getElem_cons_zero, List.getElem_cons_succ, Act.put, List.setIfInBounds_toArray, List.set_cons_zero, List.set_cons_succ]
  refine wpAnyH_take (i := 10) (v := ?_) rfl (by kernel_rfl) (by kernel_rfl) (by kernel_rfl) (fun _ _ _ h => h) (Or.inl ⟨by rfl, ?_⟩) hHeld ?_
  rotate_left
  · intro w hSw
    (try dsimp only at hSw)
    (try simp only [List.getElem_toArray, List.getElem_cons_zero, List.getElem_cons_succ])
    go_simp
    all_goals with_reducible rfl
  try simp only [List.getElem_toArray, List.getElem_cons_zero, List.getElem_cons_succ, Act.put, List.setIfInBounds_toArray, List.set_cons_zero, List.set_cons_succ]
  refine wpAnyH_done (by kernel_rfl) ?_ _
  have HBz := Lib.hid AB
  clear AB hHeld
  go_wp2
  go_ret
  exact ⟨rfl, HBz.out⟩

end Go.Proofs.Ytlhngelifmjefaa
