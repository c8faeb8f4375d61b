/-
  The walk of punchcutlaw13.SweepOver, over what the program is to do (no claim is made here).
-/
import Derived.Test.YteiildeaccngjaaSwp4
import Derived.Test.YteiildeaccngjaaMgrd
namespace Go.Proofs.Yteiildeaccngjaa
open Go.RowKit

set_option maxRecDepth 100000 in
set_option maxHeartbeats 3200000 in
theorem sweepOver_walk (H : SwpOK) (S : SdfOK) (A : Option Addr) (n cap : Nat) (cs : List (List Dot)) (s0 s1 s2 s3 s4 s5 : Int) (w : World) (hcs : DotRows w A n cap cs) (hs : (0 ≤ s0 ∧ s0 ≤ 255) ∧ (0 ≤ s1 ∧ s1 ≤ 255) ∧ (0 ≤ s2 ∧ s2 ≤ 255) ∧ (0 ≤ s3 ∧ s3 ≤ 255) ∧ (0 ≤ s4 ∧ s4 ≤ 255) ∧ (0 ≤ s5 ∧ s5 ≤ 255)) :
    Calls Try.prog 5 #[.slice A n cap, .agg #[.int .u8 s0, .int .u8 s1, .int .u8 s2, .int .u8 s3, .int .u8 s4, .int .u8 s5]] w fun e w' => e = .returned (.bool true) ∧ Below w.heap.size w w' := by
  have HD := Lib.hid hcs
  have HAW := Lib.hid (fun w => awake13 H w)
  obtain ⟨h0, h1, h2, h3, h4, h5⟩ := hs
  have HS := Lib.hid (fun w => sgrid_any s0 s1 s2 s3 s4 s5 h0 h1 h2 h3 h4 h5 w)
  have HB0 := Lib.hid ((Below.refl _ w).alloc (Nat.le_refl _) (.cells #[.int .u8 s0, .int .u8 s1, .int .u8 s2, .int .u8 s3, .int .u8 s4, .int .u8 s5] 24))
  have HK0 := Lib.hid (Blk.new w 24 [.int .u8 s0, .int .u8 s1, .int .u8 s2, .int .u8 s3, .int .u8 s4, .int .u8 s5] rfl)
  have hck : checkG (s0 - 128) (s1 - 128) (1 + s2 % 16) (1 + s3 % 10) (1 + s4 % 10) (1 + s5 % 64) = 0 := by unfold checkG; rw [if_neg (by omega), if_neg (by omega)]
  obtain ⟨u, hu⟩ : ∃ u : Nat, 1 + s3 % 10 = u := ⟨(1 + s3 % 10).toNat, by omega⟩
  obtain ⟨v, hv⟩ : ∃ v : Nat, 1 + s4 % 10 = v := ⟨(1 + s4 % 10).toNat, by omega⟩
  rw [hu, hv] at hck HS
  have bu : 1 ≤ u ∧ u ≤ 10 := by omega
  have bv : 1 ≤ v ∧ v ≤ 10 := by omega
  have bx : -128 ≤ s0 - 128 ∧ s0 - 128 ≤ 127 := by omega
  have by' : -128 ≤ s1 - 128 ∧ s1 - 128 ≤ 127 := by omega
  have bp : 1 ≤ 1 + s2 % 16 ∧ 1 + s2 % 16 ≤ 16 := by omega
  have bs : 1 ≤ 1 + s5 % 64 ∧ 1 + s5 % 64 ≤ 64 := by omega
  clear h0 h1 h2 h3 h4 h5 hu hv hcs
  generalize s0 - 128 = x at *
  generalize s1 - 128 = y at *
  generalize 1 + s2 % 16 = p at *
  generalize 1 + s5 % 64 = s at *
  go_enter Try.func5, Try.ntmps5
  go_wp2_with fail
  refine (HAW.out _).mono ?_
  rintro e w1 ⟨rfl, hb⟩
  have HK1 := Lib.hid (HK0.out.keep hb)
  have HB1 := Lib.hid (below2 HB0.out hb)
  have HC := Lib.hid (glyph7 A n cap cs w1 (HD.out.keep HB1.out))
  clear hb HK0 HB0 HD HAW
  go_wp2_with fail
  refine HC.out.mono ?_
  rintro e w2 ⟨U, es, rfl, hU, hln, hin, hcl, hb⟩
  have HK2 := Lib.hid (HK1.out.keep hb)
  have HB2 := Lib.hid (below2 HB1.out hb)
  have HU2 := Lib.hid hU.read
  have HIN := Lib.hid hin
  have HCL := Lib.hid hcl
  have hln2 : es.length ≤ 200000 := by omega
  have HLN := Lib.hid hln2
  obtain ⟨Au, capu, rfl⟩ := hU.form
  obtain ⟨N, hN⟩ : ∃ N, es.length = N := ⟨_, rfl⟩
  rw [hN] at HU2
  rw [hN]
  have HN := Lib.hid hN
  clear hb HK1 HB1 hU hin hcl hln hln2 hN HC
  have k0 := HK2.out.cell 0 rfl
  have k1 := HK2.out.cell 1 rfl
  have k2 := HK2.out.cell 2 rfl
  have k3 := HK2.out.cell 3 rfl
  have k4 := HK2.out.cell 4 rfl
  have k5 := HK2.out.cell 5 rfl
  have kl := HK2.out.lt
  go_wp2_with fail
  refine (HS.out _).mono ?_
  rintro e w3 ⟨rfl, hb⟩
  have HU3 := Lib.hid (HU2.out.keep hb)
  have HB3 := Lib.hid (below2 HB2.out hb)
  have HK3 := Lib.hid (HK2.out.keep hb)
  clear hb HU2 HB2 HK2 k0 k1 k2 k3 k4 k5 kl
  go_wp2_with fail
  have hal : Below w3.heap.size w3 (w3.alloc (.cells #[.int .i64 x, .int .i64 y, .int .i64 p, .int .i64 u, .int .i64 v, .int .i64 s] 29)) := (Below.refl _ _).alloc (Nat.le_refl _) _
  have HU4 := Lib.hid (HU3.out.keep hal)
  have HB4 := Lib.hid (below2 HB3.out hal)
  have HG4 := Lib.hid (Blk.new w3 29 [.int .i64 x, .int .i64 y, .int .i64 p, .int .i64 u, .int .i64 v, .int .i64 s] rfl)
  clear hal HU3 HB3 HK3
  generalize w3.alloc (.cells #[.int .i64 x, .int .i64 y, .int .i64 p, .int .i64 u, .int .i64 v, .int .i64 s] 29) = w4 at *
  generalize w3.heap.size = G at *
  have HM1 := Lib.hid (fun w h => H.make (.slice Au N capu) es x y p s u v w h HLN.out HIN.out hck)
  have HM2 := Lib.hid (fun w h => S.make (.slice Au N capu) es x y p s u v w h HLN.out HIN.out hck)
  have hUV : u * v ≤ 100 := Nat.mul_le_mul bu.2 bv.2
  have HOV : Hid (∀ j, j < u * v → ∃ a b : Nat, (fldS es x y p s u v)[j]? = some a ∧ (fldN es x y p s u (u * v))[j]? = some b ∧ a < 256 ∧ b < 256 ∧ (128 < (b : Int) → (b : Int) ≤ a) ∧ ((b : Int) < 128 → (a : Int) ≤ b)) := Lib.hid (fun j hj => by
    refine ⟨_, _, fldS_at es x y p s u v j hj, fldN_at es x y p s u (u * v) j hj, ?_, ?_, ?_⟩
    · have := swG_in es s (cenS x y p u j) (knS (knownL es x y p u v) j) bs.1
      unfold swN; omega
    · have := texG_in es s (midP x y p (j % u : Nat) (j / u : Nat)) bs.1
      unfold texN; omega
    · rw [swN_is _ _ _ _ bs.1, texN_is _ _ _ bs.1]
      refine sw_over es s (cenS x y p u j) (knS (knownL es x y p u v) j) bs.1 ?_
      have hi := (knownL_in es x y p u v (by omega) (by omega) j).2
      by_cases h0 : 0 < es.length
      · exact .inl ⟨knownL_all es x y p u v (by omega) (by omega) h0 hj, hi⟩
      · have h0 : es.length = 0 := by omega
        exact .inr ⟨List.eq_nil_of_length_eq_zero h0, by omega⟩)
  have HLS := Lib.hid (fldS_length es x y p s u v)
  have HLT := Lib.hid (fldN_length es x y p s u (u * v))
  generalize fldS es x y p s u v = fs at *
  generalize fldN es x y p s u (u * v) = ft at *
  obtain ⟨U, hU⟩ : ∃ U, u * v = U := ⟨_, rfl⟩
  rw [hU] at HLS HLT HOV hUV
  clear hck hU
  have g0 := HG4.out.cell 0 rfl
  have g1 := HG4.out.cell 1 rfl
  have g2 := HG4.out.cell 2 rfl
  have g3 := HG4.out.cell 3 rfl
  have g4 := HG4.out.cell 4 rfl
  have g5 := HG4.out.cell 5 rfl
  have gl := HG4.out.lt
  go_wp2_with fail
  refine (HM1.out _ HU4.out).mono ?_
  rintro e w5 ⟨V, rfl, hV, hb⟩
  obtain ⟨Aa, capa, rfl⟩ := hV.form
  rw [HLS.out] at hV ⊢
  have hal : Below w5.heap.size w5 (w5.alloc (.cells #[.int .i64 u, .int .i64 v, .slice Aa U capa] 36)) := (Below.refl _ _).alloc (Nat.le_refl _) _
  have HU6 := Lib.hid ((HU4.out.keep hb).keep hal)
  have HG6 := Lib.hid ((HG4.out.keep hb).keep hal)
  have HB6 := Lib.hid (below2 (below2 HB4.out hb) hal)
  have HA6 := Lib.hid (hV.keep hal)
  have HX6 := Lib.hid (Blk.new w5 36 [.int .i64 u, .int .i64 v, .slice Aa U capa] rfl)
  clear hb hal hV HU4 HG4 HB4 HM1 g0 g1 g2 g3 g4 g5 gl
  have k0 := HG6.out.cell 0 rfl
  have k1 := HG6.out.cell 1 rfl
  have k2 := HG6.out.cell 2 rfl
  have k3 := HG6.out.cell 3 rfl
  have k4 := HG6.out.cell 4 rfl
  have k5 := HG6.out.cell 5 rfl
  have kl := HG6.out.lt
  go_wp2_with fail
  refine (HM2.out _ HU6.out).mono ?_
  rintro e w7 ⟨V, rfl, hV, hb⟩
  obtain ⟨Ab, capb, rfl⟩ := hV.form
  rw [HLT.out] at hV ⊢
  have hal : Below w7.heap.size w7 (w7.alloc (.cells #[.int .i64 u, .int .i64 v, .slice Ab U capb] 36)) := (Below.refl _ _).alloc (Nat.le_refl _) _
  have HB8 := Lib.hid (below2 (below2 HB6.out hb) hal)
  have HA8 := Lib.hid ((HA6.out.keep hb).keep hal)
  have HX8 := Lib.hid ((HX6.out.keep hb).keep hal)
  have HC8 := Lib.hid (hV.keep hal)
  have HY8 := Lib.hid (Blk.new w7 36 [.int .i64 u, .int .i64 v, .slice Ab U capb] rfl)
  clear hb hal hV HU6 HG6 HB6 HA6 HX6 HM2 k0 k1 k2 k3 k4 k5 kl
  have x2 := HX8.out.cell 2 rfl
  have xl := HX8.out.lt
  go_wp2_with fail
  generalize w7.alloc (.cells #[.int .i64 u, .int .i64 v, .slice Ab U capb] 36) = w8 at *
  generalize w5.heap.size = F1 at *
  generalize w7.heap.size = F2 at *
  clear x2 xl
  go_loopw [50] (fun i wr => ∃ r : Nat, r ≤ U ∧ i = .int .i64 r ∧ Hid (Below w8.heap.size w8 wr)) (fun i _ => U - (intOf i).toNat)
  case atStart => exact ⟨0, Nat.zero_le _, rfl, Lib.hid (Below.refl _ _)⟩
  case round =>
    obtain ⟨r, hr, rfl, HW⟩ := hrel
    by_cases hrn : r < U
    · have hrb : decide ((r : Int) < U) = true := by simp; omega
      obtain ⟨a, b, ea, eb, ha, hb, o1, o2⟩ := HOV.out r hrn
      obtain ⟨-, aa, rfl, haa, hca⟩ := (HA8.out.keep HW.out).byte r ea
      obtain ⟨-, ab, rfl, hab, hcb⟩ := (HC8.out.keep HW.out).byte r eb
      have HXr := Lib.hid (HX8.out.keep HW.out)
      have HYr := Lib.hid (HY8.out.keep HW.out)
      clear ea eb
      go_wp2_with fail
      have hd : Below wr.heap.size wr wr.drew := (Below.refl _ wr).drew
      have AB := HW.out.drew
      replace HXr := Lib.hid (HXr.out.keep hd)
      replace HYr := Lib.hid (HYr.out.keep hd)
      have HCA : Hid (wr.drew.cell? (aa.add r) = some (.int .u8 (a : Int))) := Lib.hid hca
      have HCB : Hid (wr.drew.cell? (ab.add r) = some (.int .u8 (b : Int))) := Lib.hid hcb
      clear hd HW hca hcb haa hab
      refine wp_region_held_drew (S := fun wx => wx.cell? ⟨F1, 2, none⟩ = some (.slice (some aa) U capa) ∧ wx.cell? ⟨F2, 2, none⟩ = some (.slice (some ab) U capb) ∧ wx.cell? (aa.add r) = some (.int .u8 (a : Int)) ∧ wx.cell? (ab.add r) = some (.int .u8 (b : Int))) (by kernel_rfl) (⟨HXr.out.cell 2 rfl, HYr.out.cell 2 rfl, HCA.out, HCB.out⟩) (fun hHeld => ?_)
      refine wpAnyH_take (i := 0) (v := ?_) rfl (by kernel_rfl) (by kernel_rfl) (by kernel_rfl) (fun _ _ _ h => h) (Or.inl ⟨by rfl, ?_⟩) hHeld ?_
      rotate_left
      · intro w hSw
        (try dsimp only at hSw)
        (try simp only [List.getElem_toArray, List.getElem_cons_zero])
        go_simp
        all_goals with_reducible rfl
      try simp only [List.getElem_toArray, List.getElem_cons_zero, Act.put, List.setIfInBounds_toArray, List.set_cons_zero, List.set_cons_succ]
      refine wpAnyH_take (i := 1) (v := ?_) rfl (by kernel_rfl) (by kernel_rfl) (by kernel_rfl) (fun _ _ _ h => h) (Or.inl ⟨by rfl, ?_⟩) hHeld ?_
      rotate_left
      · intro w hSw
        (try dsimp only at hSw)
        (try simp only [List.getElem_toArray, List.getElem_cons_zero, List.getElem_cons_succ])
        go_simp
        all_goals with_reducible rfl
      try simp only [List.getElem_toArray, List.getElem_cons_zero, List.getElem_cons_succ, Act.put, List.setIfInBounds_toArray, List.set_cons_zero, List.set_cons_succ]
      refine wpAnyH_take (i := 2) (v := ?_) rfl (by kernel_rfl) (by kernel_rfl) (by kernel_rfl) (fun _ _ _ h => h) (Or.inl ⟨by rfl, ?_⟩) hHeld ?_
      rotate_left
      · intro w hSw
        (try dsimp only at hSw)
        (try simp only [List.getElem_toArray, List.getElem_cons_zero, List.getElem_cons_succ])
        go_simp
        all_goals with_reducible rfl
      try simp only [List.getElem_toArray, List.getElem_cons_zero, List.getElem_cons_succ, Act.put, List.setIfInBounds_toArray, List.set_cons_zero, List.set_cons_succ]
      refine wpAnyH_take (i := 3) (v := ?_) rfl (by kernel_rfl) (by kernel_rfl) (by kernel_rfl) (fun _ _ _ h => h) (Or.inl ⟨by rfl, ?_⟩) hHeld ?_
      rotate_left
      · intro w hSw
        (try dsimp only at hSw)
        (try simp only [List.getElem_toArray, List.getElem_cons_zero, List.getElem_cons_succ])
        go_simp
        all_goals with_reducible rfl
      try simp only [List.getElem_toArray, List.getElem_cons_zero, List.getElem_cons_succ, Act.put, List.setIfInBounds_toArray, List.set_cons_zero, List.set_cons_succ]
      refine wpAnyH_take (i := 4) (v := ?_) rfl (by kernel_rfl) (by kernel_rfl) (by kernel_rfl) (fun _ _ _ h => h) (Or.inl ⟨by rfl, ?_⟩) hHeld ?_
      rotate_left
      · intro w hSw
        (try dsimp only at hSw)
        (try simp only [List.getElem_toArray, List.getElem_cons_zero, List.getElem_cons_succ])
        go_simp
        all_goals with_reducible rfl
      try simp only [List.getElem_toArray, List.getElem_cons_zero, List.getElem_cons_succ, Act.put, List.setIfInBounds_toArray, List.set_cons_zero, List.set_cons_succ]
      refine wpAnyH_take (i := 5) (v := ?_) rfl (by kernel_rfl) (by kernel_rfl) (by kernel_rfl) (fun _ _ _ h => h) (Or.inl ⟨by rfl, ?_⟩) hHeld ?_
      rotate_left
      · intro w hSw
        (try dsimp only at hSw)
        (try simp only [List.getElem_toArray, List.getElem_cons_zero, List.getElem_cons_succ])
        go_simp
        all_goals with_reducible rfl
      try simp only [List.getElem_toArray, List.getElem_cons_zero, List.getElem_cons_succ, Act.put, List.setIfInBounds_toArray, List.set_cons_zero, List.set_cons_succ]
      refine wpAnyH_take (i := 6) (v := ?_) rfl (by kernel_rfl) (by kernel_rfl) (by kernel_rfl) (fun _ _ _ h => h) (Or.inl ⟨by rfl, ?_⟩) hHeld ?_
      rotate_left
      · intro w hSw
        (try dsimp only at hSw)
        (try simp only [List.getElem_toArray, List.getElem_cons_zero, List.getElem_cons_succ])
        go_simp
        all_goals with_reducible rfl
      try simp only [List.getElem_toArray, List.getElem_cons_zero, List.getElem_cons_succ, Act.put, List.setIfInBounds_toArray, List.set_cons_zero, List.set_cons_succ]
      refine wpAnyH_take (i := 7) (v := ?_) rfl (by kernel_rfl) (by kernel_rfl) (by kernel_rfl) (fun _ _ _ h => h) (Or.inl ⟨by rfl, ?_⟩) hHeld ?_
      rotate_left
      · intro w hSw
        (try dsimp only at hSw)
        (try simp only [List.getElem_toArray, List.getElem_cons_zero, List.getElem_cons_succ])
        go_simp
        all_goals with_reducible rfl
      try simp only [List.getElem_toArray, List.getElem_cons_zero, List.getElem_cons_succ, Act.put, List.setIfInBounds_toArray, List.set_cons_zero, List.set_cons_succ]
      refine wpAnyH_take (i := 8) (v := ?_) rfl (by kernel_rfl) (by kernel_rfl) (by kernel_rfl) (fun _ _ _ h => h) (Or.inl ⟨by rfl, ?_⟩) hHeld ?_
      rotate_left
      · intro w hSw
        (try dsimp only at hSw)
        (try simp only [List.getElem_toArray, List.getElem_cons_zero, List.getElem_cons_succ])
        go_simp
        all_goals with_reducible rfl
      try simp only [List.getElem_toArray, List.getElem_cons_zero, List.getElem_cons_succ, Act.put, List.setIfInBounds_toArray, List.set_cons_zero, List.set_cons_succ]
      refine wpAnyH_take (i := 9) (v := ?_) rfl (by kernel_rfl) (by kernel_rfl) (by kernel_rfl) (fun _ _ _ h => h) (Or.inl ⟨by rfl, ?_⟩) hHeld ?_
      rotate_left
      · intro w hSw
        (try dsimp only at hSw)
        (try simp only [List.getElem_toArray, List.getElem_cons_zero, List.getElem_cons_succ])
        go_simp
        all_goals with_reducible rfl
      try simp only [List.getElem_toArray, List.getElem_cons_zero, List.getElem_cons_succ, Act.put, List.setIfInBounds_toArray, List.set_cons_zero, List.set_cons_succ]
      refine wpAnyH_take (i := 10) (v := ?_) rfl (by kernel_rfl) (by kernel_rfl) (by kernel_rfl) (fun _ _ _ h => h) (Or.inl ⟨by rfl, ?_⟩) hHeld ?_
      rotate_left
      · intro w hSw
        (try dsimp only at hSw)
        (try simp only [List.getElem_toArray, List.getElem_cons_zero, List.getElem_cons_succ])
        go_simp
        all_goals with_reducible rfl
      try simp only [List.getElem_toArray, List.getElem_cons_zero, List.getElem_cons_succ, Act.put, List.setIfInBounds_toArray, List.set_cons_zero, List.set_cons_succ]
      refine wpAnyH_take (i := 11) (v := ?_) rfl (by kernel_rfl) (by kernel_rfl) (by kernel_rfl) (fun _ _ _ h => h) (Or.inl ⟨by rfl, ?_⟩) hHeld ?_
      rotate_left
      · intro w hSw
        (try dsimp only at hSw)
        (try simp only [List.getElem_toArray, List.getElem_cons_zero, List.getElem_cons_succ])
        go_simp
        all_goals with_reducible rfl
      try simp only [List.getElem_toArray, List.getElem_cons_zero, List.getElem_cons_succ, Act.put, List.setIfInBounds_toArray, List.set_cons_zero, List.set_cons_succ]
      refine wpAnyH_take (i := 12) (v := ?_) rfl (by kernel_rfl) (by kernel_rfl) (by kernel_rfl) (fun _ _ _ h => h) (Or.inl ⟨by rfl, ?_⟩) hHeld ?_
      rotate_left
      · intro w hSw
        (try dsimp only at hSw)
        (try simp only [List.getElem_toArray, List.getElem_cons_zero, List.getElem_cons_succ])
        go_simp
        all_goals with_reducible rfl
      try simp only [List.getElem_toArray, List.getElem_cons_zero, List.getElem_cons_succ, Act.put, List.setIfInBounds_toArray, List.set_cons_zero, List.set_cons_succ]
      refine wpAnyH_take (i := 13) (v := ?_) rfl (by kernel_rfl) (by kernel_rfl) (by kernel_rfl) (fun _ _ _ h => h) (Or.inl ⟨by rfl, ?_⟩) hHeld ?_
      rotate_left
      · intro w hSw
        (try dsimp only at hSw)
        (try simp only [List.getElem_toArray, List.getElem_cons_zero, List.getElem_cons_succ])
        go_simp
        all_goals with_reducible rfl
      try simp only [List.getElem_toArray, List.getElem_cons_zero, List.getElem_cons_succ, Act.put, List.setIfInBounds_toArray, List.set_cons_zero, List.set_cons_succ]
      refine wpAnyH_take (i := 14) (v := ?_) rfl (by kernel_rfl) (by kernel_rfl) (by kernel_rfl) (fun _ _ _ h => h) (Or.inl ⟨by rfl, ?_⟩) hHeld ?_
      rotate_left
      · intro w hSw
        (try dsimp only at hSw)
        (try simp only [List.getElem_toArray, List.getElem_cons_zero, List.getElem_cons_succ])
        go_simp
        all_goals with_reducible rfl
      try simp only [List.getElem_toArray, List.getElem_cons_zero, List.getElem_cons_succ, Act.put, List.setIfInBounds_toArray, List.set_cons_zero, List.set_cons_succ]
      refine wpAnyH_take (i := 15) (v := ?_) rfl (by kernel_rfl) (by kernel_rfl) (by kernel_rfl) (fun _ _ _ h => h) (Or.inl ⟨by rfl, ?_⟩) hHeld ?_
      rotate_left
      · intro w hSw
        (try dsimp only at hSw)
        (try simp only [List.getElem_toArray, List.getElem_cons_zero, List.getElem_cons_succ])
        go_simp
        all_goals with_reducible rfl
      try simp only [List.getElem_toArray, List.getElem_cons_zero, List.getElem_cons_succ, Act.put, List.setIfInBounds_toArray, List.set_cons_zero, List.set_cons_succ]
      refine wpAnyH_done (by kernel_rfl) ?_ _
      have HW := Lib.hid AB
      clear AB HXr HYr HCA HCB
      go_wp2_with fail
      all_goals first
        | exact ⟨⟨r + 1, hrn, by go_num, HW⟩, by simp [intOf]; omega⟩
        | (exfalso
           rename_i hq
           simp at hq
           omega)

    · obtain rfl : r = U := by omega
      go_wp2_with fail
      go_ret
      exact ⟨rfl, below2 HB8.out HW.out⟩

end Go.Proofs.Yteiildeaccngjaa
