/-
  The walk of punchcutlaw13.SweepAll, over what the program is to do (no claim is made here).
-/
import Derived.Test.YteiildeaccngjaaSwp4
import Derived.Test.YteiildeaccngjaaMgrd
namespace Go.Proofs.Yteiildeaccngjaa
open Go.RowKit

set_option maxRecDepth 100000 in
set_option maxHeartbeats 3200000 in
theorem sweepAll_walk (H : SwpOK) (A : Option Addr) (n cap : Nat) (cs : List (List Dot)) (s0 s1 s2 s3 s4 s5 : Int) (w : World) (hcs : DotRows w A n cap cs) (hs : (0 ≤ s0 ∧ s0 ≤ 255) ∧ (0 ≤ s1 ∧ s1 ≤ 255) ∧ (0 ≤ s2 ∧ s2 ≤ 255) ∧ (0 ≤ s3 ∧ s3 ≤ 255) ∧ (0 ≤ s4 ∧ s4 ≤ 255) ∧ (0 ≤ s5 ∧ s5 ≤ 255)) :
    Calls Try.prog 7 #[.slice A n cap, .agg #[.int .u8 s0, .int .u8 s1, .int .u8 s2, .int .u8 s3, .int .u8 s4, .int .u8 s5]] w fun e w' => e = .returned (.bool true) ∧ Below w.heap.size w w' := by
  have HD := Lib.hid hcs
  have HAW := Lib.hid (fun w => awake13 H w)
  obtain ⟨h0, h1, h2, h3, h4, h5⟩ := hs
  have HS := Lib.hid (fun w => sgrid_any s0 s1 s2 s3 s4 s5 h0 h1 h2 h3 h4 h5 w)
  have HB0 := Lib.hid ((Below.refl _ w).alloc (Nat.le_refl _) (.cells #[.int .u8 s0, .int .u8 s1, .int .u8 s2, .int .u8 s3, .int .u8 s4, .int .u8 s5] 24))
  have HK0 := Lib.hid (Blk.new w 24 [.int .u8 s0, .int .u8 s1, .int .u8 s2, .int .u8 s3, .int .u8 s4, .int .u8 s5] rfl)
  have hck : checkG (s0 - 128) (s1 - 128) (1 + s2 % 16) (1 + s3 % 10) (1 + s4 % 10) (1 + s5 % 64) = 0 := by unfold checkG; rw [if_neg (by omega), if_neg (by omega)]
  obtain ⟨u, hu⟩ : ∃ u : Nat, 1 + s3 % 10 = u := ⟨(1 + s3 % 10).toNat, by omega⟩
  obtain ⟨v, hv⟩ : ∃ v : Nat, 1 + s4 % 10 = v := ⟨(1 + s4 % 10).toNat, by omega⟩
  rw [hu, hv] at hck HS
  have bu : 1 ≤ u ∧ u ≤ 10 := by omega
  have bv : 1 ≤ v ∧ v ≤ 10 := by omega
  have bx : -128 ≤ s0 - 128 ∧ s0 - 128 ≤ 127 := by omega
  have by' : -128 ≤ s1 - 128 ∧ s1 - 128 ≤ 127 := by omega
  have bp : 1 ≤ 1 + s2 % 16 ∧ 1 + s2 % 16 ≤ 16 := by omega
  have bs : 1 ≤ 1 + s5 % 64 ∧ 1 + s5 % 64 ≤ 64 := by omega
  clear h0 h1 h2 h3 h4 h5 hu hv hcs
  generalize s0 - 128 = x at *
  generalize s1 - 128 = y at *
  generalize 1 + s2 % 16 = p at *
  generalize 1 + s5 % 64 = s at *
  go_enter Try.func7, Try.ntmps7
  go_wp2_with fail
  refine (HAW.out _).mono ?_
  rintro e w1 ⟨rfl, hb⟩
  have HK1 := Lib.hid (HK0.out.keep hb)
  have HB1 := Lib.hid (below2 HB0.out hb)
  have HC := Lib.hid (glyph7 A n cap cs w1 (HD.out.keep HB1.out))
  clear hb HK0 HB0 HD HAW
  go_wp2_with fail
  refine HC.out.mono ?_
  rintro e w2 ⟨U, es, rfl, hU, hln, hin, hcl, hb⟩
  have HK2 := Lib.hid (HK1.out.keep hb)
  have HB2 := Lib.hid (below2 HB1.out hb)
  have HU2 := Lib.hid hU.read
  have HIN := Lib.hid hin
  have HCL := Lib.hid hcl
  have hln2 : es.length ≤ 200000 := by omega
  have HLN := Lib.hid hln2
  obtain ⟨Au, capu, rfl⟩ := hU.form
  obtain ⟨N, hN⟩ : ∃ N, es.length = N := ⟨_, rfl⟩
  rw [hN] at HU2
  rw [hN]
  have HN := Lib.hid hN
  clear hb HK1 HB1 hU hin hcl hln hln2 hN HC
  have k0 := HK2.out.cell 0 rfl
  have k1 := HK2.out.cell 1 rfl
  have k2 := HK2.out.cell 2 rfl
  have k3 := HK2.out.cell 3 rfl
  have k4 := HK2.out.cell 4 rfl
  have k5 := HK2.out.cell 5 rfl
  have kl := HK2.out.lt
  go_wp2_with fail
  refine (HS.out _).mono ?_
  rintro e w3 ⟨rfl, hb⟩
  have HU3 := Lib.hid (HU2.out.keep hb)
  have HB3 := Lib.hid (below2 HB2.out hb)
  have HK3 := Lib.hid (HK2.out.keep hb)
  clear hb HU2 HB2 HK2 k0 k1 k2 k3 k4 k5 kl
  go_wp2_with fail
  have hal : Below w3.heap.size w3 (w3.alloc (.cells #[.int .i64 x, .int .i64 y, .int .i64 p, .int .i64 u, .int .i64 v, .int .i64 s] 29)) := (Below.refl _ _).alloc (Nat.le_refl _) _
  have HU4 := Lib.hid (HU3.out.keep hal)
  have HB4 := Lib.hid (below2 HB3.out hal)
  have HG4 := Lib.hid (Blk.new w3 29 [.int .i64 x, .int .i64 y, .int .i64 p, .int .i64 u, .int .i64 v, .int .i64 s] rfl)
  clear hal HU3 HB3 HK3
  generalize w3.alloc (.cells #[.int .i64 x, .int .i64 y, .int .i64 p, .int .i64 u, .int .i64 v, .int .i64 s] 29) = w4 at *
  generalize w3.heap.size = G at *
  have HM1 := Lib.hid (fun w h => H.known (.slice Au N capu) es x y p s u v w h HLN.out HIN.out hck)
  have hUV : u * v ≤ 100 := Nat.mul_le_mul bu.2 bv.2
  have HLE := Lib.hid (knownL_len es x y p u v)
  have HKI := Lib.hid (knownL_in es x y p u v (by omega) (by omega))
  have HKA := Lib.hid (fun (h : 0 < es.length) (j : Nat) (hj : j < u * v) => knownL_all es x y p u v (by omega) (by omega) h hj)
  have HKR := Lib.hid (fun (j : Nat) (hj : j < u * v) (hr : j % u ≠ u - 1) => show NoW es (cenS x y p u j) (knS (knownL es x y p u v) (j + 1)) (knS (knownL es x y p u v) j) from pass2_right es x y p u v _ (by rw [passTo_len, seedTo_len]) hj hr)
  generalize knownL es x y p u v = kk at *
  obtain ⟨U, hU⟩ : ∃ U, u * v = U := ⟨_, rfl⟩
  have hUw : IntKind.i64.wrap ((u : Int) * v) = (U : Int) := by rw [← hU, Int.natCast_mul]; exact wI (by rw [← Int.natCast_mul]; omega) (by rw [← Int.natCast_mul]; omega)
  have HUL := Lib.hid hU
  rw [hU] at HLE hUV
  simp only [hU] at HKA HKR
  rw [HN.out] at HKI HKA
  clear hck hU
  have g0 := HG4.out.cell 0 rfl
  have g1 := HG4.out.cell 1 rfl
  have g2 := HG4.out.cell 2 rfl
  have g3 := HG4.out.cell 3 rfl
  have g4 := HG4.out.cell 4 rfl
  have g5 := HG4.out.cell 5 rfl
  have gl := HG4.out.lt
  go_wp2_with fail
  refine (HM1.out _ HU4.out).mono ?_
  rintro e w5 ⟨V, rfl, hV, hb⟩
  obtain ⟨Av, capv, rfl⟩ := hV.form
  rw [HLE.out] at hV ⊢
  have HV5 := Lib.hid hV
  have HU5 := Lib.hid (HU4.out.keep hb)
  have HG5 := Lib.hid (HG4.out.keep hb)
  have HB5 := Lib.hid (below2 HB4.out hb)
  clear hb hV HU4 HG4 HB4 HM1 g0 g1 g2 g3 g4 g5 gl
  have k0 := HG5.out.cell 0 rfl
  have k1 := HG5.out.cell 1 rfl
  have k2 := HG5.out.cell 2 rfl
  have k3 := HG5.out.cell 3 rfl
  have k4 := HG5.out.cell 4 rfl
  have k5 := HG5.out.cell 5 rfl
  have kl := HG5.out.lt
  go_wp2_with fail
  clear k0 k1 k2 k3 k4 k5 kl
  go_loopw [30] (fun i wr => ∃ r : Nat, r ≤ U ∧ i = .int .i64 r ∧ Hid (Below w5.heap.size w5 wr)) (fun i _ => U - (intOf i).toNat)
  case atStart => exact ⟨0, Nat.zero_le _, rfl, Lib.hid (Below.refl _ _)⟩
  case round =>
    obtain ⟨r, hr, rfl, HW⟩ := hrel
    by_cases hrn : r < U
    · have hrb : decide ((r : Int) < U) = true := by simp; omega
      have HVr := Lib.hid (HV5.out.keep HW.out)
      have HGr := Lib.hid (HG5.out.keep HW.out)
      have HUr := Lib.hid (HU5.out.keep HW.out)
      have HBr := Lib.hid (below2 HB5.out HW.out)
      obtain ⟨av, e, hav, v0⟩ := HVr.out.at r (by rw [HLE.out]; exact hrn)
      subst e
      have hki := HKI.out r
      have g0 := HGr.out.cell 0 rfl
      have g1 := HGr.out.cell 1 rfl
      have g2 := HGr.out.cell 2 rfl
      have g3 := HGr.out.cell 3 rfl
      have g4 := HGr.out.cell 4 rfl
      have g5 := HGr.out.cell 5 rfl
      have gl := HGr.out.lt
      by_cases hN0 : N = 0
      · subst hN0
        have hk1 : knS kk r = -1 := by omega
        rw [hk1] at v0
        go_wp2_with fail
        have AB := HW.out.drew
        refine wp_region_held_drew (S := fun wx => True) (by kernel_rfl) (trivial) (fun hHeld => ?_)
        refine wpAnyH_take (i := 0) (v := ?_) rfl (by kernel_rfl) (by kernel_rfl) (by kernel_rfl) (fun _ _ _ h => h) (Or.inl ⟨by rfl, ?_⟩) hHeld ?_
        rotate_left
        · intro w hSw
          (try dsimp only at hSw)
          (try simp only [List.getElem_toArray, List.getElem_cons_zero])
          go_simp
          all_goals with_reducible rfl
        try simp only [List.getElem_toArray, List.getElem_cons_zero, Act.put, List.setIfInBounds_toArray, List.set_cons_zero, List.set_cons_succ]
        refine wpAnyH_take (i := 1) (v := ?_) rfl (by kernel_rfl) (by kernel_rfl) (by kernel_rfl) (fun _ _ _ h => h) (Or.inl ⟨by rfl, ?_⟩) hHeld ?_
        rotate_left
        · intro w hSw
          (try dsimp only at hSw)
          (try simp only [List.getElem_toArray, List.getElem_cons_zero, List.getElem_cons_succ])
          go_simp
          all_goals with_reducible rfl
        try simp only [List.getElem_toArray, List.getElem_cons_zero, List.getElem_cons_succ, Act.put, List.setIfInBounds_toArray, List.set_cons_zero, List.set_cons_succ]
        refine wpAnyH_take (i := 2) (v := ?_) rfl (by kernel_rfl) (by kernel_rfl) (by kernel_rfl) (fun _ _ _ h => h) (Or.inl ⟨by rfl, ?_⟩) hHeld ?_
        rotate_left
        · intro w hSw
          (try dsimp only at hSw)
          (try simp only [List.getElem_toArray, List.getElem_cons_zero, List.getElem_cons_succ])
          go_simp
          all_goals with_reducible rfl
        try simp only [List.getElem_toArray, List.getElem_cons_zero, List.getElem_cons_succ, Act.put, List.setIfInBounds_toArray, List.set_cons_zero, List.set_cons_succ]
        refine wpAnyH_take (i := 3) (v := undef) rfl (by kernel_rfl) (by kernel_rfl) (by kernel_rfl) (fun _ _ _ h => h) (Or.inr ⟨by rfl, rfl⟩) hHeld ?_
        try simp only [List.getElem_toArray, List.getElem_cons_zero, List.getElem_cons_succ, Act.put, List.setIfInBounds_toArray, List.set_cons_zero, List.set_cons_succ]
        refine wpAnyH_take (i := 4) (v := undef) rfl (by kernel_rfl) (by kernel_rfl) (by kernel_rfl) (fun _ _ _ h => h) (Or.inr ⟨by rfl, rfl⟩) hHeld ?_
        try simp only [List.getElem_toArray, List.getElem_cons_zero, List.getElem_cons_succ, Act.put, List.setIfInBounds_toArray, List.set_cons_zero, List.set_cons_succ]
        refine wpAnyH_take (i := 5) (v := undef) rfl (by kernel_rfl) (by kernel_rfl) (by kernel_rfl) (fun _ _ _ h => h) (Or.inr ⟨by rfl, rfl⟩) hHeld ?_
        try simp only [List.getElem_toArray, List.getElem_cons_zero, List.getElem_cons_succ, Act.put, List.setIfInBounds_toArray, List.set_cons_zero, List.set_cons_succ]
        refine wpAnyH_take (i := 6) (v := undef) rfl (by kernel_rfl) (by kernel_rfl) (by kernel_rfl) (fun _ _ _ h => h) (Or.inr ⟨by rfl, rfl⟩) hHeld ?_
        try simp only [List.getElem_toArray, List.getElem_cons_zero, List.getElem_cons_succ, Act.put, List.setIfInBounds_toArray, List.set_cons_zero, List.set_cons_succ]
        refine wpAnyH_take (i := 7) (v := undef) rfl (by kernel_rfl) (by kernel_rfl) (by kernel_rfl) (fun _ _ _ h => h) (Or.inr ⟨by rfl, rfl⟩) hHeld ?_
        try simp only [List.getElem_toArray, List.getElem_cons_zero, List.getElem_cons_succ, Act.put, List.setIfInBounds_toArray, List.set_cons_zero, List.set_cons_succ]
        refine wpAnyH_take (i := 8) (v := undef) rfl (by kernel_rfl) (by kernel_rfl) (by kernel_rfl) (fun _ _ _ h => h) (Or.inr ⟨by rfl, rfl⟩) hHeld ?_
        try simp only [List.getElem_toArray, List.getElem_cons_zero, List.getElem_cons_succ, Act.put, List.setIfInBounds_toArray, List.set_cons_zero, List.set_cons_succ]
        refine wpAnyH_take (i := 9) (v := undef) rfl (by kernel_rfl) (by kernel_rfl) (by kernel_rfl) (fun _ _ _ h => h) (Or.inr ⟨by rfl, rfl⟩) hHeld ?_
        try simp only [List.getElem_toArray, List.getElem_cons_zero, List.getElem_cons_succ, Act.put, List.setIfInBounds_toArray, List.set_cons_zero, List.set_cons_succ]
        refine wpAnyH_take (i := 10) (v := undef) rfl (by kernel_rfl) (by kernel_rfl) (by kernel_rfl) (fun _ _ _ h => h) (Or.inr ⟨by rfl, rfl⟩) hHeld ?_
        try simp only [List.getElem_toArray, List.getElem_cons_zero, List.getElem_cons_succ, Act.put, List.setIfInBounds_toArray, List.set_cons_zero, List.set_cons_succ]
        refine wpAnyH_take (i := 11) (v := ?_) rfl (by kernel_rfl) (by kernel_rfl) (by kernel_rfl) (fun _ _ _ h => h) (Or.inl ⟨by rfl, ?_⟩) hHeld ?_
        rotate_left
        · intro w hSw
          (try dsimp only at hSw)
          (try simp only [List.getElem_toArray, List.getElem_cons_zero, List.getElem_cons_succ])
          go_simp
          all_goals with_reducible rfl
        try simp only [List.getElem_toArray, List.getElem_cons_zero, List.getElem_cons_succ, Act.put, List.setIfInBounds_toArray, List.set_cons_zero, List.set_cons_succ]
        refine wpAnyH_done (by kernel_rfl) ?_ _
        have HW2 := Lib.hid AB
        clear AB
        go_wp2_with fail
        exact ⟨⟨r + 1, hrn, by go_num, HW2⟩, by simp [intOf]; omega⟩

      · have hk0 := HKA.out (by omega) r hrn
        have hKR := HKR.out r hrn
        obtain ⟨bk, hbk⟩ : ∃ n : Nat, knS kk r = n := ⟨(knS kk r).toNat, by omega⟩
        rw [hbk] at v0 hki
        have hbN : bk < N := by omega
        have hN1 : (0 : Int) < (N : Int) := by omega
        obtain ⟨a, ha⟩ : ∃ a, r % u = a := ⟨_, rfl⟩
        obtain ⟨b, hb⟩ : ∃ b, r / u = b := ⟨_, rfl⟩
        have ha1 : (r : Int) % (u : Int) = (a : Int) := by rw [← ha]; rfl
        have hb1 : (r : Int) / (u : Int) = (b : Int) := by rw [← hb]; rfl
        have hau : a < u := by rw [← ha]; exact Nat.mod_lt _ (by omega)
        have hbv : b < v := by rw [← hb]; exact Nat.div_lt_of_lt_mul (by rw [HUL.out]; exact hrn)
        have hz : ((u : Int) == 0) = false := by simp; omega
        have hzn : ¬(u = 0) := by omega
        have ha2 : (r : Int).tmod (u : Int) = (a : Int) := by rw [Int.tmod_eq_emod_of_nonneg (by omega)]; exact ha1
        have hbw : IntKind.i64.wrap (b : Int) = (b : Int) := wI (by omega) (by omega)
        have huw : IntKind.i64.wrap ((u : Int) - 1) = (u : Int) - 1 := wI (by omega) (by omega)
        by_cases hae : a = u - 1
        · have haeb : ((a : Int) == IntKind.i64.wrap ((u : Int) - 1)) = true := by rw [huw]; simp; omega
          clear hae huw
          go_wp2_with fail
          have hd : Below wr.heap.size wr wr.drew := (Below.refl _ wr).drew
          have AB := HW.out.drew
          replace HGr := Lib.hid (HGr.out.keep hd)
          clear hd
          refine wp_region_held_drew (S := fun wx => wx.cell? ⟨G, 0, none⟩ = some (.int .i64 x) ∧ wx.cell? ⟨G, 1, none⟩ = some (.int .i64 y) ∧ wx.cell? ⟨G, 2, none⟩ = some (.int .i64 p) ∧ wx.cell? ⟨G, 3, none⟩ = some (.int .i64 u) ∧ wx.cell? ⟨G, 4, none⟩ = some (.int .i64 v) ∧ wx.cell? ⟨G, 5, none⟩ = some (.int .i64 s)) (by kernel_rfl) (⟨HGr.out.cell 0 rfl, HGr.out.cell 1 rfl, HGr.out.cell 2 rfl, HGr.out.cell 3 rfl, HGr.out.cell 4 rfl, HGr.out.cell 5 rfl⟩) (fun hHeld => ?_)
          refine wpAnyH_take (i := 0) (v := ?_) rfl (by kernel_rfl) (by kernel_rfl) (by kernel_rfl) (fun _ _ _ h => h) (Or.inl ⟨by rfl, ?_⟩) hHeld ?_
          rotate_left
          · intro w hSw
            (try dsimp only at hSw)
            (try simp only [List.getElem_toArray, List.getElem_cons_zero])
            go_simp
            all_goals with_reducible rfl
          try simp only [List.getElem_toArray, List.getElem_cons_zero, Act.put, List.setIfInBounds_toArray, List.set_cons_zero, List.set_cons_succ]
          refine wpAnyH_take (i := 1) (v := ?_) rfl (by kernel_rfl) (by kernel_rfl) (by kernel_rfl) (fun _ _ _ h => h) (Or.inl ⟨by rfl, ?_⟩) hHeld ?_
          rotate_left
          · intro w hSw
            (try dsimp only at hSw)
            (try simp only [List.getElem_toArray, List.getElem_cons_zero, List.getElem_cons_succ])
            go_simp
            all_goals with_reducible rfl
          try simp only [List.getElem_toArray, List.getElem_cons_zero, List.getElem_cons_succ, Act.put, List.setIfInBounds_toArray, List.set_cons_zero, List.set_cons_succ]
          refine wpAnyH_take (i := 2) (v := ?_) rfl (by kernel_rfl) (by kernel_rfl) (by kernel_rfl) (fun _ _ _ h => h) (Or.inl ⟨by rfl, ?_⟩) hHeld ?_
          rotate_left
          · intro w hSw
            (try dsimp only at hSw)
            (try simp only [List.getElem_toArray, List.getElem_cons_zero, List.getElem_cons_succ])
            go_simp
            all_goals with_reducible rfl
          try simp only [List.getElem_toArray, List.getElem_cons_zero, List.getElem_cons_succ, Act.put, List.setIfInBounds_toArray, List.set_cons_zero, List.set_cons_succ]
          refine wpAnyH_take (i := 3) (v := ?_) rfl (by kernel_rfl) (by kernel_rfl) (by kernel_rfl) (fun _ _ _ h => h) (Or.inl ⟨by rfl, ?_⟩) hHeld ?_
          rotate_left
          · intro w hSw
            (try dsimp only at hSw)
            (try simp only [List.getElem_toArray, List.getElem_cons_zero, List.getElem_cons_succ])
            go_simp
            all_goals with_reducible rfl
          try simp only [List.getElem_toArray, List.getElem_cons_zero, List.getElem_cons_succ, Act.put, List.setIfInBounds_toArray, List.set_cons_zero, List.set_cons_succ]
          refine wpAnyH_take (i := 4) (v := ?_) rfl (by kernel_rfl) (by kernel_rfl) (by kernel_rfl) (fun _ _ _ h => h) (Or.inl ⟨by rfl, ?_⟩) hHeld ?_
          rotate_left
          · intro w hSw
            (try dsimp only at hSw)
            (try simp only [List.getElem_toArray, List.getElem_cons_zero, List.getElem_cons_succ])
            go_simp
            all_goals with_reducible rfl
          try simp only [List.getElem_toArray, List.getElem_cons_zero, List.getElem_cons_succ, Act.put, List.setIfInBounds_toArray, List.set_cons_zero, List.set_cons_succ]
          refine wpAnyH_take (i := 5) (v := ?_) rfl (by kernel_rfl) (by kernel_rfl) (by kernel_rfl) (fun _ _ _ h => h) (Or.inl ⟨by rfl, ?_⟩) hHeld ?_
          rotate_left
          · intro w hSw
            (try dsimp only at hSw)
            (try simp only [List.getElem_toArray, List.getElem_cons_zero, List.getElem_cons_succ])
            go_simp
            all_goals with_reducible rfl
          try simp only [List.getElem_toArray, List.getElem_cons_zero, List.getElem_cons_succ, Act.put, List.setIfInBounds_toArray, List.set_cons_zero, List.set_cons_succ]
          refine wpAnyH_take (i := 6) (v := ?_) rfl (by kernel_rfl) (by kernel_rfl) (by kernel_rfl) (fun _ _ _ h => h) (Or.inl ⟨by rfl, ?_⟩) hHeld ?_
          rotate_left
          · intro w hSw
            (try dsimp only at hSw)
            (try simp only [List.getElem_toArray, List.getElem_cons_zero, List.getElem_cons_succ])
            go_simp
            all_goals with_reducible rfl
          try simp only [List.getElem_toArray, List.getElem_cons_zero, List.getElem_cons_succ, Act.put, List.setIfInBounds_toArray, List.set_cons_zero, List.set_cons_succ]
          refine wpAnyH_take (i := 7) (v := ?_) rfl (by kernel_rfl) (by kernel_rfl) (by kernel_rfl) (fun _ _ _ h => h) (Or.inl ⟨by rfl, ?_⟩) hHeld ?_
          rotate_left
          · intro w hSw
            (try dsimp only at hSw)
            (try simp only [List.getElem_toArray, List.getElem_cons_zero, List.getElem_cons_succ])
            go_simp
            all_goals with_reducible rfl
          try simp only [List.getElem_toArray, List.getElem_cons_zero, List.getElem_cons_succ, Act.put, List.setIfInBounds_toArray, List.set_cons_zero, List.set_cons_succ]
          refine wpAnyH_take (i := 8) (v := ?_) rfl (by kernel_rfl) (by kernel_rfl) (by kernel_rfl) (fun _ _ _ h => h) (Or.inl ⟨by rfl, ?_⟩) hHeld ?_
          rotate_left
          · intro w hSw
            (try dsimp only at hSw)
            (try simp only [List.getElem_toArray, List.getElem_cons_zero, List.getElem_cons_succ])
            go_simp
            all_goals with_reducible rfl
          try simp only [List.getElem_toArray, List.getElem_cons_zero, List.getElem_cons_succ, Act.put, List.setIfInBounds_toArray, List.set_cons_zero, List.set_cons_succ]
          refine wpAnyH_take (i := 9) (v := ?_) rfl (by kernel_rfl) (by kernel_rfl) (by kernel_rfl) (fun _ _ _ h => h) (Or.inl ⟨by rfl, ?_⟩) hHeld ?_
          rotate_left
          · intro w hSw
            (try dsimp only at hSw)
            (try simp only [List.getElem_toArray, List.getElem_cons_zero, List.getElem_cons_succ])
            go_simp
            all_goals with_reducible rfl
          try simp only [List.getElem_toArray, List.getElem_cons_zero, List.getElem_cons_succ, Act.put, List.setIfInBounds_toArray, List.set_cons_zero, List.set_cons_succ]
          refine wpAnyH_take (i := 10) (v := ?_) rfl (by kernel_rfl) (by kernel_rfl) (by kernel_rfl) (fun _ _ _ h => h) (Or.inl ⟨by rfl, ?_⟩) hHeld ?_
          rotate_left
          · intro w hSw
            (try dsimp only at hSw)
            (try simp only [List.getElem_toArray, List.getElem_cons_zero, List.getElem_cons_succ])
            go_simp
            all_goals with_reducible rfl
          try simp only [List.getElem_toArray, List.getElem_cons_zero, List.getElem_cons_succ, Act.put, List.setIfInBounds_toArray, List.set_cons_zero, List.set_cons_succ]
          refine wpAnyH_take (i := 11) (v := ?_) rfl (by kernel_rfl) (by kernel_rfl) (by kernel_rfl) (fun _ _ _ h => h) (Or.inl ⟨by rfl, ?_⟩) hHeld ?_
          rotate_left
          · intro w hSw
            (try dsimp only at hSw)
            (try simp only [List.getElem_toArray, List.getElem_cons_zero, List.getElem_cons_succ])
            go_simp
            all_goals with_reducible rfl
          try simp only [List.getElem_toArray, List.getElem_cons_zero, List.getElem_cons_succ, Act.put, List.setIfInBounds_toArray, List.set_cons_zero, List.set_cons_succ]
          refine wpAnyH_done (by kernel_rfl) ?_ _
          have HW2 := Lib.hid AB
          clear AB
          go_wp2_with fail
          exact ⟨⟨r + 1, hrn, by go_num, HW2⟩, by simp [intOf]; omega⟩

        · have haeb : ((a : Int) == IntKind.i64.wrap ((u : Int) - 1)) = false := by rw [huw]; simp; omega
          clear huw
          go_wp2_with fail
          have hd : Below wr.heap.size wr wr.drew := (Below.refl _ wr).drew
          have AB := HW.out.drew
          replace HGr := Lib.hid (HGr.out.keep hd)
          clear hd
          refine wp_region_held_drew (S := fun wx => wx.cell? ⟨G, 0, none⟩ = some (.int .i64 x) ∧ wx.cell? ⟨G, 1, none⟩ = some (.int .i64 y) ∧ wx.cell? ⟨G, 2, none⟩ = some (.int .i64 p) ∧ wx.cell? ⟨G, 3, none⟩ = some (.int .i64 u) ∧ wx.cell? ⟨G, 4, none⟩ = some (.int .i64 v) ∧ wx.cell? ⟨G, 5, none⟩ = some (.int .i64 s)) (by kernel_rfl) (⟨HGr.out.cell 0 rfl, HGr.out.cell 1 rfl, HGr.out.cell 2 rfl, HGr.out.cell 3 rfl, HGr.out.cell 4 rfl, HGr.out.cell 5 rfl⟩) (fun hHeld => ?_)
          refine wpAnyH_take (i := 0) (v := ?_) rfl (by kernel_rfl) (by kernel_rfl) (by kernel_rfl) (fun _ _ _ h => h) (Or.inl ⟨by rfl, ?_⟩) hHeld ?_
          rotate_left
          · intro w hSw
            (try dsimp only at hSw)
            (try simp only [List.getElem_toArray, List.getElem_cons_zero])
            go_simp
            all_goals with_reducible rfl
          try simp only [List.getElem_toArray, List.getElem_cons_zero, Act.put, List.setIfInBounds_toArray, List.set_cons_zero, List.set_cons_succ]
          refine wpAnyH_take (i := 1) (v := ?_) rfl (by kernel_rfl) (by kernel_rfl) (by kernel_rfl) (fun _ _ _ h => h) (Or.inl ⟨by rfl, ?_⟩) hHeld ?_
          rotate_left
          · intro w hSw
            (try dsimp only at hSw)
            (try simp only [List.getElem_toArray, List.getElem_cons_zero, List.getElem_cons_succ])
            go_simp
            all_goals with_reducible rfl
          try simp only [List.getElem_toArray, List.getElem_cons_zero, List.getElem_cons_succ, Act.put, List.setIfInBounds_toArray, List.set_cons_zero, List.set_cons_succ]
          refine wpAnyH_take (i := 2) (v := ?_) rfl (by kernel_rfl) (by kernel_rfl) (by kernel_rfl) (fun _ _ _ h => h) (Or.inl ⟨by rfl, ?_⟩) hHeld ?_
          rotate_left
          · intro w hSw
            (try dsimp only at hSw)
            (try simp only [List.getElem_toArray, List.getElem_cons_zero, List.getElem_cons_succ])
            go_simp
            all_goals with_reducible rfl
          try simp only [List.getElem_toArray, List.getElem_cons_zero, List.getElem_cons_succ, Act.put, List.setIfInBounds_toArray, List.set_cons_zero, List.set_cons_succ]
          refine wpAnyH_take (i := 3) (v := ?_) rfl (by kernel_rfl) (by kernel_rfl) (by kernel_rfl) (fun _ _ _ h => h) (Or.inl ⟨by rfl, ?_⟩) hHeld ?_
          rotate_left
          · intro w hSw
            (try dsimp only at hSw)
            (try simp only [List.getElem_toArray, List.getElem_cons_zero, List.getElem_cons_succ])
            go_simp
            all_goals with_reducible rfl
          try simp only [List.getElem_toArray, List.getElem_cons_zero, List.getElem_cons_succ, Act.put, List.setIfInBounds_toArray, List.set_cons_zero, List.set_cons_succ]
          refine wpAnyH_take (i := 4) (v := ?_) rfl (by kernel_rfl) (by kernel_rfl) (by kernel_rfl) (fun _ _ _ h => h) (Or.inl ⟨by rfl, ?_⟩) hHeld ?_
          rotate_left
          · intro w hSw
            (try dsimp only at hSw)
            (try simp only [List.getElem_toArray, List.getElem_cons_zero, List.getElem_cons_succ])
            go_simp
            all_goals with_reducible rfl
          try simp only [List.getElem_toArray, List.getElem_cons_zero, List.getElem_cons_succ, Act.put, List.setIfInBounds_toArray, List.set_cons_zero, List.set_cons_succ]
          refine wpAnyH_take (i := 5) (v := ?_) rfl (by kernel_rfl) (by kernel_rfl) (by kernel_rfl) (fun _ _ _ h => h) (Or.inl ⟨by rfl, ?_⟩) hHeld ?_
          rotate_left
          · intro w hSw
            (try dsimp only at hSw)
            (try simp only [List.getElem_toArray, List.getElem_cons_zero, List.getElem_cons_succ])
            go_simp
            all_goals with_reducible rfl
          try simp only [List.getElem_toArray, List.getElem_cons_zero, List.getElem_cons_succ, Act.put, List.setIfInBounds_toArray, List.set_cons_zero, List.set_cons_succ]
          refine wpAnyH_take (i := 6) (v := ?_) rfl (by kernel_rfl) (by kernel_rfl) (by kernel_rfl) (fun _ _ _ h => h) (Or.inl ⟨by rfl, ?_⟩) hHeld ?_
          rotate_left
          · intro w hSw
            (try dsimp only at hSw)
            (try simp only [List.getElem_toArray, List.getElem_cons_zero, List.getElem_cons_succ])
            go_simp
            all_goals with_reducible rfl
          try simp only [List.getElem_toArray, List.getElem_cons_zero, List.getElem_cons_succ, Act.put, List.setIfInBounds_toArray, List.set_cons_zero, List.set_cons_succ]
          refine wpAnyH_take (i := 7) (v := ?_) rfl (by kernel_rfl) (by kernel_rfl) (by kernel_rfl) (fun _ _ _ h => h) (Or.inl ⟨by rfl, ?_⟩) hHeld ?_
          rotate_left
          · intro w hSw
            (try dsimp only at hSw)
            (try simp only [List.getElem_toArray, List.getElem_cons_zero, List.getElem_cons_succ])
            go_simp
            all_goals with_reducible rfl
          try simp only [List.getElem_toArray, List.getElem_cons_zero, List.getElem_cons_succ, Act.put, List.setIfInBounds_toArray, List.set_cons_zero, List.set_cons_succ]
          refine wpAnyH_take (i := 8) (v := ?_) rfl (by kernel_rfl) (by kernel_rfl) (by kernel_rfl) (fun _ _ _ h => h) (Or.inl ⟨by rfl, ?_⟩) hHeld ?_
          rotate_left
          · intro w hSw
            (try dsimp only at hSw)
            (try simp only [List.getElem_toArray, List.getElem_cons_zero, List.getElem_cons_succ])
            go_simp
            all_goals with_reducible rfl
          try simp only [List.getElem_toArray, List.getElem_cons_zero, List.getElem_cons_succ, Act.put, List.setIfInBounds_toArray, List.set_cons_zero, List.set_cons_succ]
          refine wpAnyH_take (i := 9) (v := ?_) rfl (by kernel_rfl) (by kernel_rfl) (by kernel_rfl) (fun _ _ _ h => h) (Or.inl ⟨by rfl, ?_⟩) hHeld ?_
          rotate_left
          · intro w hSw
            (try dsimp only at hSw)
            (try simp only [List.getElem_toArray, List.getElem_cons_zero, List.getElem_cons_succ])
            go_simp
            all_goals with_reducible rfl
          try simp only [List.getElem_toArray, List.getElem_cons_zero, List.getElem_cons_succ, Act.put, List.setIfInBounds_toArray, List.set_cons_zero, List.set_cons_succ]
          refine wpAnyH_take (i := 10) (v := ?_) rfl (by kernel_rfl) (by kernel_rfl) (by kernel_rfl) (fun _ _ _ h => h) (Or.inl ⟨by rfl, ?_⟩) hHeld ?_
          rotate_left
          · intro w hSw
            (try dsimp only at hSw)
            (try simp only [List.getElem_toArray, List.getElem_cons_zero, List.getElem_cons_succ])
            go_simp
            all_goals with_reducible rfl
          try simp only [List.getElem_toArray, List.getElem_cons_zero, List.getElem_cons_succ, Act.put, List.setIfInBounds_toArray, List.set_cons_zero, List.set_cons_succ]
          refine wpAnyH_take (i := 11) (v := ?_) rfl (by kernel_rfl) (by kernel_rfl) (by kernel_rfl) (fun _ _ _ h => h) (Or.inl ⟨by rfl, ?_⟩) hHeld ?_
          rotate_left
          · intro w hSw
            (try dsimp only at hSw)
            (try simp only [List.getElem_toArray, List.getElem_cons_zero, List.getElem_cons_succ])
            go_simp
            all_goals with_reducible rfl
          try simp only [List.getElem_toArray, List.getElem_cons_zero, List.getElem_cons_succ, Act.put, List.setIfInBounds_toArray, List.set_cons_zero, List.set_cons_succ]
          refine wpAnyH_done (by kernel_rfl) ?_ _
          have HW2 := Lib.hid AB
          clear AB
          go_wp2_with fail
          have hr1 : r + 1 < U := by
            have h1 := Nat.div_add_mod r u
            rw [ha, hb] at h1
            have h2 := Nat.mul_le_mul_left u (show b + 1 ≤ v by omega)
            rw [HUL.out, Nat.mul_add] at h2
            omega
          obtain ⟨bj, hbj⟩ : ∃ n : Nat, knS kk (r + 1) = n := ⟨(knS kk (r + 1)).toNat, by have := HKA.out (by omega) (r + 1) hr1; omega⟩
          have hbjN : bj < N := by have := HKI.out (r + 1); omega
          have hNW := hKR (by rw [ha]; exact hae)
          rw [hbk, hbj, show cenS x y p u r = ⟨midG x p a, midG y p b⟩ by unfold cenS midP; rw [ha, hb]] at hNW
          have HC := Lib.hid (fun w => centre_any x y p u v s a b (by omega) (by omega) (by omega) (by omega) (by omega) w)
          have hPM : InP ⟨midG x p a, midG y p b⟩ := mid_in x y p a b (by omega) (by omega) bp (by omega) (by omega)
          obtain ⟨X, hX⟩ : ∃ X, midG x p a = X := ⟨_, rfl⟩
          obtain ⟨Y, hY⟩ : ∃ X, midG y p b = X := ⟨_, rfl⟩
          rw [hX, hY] at HC hPM hNW
          have HPM := Lib.hid hPM
          have HVs := Lib.hid (HVr.out.keep (Below.refl _ wr).drew)
          have HUs := Lib.hid (HUr.out.keep (Below.refl _ wr).drew)
          obtain ⟨Ek, hEk0⟩ : ∃ c, es[bk]? = some c := ⟨_, List.getElem?_eq_getElem (by rw [HN.out]; exact hbN)⟩
          obtain ⟨Ej, hEj0⟩ : ∃ c, es[bj]? = some c := ⟨_, List.getElem?_eq_getElem (by rw [HN.out]; exact hbjN)⟩
          have hIK := HIN.out Ek (List.mem_of_getElem? hEk0)
          have hIJ := HIN.out Ej (List.mem_of_getElem? hEj0)
          have q1 := sq_small Ej ⟨X, Y⟩ hIJ HPM.out
          have q2 := sq_small Ek ⟨X, Y⟩ hIK HPM.out
          have HS1 := Lib.hid (fun w => square_any Ej.a.x Ej.a.y Ej.b.x Ej.b.y X Y ⟨hIJ.1, hIJ.2, HPM.out⟩ w)
          have HS2 := Lib.hid (fun w => square_any Ek.a.x Ek.a.y Ek.b.x Ek.b.y X Y ⟨hIK.1, hIK.2, HPM.out⟩ w)
          change Hid (∀ w, Calls _ _ _ _ fun e w' => e = .returned (.agg #[.int .i64 (sqF Ej ⟨X, Y⟩).1, .int .i64 (sqF Ej ⟨X, Y⟩).2]) ∧ _) at HS1
          change Hid (∀ w, Calls _ _ _ _ fun e w' => e = .returned (.agg #[.int .i64 (sqF Ek ⟨X, Y⟩).1, .int .i64 (sqF Ek ⟨X, Y⟩).2]) ∧ _) at HS2
          have hle : (sqF Ek ⟨X, Y⟩).1 * (sqF Ej ⟨X, Y⟩).2 ≤ (sqF Ej ⟨X, Y⟩).1 * (sqF Ek ⟨X, Y⟩).2 := by
            rcases hNW with h | ⟨_, h⟩
            · omega
            · unfold leF sqK at h
              rw [Int.toNat_natCast, Int.toNat_natCast, show es.getD bk edZ = Ek by rw [List.getD_eq_getElem?_getD, hEk0]; rfl, show es.getD bj edZ = Ej by rw [List.getD_eq_getElem?_getD, hEj0]; rfl] at h
              exact h
          generalize (sqF Ej ⟨X, Y⟩).1 = n1 at *
          generalize (sqF Ej ⟨X, Y⟩).2 = d1 at *
          generalize (sqF Ek ⟨X, Y⟩).1 = n2 at *
          generalize (sqF Ek ⟨X, Y⟩).2 = d2 at *
          have HCM := Lib.hid (fun w => rcompare_int n1 d1 n2 d2 (by omega) (by omega) (by omega) (by omega) w)
          obtain ⟨cm, hcm⟩ : ∃ cm, cmpI (n1 * d2) (n2 * d1) = cm := ⟨_, rfl⟩
          have hcm0 : decide (cm < 0) = false := by
            rw [← hcm]; unfold cmpI
            rw [if_neg (by omega)]
            split <;> simp
          rw [hcm] at HCM
          clear hle q1 q2 hcm hIK hIJ hNW hPM hX hY hKR ha hb v0 g0 g1 g2 g3 g4 g5 gl hav
          generalize wr.drew = w6 at *
          go_cut [10] (fun sp wx => ∃ P : Nat, sp = .pointer (some ⟨P, 0, none⟩) ∧ Hid (Blk wx P 41 [.int .i64 X, .int .i64 Y]) ∧ Hid (Below w6.heap.size w6 wx))
          case first =>
            have AB : Below w6.heap.size w6 w6.drew := (Below.refl _ w6).drew
            replace HGr := Lib.hid (HGr.out.keep AB)
            refine wp_region_held_drew (S := fun wx => wx.cell? ⟨G, 0, none⟩ = some (.int .i64 x) ∧ wx.cell? ⟨G, 1, none⟩ = some (.int .i64 y) ∧ wx.cell? ⟨G, 2, none⟩ = some (.int .i64 p) ∧ wx.cell? ⟨G, 3, none⟩ = some (.int .i64 u) ∧ wx.cell? ⟨G, 4, none⟩ = some (.int .i64 v) ∧ wx.cell? ⟨G, 5, none⟩ = some (.int .i64 s)) (by kernel_rfl) (⟨HGr.out.cell 0 rfl, HGr.out.cell 1 rfl, HGr.out.cell 2 rfl, HGr.out.cell 3 rfl, HGr.out.cell 4 rfl, HGr.out.cell 5 rfl⟩) (fun hHeld => ?_)
            generalize w6.drew = w2d at *
            refine wpAnyH_take (i := 0) (v := ?_) rfl (by kernel_rfl) (by kernel_rfl) (by kernel_rfl) (fun _ _ _ h => h) (Or.inl ⟨by rfl, ?_⟩) hHeld ?_
            rotate_left
            · intro w hSw
              (try dsimp only at hSw)
              (try simp only [List.getElem_toArray, List.getElem_cons_zero])
              go_simp
              all_goals with_reducible rfl
            try simp only [List.getElem_toArray, List.getElem_cons_zero, Act.put, List.setIfInBounds_toArray, List.set_cons_zero, List.set_cons_succ]
            refine wpAnyH_take (i := 1) (v := ?_) rfl (by kernel_rfl) (by kernel_rfl) (by kernel_rfl) (fun _ _ _ h => h) (Or.inl ⟨by rfl, ?_⟩) hHeld ?_
            rotate_left
            · intro w hSw
              (try dsimp only at hSw)
              (try simp only [List.getElem_toArray, List.getElem_cons_zero, List.getElem_cons_succ])
              go_simp
              all_goals with_reducible rfl
            try simp only [List.getElem_toArray, List.getElem_cons_zero, List.getElem_cons_succ, Act.put, List.setIfInBounds_toArray, List.set_cons_zero, List.set_cons_succ]
            refine wpAnyH_take (i := 2) (v := ?_) rfl (by kernel_rfl) (by kernel_rfl) (by kernel_rfl) (fun _ _ _ h => h) (Or.inl ⟨by rfl, ?_⟩) hHeld ?_
            rotate_left
            · intro w hSw
              (try dsimp only at hSw)
              (try simp only [List.getElem_toArray, List.getElem_cons_zero, List.getElem_cons_succ])
              go_simp
              all_goals with_reducible rfl
            try simp only [List.getElem_toArray, List.getElem_cons_zero, List.getElem_cons_succ, Act.put, List.setIfInBounds_toArray, List.set_cons_zero, List.set_cons_succ]
            refine wpAnyH_take (i := 3) (v := ?_) rfl (by kernel_rfl) (by kernel_rfl) (by kernel_rfl) (fun _ _ _ h => h) (Or.inl ⟨by rfl, ?_⟩) hHeld ?_
            rotate_left
            · intro w hSw
              (try dsimp only at hSw)
              (try simp only [List.getElem_toArray, List.getElem_cons_zero, List.getElem_cons_succ])
              go_simp
              all_goals with_reducible rfl
            try simp only [List.getElem_toArray, List.getElem_cons_zero, List.getElem_cons_succ, Act.put, List.setIfInBounds_toArray, List.set_cons_zero, List.set_cons_succ]
            refine wpAnyH_take (i := 4) (v := ?_) rfl (by kernel_rfl) (by kernel_rfl) (by kernel_rfl) (fun _ _ _ h => h) (Or.inl ⟨by rfl, ?_⟩) hHeld ?_
            rotate_left
            · intro w hSw
              (try dsimp only at hSw)
              (try simp only [List.getElem_toArray, List.getElem_cons_zero, List.getElem_cons_succ])
              go_simp
              all_goals with_reducible rfl
            try simp only [List.getElem_toArray, List.getElem_cons_zero, List.getElem_cons_succ, Act.put, List.setIfInBounds_toArray, List.set_cons_zero, List.set_cons_succ]
            refine wpAnyH_take (i := 5) (v := ?_) rfl (by kernel_rfl) (by kernel_rfl) (by kernel_rfl) (fun _ _ _ h => h) (Or.inl ⟨by rfl, ?_⟩) hHeld ?_
            rotate_left
            · intro w hSw
              (try dsimp only at hSw)
              (try simp only [List.getElem_toArray, List.getElem_cons_zero, List.getElem_cons_succ])
              go_simp
              all_goals with_reducible rfl
            try simp only [List.getElem_toArray, List.getElem_cons_zero, List.getElem_cons_succ, Act.put, List.setIfInBounds_toArray, List.set_cons_zero, List.set_cons_succ]
            refine wpAnyH_take (i := 6) (v := ?_) rfl (by kernel_rfl) (by kernel_rfl) (by kernel_rfl) (fun _ _ _ h => h) (Or.inl ⟨by rfl, ?_⟩) hHeld ?_
            rotate_left
            · intro w hSw
              (try dsimp only at hSw)
              (try simp only [List.getElem_toArray, List.getElem_cons_zero, List.getElem_cons_succ])
              go_simp
              all_goals with_reducible rfl
            try simp only [List.getElem_toArray, List.getElem_cons_zero, List.getElem_cons_succ, Act.put, List.setIfInBounds_toArray, List.set_cons_zero, List.set_cons_succ]
            refine wpAnyH_take (i := 7) (v := ?_) rfl (by kernel_rfl) (by kernel_rfl) (by kernel_rfl) (fun _ _ _ h => h) (Or.inl ⟨by rfl, ?_⟩) hHeld ?_
            rotate_left
            · intro w hSw
              (try dsimp only at hSw)
              (try simp only [List.getElem_toArray, List.getElem_cons_zero, List.getElem_cons_succ])
              go_simp
              all_goals with_reducible rfl
            try simp only [List.getElem_toArray, List.getElem_cons_zero, List.getElem_cons_succ, Act.put, List.setIfInBounds_toArray, List.set_cons_zero, List.set_cons_succ]
            refine wpAnyH_take (i := 8) (v := ?_) rfl (by kernel_rfl) (by kernel_rfl) (by kernel_rfl) (fun _ _ _ h => h) (Or.inl ⟨by rfl, ?_⟩) hHeld ?_
            rotate_left
            · intro w hSw
              (try dsimp only at hSw)
              (try simp only [List.getElem_toArray, List.getElem_cons_zero, List.getElem_cons_succ])
              go_simp
              all_goals with_reducible rfl
            try simp only [List.getElem_toArray, List.getElem_cons_zero, List.getElem_cons_succ, Act.put, List.setIfInBounds_toArray, List.set_cons_zero, List.set_cons_succ]
            refine wpAnyH_ready (rs := [9, 10]) (by kernel_rfl) (by simp) ?_
            refine AllReadyH.cons rfl (fun K hK => ?_) (AllReadyH.cons rfl (fun K hK => ?_) AllReadyH.nil)
            · try simp only [List.getElem_toArray, List.getElem_cons_zero, List.getElem_cons_succ]
              go_simp
              refine (HC.out _).mono ?_
              rintro e wn ⟨rfl, hbn⟩
              have AB := AB.trans (hbn.mono (AB.size))
              replace HGr := Lib.hid (HGr.out.keep hbn)
              try replace HPB := Lib.hid (HPB.out.keep hbn)
              clear hbn
              go_wp2_with fail
              refine hK.out _ _ (⟨HGr.out.cell 0 rfl, HGr.out.cell 1 rfl, HGr.out.cell 2 rfl, HGr.out.cell 3 rfl, HGr.out.cell 4 rfl, HGr.out.cell 5 rfl⟩) (fun hHeld => ?_)
              clear hK K
              try simp only [List.getElem_toArray, List.getElem_cons_zero, List.getElem_cons_succ, Act.put, List.setIfInBounds_toArray, List.set_cons_zero, List.set_cons_succ]
              refine wpAnyH_ready (rs := [10]) (by kernel_rfl) (by simp) ?_
              refine AllReadyH.cons rfl (fun K hK => ?_) AllReadyH.nil
              try simp only [List.getElem_toArray, List.getElem_cons_zero, List.getElem_cons_succ]
              go_simp
              obtain ⟨P, hP, hP1, hBn, hAn, hKn⟩ := snew_ex AB (Nat.le_refl _) 41 [.int .i64 0, .int .i64 0]
              have hP2 : G < P := by rw [← hP]; exact HGr.out.lt
              try simp only [World.size_alloc] at hP
              rw [hP]
              have HPB := Lib.hid hBn
              replace HGr := Lib.hid (HGr.out.keep hKn)
              have AB := hAn
              clear hBn hAn hKn hP
              refine hK.out _ _ (⟨HGr.out.cell 0 rfl, HGr.out.cell 1 rfl, HGr.out.cell 2 rfl, HGr.out.cell 3 rfl, HGr.out.cell 4 rfl, HGr.out.cell 5 rfl⟩) (fun hHeld => ?_)
              clear hK K
              try simp only [List.getElem_toArray, List.getElem_cons_zero, List.getElem_cons_succ, Act.put, List.setIfInBounds_toArray, List.set_cons_zero, List.set_cons_succ]
              refine wpAnyH_ready (rs := [11]) (by kernel_rfl) (by simp) ?_
              refine AllReadyH.cons rfl (fun K hK => ?_) AllReadyH.nil
              try simp only [List.getElem_toArray, List.getElem_cons_zero, List.getElem_cons_succ]
              have x0 := HPB.out.cell 0 rfl
              have x1 := HPB.out.cell 1 rfl
              have xf := HPB.out.frozen
              have xl := HPB.out.lt
              go_simp
              replace HPB : Hid (Blk _ P 41 [.int .i64 X, .int .i64 Y]) := Lib.hid (sput2 HPB.out)
              replace HGr := Lib.hid (soth2 (g := P) (x := .int .i64 X) (y := .int .i64 Y) HGr.out (by omega))
              have AB := sbelow2 (g := P) (x := .int .i64 X) (y := .int .i64 Y) AB hP1
              clear x0 x1 xf xl
              refine hK.out _ _ (⟨HGr.out.cell 0 rfl, HGr.out.cell 1 rfl, HGr.out.cell 2 rfl, HGr.out.cell 3 rfl, HGr.out.cell 4 rfl, HGr.out.cell 5 rfl⟩) (fun hHeld => ?_)
              clear hK K
              try simp only [List.getElem_toArray, List.getElem_cons_zero, List.getElem_cons_succ, Act.put, List.setIfInBounds_toArray, List.set_cons_zero, List.set_cons_succ]
              refine wpAnyH_done (by kernel_rfl) ?_ _
              go_wp2_with fail
              go_meet
              exact ⟨P, rfl, HPB, Lib.hid AB⟩
            · try simp only [List.getElem_toArray, List.getElem_cons_zero, List.getElem_cons_succ]
              go_simp
              obtain ⟨P, hP, hP1, hBn, hAn, hKn⟩ := snew_ex AB (Nat.le_refl _) 41 [.int .i64 0, .int .i64 0]
              have hP2 : G < P := by rw [← hP]; exact HGr.out.lt
              try simp only [World.size_alloc] at hP
              rw [hP]
              have HPB := Lib.hid hBn
              replace HGr := Lib.hid (HGr.out.keep hKn)
              have AB := hAn
              clear hBn hAn hKn hP
              refine hK.out _ _ (⟨HGr.out.cell 0 rfl, HGr.out.cell 1 rfl, HGr.out.cell 2 rfl, HGr.out.cell 3 rfl, HGr.out.cell 4 rfl, HGr.out.cell 5 rfl⟩) (fun hHeld => ?_)
              clear hK K
              try simp only [List.getElem_toArray, List.getElem_cons_zero, List.getElem_cons_succ, Act.put, List.setIfInBounds_toArray, List.set_cons_zero, List.set_cons_succ]
              refine wpAnyH_ready (rs := [9]) (by kernel_rfl) (by simp) ?_
              refine AllReadyH.cons rfl (fun K hK => ?_) AllReadyH.nil
              try simp only [List.getElem_toArray, List.getElem_cons_zero, List.getElem_cons_succ]
              go_simp
              refine (HC.out _).mono ?_
              rintro e wn ⟨rfl, hbn⟩
              have AB := AB.trans (hbn.mono (AB.size))
              replace HGr := Lib.hid (HGr.out.keep hbn)
              try replace HPB := Lib.hid (HPB.out.keep hbn)
              clear hbn
              go_wp2_with fail
              refine hK.out _ _ (⟨HGr.out.cell 0 rfl, HGr.out.cell 1 rfl, HGr.out.cell 2 rfl, HGr.out.cell 3 rfl, HGr.out.cell 4 rfl, HGr.out.cell 5 rfl⟩) (fun hHeld => ?_)
              clear hK K
              try simp only [List.getElem_toArray, List.getElem_cons_zero, List.getElem_cons_succ, Act.put, List.setIfInBounds_toArray, List.set_cons_zero, List.set_cons_succ]
              refine wpAnyH_ready (rs := [11]) (by kernel_rfl) (by simp) ?_
              refine AllReadyH.cons rfl (fun K hK => ?_) AllReadyH.nil
              try simp only [List.getElem_toArray, List.getElem_cons_zero, List.getElem_cons_succ]
              have x0 := HPB.out.cell 0 rfl
              have x1 := HPB.out.cell 1 rfl
              have xf := HPB.out.frozen
              have xl := HPB.out.lt
              go_simp
              replace HPB : Hid (Blk _ P 41 [.int .i64 X, .int .i64 Y]) := Lib.hid (sput2 HPB.out)
              replace HGr := Lib.hid (soth2 (g := P) (x := .int .i64 X) (y := .int .i64 Y) HGr.out (by omega))
              have AB := sbelow2 (g := P) (x := .int .i64 X) (y := .int .i64 Y) AB hP1
              clear x0 x1 xf xl
              refine hK.out _ _ (⟨HGr.out.cell 0 rfl, HGr.out.cell 1 rfl, HGr.out.cell 2 rfl, HGr.out.cell 3 rfl, HGr.out.cell 4 rfl, HGr.out.cell 5 rfl⟩) (fun hHeld => ?_)
              clear hK K
              try simp only [List.getElem_toArray, List.getElem_cons_zero, List.getElem_cons_succ, Act.put, List.setIfInBounds_toArray, List.set_cons_zero, List.set_cons_succ]
              refine wpAnyH_done (by kernel_rfl) ?_ _
              go_wp2_with fail
              go_meet
              exact ⟨P, rfl, HPB, Lib.hid AB⟩
          case rest =>
            obtain ⟨P, rfl, HPB, HPW⟩ := hcut
            have HV8 := Lib.hid (HVs.out.keep HPW.out)
            have HU8 := Lib.hid (HUs.out.keep HPW.out)
            have HW8 := Lib.hid (below2 HW2.out HPW.out)
            obtain ⟨ae, e, hal, hEk⟩ := HU8.out.at bk Ek hEk0
            cases e
            obtain ⟨_, e, _, hEj⟩ := HU8.out.at bj Ej hEj0
            cases e
            obtain ⟨_, e, hav, v0⟩ := HV8.out.at r (by rw [HLE.out]; exact hrn)
            cases e
            obtain ⟨_, e, _, v1⟩ := HV8.out.at (r + 1) (by rw [HLE.out]; exact hr1)
            cases e
            rw [hbk] at v0
            rw [hbj] at v1
            obtain ⟨r1, hr1e⟩ : ∃ r1, r + 1 = r1 := ⟨_, rfl⟩
            have hrw : IntKind.i64.wrap ((r : Int) + 1) = (r1 : Int) := by rw [← hr1e]; exact wI (by omega) (by omega)
            rw [hr1e] at v1 hr1
            have hr1b : decide ((r1 : Int) < U) = true := by simp; omega
            have HR1 := Lib.hid hr1e
            clear hr1e
            clear hbk hbj hEk0 hEj0 HC ha1 hb1 hz ha2 hbw haeb HPW
            go_wp2_with fail
            have hd : Below wc.heap.size wc wc.drew := (Below.refl _ wc).drew
            have AB := HW8.out.drew
            replace HPB := Lib.hid (HPB.out.keep hd)
            have HJx : Hid (EAtS wc.drew ae bj Ej.a.x Ej.a.y Ej.b.x Ej.b.y) := Lib.hid hEj
            have HKx : Hid (EAtS wc.drew ae bk Ek.a.x Ek.a.y Ek.b.x Ek.b.y) := Lib.hid hEk
            have HAl : Hid (ae.block < wc.drew.heap.size) := Lib.hid hal
            have HV1 : Hid (wc.drew.cell? (av.add r1) = some (.int .i64 (bj : Nat)) ∧ av.block < wc.drew.heap.size) := Lib.hid ⟨v1, hav⟩
            clear hEj hEk hal hd v0 v1 hav HW8
            refine wp_region_held_drew (S := fun wx => wx.cell? (av.add r1) = some (.int .i64 (bj : Nat)) ∧ wx.cell? ⟨P, 0, none⟩ = some (.int .i64 X) ∧ wx.cell? ⟨P, 1, none⟩ = some (.int .i64 Y) ∧ wx.cell? (ae.add (bj * 4)) = some (.int .i64 Ej.a.x) ∧ wx.cell? ⟨(ae.add (bj * 4)).block, (ae.add (bj * 4)).off + 1, none⟩ = some (.int .i64 Ej.a.y) ∧ wx.cell? ⟨(ae.add (bj * 4)).block, (ae.add (bj * 4)).off + 2, none⟩ = some (.int .i64 Ej.b.x) ∧ wx.cell? ⟨(ae.add (bj * 4)).block, (ae.add (bj * 4)).off + 3, none⟩ = some (.int .i64 Ej.b.y) ∧ wx.cell? (ae.add (bk * 4)) = some (.int .i64 Ek.a.x) ∧ wx.cell? ⟨(ae.add (bk * 4)).block, (ae.add (bk * 4)).off + 1, none⟩ = some (.int .i64 Ek.a.y) ∧ wx.cell? ⟨(ae.add (bk * 4)).block, (ae.add (bk * 4)).off + 2, none⟩ = some (.int .i64 Ek.b.x) ∧ wx.cell? ⟨(ae.add (bk * 4)).block, (ae.add (bk * 4)).off + 3, none⟩ = some (.int .i64 Ek.b.y)) (by kernel_rfl) (⟨HV1.out.1, HPB.out.cell 0 rfl, HPB.out.cell 1 rfl, HJx.out.1, HJx.out.2.1, HJx.out.2.2.1, HJx.out.2.2.2, HKx.out⟩) (fun hHeld => ?_)
            refine wpAnyH_take (i := 0) (v := ?_) rfl (by kernel_rfl) (by kernel_rfl) (by kernel_rfl) (fun _ _ _ h => h) (Or.inl ⟨by rfl, ?_⟩) hHeld ?_
            rotate_left
            · intro w hSw
              (try dsimp only at hSw)
              (try simp only [List.getElem_toArray, List.getElem_cons_zero])
              go_simp
              all_goals with_reducible rfl
            try simp only [List.getElem_toArray, List.getElem_cons_zero, Act.put, List.setIfInBounds_toArray, List.set_cons_zero, List.set_cons_succ]
            refine wpAnyH_take (i := 1) (v := ?_) rfl (by kernel_rfl) (by kernel_rfl) (by kernel_rfl) (fun _ _ _ h => h) (Or.inl ⟨by rfl, ?_⟩) hHeld ?_
            rotate_left
            · intro w hSw
              (try dsimp only at hSw)
              (try simp only [List.getElem_toArray, List.getElem_cons_zero, List.getElem_cons_succ])
              go_simp
              all_goals with_reducible rfl
            try simp only [List.getElem_toArray, List.getElem_cons_zero, List.getElem_cons_succ, Act.put, List.setIfInBounds_toArray, List.set_cons_zero, List.set_cons_succ]
            refine wpAnyH_take (i := 2) (v := ?_) rfl (by kernel_rfl) (by kernel_rfl) (by kernel_rfl) (fun _ _ _ h => h) (Or.inl ⟨by rfl, ?_⟩) hHeld ?_
            rotate_left
            · intro w hSw
              (try dsimp only at hSw)
              (try simp only [List.getElem_toArray, List.getElem_cons_zero, List.getElem_cons_succ])
              go_simp
              all_goals with_reducible rfl
            try simp only [List.getElem_toArray, List.getElem_cons_zero, List.getElem_cons_succ, Act.put, List.setIfInBounds_toArray, List.set_cons_zero, List.set_cons_succ]
            refine wpAnyH_take (i := 3) (v := ?_) rfl (by kernel_rfl) (by kernel_rfl) (by kernel_rfl) (fun _ _ _ h => h) (Or.inl ⟨by rfl, ?_⟩) hHeld ?_
            rotate_left
            · intro w hSw
              (try dsimp only at hSw)
              (try simp only [List.getElem_toArray, List.getElem_cons_zero, List.getElem_cons_succ])
              go_simp
              all_goals with_reducible rfl
            try simp only [List.getElem_toArray, List.getElem_cons_zero, List.getElem_cons_succ, Act.put, List.setIfInBounds_toArray, List.set_cons_zero, List.set_cons_succ]
            refine wpAnyH_take (i := 4) (v := ?_) rfl (by kernel_rfl) (by kernel_rfl) (by kernel_rfl) (fun _ _ _ h => h) (Or.inl ⟨by rfl, ?_⟩) hHeld ?_
            rotate_left
            · intro w hSw
              (try dsimp only at hSw)
              (try simp only [List.getElem_toArray, List.getElem_cons_zero, List.getElem_cons_succ])
              go_simp
              all_goals with_reducible rfl
            try simp only [List.getElem_toArray, List.getElem_cons_zero, List.getElem_cons_succ, Act.put, List.setIfInBounds_toArray, List.set_cons_zero, List.set_cons_succ]
            refine wpAnyH_take (i := 5) (v := ?_) rfl (by kernel_rfl) (by kernel_rfl) (by kernel_rfl) (fun _ _ _ h => h) (Or.inl ⟨by rfl, ?_⟩) hHeld ?_
            rotate_left
            · intro w hSw
              (try dsimp only at hSw)
              (try simp only [List.getElem_toArray, List.getElem_cons_zero, List.getElem_cons_succ])
              go_simp
              all_goals with_reducible rfl
            try simp only [List.getElem_toArray, List.getElem_cons_zero, List.getElem_cons_succ, Act.put, List.setIfInBounds_toArray, List.set_cons_zero, List.set_cons_succ]
            refine wpAnyH_take (i := 6) (v := ?_) rfl (by kernel_rfl) (by kernel_rfl) (by kernel_rfl) (fun _ _ _ h => h) (Or.inl ⟨by rfl, ?_⟩) hHeld ?_
            rotate_left
            · intro w hSw
              (try dsimp only at hSw)
              (try simp only [List.getElem_toArray, List.getElem_cons_zero, List.getElem_cons_succ])
              go_simp
              all_goals with_reducible rfl
            try simp only [List.getElem_toArray, List.getElem_cons_zero, List.getElem_cons_succ, Act.put, List.setIfInBounds_toArray, List.set_cons_zero, List.set_cons_succ]
            refine wpAnyH_take (i := 7) (v := ?_) rfl (by kernel_rfl) (by kernel_rfl) (by kernel_rfl) (fun _ _ _ h => h) (Or.inl ⟨by rfl, ?_⟩) hHeld ?_
            rotate_left
            · intro w hSw
              (try dsimp only at hSw)
              (try simp only [List.getElem_toArray, List.getElem_cons_zero, List.getElem_cons_succ])
              go_simp
              all_goals with_reducible rfl
            try simp only [List.getElem_toArray, List.getElem_cons_zero, List.getElem_cons_succ, Act.put, List.setIfInBounds_toArray, List.set_cons_zero, List.set_cons_succ]
            refine wpAnyH_take (i := 8) (v := ?_) rfl (by kernel_rfl) (by kernel_rfl) (by kernel_rfl) (fun _ _ _ h => h) (Or.inl ⟨by rfl, ?_⟩) hHeld ?_
            rotate_left
            · intro w hSw
              (try dsimp only at hSw)
              (try simp only [List.getElem_toArray, List.getElem_cons_zero, List.getElem_cons_succ])
              go_simp
              all_goals with_reducible rfl
            try simp only [List.getElem_toArray, List.getElem_cons_zero, List.getElem_cons_succ, Act.put, List.setIfInBounds_toArray, List.set_cons_zero, List.set_cons_succ]
            refine wpAnyH_take (i := 10) (v := ?_) rfl (by kernel_rfl) (by kernel_rfl) (by kernel_rfl) (fun _ _ _ h => h) (Or.inl ⟨by rfl, ?_⟩) hHeld ?_
            rotate_left
            · intro w hSw
              (try dsimp only at hSw)
              (try simp only [List.getElem_toArray, List.getElem_cons_zero, List.getElem_cons_succ])
              go_simp
              all_goals with_reducible rfl
            try simp only [List.getElem_toArray, List.getElem_cons_zero, List.getElem_cons_succ, Act.put, List.setIfInBounds_toArray, List.set_cons_zero, List.set_cons_succ]
            refine wpAnyH_take (i := 11) (v := ?_) rfl (by kernel_rfl) (by kernel_rfl) (by kernel_rfl) (fun _ _ _ h => h) (Or.inl ⟨by rfl, ?_⟩) hHeld ?_
            rotate_left
            · intro w hSw
              (try dsimp only at hSw)
              (try simp only [List.getElem_toArray, List.getElem_cons_zero, List.getElem_cons_succ])
              go_simp
              all_goals with_reducible rfl
            try simp only [List.getElem_toArray, List.getElem_cons_zero, List.getElem_cons_succ, Act.put, List.setIfInBounds_toArray, List.set_cons_zero, List.set_cons_succ]
            refine wpAnyH_take (i := 12) (v := ?_) rfl (by kernel_rfl) (by kernel_rfl) (by kernel_rfl) (fun _ _ _ h => h) (Or.inl ⟨by rfl, ?_⟩) hHeld ?_
            rotate_left
            · intro w hSw
              (try dsimp only at hSw)
              (try simp only [List.getElem_toArray, List.getElem_cons_zero, List.getElem_cons_succ])
              go_simp
              all_goals with_reducible rfl
            try simp only [List.getElem_toArray, List.getElem_cons_zero, List.getElem_cons_succ, Act.put, List.setIfInBounds_toArray, List.set_cons_zero, List.set_cons_succ]
            refine wpAnyH_take (i := 13) (v := ?_) rfl (by kernel_rfl) (by kernel_rfl) (by kernel_rfl) (fun _ _ _ h => h) (Or.inl ⟨by rfl, ?_⟩) hHeld ?_
            rotate_left
            · intro w hSw
              (try dsimp only at hSw)
              (try simp only [List.getElem_toArray, List.getElem_cons_zero, List.getElem_cons_succ])
              go_simp
              all_goals with_reducible rfl
            try simp only [List.getElem_toArray, List.getElem_cons_zero, List.getElem_cons_succ, Act.put, List.setIfInBounds_toArray, List.set_cons_zero, List.set_cons_succ]
            refine wpAnyH_take (i := 14) (v := ?_) rfl (by kernel_rfl) (by kernel_rfl) (by kernel_rfl) (fun _ _ _ h => h) (Or.inl ⟨by rfl, ?_⟩) hHeld ?_
            rotate_left
            · intro w hSw
              (try dsimp only at hSw)
              (try simp only [List.getElem_toArray, List.getElem_cons_zero, List.getElem_cons_succ])
              go_simp
              all_goals with_reducible rfl
            try simp only [List.getElem_toArray, List.getElem_cons_zero, List.getElem_cons_succ, Act.put, List.setIfInBounds_toArray, List.set_cons_zero, List.set_cons_succ]
            refine wpAnyH_ready (rs := [9]) (by kernel_rfl) (by simp) ?_
            refine AllReadyH.cons rfl (fun K hK => ?_) AllReadyH.nil
            try simp only [List.getElem_toArray, List.getElem_cons_zero, List.getElem_cons_succ]
            go_simp
            refine (HS1.out _).mono ?_
            rintro e wn ⟨rfl, hbn⟩
            have AB := AB.trans (hbn.mono (AB.size))
            replace HPB := Lib.hid (HPB.out.keep hbn)
            replace HJx := Lib.hid (eats_keep HJx.out HAl.out hbn)
            replace HKx := Lib.hid (eats_keep HKx.out HAl.out hbn)
            replace HAl := Lib.hid (Nat.lt_of_lt_of_le HAl.out hbn.size)
            replace HV1 := Lib.hid (And.intro (Go.Proofs.Yteiildeaccngjaa.keep hbn HV1.out.1) (Nat.lt_of_lt_of_le HV1.out.2 hbn.size))
            clear hbn
            go_wp2_with fail
            refine hK.out _ _ (⟨HV1.out.1, HPB.out.cell 0 rfl, HPB.out.cell 1 rfl, HJx.out.1, HJx.out.2.1, HJx.out.2.2.1, HJx.out.2.2.2, HKx.out⟩) (fun hHeld => ?_)
            clear hK K
            try simp only [List.getElem_toArray, List.getElem_cons_zero, List.getElem_cons_succ, Act.put, List.setIfInBounds_toArray, List.set_cons_zero, List.set_cons_succ]
            refine wpAnyH_ready (rs := [15]) (by kernel_rfl) (by simp) ?_
            refine AllReadyH.cons rfl (fun K hK => ?_) AllReadyH.nil
            try simp only [List.getElem_toArray, List.getElem_cons_zero, List.getElem_cons_succ]
            go_simp
            refine (HS2.out _).mono ?_
            rintro e wn ⟨rfl, hbn⟩
            have AB := AB.trans (hbn.mono (AB.size))
            replace HPB := Lib.hid (HPB.out.keep hbn)
            replace HJx := Lib.hid (eats_keep HJx.out HAl.out hbn)
            replace HKx := Lib.hid (eats_keep HKx.out HAl.out hbn)
            replace HAl := Lib.hid (Nat.lt_of_lt_of_le HAl.out hbn.size)
            replace HV1 := Lib.hid (And.intro (Go.Proofs.Yteiildeaccngjaa.keep hbn HV1.out.1) (Nat.lt_of_lt_of_le HV1.out.2 hbn.size))
            clear hbn
            go_wp2_with fail
            refine hK.out _ _ (⟨HV1.out.1, HPB.out.cell 0 rfl, HPB.out.cell 1 rfl, HJx.out.1, HJx.out.2.1, HJx.out.2.2.1, HJx.out.2.2.2, HKx.out⟩) (fun hHeld => ?_)
            clear hK K
            try simp only [List.getElem_toArray, List.getElem_cons_zero, List.getElem_cons_succ, Act.put, List.setIfInBounds_toArray, List.set_cons_zero, List.set_cons_succ]
            refine wpAnyH_ready (rs := [16]) (by kernel_rfl) (by simp) ?_
            refine AllReadyH.cons rfl (fun K hK => ?_) AllReadyH.nil
            try simp only [List.getElem_toArray, List.getElem_cons_zero, List.getElem_cons_succ]
            go_simp
            refine (HCM.out _).mono ?_
            rintro e wn ⟨rfl, hbn⟩
            have AB := AB.trans (hbn.mono (AB.size))
            replace HPB := Lib.hid (HPB.out.keep hbn)
            replace HJx := Lib.hid (eats_keep HJx.out HAl.out hbn)
            replace HKx := Lib.hid (eats_keep HKx.out HAl.out hbn)
            replace HAl := Lib.hid (Nat.lt_of_lt_of_le HAl.out hbn.size)
            replace HV1 := Lib.hid (And.intro (Go.Proofs.Yteiildeaccngjaa.keep hbn HV1.out.1) (Nat.lt_of_lt_of_le HV1.out.2 hbn.size))
            clear hbn
            go_wp2_with fail
            refine hK.out _ _ (⟨HV1.out.1, HPB.out.cell 0 rfl, HPB.out.cell 1 rfl, HJx.out.1, HJx.out.2.1, HJx.out.2.2.1, HJx.out.2.2.2, HKx.out⟩) (fun hHeld => ?_)
            clear hK K
            try simp only [List.getElem_toArray, List.getElem_cons_zero, List.getElem_cons_succ, Act.put, List.setIfInBounds_toArray, List.set_cons_zero, List.set_cons_succ]
            refine wpAnyH_take (i := 17) (v := ?_) rfl (by kernel_rfl) (by kernel_rfl) (by kernel_rfl) (fun _ _ _ h => h) (Or.inl ⟨by rfl, ?_⟩) hHeld ?_
            rotate_left
            · intro w hSw
              (try dsimp only at hSw)
              (try simp only [List.getElem_toArray, List.getElem_cons_zero, List.getElem_cons_succ])
              go_simp
              all_goals with_reducible rfl
            try simp only [List.getElem_toArray, List.getElem_cons_zero, List.getElem_cons_succ, Act.put, List.setIfInBounds_toArray, List.set_cons_zero, List.set_cons_succ]
            refine wpAnyH_done (by kernel_rfl) ?_ _
            have HWz := Lib.hid AB
            clear AB HPB HJx HKx HAl HV1 HS1 HS2 HCM
            go_wp2_with fail
            exact ⟨⟨r1, by omega, rfl, HWz⟩, by have := HR1.out; simp [intOf]; omega⟩


    · obtain rfl : r = U := by omega
      go_wp2_with fail
      go_ret
      exact ⟨rfl, below2 HB5.out HW.out⟩

end Go.Proofs.Yteiildeaccngjaa
