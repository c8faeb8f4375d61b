/-
  The walk of punchcutlaw13.SweepMake, over what the program is to do (no claim is made here).
-/
import Derived.Test.YteiildeaccngjaaSwp4
import Derived.Test.YteiildeaccngjaaMgrd
import Derived.Test.YteiildeaccngjaaSwp2
import Derived.Test.YteiildeaccngjaaMsdq
namespace Go.Proofs.Yteiildeaccngjaa
open Go.RowKit

/-- Make of a grid, whatever it is. -/
theorem swp_make_any (H : SwpOK) (ve : Value) (es : List Ed) (r0 r1 r2 r3 r4 r5 : Int) (w : World) (hv : ERd w ve es) (hl : es.length ≤ 200000) (hin : ∀ s ∈ es, InD s) :
    Calls Try.prog 14 #[ve, .agg #[.int .i64 r0, .int .i64 r1, .int .i64 r2, .int .i64 r3, .int .i64 r4, .int .i64 r5]] w fun e w' => ∃ (a b : Int) (A : Option Addr) (n c : Nat), e = .returned (.tuple #[.agg #[.int .i64 a, .int .i64 b, .slice A n c], .int .i64 (checkG r0 r1 r2 r3 r4 r5)]) ∧ Below w.heap.size w w' := by
  by_cases h : checkG r0 r1 r2 r3 r4 r5 = 0
  · obtain ⟨_, _, _, h3, h4⟩ := checkG_zero h
    obtain ⟨u, rfl⟩ : ∃ u : Nat, r3 = u := ⟨r3.toNat, by omega⟩
    obtain ⟨v, rfl⟩ : ∃ v : Nat, r4 = v := ⟨r4.toNat, by omega⟩
    refine (H.make ve es r0 r1 r2 r5 u v w hv hl hin h).mono ?_
    rintro e w' ⟨V, rfl, hV, hb⟩
    obtain ⟨A, c, rfl⟩ := hV.form
    exact ⟨u, v, A, _, c, by rw [h], hb⟩
  · refine (H.wrong ve es r0 r1 r2 r3 r4 r5 w hv h).mono ?_
    rintro e w' ⟨rfl, hb⟩
    exact ⟨0, 0, none, 0, 0, rfl, hb⟩

set_option maxRecDepth 100000 in
set_option maxHeartbeats 3200000 in
theorem sweepMake_walk (H : SwpOK) (A : Option Addr) (n cap : Nat) (cs : List (List Dot)) (s0 s1 s2 s3 s4 s5 : Int) (r0 r1 r2 r3 r4 r5 : Int) (w : World) (hcs : DotRows w A n cap cs) (hs : (0 ≤ s0 ∧ s0 ≤ 255) ∧ (0 ≤ s1 ∧ s1 ≤ 255) ∧ (0 ≤ s2 ∧ s2 ≤ 255) ∧ (0 ≤ s3 ∧ s3 ≤ 255) ∧ (0 ≤ s4 ∧ s4 ≤ 255) ∧ (0 ≤ s5 ∧ s5 ≤ 255)) :
    Calls Try.prog 4 #[.slice A n cap, .agg #[.int .u8 s0, .int .u8 s1, .int .u8 s2, .int .u8 s3, .int .u8 s4, .int .u8 s5], .agg #[.int .i64 r0, .int .i64 r1, .int .i64 r2, .int .i64 r3, .int .i64 r4, .int .i64 r5]] w fun e w' => e = .returned (.bool true) ∧ Below w.heap.size w w' := by
  have HD := Lib.hid hcs
  have HAW := Lib.hid (fun w => awake13 H w)
  obtain ⟨h0, h1, h2, h3, h4, h5⟩ := hs
  have HS := Lib.hid (fun w => sgrid_any s0 s1 s2 s3 s4 s5 h0 h1 h2 h3 h4 h5 w)
  have HB0 := Lib.hid (alloc2 w (.cells #[.int .u8 s0, .int .u8 s1, .int .u8 s2, .int .u8 s3, .int .u8 s4, .int .u8 s5] 24) (.cells #[.int .i64 r0, .int .i64 r1, .int .i64 r2, .int .i64 r3, .int .i64 r4, .int .i64 r5] 29))
  have HK0 := Lib.hid ((Blk.new w 24 [.int .u8 s0, .int .u8 s1, .int .u8 s2, .int .u8 s3, .int .u8 s4, .int .u8 s5] rfl).alloc (.cells #[.int .i64 r0, .int .i64 r1, .int .i64 r2, .int .i64 r3, .int .i64 r4, .int .i64 r5] 29))
  have HR0 := Lib.hid (Blk.new (w.alloc (.cells #[.int .u8 s0, .int .u8 s1, .int .u8 s2, .int .u8 s3, .int .u8 s4, .int .u8 s5] 24)) 29 [.int .i64 r0, .int .i64 r1, .int .i64 r2, .int .i64 r3, .int .i64 r4, .int .i64 r5] (g := w.heap.size + 1) (by simp))
  have hck : checkG (s0 - 128) (s1 - 128) (1 + s2 % 16) (1 + s3 % 10) (1 + s4 % 10) (1 + s5 % 64) = 0 := by unfold checkG; rw [if_neg (by omega), if_neg (by omega)]
  obtain ⟨u, hu⟩ : ∃ u : Nat, 1 + s3 % 10 = u := ⟨(1 + s3 % 10).toNat, by omega⟩
  obtain ⟨v, hv⟩ : ∃ v : Nat, 1 + s4 % 10 = v := ⟨(1 + s4 % 10).toNat, by omega⟩
  rw [hu, hv] at hck HS
  have bu : 1 ≤ u ∧ u ≤ 10 := by omega
  have bv : 1 ≤ v ∧ v ≤ 10 := by omega
  have bx : -128 ≤ s0 - 128 ∧ s0 - 128 ≤ 127 := by omega
  have by' : -128 ≤ s1 - 128 ∧ s1 - 128 ≤ 127 := by omega
  have bp : 1 ≤ 1 + s2 % 16 ∧ 1 + s2 % 16 ≤ 16 := by omega
  have bs : 1 ≤ 1 + s5 % 64 ∧ 1 + s5 % 64 ≤ 64 := by omega
  clear h0 h1 h2 h3 h4 h5 hu hv hcs
  generalize s0 - 128 = x at *
  generalize s1 - 128 = y at *
  generalize 1 + s2 % 16 = p at *
  generalize 1 + s5 % 64 = s at *
  go_enter Try.func4, Try.ntmps4
  go_wp2_with fail
  refine (HAW.out _).mono ?_
  rintro e w1 ⟨rfl, hb⟩
  have HK1 := Lib.hid (HK0.out.keep hb)
  have HR1 := Lib.hid (HR0.out.keep hb)
  have HB1 := Lib.hid (below2 HB0.out hb)
  have HC := Lib.hid (glyph7 A n cap cs w1 (HD.out.keep HB1.out))
  clear hb HR0 HK0 HB0 HD HAW
  go_wp2_with fail
  refine HC.out.mono ?_
  rintro e w2 ⟨U, es, rfl, hU, hln, hin, hcl, hb⟩
  have HK2 := Lib.hid (HK1.out.keep hb)
  have HR2 := Lib.hid (HR1.out.keep hb)
  have HB2 := Lib.hid (below2 HB1.out hb)
  have HU2 := Lib.hid hU.read
  have HIN := Lib.hid hin
  have HCL := Lib.hid hcl
  have hln2 : es.length ≤ 200000 := by omega
  have HLN := Lib.hid hln2
  obtain ⟨Au, capu, rfl⟩ := hU.form
  obtain ⟨N, hN⟩ : ∃ N, es.length = N := ⟨_, rfl⟩
  rw [hN] at HU2
  rw [hN]
  have HN := Lib.hid hN
  clear hb HR1 HK1 HB1 hU hin hcl hln hln2 hN HC
  have k0 := HK2.out.cell 0 rfl
  have k1 := HK2.out.cell 1 rfl
  have k2 := HK2.out.cell 2 rfl
  have k3 := HK2.out.cell 3 rfl
  have k4 := HK2.out.cell 4 rfl
  have k5 := HK2.out.cell 5 rfl
  have kl := HK2.out.lt
  go_wp2_with fail
  refine (HS.out _).mono ?_
  rintro e w3 ⟨rfl, hb⟩
  have HU3 := Lib.hid (HU2.out.keep hb)
  have HB3 := Lib.hid (below2 HB2.out hb)
  have HK3 := Lib.hid (HK2.out.keep hb)
  have HR3 := Lib.hid (HR2.out.keep hb)
  clear hb HR2 HU2 HB2 HK2 k0 k1 k2 k3 k4 k5 kl
  go_wp2_with fail
  have hal : Below w3.heap.size w3 (w3.alloc (.cells #[.int .i64 x, .int .i64 y, .int .i64 p, .int .i64 u, .int .i64 v, .int .i64 s] 29)) := (Below.refl _ _).alloc (Nat.le_refl _) _
  have HU4 := Lib.hid (HU3.out.keep hal)
  have HB4 := Lib.hid (below2 HB3.out hal)
  have HG4 := Lib.hid (Blk.new w3 29 [.int .i64 x, .int .i64 y, .int .i64 p, .int .i64 u, .int .i64 v, .int .i64 s] rfl)
  have HR4 := Lib.hid (HR3.out.keep hal)
  clear hal HR3 HU3 HB3 HK3
  generalize w3.alloc (.cells #[.int .i64 x, .int .i64 y, .int .i64 p, .int .i64 u, .int .i64 v, .int .i64 s] 29) = w4 at *
  generalize w3.heap.size = G at *
  have HMK := Lib.hid (fun w h => H.make (.slice Au N capu) es x y p s u v w h HLN.out HIN.out hck)
  have HMR := Lib.hid (fun w h => swp_make_any H (.slice Au N capu) es r0 r1 r2 r3 r4 r5 w h HLN.out HIN.out)
  have HGR := Lib.hid (fun w => gcheck_any r0 r1 r2 r3 r4 r5 w)
  have HKN := Lib.hid (fun w h => lknown_any (.slice Au N capu) es x y p s u v w h HLN.out HIN.out (by omega) (by omega) bp (by omega) (by omega))
  have g0 := HG4.out.cell 0 rfl
  have g1 := HG4.out.cell 1 rfl
  have g2 := HG4.out.cell 2 rfl
  have g3 := HG4.out.cell 3 rfl
  have g4 := HG4.out.cell 4 rfl
  have g5 := HG4.out.cell 5 rfl
  have gl := HG4.out.lt
  go_wp2_with fail
  refine (HMK.out _ HU4.out).mono ?_
  rintro e w5 ⟨V, rfl, hV, hb⟩
  obtain ⟨Av, capv, rfl⟩ := hV.form
  rw [fldS_length] at hV ⊢
  have hUV : u * v ≤ 100 := Nat.mul_le_mul bu.2 bv.2
  obtain ⟨U, hU⟩ : ∃ U, u * v = U := ⟨_, rfl⟩
  have hUw : IntKind.i64.wrap ((u : Int) * v) = (U : Int) := by rw [← hU, Int.natCast_mul]; exact wI (by rw [← Int.natCast_mul]; omega) (by rw [← Int.natCast_mul]; omega)
  have HAT := Lib.hid (fun j (hj : j < U) => fldS_at es x y p s u v j (by rw [hU]; exact hj))
  have HLE := Lib.hid (knownL_len es x y p u v)
  have HKI := Lib.hid (knownL_in es x y p u v (by omega) (by omega))
  have HUL := Lib.hid hU
  rw [hU] at hV HLE hUV ⊢
  simp only [hU] at HKN
  have hal : Below w5.heap.size w5 (w5.alloc (.cells #[.int .i64 u, .int .i64 v, .slice Av U capv] 36)) := (Below.refl _ _).alloc (Nat.le_refl _) _
  have HU6 := Lib.hid ((HU4.out.keep hb).keep hal)
  have HG6 := Lib.hid ((HG4.out.keep hb).keep hal)
  have HR6 := Lib.hid ((HR4.out.keep hb).keep hal)
  have HB6 := Lib.hid (below2 (below2 HB4.out hb) hal)
  have HV6 := Lib.hid (hV.keep hal)
  have HF6 := Lib.hid (Blk.new w5 36 [.int .i64 u, .int .i64 v, .slice Av U capv] rfl)
  clear hb hal HU4 HG4 HR4 HB4 hV HMK g0 g1 g2 g3 g4 g5 gl hU
  have k0 := HG6.out.cell 0 rfl
  have k1 := HG6.out.cell 1 rfl
  have k2 := HG6.out.cell 2 rfl
  have k3 := HG6.out.cell 3 rfl
  have k4 := HG6.out.cell 4 rfl
  have k5 := HG6.out.cell 5 rfl
  have kl := HG6.out.lt
  go_wp2_with fail
  refine (HKN.out _ HU6.out).mono ?_
  rintro e w7 ⟨gA, rfl, -, hN, hb⟩
  have HNR := Lib.hid hN
  have HU7 := Lib.hid (HU6.out.keep hb)
  have HG7 := Lib.hid (HG6.out.keep hb)
  have HR7 := Lib.hid (HR6.out.keep hb)
  have HB7 := Lib.hid (below2 HB6.out hb)
  have HV7 := Lib.hid (HV6.out.keep hb)
  have HF7 := Lib.hid (HF6.out.keep hb)
  clear hb hN HU6 HG6 HR6 HB6 HV6 HF6 HKN k0 k1 k2 k3 k4 k5 kl
  generalize w5.heap.size = F at *
  generalize knownL es x y p u v = kk at *
  go_wp2_with fail
  go_loopw [60] (fun i wr => ∃ r : Nat, r ≤ U ∧ i = .int .i64 r ∧ Hid (Below w7.heap.size w7 wr)) (fun i _ => U - (intOf i).toNat)
  case atStart => exact ⟨0, Nat.zero_le _, rfl, Lib.hid (Below.refl _ _)⟩
  case round =>
    obtain ⟨r, hr, rfl, HW⟩ := hrel
    by_cases hrn : r < U
    · have hrb : decide ((r : Int) < U) = true := by simp; omega
      obtain ⟨a, ha⟩ : ∃ a, r % u = a := ⟨_, rfl⟩
      obtain ⟨b, hb⟩ : ∃ b, r / u = b := ⟨_, rfl⟩
      have ha1 : (r : Int) % (u : Int) = (a : Int) := by rw [← ha]; rfl
      have hb1 : (r : Int) / (u : Int) = (b : Int) := by rw [← hb]; rfl
      have hau : a < u := by rw [← ha]; exact Nat.mod_lt _ (by omega)
      have hbv : b < v := by rw [← hb]; exact Nat.div_lt_of_lt_mul (by rw [HUL.out]; exact hrn)
      have hz : ((u : Int) == 0) = false := by simp; omega
      have HC := Lib.hid (fun w => centre_any x y p u v s a b (by omega) (by omega) (by omega) (by omega) (by omega) w)
      have hPM : InP ⟨midG x p a, midG y p b⟩ := mid_in x y p a b (by omega) (by omega) bp (by omega) (by omega)
      have hat := HAT.out r hrn
      rw [show cenS x y p u r = ⟨midG x p a, midG y p b⟩ by unfold cenS midP; rw [ha, hb]] at hat
      obtain ⟨X, hX⟩ : ∃ X, midG x p a = X := ⟨_, rfl⟩
      obtain ⟨Y, hY⟩ : ∃ X, midG y p b = X := ⟨_, rfl⟩
      rw [hX, hY] at HC hPM hat
      obtain ⟨-, av, rfl, hav, hbyte⟩ := (HV7.out.below HW.out).byte r hat
      have n0 := ((HNR.out.keep HW.out).val r hrn).1
      have hki := HKI.out r
      have hsw := swN_is es s ⟨X, Y⟩ (knS kk r) bs.1
      generalize knS kk r = kr at *
      have HPM := Lib.hid hPM
      have HGr := Lib.hid (HG7.out.keep HW.out)
      have HFr := Lib.hid (HF7.out.keep HW.out)
      have HUr := Lib.hid (HU7.out.keep HW.out)
      have HBr := Lib.hid (below2 HB7.out HW.out)
      have HVB : Hid (wr.cell? (av.add r) = some (.int .u8 ((swN es s ⟨X, Y⟩ kr : Nat) : Int)) ∧ av.block < wr.heap.size) := Lib.hid ⟨hbyte, hav⟩
      have g0 := HGr.out.cell 0 rfl
      have g1 := HGr.out.cell 1 rfl
      have g2 := HGr.out.cell 2 rfl
      have g3 := HGr.out.cell 3 rfl
      have g4 := HGr.out.cell 4 rfl
      have g5 := HGr.out.cell 5 rfl
      have gl := HGr.out.lt
      clear hat hPM hX hY ha hb hbyte hav
      have hzn : ¬(u = 0) := by omega
      have ha2 : (r : Int).tmod (u : Int) = (a : Int) := by rw [Int.tmod_eq_emod_of_nonneg (by omega)]; exact ha1
      have hbw : IntKind.i64.wrap (b : Int) = (b : Int) := wI (by omega) (by omega)
      go_wp2_with fail
      go_cut [13] (fun sp wx => ∃ P : Nat, sp = .pointer (some ⟨P, 0, none⟩) ∧ Hid (Blk wx P 41 [.int .i64 X, .int .i64 Y]) ∧ Hid (Below wr.heap.size wr wx))
      case first =>
        have AB : Below wr.heap.size wr wr.drew := (Below.refl _ wr).drew
        replace HGr := Lib.hid (HGr.out.keep AB)
        refine wp_region_held_drew (S := fun wx => wx.cell? ⟨G, 0, none⟩ = some (.int .i64 x) ∧ wx.cell? ⟨G, 1, none⟩ = some (.int .i64 y) ∧ wx.cell? ⟨G, 2, none⟩ = some (.int .i64 p) ∧ wx.cell? ⟨G, 3, none⟩ = some (.int .i64 u) ∧ wx.cell? ⟨G, 4, none⟩ = some (.int .i64 v) ∧ wx.cell? ⟨G, 5, none⟩ = some (.int .i64 s)) (by kernel_rfl) (⟨HGr.out.cell 0 rfl, HGr.out.cell 1 rfl, HGr.out.cell 2 rfl, HGr.out.cell 3 rfl, HGr.out.cell 4 rfl, HGr.out.cell 5 rfl⟩) (fun hHeld => ?_)
        generalize wr.drew = w2d at *
        refine wpAnyH_take (i := 0) (v := ?_) rfl (by kernel_rfl) (by kernel_rfl) (by kernel_rfl) (fun _ _ _ h => h) (Or.inl ⟨by rfl, ?_⟩) hHeld ?_
        rotate_left
        · intro w hSw
          (try dsimp only at hSw)
          (try simp only [List.getElem_toArray, List.getElem_cons_zero])
          go_simp
          all_goals with_reducible rfl
        try simp only [List.getElem_toArray, List.getElem_cons_zero, Act.put, List.setIfInBounds_toArray, List.set_cons_zero, List.set_cons_succ]
        refine wpAnyH_take (i := 1) (v := ?_) rfl (by kernel_rfl) (by kernel_rfl) (by kernel_rfl) (fun _ _ _ h => h) (Or.inl ⟨by rfl, ?_⟩) hHeld ?_
        rotate_left
        · intro w hSw
          (try dsimp only at hSw)
          (try simp only [List.getElem_toArray, List.getElem_cons_zero, List.getElem_cons_succ])
          go_simp
          all_goals with_reducible rfl
        try simp only [List.getElem_toArray, List.getElem_cons_zero, List.getElem_cons_succ, Act.put, List.setIfInBounds_toArray, List.set_cons_zero, List.set_cons_succ]
        refine wpAnyH_take (i := 2) (v := ?_) rfl (by kernel_rfl) (by kernel_rfl) (by kernel_rfl) (fun _ _ _ h => h) (Or.inl ⟨by rfl, ?_⟩) hHeld ?_
        rotate_left
        · intro w hSw
          (try dsimp only at hSw)
          (try simp only [List.getElem_toArray, List.getElem_cons_zero, List.getElem_cons_succ])
          go_simp
          all_goals with_reducible rfl
        try simp only [List.getElem_toArray, List.getElem_cons_zero, List.getElem_cons_succ, Act.put, List.setIfInBounds_toArray, List.set_cons_zero, List.set_cons_succ]
        refine wpAnyH_take (i := 3) (v := ?_) rfl (by kernel_rfl) (by kernel_rfl) (by kernel_rfl) (fun _ _ _ h => h) (Or.inl ⟨by rfl, ?_⟩) hHeld ?_
        rotate_left
        · intro w hSw
          (try dsimp only at hSw)
          (try simp only [List.getElem_toArray, List.getElem_cons_zero, List.getElem_cons_succ])
          go_simp
          all_goals with_reducible rfl
        try simp only [List.getElem_toArray, List.getElem_cons_zero, List.getElem_cons_succ, Act.put, List.setIfInBounds_toArray, List.set_cons_zero, List.set_cons_succ]
        refine wpAnyH_take (i := 4) (v := ?_) rfl (by kernel_rfl) (by kernel_rfl) (by kernel_rfl) (fun _ _ _ h => h) (Or.inl ⟨by rfl, ?_⟩) hHeld ?_
        rotate_left
        · intro w hSw
          (try dsimp only at hSw)
          (try simp only [List.getElem_toArray, List.getElem_cons_zero, List.getElem_cons_succ])
          go_simp
          all_goals with_reducible rfl
        try simp only [List.getElem_toArray, List.getElem_cons_zero, List.getElem_cons_succ, Act.put, List.setIfInBounds_toArray, List.set_cons_zero, List.set_cons_succ]
        refine wpAnyH_take (i := 5) (v := ?_) rfl (by kernel_rfl) (by kernel_rfl) (by kernel_rfl) (fun _ _ _ h => h) (Or.inl ⟨by rfl, ?_⟩) hHeld ?_
        rotate_left
        · intro w hSw
          (try dsimp only at hSw)
          (try simp only [List.getElem_toArray, List.getElem_cons_zero, List.getElem_cons_succ])
          go_simp
          all_goals with_reducible rfl
        try simp only [List.getElem_toArray, List.getElem_cons_zero, List.getElem_cons_succ, Act.put, List.setIfInBounds_toArray, List.set_cons_zero, List.set_cons_succ]
        refine wpAnyH_take (i := 6) (v := ?_) rfl (by kernel_rfl) (by kernel_rfl) (by kernel_rfl) (fun _ _ _ h => h) (Or.inl ⟨by rfl, ?_⟩) hHeld ?_
        rotate_left
        · intro w hSw
          (try dsimp only at hSw)
          (try simp only [List.getElem_toArray, List.getElem_cons_zero, List.getElem_cons_succ])
          go_simp
          all_goals with_reducible rfl
        try simp only [List.getElem_toArray, List.getElem_cons_zero, List.getElem_cons_succ, Act.put, List.setIfInBounds_toArray, List.set_cons_zero, List.set_cons_succ]
        refine wpAnyH_take (i := 7) (v := ?_) rfl (by kernel_rfl) (by kernel_rfl) (by kernel_rfl) (fun _ _ _ h => h) (Or.inl ⟨by rfl, ?_⟩) hHeld ?_
        rotate_left
        · intro w hSw
          (try dsimp only at hSw)
          (try simp only [List.getElem_toArray, List.getElem_cons_zero, List.getElem_cons_succ])
          go_simp
          all_goals with_reducible rfl
        try simp only [List.getElem_toArray, List.getElem_cons_zero, List.getElem_cons_succ, Act.put, List.setIfInBounds_toArray, List.set_cons_zero, List.set_cons_succ]
        refine wpAnyH_take (i := 8) (v := ?_) rfl (by kernel_rfl) (by kernel_rfl) (by kernel_rfl) (fun _ _ _ h => h) (Or.inl ⟨by rfl, ?_⟩) hHeld ?_
        rotate_left
        · intro w hSw
          (try dsimp only at hSw)
          (try simp only [List.getElem_toArray, List.getElem_cons_zero, List.getElem_cons_succ])
          go_simp
          all_goals with_reducible rfl
        try simp only [List.getElem_toArray, List.getElem_cons_zero, List.getElem_cons_succ, Act.put, List.setIfInBounds_toArray, List.set_cons_zero, List.set_cons_succ]
        refine wpAnyH_ready (rs := [9, 10]) (by kernel_rfl) (by simp) ?_
        refine AllReadyH.cons rfl (fun K hK => ?_) (AllReadyH.cons rfl (fun K hK => ?_) AllReadyH.nil)
        · try simp only [List.getElem_toArray, List.getElem_cons_zero, List.getElem_cons_succ]
          go_simp
          refine (HC.out _).mono ?_
          rintro e wn ⟨rfl, hbn⟩
          have AB := AB.trans (hbn.mono (AB.size))
          replace HGr := Lib.hid (HGr.out.keep hbn)
          try replace HPB := Lib.hid (HPB.out.keep hbn)
          clear hbn
          go_wp2_with fail
          refine hK.out _ _ (⟨HGr.out.cell 0 rfl, HGr.out.cell 1 rfl, HGr.out.cell 2 rfl, HGr.out.cell 3 rfl, HGr.out.cell 4 rfl, HGr.out.cell 5 rfl⟩) (fun hHeld => ?_)
          clear hK K
          try simp only [List.getElem_toArray, List.getElem_cons_zero, List.getElem_cons_succ, Act.put, List.setIfInBounds_toArray, List.set_cons_zero, List.set_cons_succ]
          refine wpAnyH_ready (rs := [10]) (by kernel_rfl) (by simp) ?_
          refine AllReadyH.cons rfl (fun K hK => ?_) AllReadyH.nil
          try simp only [List.getElem_toArray, List.getElem_cons_zero, List.getElem_cons_succ]
          go_simp
          obtain ⟨P, hP, hP1, hBn, hAn, hKn⟩ := snew_ex AB (Nat.le_refl _) 41 [.int .i64 0, .int .i64 0]
          have hP2 : G < P := by rw [← hP]; exact HGr.out.lt
          try simp only [World.size_alloc] at hP
          rw [hP]
          have HPB := Lib.hid hBn
          replace HGr := Lib.hid (HGr.out.keep hKn)
          have AB := hAn
          clear hBn hAn hKn hP
          refine hK.out _ _ (⟨HGr.out.cell 0 rfl, HGr.out.cell 1 rfl, HGr.out.cell 2 rfl, HGr.out.cell 3 rfl, HGr.out.cell 4 rfl, HGr.out.cell 5 rfl⟩) (fun hHeld => ?_)
          clear hK K
          try simp only [List.getElem_toArray, List.getElem_cons_zero, List.getElem_cons_succ, Act.put, List.setIfInBounds_toArray, List.set_cons_zero, List.set_cons_succ]
          refine wpAnyH_ready (rs := [11]) (by kernel_rfl) (by simp) ?_
          refine AllReadyH.cons rfl (fun K hK => ?_) AllReadyH.nil
          try simp only [List.getElem_toArray, List.getElem_cons_zero, List.getElem_cons_succ]
          have x0 := HPB.out.cell 0 rfl
          have x1 := HPB.out.cell 1 rfl
          have xf := HPB.out.frozen
          have xl := HPB.out.lt
          go_simp
          replace HPB : Hid (Blk _ P 41 [.int .i64 X, .int .i64 Y]) := Lib.hid (sput2 HPB.out)
          replace HGr := Lib.hid (soth2 (g := P) (x := .int .i64 X) (y := .int .i64 Y) HGr.out (by omega))
          have AB := sbelow2 (g := P) (x := .int .i64 X) (y := .int .i64 Y) AB hP1
          clear x0 x1 xf xl
          refine hK.out _ _ (⟨HGr.out.cell 0 rfl, HGr.out.cell 1 rfl, HGr.out.cell 2 rfl, HGr.out.cell 3 rfl, HGr.out.cell 4 rfl, HGr.out.cell 5 rfl⟩) (fun hHeld => ?_)
          clear hK K
          try simp only [List.getElem_toArray, List.getElem_cons_zero, List.getElem_cons_succ, Act.put, List.setIfInBounds_toArray, List.set_cons_zero, List.set_cons_succ]
          refine wpAnyH_done (by kernel_rfl) ?_ _
          go_wp2_with fail
          go_meet
          exact ⟨P, rfl, HPB, Lib.hid AB⟩
        · try simp only [List.getElem_toArray, List.getElem_cons_zero, List.getElem_cons_succ]
          go_simp
          obtain ⟨P, hP, hP1, hBn, hAn, hKn⟩ := snew_ex AB (Nat.le_refl _) 41 [.int .i64 0, .int .i64 0]
          have hP2 : G < P := by rw [← hP]; exact HGr.out.lt
          try simp only [World.size_alloc] at hP
          rw [hP]
          have HPB := Lib.hid hBn
          replace HGr := Lib.hid (HGr.out.keep hKn)
          have AB := hAn
          clear hBn hAn hKn hP
          refine hK.out _ _ (⟨HGr.out.cell 0 rfl, HGr.out.cell 1 rfl, HGr.out.cell 2 rfl, HGr.out.cell 3 rfl, HGr.out.cell 4 rfl, HGr.out.cell 5 rfl⟩) (fun hHeld => ?_)
          clear hK K
          try simp only [List.getElem_toArray, List.getElem_cons_zero, List.getElem_cons_succ, Act.put, List.setIfInBounds_toArray, List.set_cons_zero, List.set_cons_succ]
          refine wpAnyH_ready (rs := [9]) (by kernel_rfl) (by simp) ?_
          refine AllReadyH.cons rfl (fun K hK => ?_) AllReadyH.nil
          try simp only [List.getElem_toArray, List.getElem_cons_zero, List.getElem_cons_succ]
          go_simp
          refine (HC.out _).mono ?_
          rintro e wn ⟨rfl, hbn⟩
          have AB := AB.trans (hbn.mono (AB.size))
          replace HGr := Lib.hid (HGr.out.keep hbn)
          try replace HPB := Lib.hid (HPB.out.keep hbn)
          clear hbn
          go_wp2_with fail
          refine hK.out _ _ (⟨HGr.out.cell 0 rfl, HGr.out.cell 1 rfl, HGr.out.cell 2 rfl, HGr.out.cell 3 rfl, HGr.out.cell 4 rfl, HGr.out.cell 5 rfl⟩) (fun hHeld => ?_)
          clear hK K
          try simp only [List.getElem_toArray, List.getElem_cons_zero, List.getElem_cons_succ, Act.put, List.setIfInBounds_toArray, List.set_cons_zero, List.set_cons_succ]
          refine wpAnyH_ready (rs := [11]) (by kernel_rfl) (by simp) ?_
          refine AllReadyH.cons rfl (fun K hK => ?_) AllReadyH.nil
          try simp only [List.getElem_toArray, List.getElem_cons_zero, List.getElem_cons_succ]
          have x0 := HPB.out.cell 0 rfl
          have x1 := HPB.out.cell 1 rfl
          have xf := HPB.out.frozen
          have xl := HPB.out.lt
          go_simp
          replace HPB : Hid (Blk _ P 41 [.int .i64 X, .int .i64 Y]) := Lib.hid (sput2 HPB.out)
          replace HGr := Lib.hid (soth2 (g := P) (x := .int .i64 X) (y := .int .i64 Y) HGr.out (by omega))
          have AB := sbelow2 (g := P) (x := .int .i64 X) (y := .int .i64 Y) AB hP1
          clear x0 x1 xf xl
          refine hK.out _ _ (⟨HGr.out.cell 0 rfl, HGr.out.cell 1 rfl, HGr.out.cell 2 rfl, HGr.out.cell 3 rfl, HGr.out.cell 4 rfl, HGr.out.cell 5 rfl⟩) (fun hHeld => ?_)
          clear hK K
          try simp only [List.getElem_toArray, List.getElem_cons_zero, List.getElem_cons_succ, Act.put, List.setIfInBounds_toArray, List.set_cons_zero, List.set_cons_succ]
          refine wpAnyH_done (by kernel_rfl) ?_ _
          go_wp2_with fail
          go_meet
          exact ⟨P, rfl, HPB, Lib.hid AB⟩
      case rest =>
        obtain ⟨P, rfl, HPB, HPW⟩ := hcut
        have HG8 := Lib.hid (HGr.out.keep HPW.out)
        have HF8 := Lib.hid (HFr.out.keep HPW.out)
        have HU8 := Lib.hid (HUr.out.keep HPW.out)
        have HB8 := Lib.hid (below2 HBr.out HPW.out)
        have HW8 := Lib.hid (below2 HW.out HPW.out)
        have hv8 := Go.Proofs.Yteiildeaccngjaa.keep HPW.out HVB.out.1
        have hv9 := Nat.lt_of_lt_of_le HVB.out.2 HPW.out.size
        have HVB8 := Lib.hid (And.intro hv8 hv9)
        clear hv8 hv9 HGr HFr HUr HBr HW HVB g0 g1 g2 g3 g4 g5 gl n0 HC ha1 hb1 hz HPW
        have f2 := HF8.out.cell 2 rfl
        have fl := HF8.out.lt
        by_cases hk : kr < 0
        · have hkb : decide ((0 : Int) ≤ kr) = false := by simp; omega
          have hs1 : ((swN es s ⟨X, Y⟩ kr : Nat) : Int) = 1 := by rw [hsw]; unfold swG; rw [if_neg (by omega)]
          have hb1 := HVB8.out.1
          rw [hs1] at hb1
          have hbl := HVB8.out.2
          clear hs1 hsw HVB8 HG8 HU8 HPB
          go_wp2_with fail
          exact ⟨⟨r + 1, hrn, by go_num, HW8⟩, by simp [intOf]; omega⟩
        · have hkb : decide ((0 : Int) ≤ kr) = true := by simp; omega
          obtain ⟨bk, rfl⟩ : ∃ n : Nat, kr = n := ⟨kr.toNat, by omega⟩
          have hbk : bk < N := by have := HN.out; omega
          obtain ⟨Ej, hEj0⟩ : ∃ c, es[bk]? = some c := ⟨_, List.getElem?_eq_getElem (by rw [HN.out]; exact hbk)⟩
          have hIJ := HIN.out Ej (List.mem_of_getElem? hEj0)
          obtain ⟨ae, e, hal, hEj⟩ := HU8.out.at bk Ej hEj0
          cases e
          have HSG := Lib.hid (fun w h => sign_any (.slice (some ae) N capu) es X Y w h HLN.out HIN.out HPM.out)
          have HSQ := Lib.hid (fun w => square_any Ej.a.x Ej.a.y Ej.b.x Ej.b.y X Y ⟨hIJ.1, hIJ.2, HPM.out⟩ w)
          change Hid (∀ w, Calls _ _ _ _ fun e w' => e = .returned (.agg #[.int .i64 (sqF Ej ⟨X, Y⟩).1, .int .i64 (sqF Ej ⟨X, Y⟩).2]) ∧ _) at HSQ
          have q1 := sq_small Ej ⟨X, Y⟩ hIJ HPM.out
          have HSC := Lib.hid (fun w => scaled_e8 (sqF Ej ⟨X, Y⟩).1 (sqF Ej ⟨X, Y⟩).2 (by omega) (by omega) q1.2.2 w)
          have hpair : ((sqF Ej ⟨X, Y⟩).1, (sqF Ej ⟨X, Y⟩).2) = sqF Ej ⟨X, Y⟩ := rfl
          rw [hpair] at HSC
          have q8 := e8_sq_small8 Ej ⟨X, Y⟩ hIJ HPM.out
          have HCD := Lib.hid (fun w => code_any x y p u v s (sgS es ⟨X, Y⟩) (e8 (sqF Ej ⟨X, Y⟩)) bs (sgS_in es ⟨X, Y⟩) q8 w)
          have hsv : 128 + sgS es ⟨X, Y⟩ * stepG s (e8 (sqF Ej ⟨X, Y⟩)) = ((swN es s ⟨X, Y⟩ bk : Nat) : Int) := by
            rw [hsw]; unfold swG; rw [if_pos (by omega)]
            unfold sqK
            rw [Int.toNat_natCast, show es.getD bk edZ = Ej by rw [List.getD_eq_getElem?_getD, hEj0]; rfl]
          rw [hsv] at HCD
          clear hsv hsw hpair q1 q8 hIJ hEj0 hki
          generalize e8 (sqF Ej ⟨X, Y⟩) = e8v at *
          generalize (sqF Ej ⟨X, Y⟩).1 = n1 at *
          generalize (sqF Ej ⟨X, Y⟩).2 = d1 at *
          generalize sgS es ⟨X, Y⟩ = sg at *
          generalize swN es s ⟨X, Y⟩ bk = SW at *
          go_wp2_with fail
          have hd : Below wc.heap.size wc wc.drew := (Below.refl _ wc).drew
          have AB := hd
          replace HG8 := Lib.hid (HG8.out.keep hd)
          replace HPB := Lib.hid (HPB.out.keep hd)
          replace HU8 := Lib.hid (HU8.out.keep hd)
          have HJx : Hid (EAtS wc.drew ae bk Ej.a.x Ej.a.y Ej.b.x Ej.b.y) := Lib.hid hEj
          have HAl : Hid (ae.block < wc.drew.heap.size) := Lib.hid hal
          clear hEj hal hd f2 fl
          refine wp_region_held_drew (S := fun wx => wx.cell? ⟨G, 0, none⟩ = some (.int .i64 x) ∧ wx.cell? ⟨G, 1, none⟩ = some (.int .i64 y) ∧ wx.cell? ⟨G, 2, none⟩ = some (.int .i64 p) ∧ wx.cell? ⟨G, 3, none⟩ = some (.int .i64 u) ∧ wx.cell? ⟨G, 4, none⟩ = some (.int .i64 v) ∧ wx.cell? ⟨G, 5, none⟩ = some (.int .i64 s) ∧ wx.cell? ⟨P, 0, none⟩ = some (.int .i64 X) ∧ wx.cell? ⟨P, 1, none⟩ = some (.int .i64 Y) ∧ wx.cell? (ae.add (bk * 4)) = some (.int .i64 Ej.a.x) ∧ wx.cell? ⟨(ae.add (bk * 4)).block, (ae.add (bk * 4)).off + 1, none⟩ = some (.int .i64 Ej.a.y) ∧ wx.cell? ⟨(ae.add (bk * 4)).block, (ae.add (bk * 4)).off + 2, none⟩ = some (.int .i64 Ej.b.x) ∧ wx.cell? ⟨(ae.add (bk * 4)).block, (ae.add (bk * 4)).off + 3, none⟩ = some (.int .i64 Ej.b.y)) (by kernel_rfl) (⟨HG8.out.cell 0 rfl, HG8.out.cell 1 rfl, HG8.out.cell 2 rfl, HG8.out.cell 3 rfl, HG8.out.cell 4 rfl, HG8.out.cell 5 rfl, HPB.out.cell 0 rfl, HPB.out.cell 1 rfl, HJx.out⟩) (fun hHeld => ?_)
          refine wpAnyH_take (i := 0) (v := ?_) rfl (by kernel_rfl) (by kernel_rfl) (by kernel_rfl) (fun _ _ _ h => h) (Or.inl ⟨by rfl, ?_⟩) hHeld ?_
          rotate_left
          · intro w hSw
            (try dsimp only at hSw)
            (try simp only [List.getElem_toArray, List.getElem_cons_zero])
            go_simp
            all_goals with_reducible rfl
          try simp only [List.getElem_toArray, List.getElem_cons_zero, Act.put, List.setIfInBounds_toArray, List.set_cons_zero, List.set_cons_succ]
          refine wpAnyH_take (i := 1) (v := ?_) rfl (by kernel_rfl) (by kernel_rfl) (by kernel_rfl) (fun _ _ _ h => h) (Or.inl ⟨by rfl, ?_⟩) hHeld ?_
          rotate_left
          · intro w hSw
            (try dsimp only at hSw)
            (try simp only [List.getElem_toArray, List.getElem_cons_zero, List.getElem_cons_succ])
            go_simp
            all_goals with_reducible rfl
          try simp only [List.getElem_toArray, List.getElem_cons_zero, List.getElem_cons_succ, Act.put, List.setIfInBounds_toArray, List.set_cons_zero, List.set_cons_succ]
          refine wpAnyH_take (i := 2) (v := ?_) rfl (by kernel_rfl) (by kernel_rfl) (by kernel_rfl) (fun _ _ _ h => h) (Or.inl ⟨by rfl, ?_⟩) hHeld ?_
          rotate_left
          · intro w hSw
            (try dsimp only at hSw)
            (try simp only [List.getElem_toArray, List.getElem_cons_zero, List.getElem_cons_succ])
            go_simp
            all_goals with_reducible rfl
          try simp only [List.getElem_toArray, List.getElem_cons_zero, List.getElem_cons_succ, Act.put, List.setIfInBounds_toArray, List.set_cons_zero, List.set_cons_succ]
          refine wpAnyH_take (i := 4) (v := ?_) rfl (by kernel_rfl) (by kernel_rfl) (by kernel_rfl) (fun _ _ _ h => h) (Or.inl ⟨by rfl, ?_⟩) hHeld ?_
          rotate_left
          · intro w hSw
            (try dsimp only at hSw)
            (try simp only [List.getElem_toArray, List.getElem_cons_zero, List.getElem_cons_succ])
            go_simp
            all_goals with_reducible rfl
          try simp only [List.getElem_toArray, List.getElem_cons_zero, List.getElem_cons_succ, Act.put, List.setIfInBounds_toArray, List.set_cons_zero, List.set_cons_succ]
          refine wpAnyH_take (i := 5) (v := ?_) rfl (by kernel_rfl) (by kernel_rfl) (by kernel_rfl) (fun _ _ _ h => h) (Or.inl ⟨by rfl, ?_⟩) hHeld ?_
          rotate_left
          · intro w hSw
            (try dsimp only at hSw)
            (try simp only [List.getElem_toArray, List.getElem_cons_zero, List.getElem_cons_succ])
            go_simp
            all_goals with_reducible rfl
          try simp only [List.getElem_toArray, List.getElem_cons_zero, List.getElem_cons_succ, Act.put, List.setIfInBounds_toArray, List.set_cons_zero, List.set_cons_succ]
          refine wpAnyH_take (i := 6) (v := ?_) rfl (by kernel_rfl) (by kernel_rfl) (by kernel_rfl) (fun _ _ _ h => h) (Or.inl ⟨by rfl, ?_⟩) hHeld ?_
          rotate_left
          · intro w hSw
            (try dsimp only at hSw)
            (try simp only [List.getElem_toArray, List.getElem_cons_zero, List.getElem_cons_succ])
            go_simp
            all_goals with_reducible rfl
          try simp only [List.getElem_toArray, List.getElem_cons_zero, List.getElem_cons_succ, Act.put, List.setIfInBounds_toArray, List.set_cons_zero, List.set_cons_succ]
          refine wpAnyH_take (i := 7) (v := ?_) rfl (by kernel_rfl) (by kernel_rfl) (by kernel_rfl) (fun _ _ _ h => h) (Or.inl ⟨by rfl, ?_⟩) hHeld ?_
          rotate_left
          · intro w hSw
            (try dsimp only at hSw)
            (try simp only [List.getElem_toArray, List.getElem_cons_zero, List.getElem_cons_succ])
            go_simp
            all_goals with_reducible rfl
          try simp only [List.getElem_toArray, List.getElem_cons_zero, List.getElem_cons_succ, Act.put, List.setIfInBounds_toArray, List.set_cons_zero, List.set_cons_succ]
          refine wpAnyH_take (i := 8) (v := ?_) rfl (by kernel_rfl) (by kernel_rfl) (by kernel_rfl) (fun _ _ _ h => h) (Or.inl ⟨by rfl, ?_⟩) hHeld ?_
          rotate_left
          · intro w hSw
            (try dsimp only at hSw)
            (try simp only [List.getElem_toArray, List.getElem_cons_zero, List.getElem_cons_succ])
            go_simp
            all_goals with_reducible rfl
          try simp only [List.getElem_toArray, List.getElem_cons_zero, List.getElem_cons_succ, Act.put, List.setIfInBounds_toArray, List.set_cons_zero, List.set_cons_succ]
          refine wpAnyH_ready (rs := [3]) (by kernel_rfl) (by simp) ?_
          refine AllReadyH.cons rfl (fun K hK => ?_) AllReadyH.nil
          try simp only [List.getElem_toArray, List.getElem_cons_zero, List.getElem_cons_succ]
          go_simp
          refine (HSG.out _ HU8.out).mono ?_
          rintro e wn ⟨rfl, hbn⟩
          have AB := AB.trans (hbn.mono (AB.size))
          replace HG8 := Lib.hid (HG8.out.keep hbn)
          replace HPB := Lib.hid (HPB.out.keep hbn)
          replace HU8 := Lib.hid (HU8.out.keep hbn)
          replace HJx := Lib.hid (eats_keep HJx.out HAl.out hbn)
          replace HAl := Lib.hid (Nat.lt_of_lt_of_le HAl.out hbn.size)
          clear hbn
          go_wp2_with fail
          refine hK.out _ _ (⟨HG8.out.cell 0 rfl, HG8.out.cell 1 rfl, HG8.out.cell 2 rfl, HG8.out.cell 3 rfl, HG8.out.cell 4 rfl, HG8.out.cell 5 rfl, HPB.out.cell 0 rfl, HPB.out.cell 1 rfl, HJx.out⟩) (fun hHeld => ?_)
          clear hK K
          try simp only [List.getElem_toArray, List.getElem_cons_zero, List.getElem_cons_succ, Act.put, List.setIfInBounds_toArray, List.set_cons_zero, List.set_cons_succ]
          refine wpAnyH_ready (rs := [9]) (by kernel_rfl) (by simp) ?_
          refine AllReadyH.cons rfl (fun K hK => ?_) AllReadyH.nil
          try simp only [List.getElem_toArray, List.getElem_cons_zero, List.getElem_cons_succ]
          go_simp
          refine (HSQ.out _).mono ?_
          rintro e wn ⟨rfl, hbn⟩
          have AB := AB.trans (hbn.mono (AB.size))
          replace HG8 := Lib.hid (HG8.out.keep hbn)
          replace HPB := Lib.hid (HPB.out.keep hbn)
          replace HU8 := Lib.hid (HU8.out.keep hbn)
          replace HJx := Lib.hid (eats_keep HJx.out HAl.out hbn)
          replace HAl := Lib.hid (Nat.lt_of_lt_of_le HAl.out hbn.size)
          clear hbn
          go_wp2_with fail
          refine hK.out _ _ (⟨HG8.out.cell 0 rfl, HG8.out.cell 1 rfl, HG8.out.cell 2 rfl, HG8.out.cell 3 rfl, HG8.out.cell 4 rfl, HG8.out.cell 5 rfl, HPB.out.cell 0 rfl, HPB.out.cell 1 rfl, HJx.out⟩) (fun hHeld => ?_)
          clear hK K
          try simp only [List.getElem_toArray, List.getElem_cons_zero, List.getElem_cons_succ, Act.put, List.setIfInBounds_toArray, List.set_cons_zero, List.set_cons_succ]
          refine wpAnyH_ready (rs := [10]) (by kernel_rfl) (by simp) ?_
          refine AllReadyH.cons rfl (fun K hK => ?_) AllReadyH.nil
          try simp only [List.getElem_toArray, List.getElem_cons_zero, List.getElem_cons_succ]
          go_simp
          refine (HSC.out _).mono ?_
          rintro e wn ⟨rfl, hbn⟩
          have AB := AB.trans (hbn.mono (AB.size))
          replace HG8 := Lib.hid (HG8.out.keep hbn)
          replace HPB := Lib.hid (HPB.out.keep hbn)
          replace HU8 := Lib.hid (HU8.out.keep hbn)
          replace HJx := Lib.hid (eats_keep HJx.out HAl.out hbn)
          replace HAl := Lib.hid (Nat.lt_of_lt_of_le HAl.out hbn.size)
          clear hbn
          go_wp2_with fail
          refine hK.out _ _ (⟨HG8.out.cell 0 rfl, HG8.out.cell 1 rfl, HG8.out.cell 2 rfl, HG8.out.cell 3 rfl, HG8.out.cell 4 rfl, HG8.out.cell 5 rfl, HPB.out.cell 0 rfl, HPB.out.cell 1 rfl, HJx.out⟩) (fun hHeld => ?_)
          clear hK K
          try simp only [List.getElem_toArray, List.getElem_cons_zero, List.getElem_cons_succ, Act.put, List.setIfInBounds_toArray, List.set_cons_zero, List.set_cons_succ]
          refine wpAnyH_ready (rs := [11]) (by kernel_rfl) (by simp) ?_
          refine AllReadyH.cons rfl (fun K hK => ?_) AllReadyH.nil
          try simp only [List.getElem_toArray, List.getElem_cons_zero, List.getElem_cons_succ]
          go_simp
          refine (HCD.out _).mono ?_
          rintro e wn ⟨rfl, hbn⟩
          have AB := AB.trans (hbn.mono (AB.size))
          replace HG8 := Lib.hid (HG8.out.keep hbn)
          replace HPB := Lib.hid (HPB.out.keep hbn)
          replace HU8 := Lib.hid (HU8.out.keep hbn)
          replace HJx := Lib.hid (eats_keep HJx.out HAl.out hbn)
          replace HAl := Lib.hid (Nat.lt_of_lt_of_le HAl.out hbn.size)
          clear hbn
          go_wp2_with fail
          refine hK.out _ _ (⟨HG8.out.cell 0 rfl, HG8.out.cell 1 rfl, HG8.out.cell 2 rfl, HG8.out.cell 3 rfl, HG8.out.cell 4 rfl, HG8.out.cell 5 rfl, HPB.out.cell 0 rfl, HPB.out.cell 1 rfl, HJx.out⟩) (fun hHeld => ?_)
          clear hK K
          try simp only [List.getElem_toArray, List.getElem_cons_zero, List.getElem_cons_succ, Act.put, List.setIfInBounds_toArray, List.set_cons_zero, List.set_cons_succ]
          refine wpAnyH_take (i := 12) (v := ?_) rfl (by kernel_rfl) (by kernel_rfl) (by kernel_rfl) (fun _ _ _ h => h) (Or.inl ⟨by rfl, ?_⟩) hHeld ?_
          rotate_left
          · intro w hSw
            (try dsimp only at hSw)
            (try simp only [List.getElem_toArray, List.getElem_cons_zero, List.getElem_cons_succ])
            go_simp
            all_goals with_reducible rfl
          try simp only [List.getElem_toArray, List.getElem_cons_zero, List.getElem_cons_succ, Act.put, List.setIfInBounds_toArray, List.set_cons_zero, List.set_cons_succ]
          refine wpAnyH_done (by kernel_rfl) ?_ _
          have HFz := Lib.hid (HF8.out.keep AB)
          have HWz := Lib.hid (below2 HW8.out AB)
          have hb1 := Go.Proofs.Yteiildeaccngjaa.keep AB HVB8.out.1
          have hbl := Nat.lt_of_lt_of_le HVB8.out.2 AB.size
          have f2 := HFz.out.cell 2 rfl
          have fl := HFz.out.lt
          clear HG8 HPB HU8 HJx HAl HF8 HW8 HVB8 HSG HSQ HSC HCD AB
          go_wp2_with fail
          exact ⟨⟨r + 1, hrn, by go_num, HWz⟩, by simp [intOf]; omega⟩
    · obtain rfl : r = U := by omega
      have HRr := Lib.hid (HR7.out.keep HW.out)
      have HUr := Lib.hid (HU7.out.keep HW.out)
      have HBr := Lib.hid (below2 HB7.out HW.out)
      have k0 := HRr.out.cell 0 rfl
      have k1 := HRr.out.cell 1 rfl
      have k2 := HRr.out.cell 2 rfl
      have k3 := HRr.out.cell 3 rfl
      have k4 := HRr.out.cell 4 rfl
      have k5 := HRr.out.cell 5 rfl
      have kl := HRr.out.lt
      clear HR7 HU7 HB7 HW HG7 HF7 HV7 HNR
      go_wp2_with fail
      refine (HMR.out _ HUr.out).mono ?_
      rintro e w8 ⟨za, zb, zA, zn, zc, rfl, hb⟩
      have hal : Below w8.heap.size w8 (w8.alloc (.cells #[.int .i64 za, .int .i64 zb, .slice zA zn zc] 36)) := (Below.refl _ _).alloc (Nat.le_refl _) _
      have HR8 := Lib.hid ((HRr.out.keep hb).keep hal)
      have HB8 := Lib.hid (below2 (below2 HBr.out hb) hal)
      clear hb hal HRr HBr HUr k0 k1 k2 k3 k4 k5 kl HMR
      have k0 := HR8.out.cell 0 rfl
      have k1 := HR8.out.cell 1 rfl
      have k2 := HR8.out.cell 2 rfl
      have k3 := HR8.out.cell 3 rfl
      have k4 := HR8.out.cell 4 rfl
      have k5 := HR8.out.cell 5 rfl
      have kl := HR8.out.lt
      go_wp2_with fail
      refine (HGR.out _).mono ?_
      rintro e w9 ⟨rfl, hb⟩
      have HB9 := Lib.hid (below2 HB8.out hb)
      clear hb
      have hself : (checkG r0 r1 r2 r3 r4 r5 == checkG r0 r1 r2 r3 r4 r5) = true := by simp
      generalize checkG r0 r1 r2 r3 r4 r5 = CK at *
      go_wp2_with fail
      go_ret
      exact ⟨by simp, HB9.out⟩
end Go.Proofs.Yteiildeaccngjaa
