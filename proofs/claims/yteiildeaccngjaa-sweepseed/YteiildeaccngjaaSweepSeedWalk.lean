/-
  The walk of punchcutlaw13.SweepSeed, over what the program is to do (no claim is made here).
-/
import Derived.Test.YteiildeaccngjaaSwp4
import Derived.Test.YteiildeaccngjaaMgrd
namespace Go.Proofs.Yteiildeaccngjaa
open Go.RowKit

set_option maxRecDepth 100000 in
set_option maxHeartbeats 3200000 in
theorem sweepSeed_walk (H : SwpOK) (A : Option Addr) (n cap : Nat) (cs : List (List Dot)) (s0 s1 s2 s3 s4 s5 : Int) (m : Int) (w : World) (hcs : DotRows w A n cap cs) (hs : (0 ≤ s0 ∧ s0 ≤ 255) ∧ (0 ≤ s1 ∧ s1 ≤ 255) ∧ (0 ≤ s2 ∧ s2 ≤ 255) ∧ (0 ≤ s3 ∧ s3 ≤ 255) ∧ (0 ≤ s4 ∧ s4 ≤ 255) ∧ (0 ≤ s5 ∧ s5 ≤ 255)) (hm : 0 ≤ m ∧ m ≤ 255) :
    Calls Try.prog 8 #[.slice A n cap, .agg #[.int .u8 s0, .int .u8 s1, .int .u8 s2, .int .u8 s3, .int .u8 s4, .int .u8 s5], .int .u8 m] w fun e w' => e = .returned (.bool true) ∧ Below w.heap.size w w' := by
  have HD := Lib.hid hcs
  have HAW := Lib.hid (fun w => awake13 H w)
  obtain ⟨h0, h1, h2, h3, h4, h5⟩ := hs
  have HS := Lib.hid (fun w => sgrid_any s0 s1 s2 s3 s4 s5 h0 h1 h2 h3 h4 h5 w)
  have HB0 := Lib.hid ((Below.refl _ w).alloc (Nat.le_refl _) (.cells #[.int .u8 s0, .int .u8 s1, .int .u8 s2, .int .u8 s3, .int .u8 s4, .int .u8 s5] 24))
  have HK0 := Lib.hid (Blk.new w 24 [.int .u8 s0, .int .u8 s1, .int .u8 s2, .int .u8 s3, .int .u8 s4, .int .u8 s5] rfl)
  have hck : checkG (s0 - 128) (s1 - 128) (1 + s2 % 16) (1 + s3 % 10) (1 + s4 % 10) (1 + s5 % 64) = 0 := by unfold checkG; rw [if_neg (by omega), if_neg (by omega)]
  obtain ⟨u, hu⟩ : ∃ u : Nat, 1 + s3 % 10 = u := ⟨(1 + s3 % 10).toNat, by omega⟩
  obtain ⟨v, hv⟩ : ∃ v : Nat, 1 + s4 % 10 = v := ⟨(1 + s4 % 10).toNat, by omega⟩
  rw [hu, hv] at hck HS
  have bu : 1 ≤ u ∧ u ≤ 10 := by omega
  have bv : 1 ≤ v ∧ v ≤ 10 := by omega
  have bx : -128 ≤ s0 - 128 ∧ s0 - 128 ≤ 127 := by omega
  have by' : -128 ≤ s1 - 128 ∧ s1 - 128 ≤ 127 := by omega
  have bp : 1 ≤ 1 + s2 % 16 ∧ 1 + s2 % 16 ≤ 16 := by omega
  have bs : 1 ≤ 1 + s5 % 64 ∧ 1 + s5 % 64 ≤ 64 := by omega
  clear h0 h1 h2 h3 h4 h5 hu hv hcs
  generalize s0 - 128 = x at *
  generalize s1 - 128 = y at *
  generalize 1 + s2 % 16 = p at *
  generalize 1 + s5 % 64 = s at *
  go_enter Try.func8, Try.ntmps8
  go_wp2_with fail
  refine (HAW.out _).mono ?_
  rintro e w1 ⟨rfl, hb⟩
  have HK1 := Lib.hid (HK0.out.keep hb)
  have HB1 := Lib.hid (below2 HB0.out hb)
  have HC := Lib.hid (glyph7 A n cap cs w1 (HD.out.keep HB1.out))
  clear hb HK0 HB0 HD HAW
  go_wp2_with fail
  refine HC.out.mono ?_
  rintro e w2 ⟨U, es, rfl, hU, hln, hin, hcl, hb⟩
  have HK2 := Lib.hid (HK1.out.keep hb)
  have HB2 := Lib.hid (below2 HB1.out hb)
  have HU2 := Lib.hid hU.read
  have HIN := Lib.hid hin
  have HCL := Lib.hid hcl
  have hln2 : es.length ≤ 200000 := by omega
  have HLN := Lib.hid hln2
  obtain ⟨Au, capu, rfl⟩ := hU.form
  obtain ⟨N, hN⟩ : ∃ N, es.length = N := ⟨_, rfl⟩
  rw [hN] at HU2
  rw [hN]
  have HN := Lib.hid hN
  clear hb HK1 HB1 hU hin hcl hln hln2 hN HC
  have k0 := HK2.out.cell 0 rfl
  have k1 := HK2.out.cell 1 rfl
  have k2 := HK2.out.cell 2 rfl
  have k3 := HK2.out.cell 3 rfl
  have k4 := HK2.out.cell 4 rfl
  have k5 := HK2.out.cell 5 rfl
  have kl := HK2.out.lt
  go_wp2_with fail
  refine (HS.out _).mono ?_
  rintro e w3 ⟨rfl, hb⟩
  have HU3 := Lib.hid (HU2.out.keep hb)
  have HB3 := Lib.hid (below2 HB2.out hb)
  have HK3 := Lib.hid (HK2.out.keep hb)
  clear hb HU2 HB2 HK2 k0 k1 k2 k3 k4 k5 kl
  go_wp2_with fail
  have hal : Below w3.heap.size w3 (w3.alloc (.cells #[.int .i64 x, .int .i64 y, .int .i64 p, .int .i64 u, .int .i64 v, .int .i64 s] 29)) := (Below.refl _ _).alloc (Nat.le_refl _) _
  have HU4 := Lib.hid (HU3.out.keep hal)
  have HB4 := Lib.hid (below2 HB3.out hal)
  have HG4 := Lib.hid (Blk.new w3 29 [.int .i64 x, .int .i64 y, .int .i64 p, .int .i64 u, .int .i64 v, .int .i64 s] rfl)
  clear hal HU3 HB3 HK3
  generalize w3.alloc (.cells #[.int .i64 x, .int .i64 y, .int .i64 p, .int .i64 u, .int .i64 v, .int .i64 s] 29) = w4 at *
  generalize w3.heap.size = G at *
  have HM1 := Lib.hid (fun w h => H.known (.slice Au N capu) es x y p s u v w h HLN.out HIN.out hck)
  have hUV : u * v ≤ 100 := Nat.mul_le_mul bu.2 bv.2
  have HLE := Lib.hid (knownL_len es x y p u v)
  have HKI := Lib.hid (knownL_in es x y p u v (by omega) (by omega))
  have HKS := Lib.hid (fun (r : Nat) (hr : r < es.length) => knownL_seed es x y p u v (by omega) (by omega) r 0 hr (by omega))
  generalize knownL es x y p u v = kk at *
  obtain ⟨U, hU⟩ : ∃ U, u * v = U := ⟨_, rfl⟩
  have hUw : IntKind.i64.wrap ((u : Int) * v) = (U : Int) := by rw [← hU, Int.natCast_mul]; exact wI (by rw [← Int.natCast_mul]; omega) (by rw [← Int.natCast_mul]; omega)
  have HUL := Lib.hid hU
  rw [hU] at HLE hUV
  rw [HN.out] at HKI HKS
  clear hck hU
  have g0 := HG4.out.cell 0 rfl
  have g1 := HG4.out.cell 1 rfl
  have g2 := HG4.out.cell 2 rfl
  have g3 := HG4.out.cell 3 rfl
  have g4 := HG4.out.cell 4 rfl
  have g5 := HG4.out.cell 5 rfl
  have gl := HG4.out.lt
  go_wp2_with fail
  refine (HM1.out _ HU4.out).mono ?_
  rintro e w5 ⟨V, rfl, hV, hb⟩
  obtain ⟨Av, capv, rfl⟩ := hV.form
  rw [HLE.out] at hV ⊢
  have HV5 := Lib.hid hV
  have HU5 := Lib.hid (HU4.out.keep hb)
  have HG5 := Lib.hid (HG4.out.keep hb)
  have HB5 := Lib.hid (below2 HB4.out hb)
  clear hb hV HU4 HG4 HB4 HM1 g0 g1 g2 g3 g4 g5 gl
  have k0 := HG5.out.cell 0 rfl
  have k1 := HG5.out.cell 1 rfl
  have k2 := HG5.out.cell 2 rfl
  have k3 := HG5.out.cell 3 rfl
  have k4 := HG5.out.cell 4 rfl
  have k5 := HG5.out.cell 5 rfl
  have kl := HG5.out.lt
  by_cases hN0 : N = 0
  · subst hN0
    go_wp2_with fail
    go_ret
    exact ⟨rfl, HB5.out⟩
  · have hN1 : (0 : Int) < (N : Int) := by omega
    have hNb : ((N : Int) == 0) = false := by simp; omega
    obtain ⟨n8, rfl⟩ : ∃ n8 : Nat, m = n8 := ⟨m.toNat, by omega⟩
    obtain ⟨q, hq⟩ : ∃ q, n8 % N = q := ⟨_, rfl⟩
    have hqN : q < N := by rw [← hq]; exact Nat.mod_lt _ (by omega)
    have hq1 : (n8 : Int) % (N : Int) = (q : Int) := by rw [← hq]; rfl
    have hq2 : (n8 : Int).tmod (N : Int) = (q : Int) := by rw [Int.tmod_eq_emod_of_nonneg (by omega)]; exact hq1
    obtain ⟨E, hE⟩ : ∃ c, es[q]? = some c := ⟨_, List.getElem?_eq_getElem (by rw [HN.out]; exact hqN)⟩
    obtain ⟨ae, e, hae, e0, e1, e2, e3⟩ := HU5.out.at q E hE
    subst e
    have hIE := HIN.out E (List.mem_of_getElem? hE)
    have HKQ := Lib.hid (HKS.out q hqN)
    have hgE : es.getD q edZ = E := by rw [List.getD_eq_getElem?_getD, hE]; rfl
    rw [hgE] at HKQ
    clear hq HKS
    go_wp2_with fail
    have hal : Below w5.heap.size w5 (w5.alloc (.cells #[.int .i64 E.a.x, .int .i64 E.a.y, .int .i64 E.b.x, .int .i64 E.b.y] 50)) := (Below.refl _ _).alloc (Nat.le_refl _) _
    have HE6 := Lib.hid (Blk.new w5 50 [.int .i64 E.a.x, .int .i64 E.a.y, .int .i64 E.b.x, .int .i64 E.b.y] rfl)
    have HG6 := Lib.hid (HG5.out.keep hal)
    have HV6 := Lib.hid (HV5.out.keep hal)
    have HU6 := Lib.hid (HU5.out.keep hal)
    have HB6 := Lib.hid (below2 HB5.out hal)
    clear hal HG5 HV5 HU5 HB5 e0 e1 e2 e3 hae k0 k1 k2 k3 k4 k5 kl
    generalize w5.alloc (.cells #[.int .i64 E.a.x, .int .i64 E.a.y, .int .i64 E.b.x, .int .i64 E.b.y] 50) = w6 at *
    generalize w5.heap.size = F at *
    obtain ⟨hEa, hEb⟩ := hIE
    have HF1 := Lib.hid (fun w => floor_any (E.a.x - 32 * x) (32 * p) (by omega) (by omega) w)
    have HF2 := Lib.hid (fun w => floor_any (E.a.y - 32 * y) (32 * p) (by omega) (by omega) w)
    have h1 : IntKind.i64.wrap (32 * x) = 32 * x := wI (by omega) (by omega)
    have h2 : IntKind.i64.wrap (E.a.x - 32 * x) = E.a.x - 32 * x := wI (by omega) (by omega)
    have h3 : IntKind.i64.wrap (32 * p) = 32 * p := wI (by omega) (by omega)
    have h4 : IntKind.i64.wrap (32 * y) = 32 * y := wI (by omega) (by omega)
    have h5 : IntKind.i64.wrap (E.a.y - 32 * y) = E.a.y - 32 * y := wI (by omega) (by omega)
    have HPX : Hid (plS (ptE E 0).x x u p = (max 0 (min ((u : Int) - 1) ((E.a.x - 32 * x) / (32 * p)))).toNat) := Lib.hid rfl
    have HPY : Hid (plS (ptE E 0).y y v p = (max 0 (min ((v : Int) - 1) ((E.a.y - 32 * y) / (32 * p)))).toNat) := Lib.hid rfl
    generalize (E.a.x - 32 * x) / (32 * p) = I at *
    generalize (E.a.y - 32 * y) / (32 * p) = K at *
    have hd : Below w6.heap.size w6 w6.drew := (Below.refl _ w6).drew
    have AB := HB6.out.drew
    replace HG6 := Lib.hid (HG6.out.keep hd)
    replace HE6 := Lib.hid (HE6.out.keep hd)
    replace HV6 := Lib.hid (HV6.out.keep hd)
    replace HU6 := Lib.hid (HU6.out.keep hd)
    clear hd HB6
    refine wp_region_held_drew (S := fun wx => wx.cell? ⟨G, 0, none⟩ = some (.int .i64 x) ∧ wx.cell? ⟨G, 1, none⟩ = some (.int .i64 y) ∧ wx.cell? ⟨G, 2, none⟩ = some (.int .i64 p) ∧ wx.cell? ⟨G, 3, none⟩ = some (.int .i64 u) ∧ wx.cell? ⟨G, 4, none⟩ = some (.int .i64 v) ∧ wx.cell? ⟨G, 5, none⟩ = some (.int .i64 s) ∧ wx.cell? ⟨F, 0, none⟩ = some (.int .i64 E.a.x) ∧ wx.cell? ⟨F, 1, none⟩ = some (.int .i64 E.a.y) ∧ wx.cell? ⟨F, 2, none⟩ = some (.int .i64 E.b.x) ∧ wx.cell? ⟨F, 3, none⟩ = some (.int .i64 E.b.y)) (by kernel_rfl) (⟨HG6.out.cell 0 rfl, HG6.out.cell 1 rfl, HG6.out.cell 2 rfl, HG6.out.cell 3 rfl, HG6.out.cell 4 rfl, HG6.out.cell 5 rfl, HE6.out.cell 0 rfl, HE6.out.cell 1 rfl, HE6.out.cell 2 rfl, HE6.out.cell 3 rfl⟩) (fun hHeld => ?_)
    generalize w6.drew = w7 at *
    refine wpAnyH_take (i := 0) (v := ?_) rfl (by kernel_rfl) (by kernel_rfl) (by kernel_rfl) (fun _ _ _ h => h) (Or.inl ⟨by rfl, ?_⟩) hHeld ?_
    rotate_left
    · intro w hSw
      (try dsimp only at hSw)
      (try simp only [List.getElem_toArray, List.getElem_cons_zero])
      go_simp
      all_goals with_reducible rfl
    try simp only [List.getElem_toArray, List.getElem_cons_zero, Act.put, List.setIfInBounds_toArray, List.set_cons_zero, List.set_cons_succ]
    refine wpAnyH_take (i := 1) (v := ?_) rfl (by kernel_rfl) (by kernel_rfl) (by kernel_rfl) (fun _ _ _ h => h) (Or.inl ⟨by rfl, ?_⟩) hHeld ?_
    rotate_left
    · intro w hSw
      (try dsimp only at hSw)
      (try simp only [List.getElem_toArray, List.getElem_cons_zero, List.getElem_cons_succ])
      go_simp
      all_goals with_reducible rfl
    try simp only [List.getElem_toArray, List.getElem_cons_zero, List.getElem_cons_succ, Act.put, List.setIfInBounds_toArray, List.set_cons_zero, List.set_cons_succ]
    refine wpAnyH_take (i := 2) (v := ?_) rfl (by kernel_rfl) (by kernel_rfl) (by kernel_rfl) (fun _ _ _ h => h) (Or.inl ⟨by rfl, ?_⟩) hHeld ?_
    rotate_left
    · intro w hSw
      (try dsimp only at hSw)
      (try simp only [List.getElem_toArray, List.getElem_cons_zero, List.getElem_cons_succ])
      go_simp
      all_goals with_reducible rfl
    try simp only [List.getElem_toArray, List.getElem_cons_zero, List.getElem_cons_succ, Act.put, List.setIfInBounds_toArray, List.set_cons_zero, List.set_cons_succ]
    refine wpAnyH_take (i := 3) (v := ?_) rfl (by kernel_rfl) (by kernel_rfl) (by kernel_rfl) (fun _ _ _ h => h) (Or.inl ⟨by rfl, ?_⟩) hHeld ?_
    rotate_left
    · intro w hSw
      (try dsimp only at hSw)
      (try simp only [List.getElem_toArray, List.getElem_cons_zero, List.getElem_cons_succ])
      go_simp
      all_goals with_reducible rfl
    try simp only [List.getElem_toArray, List.getElem_cons_zero, List.getElem_cons_succ, Act.put, List.setIfInBounds_toArray, List.set_cons_zero, List.set_cons_succ]
    refine wpAnyH_take (i := 4) (v := ?_) rfl (by kernel_rfl) (by kernel_rfl) (by kernel_rfl) (fun _ _ _ h => h) (Or.inl ⟨by rfl, ?_⟩) hHeld ?_
    rotate_left
    · intro w hSw
      (try dsimp only at hSw)
      (try simp only [List.getElem_toArray, List.getElem_cons_zero, List.getElem_cons_succ])
      go_simp
      all_goals with_reducible rfl
    try simp only [List.getElem_toArray, List.getElem_cons_zero, List.getElem_cons_succ, Act.put, List.setIfInBounds_toArray, List.set_cons_zero, List.set_cons_succ]
    refine wpAnyH_take (i := 5) (v := ?_) rfl (by kernel_rfl) (by kernel_rfl) (by kernel_rfl) (fun _ _ _ h => h) (Or.inl ⟨by rfl, ?_⟩) hHeld ?_
    rotate_left
    · intro w hSw
      (try dsimp only at hSw)
      (try simp only [List.getElem_toArray, List.getElem_cons_zero, List.getElem_cons_succ])
      go_simp
      all_goals with_reducible rfl
    try simp only [List.getElem_toArray, List.getElem_cons_zero, List.getElem_cons_succ, Act.put, List.setIfInBounds_toArray, List.set_cons_zero, List.set_cons_succ]
    refine wpAnyH_take (i := 6) (v := ?_) rfl (by kernel_rfl) (by kernel_rfl) (by kernel_rfl) (fun _ _ _ h => h) (Or.inl ⟨by rfl, ?_⟩) hHeld ?_
    rotate_left
    · intro w hSw
      (try dsimp only at hSw)
      (try simp only [List.getElem_toArray, List.getElem_cons_zero, List.getElem_cons_succ])
      go_simp
      all_goals with_reducible rfl
    try simp only [List.getElem_toArray, List.getElem_cons_zero, List.getElem_cons_succ, Act.put, List.setIfInBounds_toArray, List.set_cons_zero, List.set_cons_succ]
    refine wpAnyH_take (i := 7) (v := ?_) rfl (by kernel_rfl) (by kernel_rfl) (by kernel_rfl) (fun _ _ _ h => h) (Or.inl ⟨by rfl, ?_⟩) hHeld ?_
    rotate_left
    · intro w hSw
      (try dsimp only at hSw)
      (try simp only [List.getElem_toArray, List.getElem_cons_zero, List.getElem_cons_succ])
      go_simp
      all_goals with_reducible rfl
    try simp only [List.getElem_toArray, List.getElem_cons_zero, List.getElem_cons_succ, Act.put, List.setIfInBounds_toArray, List.set_cons_zero, List.set_cons_succ]
    refine wpAnyH_take (i := 8) (v := ?_) rfl (by kernel_rfl) (by kernel_rfl) (by kernel_rfl) (fun _ _ _ h => h) (Or.inl ⟨by rfl, ?_⟩) hHeld ?_
    rotate_left
    · intro w hSw
      (try dsimp only at hSw)
      (try simp only [List.getElem_toArray, List.getElem_cons_zero, List.getElem_cons_succ])
      go_simp
      all_goals with_reducible rfl
    try simp only [List.getElem_toArray, List.getElem_cons_zero, List.getElem_cons_succ, Act.put, List.setIfInBounds_toArray, List.set_cons_zero, List.set_cons_succ]
    refine wpAnyH_take (i := 9) (v := ?_) rfl (by kernel_rfl) (by kernel_rfl) (by kernel_rfl) (fun _ _ _ h => h) (Or.inl ⟨by rfl, ?_⟩) hHeld ?_
    rotate_left
    · intro w hSw
      (try dsimp only at hSw)
      (try simp only [List.getElem_toArray, List.getElem_cons_zero, List.getElem_cons_succ])
      go_simp
      all_goals with_reducible rfl
    try simp only [List.getElem_toArray, List.getElem_cons_zero, List.getElem_cons_succ, Act.put, List.setIfInBounds_toArray, List.set_cons_zero, List.set_cons_succ]
    refine wpAnyH_take (i := 11) (v := ?_) rfl (by kernel_rfl) (by kernel_rfl) (by kernel_rfl) (fun _ _ _ h => h) (Or.inl ⟨by rfl, ?_⟩) hHeld ?_
    rotate_left
    · intro w hSw
      (try dsimp only at hSw)
      (try simp only [List.getElem_toArray, List.getElem_cons_zero, List.getElem_cons_succ])
      go_simp
      all_goals with_reducible rfl
    try simp only [List.getElem_toArray, List.getElem_cons_zero, List.getElem_cons_succ, Act.put, List.setIfInBounds_toArray, List.set_cons_zero, List.set_cons_succ]
    refine wpAnyH_take (i := 12) (v := ?_) rfl (by kernel_rfl) (by kernel_rfl) (by kernel_rfl) (fun _ _ _ h => h) (Or.inl ⟨by rfl, ?_⟩) hHeld ?_
    rotate_left
    · intro w hSw
      (try dsimp only at hSw)
      (try simp only [List.getElem_toArray, List.getElem_cons_zero, List.getElem_cons_succ])
      go_simp
      all_goals with_reducible rfl
    try simp only [List.getElem_toArray, List.getElem_cons_zero, List.getElem_cons_succ, Act.put, List.setIfInBounds_toArray, List.set_cons_zero, List.set_cons_succ]
    refine wpAnyH_take (i := 13) (v := ?_) rfl (by kernel_rfl) (by kernel_rfl) (by kernel_rfl) (fun _ _ _ h => h) (Or.inl ⟨by rfl, ?_⟩) hHeld ?_
    rotate_left
    · intro w hSw
      (try dsimp only at hSw)
      (try simp only [List.getElem_toArray, List.getElem_cons_zero, List.getElem_cons_succ])
      go_simp
      all_goals with_reducible rfl
    try simp only [List.getElem_toArray, List.getElem_cons_zero, List.getElem_cons_succ, Act.put, List.setIfInBounds_toArray, List.set_cons_zero, List.set_cons_succ]
    refine wpAnyH_take (i := 14) (v := ?_) rfl (by kernel_rfl) (by kernel_rfl) (by kernel_rfl) (fun _ _ _ h => h) (Or.inl ⟨by rfl, ?_⟩) hHeld ?_
    rotate_left
    · intro w hSw
      (try dsimp only at hSw)
      (try simp only [List.getElem_toArray, List.getElem_cons_zero, List.getElem_cons_succ])
      go_simp
      all_goals with_reducible rfl
    try simp only [List.getElem_toArray, List.getElem_cons_zero, List.getElem_cons_succ, Act.put, List.setIfInBounds_toArray, List.set_cons_zero, List.set_cons_succ]
    refine wpAnyH_take (i := 15) (v := ?_) rfl (by kernel_rfl) (by kernel_rfl) (by kernel_rfl) (fun _ _ _ h => h) (Or.inl ⟨by rfl, ?_⟩) hHeld ?_
    rotate_left
    · intro w hSw
      (try dsimp only at hSw)
      (try simp only [List.getElem_toArray, List.getElem_cons_zero, List.getElem_cons_succ])
      go_simp
      all_goals with_reducible rfl
    try simp only [List.getElem_toArray, List.getElem_cons_zero, List.getElem_cons_succ, Act.put, List.setIfInBounds_toArray, List.set_cons_zero, List.set_cons_succ]
    refine wpAnyH_take (i := 16) (v := ?_) rfl (by kernel_rfl) (by kernel_rfl) (by kernel_rfl) (fun _ _ _ h => h) (Or.inl ⟨by rfl, ?_⟩) hHeld ?_
    rotate_left
    · intro w hSw
      (try dsimp only at hSw)
      (try simp only [List.getElem_toArray, List.getElem_cons_zero, List.getElem_cons_succ])
      go_simp
      all_goals with_reducible rfl
    try simp only [List.getElem_toArray, List.getElem_cons_zero, List.getElem_cons_succ, Act.put, List.setIfInBounds_toArray, List.set_cons_zero, List.set_cons_succ]
    refine wpAnyH_take (i := 17) (v := ?_) rfl (by kernel_rfl) (by kernel_rfl) (by kernel_rfl) (fun _ _ _ h => h) (Or.inl ⟨by rfl, ?_⟩) hHeld ?_
    rotate_left
    · intro w hSw
      (try dsimp only at hSw)
      (try simp only [List.getElem_toArray, List.getElem_cons_zero, List.getElem_cons_succ])
      go_simp
      all_goals with_reducible rfl
    try simp only [List.getElem_toArray, List.getElem_cons_zero, List.getElem_cons_succ, Act.put, List.setIfInBounds_toArray, List.set_cons_zero, List.set_cons_succ]
    refine wpAnyH_take (i := 18) (v := ?_) rfl (by kernel_rfl) (by kernel_rfl) (by kernel_rfl) (fun _ _ _ h => h) (Or.inl ⟨by rfl, ?_⟩) hHeld ?_
    rotate_left
    · intro w hSw
      (try dsimp only at hSw)
      (try simp only [List.getElem_toArray, List.getElem_cons_zero, List.getElem_cons_succ])
      go_simp
      all_goals with_reducible rfl
    try simp only [List.getElem_toArray, List.getElem_cons_zero, List.getElem_cons_succ, Act.put, List.setIfInBounds_toArray, List.set_cons_zero, List.set_cons_succ]
    refine wpAnyH_take (i := 19) (v := ?_) rfl (by kernel_rfl) (by kernel_rfl) (by kernel_rfl) (fun _ _ _ h => h) (Or.inl ⟨by rfl, ?_⟩) hHeld ?_
    rotate_left
    · intro w hSw
      (try dsimp only at hSw)
      (try simp only [List.getElem_toArray, List.getElem_cons_zero, List.getElem_cons_succ])
      go_simp
      all_goals with_reducible rfl
    try simp only [List.getElem_toArray, List.getElem_cons_zero, List.getElem_cons_succ, Act.put, List.setIfInBounds_toArray, List.set_cons_zero, List.set_cons_succ]
    refine wpAnyH_take (i := 20) (v := ?_) rfl (by kernel_rfl) (by kernel_rfl) (by kernel_rfl) (fun _ _ _ h => h) (Or.inl ⟨by rfl, ?_⟩) hHeld ?_
    rotate_left
    · intro w hSw
      (try dsimp only at hSw)
      (try simp only [List.getElem_toArray, List.getElem_cons_zero, List.getElem_cons_succ])
      go_simp
      all_goals with_reducible rfl
    try simp only [List.getElem_toArray, List.getElem_cons_zero, List.getElem_cons_succ, Act.put, List.setIfInBounds_toArray, List.set_cons_zero, List.set_cons_succ]
    refine wpAnyH_ready (rs := [10]) (by kernel_rfl) (by simp) ?_
    refine AllReadyH.cons rfl (fun K hK => ?_) AllReadyH.nil
    try simp only [List.getElem_toArray, List.getElem_cons_zero, List.getElem_cons_succ]
    go_simp
    refine (HF1.out _).mono ?_
    rintro e wn ⟨rfl, rfl⟩
    go_wp2_with fail
    refine hK.out _ _ (⟨HG6.out.cell 0 rfl, HG6.out.cell 1 rfl, HG6.out.cell 2 rfl, HG6.out.cell 3 rfl, HG6.out.cell 4 rfl, HG6.out.cell 5 rfl, HE6.out.cell 0 rfl, HE6.out.cell 1 rfl, HE6.out.cell 2 rfl, HE6.out.cell 3 rfl⟩) (fun hHeld => ?_)
    clear hK K
    try simp only [List.getElem_toArray, List.getElem_cons_zero, List.getElem_cons_succ, Act.put, List.setIfInBounds_toArray, List.set_cons_zero, List.set_cons_succ]
    refine wpAnyH_ready (rs := [21]) (by kernel_rfl) (by simp) ?_
    refine AllReadyH.cons rfl (fun K hK => ?_) AllReadyH.nil
    try simp only [List.getElem_toArray, List.getElem_cons_zero, List.getElem_cons_succ]
    go_simp
    refine (HF2.out _).mono ?_
    rintro e wn ⟨rfl, rfl⟩
    go_wp2_with fail
    refine hK.out _ _ (⟨HG6.out.cell 0 rfl, HG6.out.cell 1 rfl, HG6.out.cell 2 rfl, HG6.out.cell 3 rfl, HG6.out.cell 4 rfl, HG6.out.cell 5 rfl, HE6.out.cell 0 rfl, HE6.out.cell 1 rfl, HE6.out.cell 2 rfl, HE6.out.cell 3 rfl⟩) (fun hHeld => ?_)
    clear hK K
    try simp only [List.getElem_toArray, List.getElem_cons_zero, List.getElem_cons_succ, Act.put, List.setIfInBounds_toArray, List.set_cons_zero, List.set_cons_succ]
    refine wpAnyH_take (i := 22) (v := ?_) rfl (by kernel_rfl) (by kernel_rfl) (by kernel_rfl) (fun _ _ _ h => h) (Or.inl ⟨by rfl, ?_⟩) hHeld ?_
    rotate_left
    · intro w hSw
      (try dsimp only at hSw)
      (try simp only [List.getElem_toArray, List.getElem_cons_zero, List.getElem_cons_succ])
      go_simp
      all_goals with_reducible rfl
    try simp only [List.getElem_toArray, List.getElem_cons_zero, List.getElem_cons_succ, Act.put, List.setIfInBounds_toArray, List.set_cons_zero, List.set_cons_succ]
    refine wpAnyH_take (i := 23) (v := ?_) rfl (by kernel_rfl) (by kernel_rfl) (by kernel_rfl) (fun _ _ _ h => h) (Or.inl ⟨by rfl, ?_⟩) hHeld ?_
    rotate_left
    · intro w hSw
      (try dsimp only at hSw)
      (try simp only [List.getElem_toArray, List.getElem_cons_zero, List.getElem_cons_succ])
      go_simp
      all_goals with_reducible rfl
    try simp only [List.getElem_toArray, List.getElem_cons_zero, List.getElem_cons_succ, Act.put, List.setIfInBounds_toArray, List.set_cons_zero, List.set_cons_succ]
    refine wpAnyH_done (by kernel_rfl) ?_ _
    have HB7 := Lib.hid AB
    clear AB h1 h2 h3 h4 h5 HF1 HF2
    have g0 := HG6.out.cell 0 rfl
    have g1 := HG6.out.cell 1 rfl
    have g2 := HG6.out.cell 2 rfl
    have g3 := HG6.out.cell 3 rfl
    have g4 := HG6.out.cell 4 rfl
    have g5 := HG6.out.cell 5 rfl
    have gl := HG6.out.lt
    by_cases hio : 0 ≤ I ∧ 0 ≤ K ∧ I < (u : Int) ∧ K < (v : Int)
    case neg =>
      clear HG6 HE6 HV6 HU6 HKQ HPX HPY HKI HLE
      go_wp2_with fail
      all_goals first
        | (exfalso; omega)
        | (go_ret
           exact ⟨rfl, HB7.out⟩)
    case pos =>
      obtain ⟨o1, o2, o3, o4⟩ := hio
      obtain ⟨i, rfl⟩ := Int.eq_ofNat_of_zero_le o1
      obtain ⟨k, rfl⟩ := Int.eq_ofNat_of_zero_le o2
      have hi : i < u := by omega
      have hk : k < v := by omega
      have b1 : decide ((i : Int) < 0) = false := by simp
      have b2 : decide ((k : Int) < 0) = false := by simp
      have b3 : decide ((u : Int) ≤ (i : Int)) = false := by simp; omega
      have b4 : decide ((v : Int) ≤ (k : Int)) = false := by simp; omega
      have HC := Lib.hid (fun w => centre_any x y p u v s i k (by omega) (by omega) (by omega) (by omega) (by omega) w)
      have hPM : InP ⟨midG x p i, midG y p k⟩ := mid_in x y p i k (by omega) (by omega) bp (by omega) (by omega)
      clear o1 o2 o3 o4
      go_wp2_with fail
      obtain ⟨z, hz⟩ : ∃ z, k * u = z := ⟨_, rfl⟩
      have hzw : IntKind.i64.wrap ((k : Int) * u) = (z : Int) := by rw [← hz, Int.natCast_mul]; have := Nat.mul_le_mul (show k ≤ 10 by omega) (show u ≤ 10 by omega); exact wI (by rw [← Int.natCast_mul]; omega) (by rw [← Int.natCast_mul]; omega)
      obtain ⟨J, hJ⟩ : ∃ J, z + i = J := ⟨_, rfl⟩
      have hJU : J < U := by
        have h2 := Nat.mul_le_mul_right u (show k + 1 ≤ v by omega)
        rw [Nat.mul_comm v u, HUL.out, Nat.add_mul] at h2
        omega
      have hJw : IntKind.i64.wrap ((z : Int) + i) = (J : Int) := by rw [← hJ, Int.natCast_add]; exact wI (by omega) (by omega)
      have hcell : cellE x y p u v E 0 = J := by
        unfold cellE
        rw [HPX.out, HPY.out, ← hJ, ← hz, show (max 0 (min ((u : Int) - 1) (i : Int))).toNat = i by omega, show (max 0 (min ((v : Int) - 1) (k : Int))).toNat = k by omega]
      have hcen : cenS x y p u J = ⟨midG x p i, midG y p k⟩ := by
        unfold cenS midP
        rw [← hJ, ← hz, show (k * u + i) % u = i by rw [Nat.mul_comm, Nat.mul_add_mod]; exact Nat.mod_eq_of_lt hi, show (k * u + i) / u = k by rw [Nat.mul_comm, Nat.mul_add_div (by omega), Nat.div_eq_of_lt hi]; rfl]
      have hNW := HKQ.out
      rw [hcell, hcen] at hNW
      have hki := HKI.out J
      obtain ⟨bj, hbj⟩ : ∃ n : Nat, knS kk J = n := ⟨(knS kk J).toNat, by have := hNW.know (by omega); omega⟩
      rw [hbj] at hNW hki
      have hbjN : bj < N := by omega
      obtain ⟨X, hX⟩ : ∃ X, midG x p i = X := ⟨_, rfl⟩
      obtain ⟨Y, hY⟩ : ∃ X, midG y p k = X := ⟨_, rfl⟩
      rw [hX, hY] at HC hPM hNW
      have HPM := Lib.hid hPM
      obtain ⟨Ej, hEj0⟩ : ∃ c, es[bj]? = some c := ⟨_, List.getElem?_eq_getElem (by rw [HN.out]; exact hbjN)⟩
      have hIJ := HIN.out Ej (List.mem_of_getElem? hEj0)
      have q1 := sq_small Ej ⟨X, Y⟩ hIJ HPM.out
      have q2 := sq_small E ⟨X, Y⟩ ⟨hEa, hEb⟩ HPM.out
      have HS1 := Lib.hid (fun w => square_any Ej.a.x Ej.a.y Ej.b.x Ej.b.y X Y ⟨hIJ.1, hIJ.2, HPM.out⟩ w)
      have HS2 := Lib.hid (fun w => square_any E.a.x E.a.y E.b.x E.b.y X Y ⟨hEa, hEb, HPM.out⟩ w)
      change Hid (∀ w, Calls _ _ _ _ fun e w' => e = .returned (.agg #[.int .i64 (sqF Ej ⟨X, Y⟩).1, .int .i64 (sqF Ej ⟨X, Y⟩).2]) ∧ _) at HS1
      change Hid (∀ w, Calls _ _ _ _ fun e w' => e = .returned (.agg #[.int .i64 (sqF E ⟨X, Y⟩).1, .int .i64 (sqF E ⟨X, Y⟩).2]) ∧ _) at HS2
      have hle : (sqF Ej ⟨X, Y⟩).1 * (sqF E ⟨X, Y⟩).2 ≤ (sqF E ⟨X, Y⟩).1 * (sqF Ej ⟨X, Y⟩).2 := by
        rcases hNW with h | ⟨_, h⟩
        · omega
        · unfold leF sqK at h
          rw [Int.toNat_natCast, Int.toNat_natCast, show es.getD q edZ = E from hgE, show es.getD bj edZ = Ej by rw [List.getD_eq_getElem?_getD, hEj0]; rfl] at h
          exact h
      generalize (sqF Ej ⟨X, Y⟩).1 = n1 at *
      generalize (sqF Ej ⟨X, Y⟩).2 = d1 at *
      generalize (sqF E ⟨X, Y⟩).1 = n2 at *
      generalize (sqF E ⟨X, Y⟩).2 = d2 at *
      have HCM := Lib.hid (fun w => rcompare_int n1 d1 n2 d2 (by omega) (by omega) (by omega) (by omega) w)
      obtain ⟨cm, hcm⟩ : ∃ cm, cmpI (n1 * d2) (n2 * d1) = cm := ⟨_, rfl⟩
      have hcm0 : decide (cm ≤ 0) = true := by
        rw [← hcm]; unfold cmpI
        split
        · simp
        · rw [if_neg (by omega)]; simp
      rw [hcm] at HCM
      clear hle q1 q2 hcm hIJ hNW hPM hX hY hEa hEb hgE hcell hcen hz hJ HPX HPY HKQ
      refine (HC.out _).mono ?_
      rintro e w8 ⟨rfl, hb⟩
      have hal : Below w8.heap.size w8 (w8.alloc (.cells #[.int .i64 X, .int .i64 Y] 41)) := (Below.refl _ _).alloc (Nat.le_refl _) _
      have HE9 := Lib.hid ((HE6.out.keep hb).keep hal)
      have HG9 := Lib.hid ((HG6.out.keep hb).keep hal)
      have HV9 := Lib.hid ((HV6.out.keep hb).keep hal)
      have HU9 := Lib.hid ((HU6.out.keep hb).keep hal)
      have HB9 := Lib.hid (below2 (below2 HB7.out hb) hal)
      have HP9 := Lib.hid (Blk.new w8 41 [.int .i64 X, .int .i64 Y] rfl)
      clear hb hal HE6 HG6 HV6 HU6 HB7 HC g0 g1 g2 g3 g4 g5 gl b1 b2 b3 b4
      obtain ⟨av, e, hav, v0⟩ := HV9.out.at J (by rw [HLE.out]; exact hJU)
      subst e
      rw [hbj] at v0
      have hJb : decide ((J : Int) < U) = true := by simp; omega
      have g3 := HG9.out.cell 3 rfl
      have gl := HG9.out.lt
      clear hbj
      go_wp2_with fail
      obtain ⟨_, e, hal, hEj⟩ := HU9.out.at bj Ej hEj0
      cases e
      generalize w8.alloc (.cells #[.int .i64 X, .int .i64 Y] 41) = w9 at *
      generalize w8.heap.size = P at *
      have hd : Below w9.heap.size w9 w9.drew := (Below.refl _ w9).drew
      have AB := HB9.out.drew
      replace HE9 := Lib.hid (HE9.out.keep hd)
      replace HP9 := Lib.hid (HP9.out.keep hd)
      have HJx : Hid (EAtS w9.drew ae bj Ej.a.x Ej.a.y Ej.b.x Ej.b.y) := Lib.hid hEj
      have HAl : Hid (ae.block < w9.drew.heap.size) := Lib.hid hal
      have b5 : decide ((0 : Int) ≤ (bj : Int)) = true := by simp
      have b6 : decide ((bj : Int) < (N : Int)) = true := by simp; omega
      clear hEj hal hd v0 hav HB9 g3 gl HG9 HV9 HU9 hEj0
      refine wp_region_held_drew (S := fun wx => wx.cell? ⟨F, 0, none⟩ = some (.int .i64 E.a.x) ∧ wx.cell? ⟨F, 1, none⟩ = some (.int .i64 E.a.y) ∧ wx.cell? ⟨F, 2, none⟩ = some (.int .i64 E.b.x) ∧ wx.cell? ⟨F, 3, none⟩ = some (.int .i64 E.b.y) ∧ wx.cell? ⟨P, 0, none⟩ = some (.int .i64 X) ∧ wx.cell? ⟨P, 1, none⟩ = some (.int .i64 Y) ∧ wx.cell? (ae.add (bj * 4)) = some (.int .i64 Ej.a.x) ∧ wx.cell? ⟨(ae.add (bj * 4)).block, (ae.add (bj * 4)).off + 1, none⟩ = some (.int .i64 Ej.a.y) ∧ wx.cell? ⟨(ae.add (bj * 4)).block, (ae.add (bj * 4)).off + 2, none⟩ = some (.int .i64 Ej.b.x) ∧ wx.cell? ⟨(ae.add (bj * 4)).block, (ae.add (bj * 4)).off + 3, none⟩ = some (.int .i64 Ej.b.y)) (by kernel_rfl) (⟨HE9.out.cell 0 rfl, HE9.out.cell 1 rfl, HE9.out.cell 2 rfl, HE9.out.cell 3 rfl, HP9.out.cell 0 rfl, HP9.out.cell 1 rfl, HJx.out⟩) (fun hHeld => ?_)
      refine wpAnyH_take (i := 0) (v := ?_) rfl (by kernel_rfl) (by kernel_rfl) (by kernel_rfl) (fun _ _ _ h => h) (Or.inl ⟨by rfl, ?_⟩) hHeld ?_
      rotate_left
      · intro w hSw
        (try dsimp only at hSw)
        (try simp only [List.getElem_toArray, List.getElem_cons_zero])
        go_simp
        all_goals with_reducible rfl
      try simp only [List.getElem_toArray, List.getElem_cons_zero, Act.put, List.setIfInBounds_toArray, List.set_cons_zero, List.set_cons_succ]
      refine wpAnyH_take (i := 1) (v := ?_) rfl (by kernel_rfl) (by kernel_rfl) (by kernel_rfl) (fun _ _ _ h => h) (Or.inl ⟨by rfl, ?_⟩) hHeld ?_
      rotate_left
      · intro w hSw
        (try dsimp only at hSw)
        (try simp only [List.getElem_toArray, List.getElem_cons_zero, List.getElem_cons_succ])
        go_simp
        all_goals with_reducible rfl
      try simp only [List.getElem_toArray, List.getElem_cons_zero, List.getElem_cons_succ, Act.put, List.setIfInBounds_toArray, List.set_cons_zero, List.set_cons_succ]
      refine wpAnyH_take (i := 2) (v := ?_) rfl (by kernel_rfl) (by kernel_rfl) (by kernel_rfl) (fun _ _ _ h => h) (Or.inl ⟨by rfl, ?_⟩) hHeld ?_
      rotate_left
      · intro w hSw
        (try dsimp only at hSw)
        (try simp only [List.getElem_toArray, List.getElem_cons_zero, List.getElem_cons_succ])
        go_simp
        all_goals with_reducible rfl
      try simp only [List.getElem_toArray, List.getElem_cons_zero, List.getElem_cons_succ, Act.put, List.setIfInBounds_toArray, List.set_cons_zero, List.set_cons_succ]
      refine wpAnyH_take (i := 3) (v := ?_) rfl (by kernel_rfl) (by kernel_rfl) (by kernel_rfl) (fun _ _ _ h => h) (Or.inl ⟨by rfl, ?_⟩) hHeld ?_
      rotate_left
      · intro w hSw
        (try dsimp only at hSw)
        (try simp only [List.getElem_toArray, List.getElem_cons_zero, List.getElem_cons_succ])
        go_simp
        all_goals with_reducible rfl
      try simp only [List.getElem_toArray, List.getElem_cons_zero, List.getElem_cons_succ, Act.put, List.setIfInBounds_toArray, List.set_cons_zero, List.set_cons_succ]
      refine wpAnyH_take (i := 4) (v := ?_) rfl (by kernel_rfl) (by kernel_rfl) (by kernel_rfl) (fun _ _ _ h => h) (Or.inl ⟨by rfl, ?_⟩) hHeld ?_
      rotate_left
      · intro w hSw
        (try dsimp only at hSw)
        (try simp only [List.getElem_toArray, List.getElem_cons_zero, List.getElem_cons_succ])
        go_simp
        all_goals with_reducible rfl
      try simp only [List.getElem_toArray, List.getElem_cons_zero, List.getElem_cons_succ, Act.put, List.setIfInBounds_toArray, List.set_cons_zero, List.set_cons_succ]
      refine wpAnyH_take (i := 5) (v := ?_) rfl (by kernel_rfl) (by kernel_rfl) (by kernel_rfl) (fun _ _ _ h => h) (Or.inl ⟨by rfl, ?_⟩) hHeld ?_
      rotate_left
      · intro w hSw
        (try dsimp only at hSw)
        (try simp only [List.getElem_toArray, List.getElem_cons_zero, List.getElem_cons_succ])
        go_simp
        all_goals with_reducible rfl
      try simp only [List.getElem_toArray, List.getElem_cons_zero, List.getElem_cons_succ, Act.put, List.setIfInBounds_toArray, List.set_cons_zero, List.set_cons_succ]
      refine wpAnyH_take (i := 6) (v := ?_) rfl (by kernel_rfl) (by kernel_rfl) (by kernel_rfl) (fun _ _ _ h => h) (Or.inl ⟨by rfl, ?_⟩) hHeld ?_
      rotate_left
      · intro w hSw
        (try dsimp only at hSw)
        (try simp only [List.getElem_toArray, List.getElem_cons_zero, List.getElem_cons_succ])
        go_simp
        all_goals with_reducible rfl
      try simp only [List.getElem_toArray, List.getElem_cons_zero, List.getElem_cons_succ, Act.put, List.setIfInBounds_toArray, List.set_cons_zero, List.set_cons_succ]
      refine wpAnyH_take (i := 7) (v := ?_) rfl (by kernel_rfl) (by kernel_rfl) (by kernel_rfl) (fun _ _ _ h => h) (Or.inl ⟨by rfl, ?_⟩) hHeld ?_
      rotate_left
      · intro w hSw
        (try dsimp only at hSw)
        (try simp only [List.getElem_toArray, List.getElem_cons_zero, List.getElem_cons_succ])
        go_simp
        all_goals with_reducible rfl
      try simp only [List.getElem_toArray, List.getElem_cons_zero, List.getElem_cons_succ, Act.put, List.setIfInBounds_toArray, List.set_cons_zero, List.set_cons_succ]
      refine wpAnyH_take (i := 8) (v := ?_) rfl (by kernel_rfl) (by kernel_rfl) (by kernel_rfl) (fun _ _ _ h => h) (Or.inl ⟨by rfl, ?_⟩) hHeld ?_
      rotate_left
      · intro w hSw
        (try dsimp only at hSw)
        (try simp only [List.getElem_toArray, List.getElem_cons_zero, List.getElem_cons_succ])
        go_simp
        all_goals with_reducible rfl
      try simp only [List.getElem_toArray, List.getElem_cons_zero, List.getElem_cons_succ, Act.put, List.setIfInBounds_toArray, List.set_cons_zero, List.set_cons_succ]
      refine wpAnyH_take (i := 9) (v := ?_) rfl (by kernel_rfl) (by kernel_rfl) (by kernel_rfl) (fun _ _ _ h => h) (Or.inl ⟨by rfl, ?_⟩) hHeld ?_
      rotate_left
      · intro w hSw
        (try dsimp only at hSw)
        (try simp only [List.getElem_toArray, List.getElem_cons_zero, List.getElem_cons_succ])
        go_simp
        all_goals with_reducible rfl
      try simp only [List.getElem_toArray, List.getElem_cons_zero, List.getElem_cons_succ, Act.put, List.setIfInBounds_toArray, List.set_cons_zero, List.set_cons_succ]
      refine wpAnyH_take (i := 10) (v := ?_) rfl (by kernel_rfl) (by kernel_rfl) (by kernel_rfl) (fun _ _ _ h => h) (Or.inl ⟨by rfl, ?_⟩) hHeld ?_
      rotate_left
      · intro w hSw
        (try dsimp only at hSw)
        (try simp only [List.getElem_toArray, List.getElem_cons_zero, List.getElem_cons_succ])
        go_simp
        all_goals with_reducible rfl
      try simp only [List.getElem_toArray, List.getElem_cons_zero, List.getElem_cons_succ, Act.put, List.setIfInBounds_toArray, List.set_cons_zero, List.set_cons_succ]
      refine wpAnyH_take (i := 11) (v := ?_) rfl (by kernel_rfl) (by kernel_rfl) (by kernel_rfl) (fun _ _ _ h => h) (Or.inl ⟨by rfl, ?_⟩) hHeld ?_
      rotate_left
      · intro w hSw
        (try dsimp only at hSw)
        (try simp only [List.getElem_toArray, List.getElem_cons_zero, List.getElem_cons_succ])
        go_simp
        all_goals with_reducible rfl
      try simp only [List.getElem_toArray, List.getElem_cons_zero, List.getElem_cons_succ, Act.put, List.setIfInBounds_toArray, List.set_cons_zero, List.set_cons_succ]
      refine wpAnyH_take (i := 12) (v := ?_) rfl (by kernel_rfl) (by kernel_rfl) (by kernel_rfl) (fun _ _ _ h => h) (Or.inl ⟨by rfl, ?_⟩) hHeld ?_
      rotate_left
      · intro w hSw
        (try dsimp only at hSw)
        (try simp only [List.getElem_toArray, List.getElem_cons_zero, List.getElem_cons_succ])
        go_simp
        all_goals with_reducible rfl
      try simp only [List.getElem_toArray, List.getElem_cons_zero, List.getElem_cons_succ, Act.put, List.setIfInBounds_toArray, List.set_cons_zero, List.set_cons_succ]
      refine wpAnyH_take (i := 13) (v := ?_) rfl (by kernel_rfl) (by kernel_rfl) (by kernel_rfl) (fun _ _ _ h => h) (Or.inl ⟨by rfl, ?_⟩) hHeld ?_
      rotate_left
      · intro w hSw
        (try dsimp only at hSw)
        (try simp only [List.getElem_toArray, List.getElem_cons_zero, List.getElem_cons_succ])
        go_simp
        all_goals with_reducible rfl
      try simp only [List.getElem_toArray, List.getElem_cons_zero, List.getElem_cons_succ, Act.put, List.setIfInBounds_toArray, List.set_cons_zero, List.set_cons_succ]
      refine wpAnyH_take (i := 15) (v := ?_) rfl (by kernel_rfl) (by kernel_rfl) (by kernel_rfl) (fun _ _ _ h => h) (Or.inl ⟨by rfl, ?_⟩) hHeld ?_
      rotate_left
      · intro w hSw
        (try dsimp only at hSw)
        (try simp only [List.getElem_toArray, List.getElem_cons_zero, List.getElem_cons_succ])
        go_simp
        all_goals with_reducible rfl
      try simp only [List.getElem_toArray, List.getElem_cons_zero, List.getElem_cons_succ, Act.put, List.setIfInBounds_toArray, List.set_cons_zero, List.set_cons_succ]
      refine wpAnyH_take (i := 16) (v := ?_) rfl (by kernel_rfl) (by kernel_rfl) (by kernel_rfl) (fun _ _ _ h => h) (Or.inl ⟨by rfl, ?_⟩) hHeld ?_
      rotate_left
      · intro w hSw
        (try dsimp only at hSw)
        (try simp only [List.getElem_toArray, List.getElem_cons_zero, List.getElem_cons_succ])
        go_simp
        all_goals with_reducible rfl
      try simp only [List.getElem_toArray, List.getElem_cons_zero, List.getElem_cons_succ, Act.put, List.setIfInBounds_toArray, List.set_cons_zero, List.set_cons_succ]
      refine wpAnyH_ready (rs := [14]) (by kernel_rfl) (by simp) ?_
      refine AllReadyH.cons rfl (fun K hK => ?_) AllReadyH.nil
      try simp only [List.getElem_toArray, List.getElem_cons_zero, List.getElem_cons_succ]
      go_simp
      refine (HS1.out _).mono ?_
      rintro e wn ⟨rfl, hbn⟩
      have AB := AB.trans (hbn.mono (AB.size))
      replace HE9 := Lib.hid (HE9.out.keep hbn)
      replace HP9 := Lib.hid (HP9.out.keep hbn)
      replace HJx := Lib.hid (eats_keep HJx.out HAl.out hbn)
      replace HAl := Lib.hid (Nat.lt_of_lt_of_le HAl.out hbn.size)
      clear hbn
      go_wp2_with fail
      refine hK.out _ _ (⟨HE9.out.cell 0 rfl, HE9.out.cell 1 rfl, HE9.out.cell 2 rfl, HE9.out.cell 3 rfl, HP9.out.cell 0 rfl, HP9.out.cell 1 rfl, HJx.out⟩) (fun hHeld => ?_)
      clear hK K
      try simp only [List.getElem_toArray, List.getElem_cons_zero, List.getElem_cons_succ, Act.put, List.setIfInBounds_toArray, List.set_cons_zero, List.set_cons_succ]
      refine wpAnyH_ready (rs := [17]) (by kernel_rfl) (by simp) ?_
      refine AllReadyH.cons rfl (fun K hK => ?_) AllReadyH.nil
      try simp only [List.getElem_toArray, List.getElem_cons_zero, List.getElem_cons_succ]
      go_simp
      refine (HS2.out _).mono ?_
      rintro e wn ⟨rfl, hbn⟩
      have AB := AB.trans (hbn.mono (AB.size))
      replace HE9 := Lib.hid (HE9.out.keep hbn)
      replace HP9 := Lib.hid (HP9.out.keep hbn)
      replace HJx := Lib.hid (eats_keep HJx.out HAl.out hbn)
      replace HAl := Lib.hid (Nat.lt_of_lt_of_le HAl.out hbn.size)
      clear hbn
      go_wp2_with fail
      refine hK.out _ _ (⟨HE9.out.cell 0 rfl, HE9.out.cell 1 rfl, HE9.out.cell 2 rfl, HE9.out.cell 3 rfl, HP9.out.cell 0 rfl, HP9.out.cell 1 rfl, HJx.out⟩) (fun hHeld => ?_)
      clear hK K
      try simp only [List.getElem_toArray, List.getElem_cons_zero, List.getElem_cons_succ, Act.put, List.setIfInBounds_toArray, List.set_cons_zero, List.set_cons_succ]
      refine wpAnyH_ready (rs := [18]) (by kernel_rfl) (by simp) ?_
      refine AllReadyH.cons rfl (fun K hK => ?_) AllReadyH.nil
      try simp only [List.getElem_toArray, List.getElem_cons_zero, List.getElem_cons_succ]
      go_simp
      refine (HCM.out _).mono ?_
      rintro e wn ⟨rfl, hbn⟩
      have AB := AB.trans (hbn.mono (AB.size))
      replace HE9 := Lib.hid (HE9.out.keep hbn)
      replace HP9 := Lib.hid (HP9.out.keep hbn)
      replace HJx := Lib.hid (eats_keep HJx.out HAl.out hbn)
      replace HAl := Lib.hid (Nat.lt_of_lt_of_le HAl.out hbn.size)
      clear hbn
      go_wp2_with fail
      refine hK.out _ _ (⟨HE9.out.cell 0 rfl, HE9.out.cell 1 rfl, HE9.out.cell 2 rfl, HE9.out.cell 3 rfl, HP9.out.cell 0 rfl, HP9.out.cell 1 rfl, HJx.out⟩) (fun hHeld => ?_)
      clear hK K
      try simp only [List.getElem_toArray, List.getElem_cons_zero, List.getElem_cons_succ, Act.put, List.setIfInBounds_toArray, List.set_cons_zero, List.set_cons_succ]
      refine wpAnyH_take (i := 19) (v := ?_) rfl (by kernel_rfl) (by kernel_rfl) (by kernel_rfl) (fun _ _ _ h => h) (Or.inl ⟨by rfl, ?_⟩) hHeld ?_
      rotate_left
      · intro w hSw
        (try dsimp only at hSw)
        (try simp only [List.getElem_toArray, List.getElem_cons_zero, List.getElem_cons_succ])
        go_simp
        all_goals with_reducible rfl
      try simp only [List.getElem_toArray, List.getElem_cons_zero, List.getElem_cons_succ, Act.put, List.setIfInBounds_toArray, List.set_cons_zero, List.set_cons_succ]
      refine wpAnyH_take (i := 20) (v := ?_) rfl (by kernel_rfl) (by kernel_rfl) (by kernel_rfl) (fun _ _ _ h => h) (Or.inl ⟨by rfl, ?_⟩) hHeld ?_
      rotate_left
      · intro w hSw
        (try dsimp only at hSw)
        (try simp only [List.getElem_toArray, List.getElem_cons_zero, List.getElem_cons_succ])
        go_simp
        all_goals with_reducible rfl
      try simp only [List.getElem_toArray, List.getElem_cons_zero, List.getElem_cons_succ, Act.put, List.setIfInBounds_toArray, List.set_cons_zero, List.set_cons_succ]
      refine wpAnyH_take (i := 21) (v := ?_) rfl (by kernel_rfl) (by kernel_rfl) (by kernel_rfl) (fun _ _ _ h => h) (Or.inl ⟨by rfl, ?_⟩) hHeld ?_
      rotate_left
      · intro w hSw
        (try dsimp only at hSw)
        (try simp only [List.getElem_toArray, List.getElem_cons_zero, List.getElem_cons_succ])
        go_simp
        all_goals with_reducible rfl
      try simp only [List.getElem_toArray, List.getElem_cons_zero, List.getElem_cons_succ, Act.put, List.setIfInBounds_toArray, List.set_cons_zero, List.set_cons_succ]
      refine wpAnyH_done (by kernel_rfl) ?_ _
      go_wp2_with fail
      go_ret
      exact ⟨rfl, AB⟩


end Go.Proofs.Yteiildeaccngjaa
