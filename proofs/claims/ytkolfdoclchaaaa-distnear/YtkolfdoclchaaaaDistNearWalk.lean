/-
  What the law DistNear does to any world (no claim is made here).
-/
import Derived.Test.YtkolfdoclchaaaaDst2
import Derived.OpenShut
namespace Go.Proofs.Ytkolfdoclchaaaa
open Go.RowKit

set_option maxRecDepth 100000 in
set_option maxHeartbeats 6400000 in
theorem distNear_walk (A : Option Addr) (n cap : Nat) (cs : List (List Dot)) (m p0 p1 : Int) (w : World) (hcs : DotRows w A n cap cs) (hm : 0 ≤ m ∧ m ≤ 65535) (hp0 : (Lit.int .i16 p0).wf = true) (hp1 : (Lit.int .i16 p1).wf = true) :
    Calls Try.prog 3 #[.slice A n cap, .int .u16 m, .agg #[.int .i16 p0, .int .i16 p1]] w fun e w' => e = .returned (.bool true) ∧ Below w.heap.size w w' := by
  have HD := Lib.hid hcs
  have b0 := bounds_i16 hp0
  have b1 := bounds_i16 hp1
  have HP := Lib.hid (show p0.natAbs ≤ 32768 ∧ p1.natAbs ≤ 32768 by omega)
  have HM := Lib.hid (show 0 ≤ m ∧ m < 65536 by omega)
  clear hcs hp0 hp1 b0 b1 hm
  have HB0 := Lib.hid ((Below.refl _ w).alloc (Nat.le_refl _) (.cells #[.int .i16 p0, .int .i16 p1] 26))
  have HP0 := Lib.hid (Blk.new w 26 [.int .i16 p0, .int .i16 p1] rfl)
  go_enter Try.func3, Try.ntmps3
  go_wp2_with fail
  refine (awake8 _).mono ?_
  rintro e w1 ⟨rfl, hb1⟩
  have HP1 := Lib.hid (HP0.out.keep hb1)
  have HB1 := Lib.hid (HB0.out.trans (hb1.mono HB0.out.size))
  have HC := Lib.hid (glyph7 A n cap cs w1 (HD.out.keep HB1.out))
  clear hb1 HP0 HB0 HD
  go_wp2_with fail
  refine HC.out.mono ?_
  rintro e w2 ⟨u, es, rfl, hu, hln, hin, hcl, hb2⟩
  have HP2 := Lib.hid (HP1.out.keep hb2)
  have HB2 := Lib.hid (HB1.out.trans (hb2.mono HB1.out.size))
  have HU := Lib.hid (ERow.read hu)
  have HIN := Lib.hid hin
  have hln2 : es.length ≤ 200000 := by omega
  have HX := Lib.hid (spot_any u es m p0 p1 w2 HU.out hin HM.out HP.out)
  obtain ⟨Au, capu, rfl⟩ := hu.form
  have HLN := Lib.hid hln2
  obtain ⟨N, hN⟩ : ∃ N, es.length = N := ⟨_, rfl⟩
  rw [hN] at HU HX hln
  rw [hN]
  have HN := Lib.hid hN
  have hcu : N ≤ capu := by obtain ⟨_, _, e, h, _⟩ := HU.out; injection e with _ _ e; omega
  have q0 := HP2.out.cell 0 rfl
  have q1 := HP2.out.cell 1 rfl
  have qn := HP2.out.lt
  clear hu hin hcl hb2 HC HB1 hN HP1 hln2
  go_wp2_with fail
  refine HX.out.mono ?_
  rintro e w3 ⟨x, y, rfl, hxy, hb3⟩
  have HB3 := Lib.hid (HB2.out.trans (hb3.mono HB2.out.size))
  have HU3 := Lib.hid (HU.out.keep hb3)
  have HXY := Lib.hid hxy
  clear hb3 HX HB2 HP2 HU q0 q1 qn HM HP hxy
  have HB4 := Lib.hid (HB3.out.alloc HB3.out.size (.cells #[.int .i64 x, .int .i64 y] 31))
  have HQ4 := Lib.hid (Blk.new w3 31 [.int .i64 x, .int .i64 y] rfl)
  have HU4 := Lib.hid (HU3.out.keep ((Below.refl _ w3).alloc (Nat.le_refl _) (.cells #[.int .i64 x, .int .i64 y] 31)))
  clear HU3 HB3
  go_wp2_with fail
  generalize hw4 : w3.alloc (.cells #[.int .i64 x, .int .i64 y] 31) = w4 at *
  generalize hgx : w3.heap.size = gx at *
  have hS0 := S2_blk HQ4.out
  have hSD := S2_drew hS0
  have qn := HQ4.out.lt
  clear hw4 hgx HQ4
  have H2 := Lib.hid (fun w (h : ERd w (.slice Au N capu) es) => near_any _ es x y w h HLN.out HIN.out HXY.out)
  have q0 := hS0.1
  have q1 := hS0.2.1
  clear hSD
  go_wp2_with fail
  refine (H2.out _ HU4.out).mono ?_
  rintro e w5 ⟨f0, f1, k, rfl, hK, hb5⟩
  have HU5 := Lib.hid (HU4.out.keep hb5)
  have HB5 := Lib.hid (HB4.out.trans (hb5.mono HB4.out.size))
  have r0 := keep hb5 q0
  have r1 := keep hb5 q1
  have HK := Lib.hid hK
  clear hb5 q0 q1 hS0 HU4 HB4 H2 hK
  have HB6 := Lib.hid (HB5.out.alloc HB5.out.size (.cells #[.int .i64 f0, .int .i64 f1] 34))
  have HU6 := Lib.hid (HU5.out.keep ((Below.refl _ w5).alloc (Nat.le_refl _) (.cells #[.int .i64 f0, .int .i64 f1] 34)))
  by_cases hN0 : N = 0
  · have hes : es = [] := List.eq_nil_of_length_eq_zero (by rw [HN.out, hN0])
    have h := Best.unique (HK.out) (by rw [hes]; exact Best.nil _ _)
    obtain ⟨h1, h2⟩ := h
    injection h1 with h3 h4
    subst h2 h3 h4 hN0
    go_wp2
    go_ret
    exact ⟨rfl, HB6.out⟩
  · have hNz : ((N : Int) == 0) = false := by simp; omega
    have hk0 : 0 ≤ k := by
      rcases Int.lt_or_le k 0 with h | h
      · exfalso; have := HK.out.none.1 h; rw [this] at HN; exact hN0 HN.out.symm
      · exact h
    obtain ⟨j, e, rfl, h2, h3, h4⟩ := HK.out.some hk0
    have hj : j < N := by rw [← HN.out]; exact (List.getElem?_eq_some_iff.1 h2).1
    have hjI : ¬ (N : Int) ≤ (j : Int) := by omega
    have hjn : ¬ (j : Int) < 0 := by omega
    have hjd : decide ((N : Int) ≤ (j : Int)) = false := by simp; omega
    have hjm : ¬ N ≤ j := by omega
    have HH2 := Lib.hid h2
    have HH3 := Lib.hid h3
    have HH4 := Lib.hid h4
    clear h2 h3 h4 hN0 hk0
    go_wp2_with fail
    have HSQ := Lib.hid (fun s (hs : s ∈ es) w => square_any s.a.x s.a.y s.b.x s.b.y x y ⟨(HIN.out s hs).1, (HIN.out s hs).2, HXY.out⟩ w)
    obtain ⟨a, rfl, ha, e0, e1, e2, e3⟩ := HU6.out.at j e HH2.out
    have t0 := keepAlloc (.cells #[.int .i64 f0, .int .i64 f1] 34) r0
    have t1 := keepAlloc (.cells #[.int .i64 f0, .int .i64 f1] 34) r1
    have KF := Blk.new w5 34 [.int .i64 f0, .int .i64 f1] rfl
    have z0 := KF.cell 0 rfl
    have z1 := KF.cell 1 rfl
    have hQ := HSQ.out e (List.mem_of_getElem? HH2.out)
    have h3 : squareV (e.b.x - e.a.x) (e.b.y - e.a.y) (x - e.a.x) (y - e.a.y) = (f0, f1) := HH3.out.symm
    rw [h3] at hQ
    have HQ := Lib.hid hQ
    obtain ⟨⟨e4, e5⟩, e6, e7⟩ := e
    simp only [] at e0 e1 e2 e3 HQ
    clear hQ h3 KF r0 r1 HU5 HB5
    generalize w5.alloc (.cells #[.int .i64 f0, .int .i64 f1] 34) = w6 at *
    generalize w5.heap.size = gf at *
    have AB : Below w6.heap.size w6 w6.drew := (Below.refl _ _).drew
    refine wp_region_held_drew (S := fun wx => wx.cell? (a.add (j * 4)) = some (.int .i64 e4) ∧ wx.cell? ⟨(a.add (j * 4)).block, (a.add (j * 4)).off + 1, none⟩ = some (.int .i64 e5) ∧ wx.cell? ⟨(a.add (j * 4)).block, (a.add (j * 4)).off + 2, none⟩ = some (.int .i64 e6) ∧ wx.cell? ⟨(a.add (j * 4)).block, (a.add (j * 4)).off + 3, none⟩ = some (.int .i64 e7) ∧ wx.cell? ⟨gx, 0, none⟩ = some (.int .i64 x) ∧ wx.cell? ⟨gx, 1, none⟩ = some (.int .i64 y) ∧ wx.cell? ⟨gf, 0, none⟩ = some (.int .i64 f0) ∧ wx.cell? ⟨gf, 1, none⟩ = some (.int .i64 f1) ∧ Below w6.heap.size w6 wx) (by kernel_rfl) (S8_of e0 e1 e2 e3 t0 t1 z0 z1 AB) (fun hHeld => ?_)
    refine wpAnyH_take (i := 0) (v := ?_) rfl (by kernel_rfl) (by kernel_rfl) (by kernel_rfl) (fun _ _ _ h => h) (Or.inl ⟨by rfl, ?_⟩) hHeld ?_
    rotate_left
    · intro w hSw
      (try dsimp only at hSw)
      (try simp only [List.getElem_toArray, List.getElem_cons_zero])
      go_simp
      all_goals with_reducible rfl
    try simp only [List.getElem_toArray, List.getElem_cons_zero, Act.put, List.setIfInBounds_toArray, List.set_cons_zero, List.set_cons_succ]
    refine wpAnyH_take (i := 1) (v := ?_) rfl (by kernel_rfl) (by kernel_rfl) (by kernel_rfl) (fun _ _ _ h => h) (Or.inl ⟨by rfl, ?_⟩) hHeld ?_
    rotate_left
    · intro w hSw
      (try dsimp only at hSw)
      (try simp only [List.getElem_toArray, List.getElem_cons_zero, List.getElem_cons_succ])
      go_simp
      all_goals with_reducible rfl
    try simp only [List.getElem_toArray, List.getElem_cons_zero, List.getElem_cons_succ, Act.put, List.setIfInBounds_toArray, List.set_cons_zero, List.set_cons_succ]
    refine wpAnyH_take (i := 2) (v := ?_) rfl (by kernel_rfl) (by kernel_rfl) (by kernel_rfl) (fun _ _ _ h => h) (Or.inl ⟨by rfl, ?_⟩) hHeld ?_
    rotate_left
    · intro w hSw
      (try dsimp only at hSw)
      (try simp only [List.getElem_toArray, List.getElem_cons_zero, List.getElem_cons_succ])
      go_simp
      all_goals with_reducible rfl
    try simp only [List.getElem_toArray, List.getElem_cons_zero, List.getElem_cons_succ, Act.put, List.setIfInBounds_toArray, List.set_cons_zero, List.set_cons_succ]
    refine wpAnyH_take (i := 3) (v := ?_) rfl (by kernel_rfl) (by kernel_rfl) (by kernel_rfl) (fun _ _ _ h => h) (Or.inl ⟨by rfl, ?_⟩) hHeld ?_
    rotate_left
    · intro w hSw
      (try dsimp only at hSw)
      (try simp only [List.getElem_toArray, List.getElem_cons_zero, List.getElem_cons_succ])
      go_simp
      all_goals with_reducible rfl
    try simp only [List.getElem_toArray, List.getElem_cons_zero, List.getElem_cons_succ, Act.put, List.setIfInBounds_toArray, List.set_cons_zero, List.set_cons_succ]
    refine wpAnyH_take (i := 4) (v := ?_) rfl (by kernel_rfl) (by kernel_rfl) (by kernel_rfl) (fun _ _ _ h => h) (Or.inl ⟨by rfl, ?_⟩) hHeld ?_
    rotate_left
    · intro w hSw
      (try dsimp only at hSw)
      (try simp only [List.getElem_toArray, List.getElem_cons_zero, List.getElem_cons_succ])
      go_simp
      all_goals with_reducible rfl
    try simp only [List.getElem_toArray, List.getElem_cons_zero, List.getElem_cons_succ, Act.put, List.setIfInBounds_toArray, List.set_cons_zero, List.set_cons_succ]
    refine wpAnyH_take (i := 5) (v := ?_) rfl (by kernel_rfl) (by kernel_rfl) (by kernel_rfl) (fun _ _ _ h => h) (Or.inl ⟨by rfl, ?_⟩) hHeld ?_
    rotate_left
    · intro w hSw
      (try dsimp only at hSw)
      (try simp only [List.getElem_toArray, List.getElem_cons_zero, List.getElem_cons_succ])
      go_simp
      all_goals with_reducible rfl
    try simp only [List.getElem_toArray, List.getElem_cons_zero, List.getElem_cons_succ, Act.put, List.setIfInBounds_toArray, List.set_cons_zero, List.set_cons_succ]
    refine wpAnyH_take (i := 6) (v := ?_) rfl (by kernel_rfl) (by kernel_rfl) (by kernel_rfl) (fun _ _ _ h => h) (Or.inl ⟨by rfl, ?_⟩) hHeld ?_
    rotate_left
    · intro w hSw
      (try dsimp only at hSw)
      (try simp only [List.getElem_toArray, List.getElem_cons_zero, List.getElem_cons_succ])
      go_simp
      all_goals with_reducible rfl
    try simp only [List.getElem_toArray, List.getElem_cons_zero, List.getElem_cons_succ, Act.put, List.setIfInBounds_toArray, List.set_cons_zero, List.set_cons_succ]
    refine wpAnyH_take (i := 7) (v := ?_) rfl (by kernel_rfl) (by kernel_rfl) (by kernel_rfl) (fun _ _ _ h => h) (Or.inl ⟨by rfl, ?_⟩) hHeld ?_
    rotate_left
    · intro w hSw
      (try dsimp only at hSw)
      (try simp only [List.getElem_toArray, List.getElem_cons_zero, List.getElem_cons_succ])
      go_simp
      all_goals with_reducible rfl
    try simp only [List.getElem_toArray, List.getElem_cons_zero, List.getElem_cons_succ, Act.put, List.setIfInBounds_toArray, List.set_cons_zero, List.set_cons_succ]
    refine wpAnyH_take (i := 8) (v := ?_) rfl (by kernel_rfl) (by kernel_rfl) (by kernel_rfl) (fun _ _ _ h => h) (Or.inl ⟨by rfl, ?_⟩) hHeld ?_
    rotate_left
    · intro w hSw
      (try dsimp only at hSw)
      (try simp only [List.getElem_toArray, List.getElem_cons_zero, List.getElem_cons_succ])
      go_simp
      all_goals with_reducible rfl
    try simp only [List.getElem_toArray, List.getElem_cons_zero, List.getElem_cons_succ, Act.put, List.setIfInBounds_toArray, List.set_cons_zero, List.set_cons_succ]
    refine wpAnyH_take (i := 9) (v := ?_) rfl (by kernel_rfl) (by kernel_rfl) (by kernel_rfl) (fun _ _ _ h => h) (Or.inl ⟨by rfl, ?_⟩) hHeld ?_
    rotate_left
    · intro w hSw
      (try dsimp only at hSw)
      (try simp only [List.getElem_toArray, List.getElem_cons_zero, List.getElem_cons_succ])
      go_simp
      all_goals with_reducible rfl
    try simp only [List.getElem_toArray, List.getElem_cons_zero, List.getElem_cons_succ, Act.put, List.setIfInBounds_toArray, List.set_cons_zero, List.set_cons_succ]
    refine wpAnyH_take (i := 10) (v := ?_) rfl (by kernel_rfl) (by kernel_rfl) (by kernel_rfl) (fun _ _ _ h => h) (Or.inl ⟨by rfl, ?_⟩) hHeld ?_
    rotate_left
    · intro w hSw
      (try dsimp only at hSw)
      (try simp only [List.getElem_toArray, List.getElem_cons_zero, List.getElem_cons_succ])
      go_simp
      all_goals with_reducible rfl
    try simp only [List.getElem_toArray, List.getElem_cons_zero, List.getElem_cons_succ, Act.put, List.setIfInBounds_toArray, List.set_cons_zero, List.set_cons_succ]
    refine wpAnyH_take (i := 11) (v := ?_) rfl (by kernel_rfl) (by kernel_rfl) (by kernel_rfl) (fun _ _ _ h => h) (Or.inl ⟨by rfl, ?_⟩) hHeld ?_
    rotate_left
    · intro w hSw
      (try dsimp only at hSw)
      (try simp only [List.getElem_toArray, List.getElem_cons_zero, List.getElem_cons_succ])
      go_simp
      all_goals with_reducible rfl
    try simp only [List.getElem_toArray, List.getElem_cons_zero, List.getElem_cons_succ, Act.put, List.setIfInBounds_toArray, List.set_cons_zero, List.set_cons_succ]
    refine wpAnyH_take (i := 12) (v := ?_) rfl (by kernel_rfl) (by kernel_rfl) (by kernel_rfl) (fun _ _ _ h => h) (Or.inl ⟨by rfl, ?_⟩) hHeld ?_
    rotate_left
    · intro w hSw
      (try dsimp only at hSw)
      (try simp only [List.getElem_toArray, List.getElem_cons_zero, List.getElem_cons_succ])
      go_simp
      all_goals with_reducible rfl
    try simp only [List.getElem_toArray, List.getElem_cons_zero, List.getElem_cons_succ, Act.put, List.setIfInBounds_toArray, List.set_cons_zero, List.set_cons_succ]
    refine wpAnyH_take (i := 13) (v := ?_) rfl (by kernel_rfl) (by kernel_rfl) (by kernel_rfl) (fun _ _ _ h => h) (Or.inl ⟨by rfl, ?_⟩) hHeld ?_
    rotate_left
    · intro w hSw
      (try dsimp only at hSw)
      (try simp only [List.getElem_toArray, List.getElem_cons_zero, List.getElem_cons_succ])
      go_simp
      all_goals with_reducible rfl
    try simp only [List.getElem_toArray, List.getElem_cons_zero, List.getElem_cons_succ, Act.put, List.setIfInBounds_toArray, List.set_cons_zero, List.set_cons_succ]
    refine wpAnyH_take (i := 15) (v := ?_) rfl (by kernel_rfl) (by kernel_rfl) (by kernel_rfl) (fun _ _ _ h => h) (Or.inl ⟨by rfl, ?_⟩) hHeld ?_
    rotate_left
    · intro w hSw
      (try dsimp only at hSw)
      (try simp only [List.getElem_toArray, List.getElem_cons_zero, List.getElem_cons_succ])
      go_simp
      all_goals with_reducible rfl
    try simp only [List.getElem_toArray, List.getElem_cons_zero, List.getElem_cons_succ, Act.put, List.setIfInBounds_toArray, List.set_cons_zero, List.set_cons_succ]
    refine wpAnyH_ready (rs := [14]) (by kernel_rfl) (by simp) ?_
    refine AllReadyH.cons rfl (fun K hK => ?_) AllReadyH.nil
    try simp only [List.getElem_toArray, List.getElem_cons_zero, List.getElem_cons_succ]
    go_simp
    refine (HQ.out _).mono ?_
    rintro e wn ⟨rfl, hbn⟩
    have AB := AB.trans (hbn.mono AB.size)
    clear hbn
    go_wp2_with fail
    refine hK.out _ _ (S8_of e0 e1 e2 e3 t0 t1 z0 z1 AB) (fun hHeld => ?_)
    clear hK K
    try simp only [List.getElem_toArray, List.getElem_cons_zero, List.getElem_cons_succ, Act.put, List.setIfInBounds_toArray, List.set_cons_zero, List.set_cons_succ]
    refine wpAnyH_take (i := 16) (v := ?_) rfl (by kernel_rfl) (by kernel_rfl) (by kernel_rfl) (fun _ _ _ h => h) (Or.inl ⟨by rfl, ?_⟩) hHeld ?_
    rotate_left
    · intro w hSw
      (try dsimp only at hSw)
      (try simp only [List.getElem_toArray, List.getElem_cons_zero, List.getElem_cons_succ])
      go_simp
      all_goals with_reducible rfl
    try simp only [List.getElem_toArray, List.getElem_cons_zero, List.getElem_cons_succ, Act.put, List.setIfInBounds_toArray, List.set_cons_zero, List.set_cons_succ]
    refine wpAnyH_take (i := 17) (v := ?_) rfl (by kernel_rfl) (by kernel_rfl) (by kernel_rfl) (fun _ _ _ h => h) (Or.inl ⟨by rfl, ?_⟩) hHeld ?_
    rotate_left
    · intro w hSw
      (try dsimp only at hSw)
      (try simp only [List.getElem_toArray, List.getElem_cons_zero, List.getElem_cons_succ])
      go_simp
      all_goals with_reducible rfl
    try simp only [List.getElem_toArray, List.getElem_cons_zero, List.getElem_cons_succ, Act.put, List.setIfInBounds_toArray, List.set_cons_zero, List.set_cons_succ]
    refine wpAnyH_done (by kernel_rfl) ?_ _
    have HF := Lib.hid (HB6.out.trans (AB.mono HB6.out.size))
    have HU7 := Lib.hid (HU6.out.keep AB)
    have HX7 := Lib.hid (S8_of e0 e1 e2 e3 t0 t1 z0 z1 AB)
    have hsmf := near_small HK.out (by omega) HIN.out HXY.out
    clear AB hHeld e0 e1 e2 e3 t0 t1 z0 z1 HB6 HU6 HQ
    go_wp2_with fail
    go_loopw [58] (fun i wr => ∃ r : Nat, r ≤ N ∧ i = .int .i64 r ∧ Hid (Below wn.heap.size wn wr)) (fun i _ => N - (intOf i).toNat)
    case atStart => exact ⟨0, Nat.zero_le _, rfl, Lib.hid (Below.refl _ _)⟩
    case round =>
      obtain ⟨r, hr, rfl, HB⟩ := hrel
      by_cases hrn : r < N
      · have hrb : decide ((r : Int) < N) = true := by simp; omega
        obtain ⟨s, hs⟩ : ∃ s, es[r]? = some s := ⟨_, List.getElem?_eq_getElem (by rw [HN.out]; exact hrn)⟩
        obtain ⟨a', ha', -, x0, x1, x2, x3⟩ := (HU7.out.keep HB.out).at r s hs
        cases ha'
        have hmem := List.mem_of_getElem? hs
        have hQ := HSQ.out s hmem
        have h4 := HH4.out r s hs
        have hsm := sq_small s ⟨x, y⟩ (HIN.out s hmem) HXY.out
        obtain ⟨⟨g0, g1⟩, hg⟩ : ∃ g, squareV (s.b.x - s.a.x) (s.b.y - s.a.y) (x - s.a.x) (y - s.a.y) = g := ⟨_, rfl⟩
        have hg' : sqF s ⟨x, y⟩ = (g0, g1) := hg
        rw [hg] at hQ
        rw [hg'] at h4 hsm
        unfold leF ltF at h4
        simp only [] at h4 hsm
        have HCm := Lib.hid (fun w => rcompare_int g0 g1 f0 f1 (by omega) (by omega) (by omega) (by omega) w)
        have hc0 : 0 ≤ cmpI (g0 * f1) (f0 * g1) := by unfold cmpI; split <;> (try split) <;> omega
        have hc1 : cmpI (g0 * f1) (f0 * g1) = 0 → ¬ r < j := by
          intro h hlt
          have h5 := h4.2 hlt
          unfold cmpI at h
          rw [if_neg (by omega), if_pos h5] at h
          omega
        generalize cmpI (g0 * f1) (f0 * g1) = c at *
        obtain ⟨⟨s0, s1⟩, s2, s3⟩ := s
        simp only [] at x0 x1 x2 x3 hQ
        have HQ := Lib.hid hQ
        have hX := HX7.out
        have y0 := keepAlloc (.cells #[.int .i64 s0, .int .i64 s1, .int .i64 s2, .int .i64 s3] 39) (keep HB.out hX.2.2.2.2.1)
        have y1 := keepAlloc (.cells #[.int .i64 s0, .int .i64 s1, .int .i64 s2, .int .i64 s3] 39) (keep HB.out hX.2.2.2.2.2.1)
        have y2 := keepAlloc (.cells #[.int .i64 s0, .int .i64 s1, .int .i64 s2, .int .i64 s3] 39) (keep HB.out hX.2.2.2.2.2.2.1)
        have y3 := keepAlloc (.cells #[.int .i64 s0, .int .i64 s1, .int .i64 s2, .int .i64 s3] 39) (keep HB.out hX.2.2.2.2.2.2.2.1)
        have KE := Blk.new wr 39 [.int .i64 s0, .int .i64 s1, .int .i64 s2, .int .i64 s3] rfl
        have v0 := KE.cell 0 rfl
        have v1 := KE.cell 1 rfl
        have v2 := KE.cell 2 rfl
        have v3 := KE.cell 3 rfl
        have HB8 := Lib.hid (HB.out.alloc HB.out.size (.cells #[.int .i64 s0, .int .i64 s1, .int .i64 s2, .int .i64 s3] 39))
        clear hQ h4 hsm hg hg' hs hmem KE hX HB
        go_wp2_with fail
        generalize wr.alloc (.cells #[.int .i64 s0, .int .i64 s1, .int .i64 s2, .int .i64 s3] 39) = w8 at *
        generalize wr.heap.size = ge at *
        have AB : Below w8.heap.size w8 w8.drew := (Below.refl _ _).drew
        refine wp_region_held_drew (S := fun wx => wx.cell? ⟨ge, 0, none⟩ = some (.int .i64 s0) ∧ wx.cell? ⟨ge, 1, none⟩ = some (.int .i64 s1) ∧ wx.cell? ⟨ge, 2, none⟩ = some (.int .i64 s2) ∧ wx.cell? ⟨ge, 3, none⟩ = some (.int .i64 s3) ∧ wx.cell? ⟨gx, 0, none⟩ = some (.int .i64 x) ∧ wx.cell? ⟨gx, 1, none⟩ = some (.int .i64 y) ∧ wx.cell? ⟨gf, 0, none⟩ = some (.int .i64 f0) ∧ wx.cell? ⟨gf, 1, none⟩ = some (.int .i64 f1) ∧ Below w8.heap.size w8 wx) (by kernel_rfl) (S8b_of v0 v1 v2 v3 y0 y1 y2 y3 AB) (fun hHeld => ?_)
        refine wpAnyH_take (i := 0) (v := ?_) rfl (by kernel_rfl) (by kernel_rfl) (by kernel_rfl) (fun _ _ _ h => h) (Or.inl ⟨by rfl, ?_⟩) hHeld ?_
        rotate_left
        · intro w hSw
          (try dsimp only at hSw)
          (try simp only [List.getElem_toArray, List.getElem_cons_zero])
          go_simp
          all_goals with_reducible rfl
        try simp only [List.getElem_toArray, List.getElem_cons_zero, Act.put, List.setIfInBounds_toArray, List.set_cons_zero, List.set_cons_succ]
        refine wpAnyH_take (i := 1) (v := ?_) rfl (by kernel_rfl) (by kernel_rfl) (by kernel_rfl) (fun _ _ _ h => h) (Or.inl ⟨by rfl, ?_⟩) hHeld ?_
        rotate_left
        · intro w hSw
          (try dsimp only at hSw)
          (try simp only [List.getElem_toArray, List.getElem_cons_zero, List.getElem_cons_succ])
          go_simp
          all_goals with_reducible rfl
        try simp only [List.getElem_toArray, List.getElem_cons_zero, List.getElem_cons_succ, Act.put, List.setIfInBounds_toArray, List.set_cons_zero, List.set_cons_succ]
        refine wpAnyH_take (i := 3) (v := ?_) rfl (by kernel_rfl) (by kernel_rfl) (by kernel_rfl) (fun _ _ _ h => h) (Or.inl ⟨by rfl, ?_⟩) hHeld ?_
        rotate_left
        · intro w hSw
          (try dsimp only at hSw)
          (try simp only [List.getElem_toArray, List.getElem_cons_zero, List.getElem_cons_succ])
          go_simp
          all_goals with_reducible rfl
        try simp only [List.getElem_toArray, List.getElem_cons_zero, List.getElem_cons_succ, Act.put, List.setIfInBounds_toArray, List.set_cons_zero, List.set_cons_succ]
        refine wpAnyH_ready (rs := [2]) (by kernel_rfl) (by simp) ?_
        refine AllReadyH.cons rfl (fun K hK => ?_) AllReadyH.nil
        try simp only [List.getElem_toArray, List.getElem_cons_zero, List.getElem_cons_succ]
        go_simp
        refine (HQ.out _).mono ?_
        rintro e wn ⟨rfl, hbn⟩
        have AB := AB.trans (hbn.mono AB.size)
        clear hbn
        go_wp2_with fail
        refine hK.out _ _ (S8b_of v0 v1 v2 v3 y0 y1 y2 y3 AB) (fun hHeld => ?_)
        clear hK K
        try simp only [List.getElem_toArray, List.getElem_cons_zero, List.getElem_cons_succ, Act.put, List.setIfInBounds_toArray, List.set_cons_zero, List.set_cons_succ]
        refine wpAnyH_ready (rs := [4]) (by kernel_rfl) (by simp) ?_
        refine AllReadyH.cons rfl (fun K hK => ?_) AllReadyH.nil
        try simp only [List.getElem_toArray, List.getElem_cons_zero, List.getElem_cons_succ]
        go_simp
        refine (HCm.out _).mono ?_
        rintro e wn ⟨rfl, hbn⟩
        have AB := AB.trans (hbn.mono AB.size)
        clear hbn
        go_wp2_with fail
        refine hK.out _ _ (S8b_of v0 v1 v2 v3 y0 y1 y2 y3 AB) (fun hHeld => ?_)
        clear hK K
        try simp only [List.getElem_toArray, List.getElem_cons_zero, List.getElem_cons_succ, Act.put, List.setIfInBounds_toArray, List.set_cons_zero, List.set_cons_succ]
        refine wpAnyH_take (i := 5) (v := ?_) rfl (by kernel_rfl) (by kernel_rfl) (by kernel_rfl) (fun _ _ _ h => h) (Or.inl ⟨by rfl, ?_⟩) hHeld ?_
        rotate_left
        · intro w hSw
          (try dsimp only at hSw)
          (try simp only [List.getElem_toArray, List.getElem_cons_zero, List.getElem_cons_succ])
          go_simp
          all_goals with_reducible rfl
        try simp only [List.getElem_toArray, List.getElem_cons_zero, List.getElem_cons_succ, Act.put, List.setIfInBounds_toArray, List.set_cons_zero, List.set_cons_succ]
        refine wpAnyH_done (by kernel_rfl) ?_ _
        have HB9 := Lib.hid (HB8.out.trans (AB.mono HB8.out.size))
        have hcn : ¬ c < 0 := by omega
        clear AB hHeld y0 y1 y2 y3 v0 v1 v2 v3 HB8 HQ HCm
        by_cases hc : c = 0
        · have hrj := hc1 hc
          have hrj' : ¬ (r : Int) < (j : Int) := by omega
          subst hc
          clear hc1
          go_wp2_with fail
          exact ⟨⟨r + 1, by omega, by go_num, HB9⟩, by simp [intOf]; omega⟩
        · have hcz : (c == 0) = false := by simp; omega
          clear hc1
          go_wp2_with fail
          exact ⟨⟨r + 1, by omega, by go_num, HB9⟩, by simp [intOf]; omega⟩
      · obtain rfl : r = N := by omega
        have HBF := Lib.hid (HF.out.trans (HB.out.mono HF.out.size))
        go_wp2
        go_ret
        exact ⟨rfl, HBF.out⟩

end Go.Proofs.Ytkolfdoclchaaaa
