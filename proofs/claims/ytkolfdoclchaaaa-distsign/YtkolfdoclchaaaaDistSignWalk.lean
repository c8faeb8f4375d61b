/-
  What the law DistSign does to any world (no claim is made here).
-/
import Derived.Test.YtkolfdoclchaaaaDst2
import Derived.OpenShut
namespace Go.Proofs.Ytkolfdoclchaaaa
open Go.RowKit

set_option maxRecDepth 100000 in
set_option maxHeartbeats 6400000 in
theorem distSign_walk (A : Option Addr) (n cap : Nat) (cs : List (List Dot)) (m p0 p1 : Int) (w : World) (hcs : DotRows w A n cap cs) (hm : 0 ≤ m ∧ m ≤ 65535) (hp0 : (Lit.int .i16 p0).wf = true) (hp1 : (Lit.int .i16 p1).wf = true) :
    Calls Try.prog 6 #[.slice A n cap, .int .u16 m, .agg #[.int .i16 p0, .int .i16 p1]] w fun e w' => e = .returned (.bool true) ∧ Below w.heap.size w w' := by
  have HD := Lib.hid hcs
  have b0 := bounds_i16 hp0
  have b1 := bounds_i16 hp1
  have HP := Lib.hid (show p0.natAbs ≤ 32768 ∧ p1.natAbs ≤ 32768 by omega)
  have HM := Lib.hid (show 0 ≤ m ∧ m < 65536 by omega)
  clear hcs hp0 hp1 b0 b1 hm
  have HB0 := Lib.hid ((Below.refl _ w).alloc (Nat.le_refl _) (.cells #[.int .i16 p0, .int .i16 p1] 26))
  have HP0 := Lib.hid (Blk.new w 26 [.int .i16 p0, .int .i16 p1] rfl)
  go_enter Try.func6, Try.ntmps6
  go_wp2_with fail
  refine (awake8 _).mono ?_
  rintro e w1 ⟨rfl, hb1⟩
  have HP1 := Lib.hid (HP0.out.keep hb1)
  have HB1 := Lib.hid (HB0.out.trans (hb1.mono HB0.out.size))
  have HC := Lib.hid (glyph7 A n cap cs w1 (HD.out.keep HB1.out))
  clear hb1 HP0 HB0 HD
  go_wp2_with fail
  refine HC.out.mono ?_
  rintro e w2 ⟨u, es, rfl, hu, hln, hin, hcl, hb2⟩
  have HP2 := Lib.hid (HP1.out.keep hb2)
  have HB2 := Lib.hid (HB1.out.trans (hb2.mono HB1.out.size))
  have HU := Lib.hid (ERow.read hu)
  have HIN := Lib.hid hin
  have hln2 : es.length ≤ 200000 := by omega
  have HX := Lib.hid (spot_any u es m p0 p1 w2 HU.out hin HM.out HP.out)
  obtain ⟨Au, capu, rfl⟩ := hu.form
  have HLN := Lib.hid hln2
  obtain ⟨N, hN⟩ : ∃ N, es.length = N := ⟨_, rfl⟩
  rw [hN] at HU HX hln
  rw [hN]
  have HN := Lib.hid hN
  have hcu : N ≤ capu := by obtain ⟨_, _, e, h, _⟩ := HU.out; injection e with _ _ e; omega
  have q0 := HP2.out.cell 0 rfl
  have q1 := HP2.out.cell 1 rfl
  have qn := HP2.out.lt
  clear hu hin hcl hb2 HC HB1 hN HP1 hln2
  go_wp2_with fail
  refine HX.out.mono ?_
  rintro e w3 ⟨x, y, rfl, hxy, hb3⟩
  have HB3 := Lib.hid (HB2.out.trans (hb3.mono HB2.out.size))
  have HU3 := Lib.hid (HU.out.keep hb3)
  have HXY := Lib.hid hxy
  clear hb3 HX HB2 HP2 HU q0 q1 qn HM HP hxy
  have HB4 := Lib.hid (HB3.out.alloc HB3.out.size (.cells #[.int .i64 x, .int .i64 y] 31))
  have HQ4 := Lib.hid (Blk.new w3 31 [.int .i64 x, .int .i64 y] rfl)
  have HU4 := Lib.hid (HU3.out.keep ((Below.refl _ w3).alloc (Nat.le_refl _) (.cells #[.int .i64 x, .int .i64 y] 31)))
  clear HU3 HB3
  go_wp2_with fail
  generalize hw4 : w3.alloc (.cells #[.int .i64 x, .int .i64 y] 31) = w4 at *
  generalize hgx : w3.heap.size = gx at *
  have hS0 := S2_blk HQ4.out
  have hSD := S2_drew hS0
  have qn := HQ4.out.lt
  clear hw4 hgx HQ4
  have H1 := Lib.hid (fun w (h : ERd w (.slice Au N capu) es) => number_any _ es x y w h HLN.out HIN.out HXY.out)
  have H4 := Lib.hid (fun w (h : ERd w (.slice Au N capu) es) => on_any _ es x y w h HLN.out HIN.out HXY.out)
  have H2 := Lib.hid (fun w (h : ERd w (.slice Au N capu) es) => near_any _ es x y w h HLN.out HIN.out HXY.out)
  have hS := fun w (h : ERd w (.slice Au N capu) es) => sign_any _ es x y w h HLN.out HIN.out HXY.out
  unfold sgS at hS
  obtain ⟨O, hO⟩ : ∃ O, onS es ⟨x, y⟩ = O := ⟨_, rfl⟩
  obtain ⟨Q, hQ⟩ : ∃ Q, numS es ⟨x, y⟩ = Q := ⟨_, rfl⟩
  have HO := Lib.hid hO
  rw [hO, hQ] at hS
  rw [hO] at H4
  rw [hQ] at H1
  have q0 := hS0.1
  have q1 := hS0.2.1
  clear hSD hO hQ
  go_wp2_with fail
  refine (H1.out _ HU4.out).mono ?_
  rintro e w5 ⟨rfl, hb5⟩
  have HU5 := Lib.hid (HU4.out.keep hb5)
  have HB5 := Lib.hid (HB4.out.trans (hb5.mono HB4.out.size))
  have r0 := keep hb5 q0
  have r1 := keep hb5 q1
  clear hb5 q0 q1 hS0 HU4 HB4 H1
  by_cases hz : Q = 0
  · subst hz
    go_wp2_with fail
    refine (H4.out _ HU5.out).mono ?_
    rintro e w6 ⟨rfl, hb6⟩
    have HU6 := Lib.hid (HU5.out.keep hb6)
    have HB6 := Lib.hid (HB5.out.trans (hb6.mono HB5.out.size))
    have s0 := keep hb6 r0
    have s1 := keep hb6 r1
    clear hb6 r0 r1 HU5 HB5 H4
    cases O
    · simp only [if_pos, Bool.false_eq_true, if_false] at hS
      have H3 := Lib.hid hS
      clear hS
      go_wp2_with fail
      refine (H2.out _ HU6.out).mono ?_
      rintro e w7 ⟨f0, f1, k, rfl, hK, hb7⟩
      have HB7 := Lib.hid (HB6.out.trans (hb7.mono HB6.out.size))
      have HU7 := Lib.hid (HU6.out.keep hb7)
      have t0 := keep hb7 s0
      have t1 := keep hb7 s1
      have hON := hK.on
      rw [HO.out] at hON
      have gz : gx < w7.heap.size := World.block_lt_of_cell? w7 _ t0
      have HB8 := Lib.hid (HB7.out.alloc HB7.out.size (.cells #[.int .i64 f0, .int .i64 f1] 34))
      have HU8 := Lib.hid (HU7.out.keep ((Below.refl _ w7).alloc (Nat.le_refl _) (.cells #[.int .i64 f0, .int .i64 f1] 34)))
      clear hb7 HB6 HU6 s0 s1 H2 hK HU7
      have hT : (decide (0 ≤ k) && (f0 == 0)) = false := by
        rw [Bool.and_eq_false_iff]
        simp only [Bool.false_eq_true, false_iff, not_and] at hON
        by_cases h : 0 ≤ k
        · right; simpa using hON h
        · left; simpa using h
      clear hON
      rcases (Bool.and_eq_false_iff.1 hT) with h | h
      · have h' : k < 0 := by simpa using h
        clear h hT
        go_wp2_with fail
        refine (H3.out _ HU8.out).mono ?_
        rintro e w9 ⟨rfl, hb9⟩
        obtain ⟨z0, z1, zn⟩ := two_kept rfl hb9
        have HB9 := Lib.hid (HB8.out.trans (hb9.mono HB8.out.size))
        clear hb9
        go_wp2
        all_goals
          go_ret
          exact ⟨rfl, HB9.out⟩
      · by_cases h' : 0 ≤ k
        · clear hT
          go_wp2_with fail
          refine (H3.out _ HU8.out).mono ?_
          rintro e w9 ⟨rfl, hb9⟩
          obtain ⟨z0, z1, zn⟩ := two_kept rfl hb9
          have HB9 := Lib.hid (HB8.out.trans (hb9.mono HB8.out.size))
          clear hb9
          go_wp2
          all_goals
            go_ret
            exact ⟨rfl, HB9.out⟩
        · have h'' : k < 0 := by omega
          clear hT h' h
          go_wp2_with fail
          refine (H3.out _ HU8.out).mono ?_
          rintro e w9 ⟨rfl, hb9⟩
          obtain ⟨z0, z1, zn⟩ := two_kept rfl hb9
          have HB9 := Lib.hid (HB8.out.trans (hb9.mono HB8.out.size))
          clear hb9
          go_wp2
          all_goals
            go_ret
            exact ⟨rfl, HB9.out⟩
    · simp only [if_true] at hS
      have H3 := Lib.hid hS
      clear hS
      go_wp2_with fail
      refine (H2.out _ HU6.out).mono ?_
      rintro e w7 ⟨f0, f1, k, rfl, hK, hb7⟩
      have HB7 := Lib.hid (HB6.out.trans (hb7.mono HB6.out.size))
      have HU7 := Lib.hid (HU6.out.keep hb7)
      have t0 := keep hb7 s0
      have t1 := keep hb7 s1
      have hON := hK.on
      rw [HO.out] at hON
      have gz : gx < w7.heap.size := World.block_lt_of_cell? w7 _ t0
      have HB8 := Lib.hid (HB7.out.alloc HB7.out.size (.cells #[.int .i64 f0, .int .i64 f1] 34))
      have HU8 := Lib.hid (HU7.out.keep ((Below.refl _ w7).alloc (Nat.le_refl _) (.cells #[.int .i64 f0, .int .i64 f1] 34)))
      clear hb7 HB6 HU6 s0 s1 H2 hK HU7
      have hT := hON.1 rfl
      obtain ⟨h1, h2⟩ := hT
      simp only [] at h2
      subst h2
      clear hON
      go_wp2_with fail
      refine (H3.out _ HU8.out).mono ?_
      rintro e w9 ⟨rfl, hb9⟩
      obtain ⟨z0, z1, zn⟩ := two_kept rfl hb9
      have HB9 := Lib.hid (HB8.out.trans (hb9.mono HB8.out.size))
      clear hb9
      go_wp2
      all_goals
        go_ret
        exact ⟨rfl, HB9.out⟩
  · have hz' : (Q == 0) = false := by simp; omega
    go_wp2_with fail
    refine (H4.out _ HU5.out).mono ?_
    rintro e w6 ⟨rfl, hb6⟩
    have HU6 := Lib.hid (HU5.out.keep hb6)
    have HB6 := Lib.hid (HB5.out.trans (hb6.mono HB5.out.size))
    have s0 := keep hb6 r0
    have s1 := keep hb6 r1
    clear hb6 r0 r1 HU5 HB5 H4
    cases O
    · simp only [if_neg hz, Bool.false_eq_true, if_false] at hS
      have H3 := Lib.hid hS
      clear hS
      go_wp2_with fail
      refine (H2.out _ HU6.out).mono ?_
      rintro e w7 ⟨f0, f1, k, rfl, hK, hb7⟩
      have HB7 := Lib.hid (HB6.out.trans (hb7.mono HB6.out.size))
      have HU7 := Lib.hid (HU6.out.keep hb7)
      have t0 := keep hb7 s0
      have t1 := keep hb7 s1
      have hON := hK.on
      rw [HO.out] at hON
      have gz : gx < w7.heap.size := World.block_lt_of_cell? w7 _ t0
      have HB8 := Lib.hid (HB7.out.alloc HB7.out.size (.cells #[.int .i64 f0, .int .i64 f1] 34))
      have HU8 := Lib.hid (HU7.out.keep ((Below.refl _ w7).alloc (Nat.le_refl _) (.cells #[.int .i64 f0, .int .i64 f1] 34)))
      clear hb7 HB6 HU6 s0 s1 H2 hK HU7
      have hT : (decide (0 ≤ k) && (f0 == 0)) = false := by
        rw [Bool.and_eq_false_iff]
        simp only [Bool.false_eq_true, false_iff, not_and] at hON
        by_cases h : 0 ≤ k
        · right; simpa using hON h
        · left; simpa using h
      clear hON
      by_cases h' : 0 ≤ k
      · have h : (f0 == 0) = false := by simpa [h'] using hT
        clear hT
        go_wp2_with fail
        refine (H3.out _ HU8.out).mono ?_
        rintro e w9 ⟨rfl, hb9⟩
        obtain ⟨z0, z1, zn⟩ := two_kept rfl hb9
        have HB9 := Lib.hid (HB8.out.trans (hb9.mono HB8.out.size))
        clear hb9
        go_wp2
        all_goals
          go_ret
          exact ⟨rfl, HB9.out⟩
      · have h'' : k < 0 := by omega
        clear hT h'
        go_wp2_with fail
        refine (H3.out _ HU8.out).mono ?_
        rintro e w9 ⟨rfl, hb9⟩
        obtain ⟨z0, z1, zn⟩ := two_kept rfl hb9
        have HB9 := Lib.hid (HB8.out.trans (hb9.mono HB8.out.size))
        clear hb9
        go_wp2
        all_goals
          go_ret
          exact ⟨rfl, HB9.out⟩
    · simp only [if_true] at hS
      have H3 := Lib.hid hS
      clear hS
      go_wp2_with fail
      refine (H2.out _ HU6.out).mono ?_
      rintro e w7 ⟨f0, f1, k, rfl, hK, hb7⟩
      have HB7 := Lib.hid (HB6.out.trans (hb7.mono HB6.out.size))
      have HU7 := Lib.hid (HU6.out.keep hb7)
      have t0 := keep hb7 s0
      have t1 := keep hb7 s1
      have hON := hK.on
      rw [HO.out] at hON
      have gz : gx < w7.heap.size := World.block_lt_of_cell? w7 _ t0
      have HB8 := Lib.hid (HB7.out.alloc HB7.out.size (.cells #[.int .i64 f0, .int .i64 f1] 34))
      have HU8 := Lib.hid (HU7.out.keep ((Below.refl _ w7).alloc (Nat.le_refl _) (.cells #[.int .i64 f0, .int .i64 f1] 34)))
      clear hb7 HB6 HU6 s0 s1 H2 hK HU7
      have hT := hON.1 rfl
      obtain ⟨h1, h2⟩ := hT
      simp only [] at h2
      subst h2
      clear hON
      go_wp2_with fail
      refine (H3.out _ HU8.out).mono ?_
      rintro e w9 ⟨rfl, hb9⟩
      obtain ⟨z0, z1, zn⟩ := two_kept rfl hb9
      have HB9 := Lib.hid (HB8.out.trans (hb9.mono HB8.out.size))
      clear hb9
      go_wp2
      all_goals
        go_ret
        exact ⟨rfl, HB9.out⟩

end Go.Proofs.Ytkolfdoclchaaaa
