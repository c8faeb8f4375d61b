/-
  The walk of punchcutlaw09.GridCode (no claim is made here).
-/
import Derived.Test.YtaadponhmnaccaaAwake9
import Derived.Test.YtaadponhmnaccaaGrd4
namespace Go.Proofs.Ytaadponhmnaccaa
open Go.RowKit

theorem stepG_le (s e : Int) (hs : 1 ≤ s) (he : 0 ≤ e) : stepG s e ≤ stepG s (e + 1) := by
  by_cases h : e + 1 < 256 * s
  · unfold stepG
    rw [if_pos (by omega), if_pos h]
    exact Int.ediv_le_ediv (by omega) (by omega)
  · have := (stepG_in s e hs he).2
    rw [show stepG s (e + 1) = 127 by unfold stepG; rw [if_neg h]]
    exact this

set_option maxRecDepth 100000 in
set_option maxHeartbeats 1600000 in
theorem gridCode_walk (s0 s1 s2 s3 s4 s5 e g0 : Int) (w : World) (hs : (0 ≤ s0 ∧ s0 ≤ 255) ∧ (0 ≤ s1 ∧ s1 ≤ 255) ∧ (0 ≤ s2 ∧ s2 ≤ 255) ∧ (0 ≤ s3 ∧ s3 ≤ 255) ∧ (0 ≤ s4 ∧ s4 ≤ 255) ∧ (0 ≤ s5 ∧ s5 ≤ 255)) (he : 0 ≤ e ∧ e ≤ 65535) (_ : -128 ≤ g0 ∧ g0 ≤ 127) :
    Calls Try.prog 5 #[.agg #[.int .u8 s0, .int .u8 s1, .int .u8 s2, .int .u8 s3, .int .u8 s4, .int .u8 s5], .int .u16 e, .int .i8 g0] w fun e w' => e = .returned (.bool true) ∧ Below w.heap.size w w' := by
  obtain ⟨h0, h1, h2, h3, h4, h5⟩ := hs
  have HS := Lib.hid (fun w => sgrid_any s0 s1 s2 s3 s4 s5 h0 h1 h2 h3 h4 h5 w)
  have HK0 := Lib.hid (Blk.new w 25 [.int .u8 s0, .int .u8 s1, .int .u8 s2, .int .u8 s3, .int .u8 s4, .int .u8 s5] rfl)
  have HB0 := Lib.hid ((Below.refl _ w).alloc (Nat.le_refl _) (.cells #[.int .u8 s0, .int .u8 s1, .int .u8 s2, .int .u8 s3, .int .u8 s4, .int .u8 s5] 25))
  have bs : 1 ≤ 1 + s5 % 64 ∧ 1 + s5 % 64 ≤ 64 := by omega
  clear h0 h1 h2 h3 h4 h5
  generalize s0 - 128 = x at *
  generalize s1 - 128 = y at *
  generalize 1 + s2 % 16 = p at *
  generalize 1 + s3 % 10 = u at *
  generalize 1 + s4 % 10 = v at *
  generalize 1 + s5 % 64 = s at *
  have hg1 : -1 ≤ g0.tmod 2 ∧ g0.tmod 2 ≤ 1 := by rw [Int.tmod_eq_emod]; split <;> omega
  obtain ⟨g, hg⟩ : ∃ g, g0.tmod 2 = g := ⟨_, rfl⟩
  rw [hg] at hg1
  have hgw : IntKind.i8.wrap (g0.tmod 2) = g := by rw [hg]; exact IntWalk.i8_in _ (by omega)
  have hgw2 : IntKind.i64.wrap (g0.tmod 2) = g := by rw [hg]; exact wI (by omega) (by omega)
  have HC1 := Lib.hid (fun w => code_any x y p u v s g e bs hg1 (by omega) w)
  have HC2 := Lib.hid (fun w => code_any x y p u v s g (e + 1) bs hg1 (by omega) w)
  have hN := stepG_in s e bs.1 he.1
  have hM := stepG_in s (e + 1) bs.1 (by omega)
  have hNM := stepG_le s e bs.1 he.1
  have hn : stepG s e = if e < 256 * s then 127 * e / (256 * s) else 127 := by unfold stepG; rw [Int.mul_comm e 127]
  generalize stepG s e = N at *
  generalize stepG s (e + 1) = M at *
  obtain ⟨gN, hgN⟩ : ∃ z, g * N = z := ⟨_, rfl⟩
  obtain ⟨gM, hgM⟩ : ∃ z, g * M = z := ⟨_, rfl⟩
  obtain ⟨Z, hZ⟩ : ∃ z, (128 + gM - (128 + gN)) * g = z := ⟨_, rfl⟩
  have f : 0 ≤ Z ∧ (-127 ≤ gN ∧ gN ≤ 127) ∧ (-127 ≤ gM ∧ gM ≤ 127) ∧ Z ≤ 1000 := by
    obtain rfl | rfl | rfl : g = -1 ∨ g = 0 ∨ g = 1 := by omega
    all_goals omega
  obtain ⟨f1, f2, f3, f4⟩ := f
  rw [hgN] at HC1
  rw [hgM] at HC2
  have w1 : IntKind.i64.wrap (g * N) = gN := by rw [hgN]; exact wI (by omega) (by omega)
  have w2 : IntKind.i64.wrap ((128 + gM - (128 + gN)) * g) = Z := by rw [hZ]; exact wI (by omega) (by omega)
  have hz : (256 * s == 0) = false := by simp; omega
  clear hgN hgM hZ hg
  by_cases hlt : e < 256 * s
  · rw [if_pos hlt] at hn
    have hq := hn.symm
    clear hn
    go_enter Try.func5, Try.ntmps5
    go_wp2_with fail
    refine (awake9 _).mono ?_
    rintro e w1 ⟨rfl, hb⟩
    have HK1 := Lib.hid (HK0.out.keep hb)
    have HB1 := Lib.hid (HB0.out.trans (hb.mono HB0.out.size))
    clear hb HK0 HB0
    have k0 := HK1.out.cell 0 rfl
    have k1 := HK1.out.cell 1 rfl
    have k2 := HK1.out.cell 2 rfl
    have k3 := HK1.out.cell 3 rfl
    have k4 := HK1.out.cell 4 rfl
    have k5 := HK1.out.cell 5 rfl
    have kl := HK1.out.lt
    go_wp2_with fail
    refine (HS.out _).mono ?_
    rintro e w2 ⟨rfl, hb⟩
    have HB2 := Lib.hid ((HB1.out.trans (hb.mono HB1.out.size)).alloc (Nat.le_trans HB1.out.size hb.size) (.cells #[.int .i64 x, .int .i64 y, .int .i64 p, .int .i64 u, .int .i64 v, .int .i64 s] 23))
    have HG2 := Lib.hid (Blk.new w2 23 [.int .i64 x, .int .i64 y, .int .i64 p, .int .i64 u, .int .i64 v, .int .i64 s] rfl)
    clear hb HK1 HB1 k0 k1 k2 k3 k4 k5 kl HS
    go_wp2_with fail
    generalize hX : w2.heap.size = X at *
    generalize hW : w2.alloc (.cells #[.int .i64 x, .int .i64 y, .int .i64 p, .int .i64 u, .int .i64 v, .int .i64 s] 23) = w3 at *
    clear hX hW
    refine (HC1.out _).mono ?_
    rintro e w4 ⟨rfl, hb⟩
    have HB4 := Lib.hid (HB2.out.trans (hb.mono HB2.out.size))
    have HG4 := Lib.hid (HG2.out.keep hb)
    clear hb HG2 HB2 HC1
    have q0 := HG4.out.cell 0 rfl
    have q1 := HG4.out.cell 1 rfl
    have q2 := HG4.out.cell 2 rfl
    have q3 := HG4.out.cell 3 rfl
    have q4 := HG4.out.cell 4 rfl
    have q5 := HG4.out.cell 5 rfl
    have ql := HG4.out.lt
    go_wp2_with fail
    refine (HC2.out _).mono ?_
    rintro e w5 ⟨rfl, hb⟩
    have HB5 := Lib.hid (HB4.out.trans (hb.mono HB4.out.size))
    clear hb HG4 HB4 HC2 q0 q1 q2 q3 q4 q5 ql
    go_wp2
    go_ret
    exact ⟨ret_bool (decide_eq_true (by omega)), HB5.out⟩
  · rw [if_neg hlt] at hn
    subst hn
    go_enter Try.func5, Try.ntmps5
    go_wp2_with fail
    refine (awake9 _).mono ?_
    rintro e w1 ⟨rfl, hb⟩
    have HK1 := Lib.hid (HK0.out.keep hb)
    have HB1 := Lib.hid (HB0.out.trans (hb.mono HB0.out.size))
    clear hb HK0 HB0
    have k0 := HK1.out.cell 0 rfl
    have k1 := HK1.out.cell 1 rfl
    have k2 := HK1.out.cell 2 rfl
    have k3 := HK1.out.cell 3 rfl
    have k4 := HK1.out.cell 4 rfl
    have k5 := HK1.out.cell 5 rfl
    have kl := HK1.out.lt
    go_wp2_with fail
    refine (HS.out _).mono ?_
    rintro e w2 ⟨rfl, hb⟩
    have HB2 := Lib.hid ((HB1.out.trans (hb.mono HB1.out.size)).alloc (Nat.le_trans HB1.out.size hb.size) (.cells #[.int .i64 x, .int .i64 y, .int .i64 p, .int .i64 u, .int .i64 v, .int .i64 s] 23))
    have HG2 := Lib.hid (Blk.new w2 23 [.int .i64 x, .int .i64 y, .int .i64 p, .int .i64 u, .int .i64 v, .int .i64 s] rfl)
    clear hb HK1 HB1 k0 k1 k2 k3 k4 k5 kl HS
    go_wp2_with fail
    generalize hX : w2.heap.size = X at *
    generalize hW : w2.alloc (.cells #[.int .i64 x, .int .i64 y, .int .i64 p, .int .i64 u, .int .i64 v, .int .i64 s] 23) = w3 at *
    clear hX hW
    refine (HC1.out _).mono ?_
    rintro e w4 ⟨rfl, hb⟩
    have HB4 := Lib.hid (HB2.out.trans (hb.mono HB2.out.size))
    have HG4 := Lib.hid (HG2.out.keep hb)
    clear hb HG2 HB2 HC1
    have q0 := HG4.out.cell 0 rfl
    have q1 := HG4.out.cell 1 rfl
    have q2 := HG4.out.cell 2 rfl
    have q3 := HG4.out.cell 3 rfl
    have q4 := HG4.out.cell 4 rfl
    have q5 := HG4.out.cell 5 rfl
    have ql := HG4.out.lt
    go_wp2_with fail
    refine (HC2.out _).mono ?_
    rintro e w5 ⟨rfl, hb⟩
    have HB5 := Lib.hid (HB4.out.trans (hb.mono HB4.out.size))
    clear hb HG4 HB4 HC2 q0 q1 q2 q3 q4 q5 ql
    go_wp2
    go_ret
    exact ⟨ret_bool (decide_eq_true (by omega)), HB5.out⟩

end Go.Proofs.Ytaadponhmnaccaa
