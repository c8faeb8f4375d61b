/-
  The walk of punchcutlaw13.SweepOne, over what the program is to do (no claim is made here).
-/
import Derived.Test.YteiildeaccngjaaSwp4
import Derived.Test.YteiildeaccngjaaMgrd
import Derived.Test.YteiildeaccngjaaMwnd
import Derived.OpenShut
namespace Go.Proofs.Yteiildeaccngjaa
open Go.RowKit

set_option maxRecDepth 100000 in
set_option maxHeartbeats 1600000 in
theorem sweepOne_walk (H : SwpOK) (S : SdfOK) (a0 a1 b0 b1 s0 s1 s2 s3 s4 s5 : Int) (w : World) (v0 : (Lit.int .i16 a0).wf = true) (v1 : (Lit.int .i16 a1).wf = true) (v2 : (Lit.int .i16 b0).wf = true) (v3 : (Lit.int .i16 b1).wf = true) (hs : (0 ≤ s0 ∧ s0 ≤ 255) ∧ (0 ≤ s1 ∧ s1 ≤ 255) ∧ (0 ≤ s2 ∧ s2 ≤ 255) ∧ (0 ≤ s3 ∧ s3 ≤ 255) ∧ (0 ≤ s4 ∧ s4 ≤ 255) ∧ (0 ≤ s5 ∧ s5 ≤ 255)) :
    Calls Try.prog 6 #[.agg #[.int .i16 a0, .int .i16 a1], .agg #[.int .i16 b0, .int .i16 b1], .agg #[.int .u8 s0, .int .u8 s1, .int .u8 s2, .int .u8 s3, .int .u8 s4, .int .u8 s5]] w fun e w' => e = .returned (.bool true) ∧ Below w.heap.size w w' := by
  have g0 := bounds_i16 v0
  have g1 := bounds_i16 v1
  have g2 := bounds_i16 v2
  have g3 := bounds_i16 v3
  have ha : a0.natAbs ≤ 32768 ∧ a1.natAbs ≤ 32768 := by omega
  have hb : b0.natAbs ≤ 32768 ∧ b1.natAbs ≤ 32768 := by omega
  clear v0 v1 v2 v3 g0 g1 g2 g3
  have HAW := Lib.hid (fun w => awake13 H w)
  have HED := Lib.hid (fun w => edge_any a0 a1 b0 b1 ha hb w)
  have hin : InD ⟨⟨a0.tmod 8193, a1.tmod 8193⟩, ⟨b0.tmod 8193, b1.tmod 8193⟩⟩ := by
    have q : ∀ t : Int, (t.tmod 8193).natAbs ≤ 8192 := fun t => by rw [Int.natAbs_tmod]; exact Nat.le_of_lt_succ (Nat.mod_lt _ (by decide))
    exact ⟨⟨q _, q _⟩, q _, q _⟩
  have HIN := Lib.hid hin
  clear ha hb hin
  obtain ⟨h0, h1, h2, h3, h4, h5⟩ := hs
  have HS := Lib.hid (fun w => sgrid_any s0 s1 s2 s3 s4 s5 h0 h1 h2 h3 h4 h5 w)
  have HB0 := Lib.hid (alloc3 w (.cells #[.int .i16 a0, .int .i16 a1] 55) (.cells #[.int .i16 b0, .int .i16 b1] 55) (.cells #[.int .u8 s0, .int .u8 s1, .int .u8 s2, .int .u8 s3, .int .u8 s4, .int .u8 s5] 24))
  have HA0 := Lib.hid (((Blk.new w 55 [.int .i16 a0, .int .i16 a1] rfl).alloc (.cells #[.int .i16 b0, .int .i16 b1] 55)).alloc (.cells #[.int .u8 s0, .int .u8 s1, .int .u8 s2, .int .u8 s3, .int .u8 s4, .int .u8 s5] 24))
  have HBB := Lib.hid ((Blk.new (w.alloc (.cells #[.int .i16 a0, .int .i16 a1] 55)) 55 [.int .i16 b0, .int .i16 b1] (g := w.heap.size + 1) (by simp)).alloc (.cells #[.int .u8 s0, .int .u8 s1, .int .u8 s2, .int .u8 s3, .int .u8 s4, .int .u8 s5] 24))
  have HK0 := Lib.hid (Blk.new ((w.alloc (.cells #[.int .i16 a0, .int .i16 a1] 55)).alloc (.cells #[.int .i16 b0, .int .i16 b1] 55)) 24 [.int .u8 s0, .int .u8 s1, .int .u8 s2, .int .u8 s3, .int .u8 s4, .int .u8 s5] (g := w.heap.size + 1 + 1) (by simp))
  have hck : checkG (s0 - 128) (s1 - 128) (1 + s2 % 16) (1 + s3 % 10) (1 + s4 % 10) (1 + s5 % 64) = 0 := by unfold checkG; rw [if_neg (by omega), if_neg (by omega)]
  obtain ⟨u, hu⟩ : ∃ u : Nat, 1 + s3 % 10 = u := ⟨(1 + s3 % 10).toNat, by omega⟩
  obtain ⟨v, hv⟩ : ∃ v : Nat, 1 + s4 % 10 = v := ⟨(1 + s4 % 10).toNat, by omega⟩
  rw [hu, hv] at hck HS
  have bu : 1 ≤ u ∧ u ≤ 10 := by omega
  have bv : 1 ≤ v ∧ v ≤ 10 := by omega
  have bx : -128 ≤ s0 - 128 ∧ s0 - 128 ≤ 127 := by omega
  have by' : -128 ≤ s1 - 128 ∧ s1 - 128 ≤ 127 := by omega
  have bp : 1 ≤ 1 + s2 % 16 ∧ 1 + s2 % 16 ≤ 16 := by omega
  have bs : 1 ≤ 1 + s5 % 64 ∧ 1 + s5 % 64 ≤ 64 := by omega
  clear h0 h1 h2 h3 h4 h5 hu hv
  generalize s0 - 128 = x at *
  generalize s1 - 128 = y at *
  generalize 1 + s2 % 16 = p at *
  generalize 1 + s5 % 64 = s at *
  generalize a0.tmod 8193 = c0 at *
  generalize a1.tmod 8193 = c1 at *
  generalize b0.tmod 8193 = d0 at *
  generalize b1.tmod 8193 = d1 at *
  go_enter Try.func6, Try.ntmps6
  go_wp2_with fail
  refine (HAW.out _).mono ?_
  rintro e w1 ⟨rfl, hb⟩
  have HB1 := Lib.hid (below2 HB0.out hb)
  have HA1 := Lib.hid (HA0.out.keep hb)
  have HC1 := Lib.hid (HBB.out.keep hb)
  have HK1 := Lib.hid (HK0.out.keep hb)
  clear hb HB0 HA0 HBB HK0 HAW
  have p0 := HA1.out.cell 0 rfl
  have p1 := HA1.out.cell 1 rfl
  have pl := HA1.out.lt
  have q0 := HC1.out.cell 0 rfl
  have q1 := HC1.out.cell 1 rfl
  have ql := HC1.out.lt
  go_wp2_with fail
  refine (HED.out _).mono ?_
  rintro e w2 ⟨rfl, hb⟩
  have hal : Below w2.heap.size w2 (w2.alloc (.cells #[.int .i64 c0, .int .i64 c1, .int .i64 d0, .int .i64 d1] 50)) := (Below.refl _ _).alloc (Nat.le_refl _) _
  have HB3 := Lib.hid (below2 (below2 HB1.out hb) hal)
  have HK3 := Lib.hid ((HK1.out.keep hb).keep hal)
  have HE3 : Hid (ERd (w2.alloc (.cells #[.int .i64 c0, .int .i64 c1, .int .i64 d0, .int .i64 d1] 50)) (.slice (some ⟨w2.heap.size, 0, none⟩) 1 1) [⟨⟨c0, c1⟩, ⟨d0, d1⟩⟩]) := Lib.hid (erd_blk (Blk.new w2 50 (ecells [⟨⟨c0, c1⟩, ⟨d0, d1⟩⟩]) rfl) rfl)
  clear hb hal HB1 HA1 HC1 HK1 HED p0 p1 pl q0 q1 ql
  have k0 := HK3.out.cell 0 rfl
  have k1 := HK3.out.cell 1 rfl
  have k2 := HK3.out.cell 2 rfl
  have k3 := HK3.out.cell 3 rfl
  have k4 := HK3.out.cell 4 rfl
  have k5 := HK3.out.cell 5 rfl
  have kl := HK3.out.lt
  go_wp2_with fail
  generalize w2.alloc (.cells #[.int .i64 c0, .int .i64 c1, .int .i64 d0, .int .i64 d1] 50) = w2b at *
  generalize w2.heap.size = E at *
  refine (HS.out _).mono ?_
  rintro e w3 ⟨rfl, hb⟩
  have HU3 := Lib.hid (HE3.out.keep hb)
  replace HB3 := Lib.hid (below2 HB3.out hb)
  replace HK3 := Lib.hid (HK3.out.keep hb)
  clear hb HE3 HS k0 k1 k2 k3 k4 k5 kl
  go_wp2_with fail
  have hal : Below w3.heap.size w3 (w3.alloc (.cells #[.int .i64 x, .int .i64 y, .int .i64 p, .int .i64 u, .int .i64 v, .int .i64 s] 29)) := (Below.refl _ _).alloc (Nat.le_refl _) _
  have HU4 := Lib.hid (HU3.out.keep hal)
  have HB4 := Lib.hid (below2 HB3.out hal)
  have HG4 := Lib.hid (Blk.new w3 29 [.int .i64 x, .int .i64 y, .int .i64 p, .int .i64 u, .int .i64 v, .int .i64 s] rfl)
  clear hal HU3 HB3 HK3
  generalize w3.alloc (.cells #[.int .i64 x, .int .i64 y, .int .i64 p, .int .i64 u, .int .i64 v, .int .i64 s] 29) = w4 at *
  generalize w3.heap.size = G at *
  have hin1 : ∀ s ∈ [(⟨⟨c0, c1⟩, ⟨d0, d1⟩⟩ : Ed)], InD s := by intro s hs; rw [List.mem_singleton] at hs; subst hs; exact HIN.out
  have HM1 := Lib.hid (fun w h => H.make (.slice (some ⟨E, 0, none⟩) 1 1) [⟨⟨c0, c1⟩, ⟨d0, d1⟩⟩] x y p s u v w h (by simp) hin1 hck)
  have HM2 := Lib.hid (fun w h => S.make (.slice (some ⟨E, 0, none⟩) 1 1) [⟨⟨c0, c1⟩, ⟨d0, d1⟩⟩] x y p s u v w h (by simp) hin1 hck)
  rw [fldS_one _ x y p s u v (by omega) (by omega)] at HM1
  have HLT := Lib.hid (fldN_lt [⟨⟨c0, c1⟩, ⟨d0, d1⟩⟩] x y p s u (u * v) bs.1)
  generalize fldN [⟨⟨c0, c1⟩, ⟨d0, d1⟩⟩] x y p s u (u * v) = ft at *
  obtain ⟨U, hU⟩ : ∃ U, ft.length = U := ⟨_, rfl⟩
  clear hck hin1
  have k0 := HG4.out.cell 0 rfl
  have k1 := HG4.out.cell 1 rfl
  have k2 := HG4.out.cell 2 rfl
  have k3 := HG4.out.cell 3 rfl
  have k4 := HG4.out.cell 4 rfl
  have k5 := HG4.out.cell 5 rfl
  have kl := HG4.out.lt
  go_wp2_with fail
  refine (HM1.out _ HU4.out).mono ?_
  rintro e w5 ⟨V, rfl, hV, hb⟩
  obtain ⟨Aa, capa, rfl⟩ := hV.form
  rw [hU] at hV ⊢
  have hal : Below w5.heap.size w5 (w5.alloc (.cells #[.int .i64 u, .int .i64 v, .slice Aa U capa] 36)) := (Below.refl _ _).alloc (Nat.le_refl _) _
  have HU6 := Lib.hid ((HU4.out.keep hb).keep hal)
  have HG6 := Lib.hid ((HG4.out.keep hb).keep hal)
  have HB6 := Lib.hid (below2 (below2 HB4.out hb) hal)
  have HA6 := Lib.hid (hV.keep hal)
  have HX6 := Lib.hid (Blk.new w5 36 [.int .i64 u, .int .i64 v, .slice Aa U capa] rfl)
  clear hb hal hV HU4 HG4 HB4 HM1 k0 k1 k2 k3 k4 k5 kl
  have k0 := HG6.out.cell 0 rfl
  have k1 := HG6.out.cell 1 rfl
  have k2 := HG6.out.cell 2 rfl
  have k3 := HG6.out.cell 3 rfl
  have k4 := HG6.out.cell 4 rfl
  have k5 := HG6.out.cell 5 rfl
  have kl := HG6.out.lt
  go_wp2_with fail
  refine (HM2.out _ HU6.out).mono ?_
  rintro e w7 ⟨V, rfl, hV, hb⟩
  obtain ⟨Ab, capb, rfl⟩ := hV.form
  rw [hU] at hV ⊢
  have hal : Below w7.heap.size w7 (w7.alloc (.cells #[.int .i64 u, .int .i64 v, .slice Ab U capb] 36)) := (Below.refl _ _).alloc (Nat.le_refl _) _
  have HB8 := Lib.hid (below2 (below2 HB6.out hb) hal)
  have HA8 := Lib.hid ((HA6.out.keep hb).keep hal)
  have HX8 := Lib.hid ((HX6.out.keep hb).keep hal)
  have HC8 := Lib.hid (hV.keep hal)
  have HY8 := Lib.hid (Blk.new w7 36 [.int .i64 u, .int .i64 v, .slice Ab U capb] rfl)
  have HSM := Lib.hid (fun w h1 h2 => same10_any u v (.slice Aa U capa) (.slice Ab U capb) ft w h1 h2)
  clear hb hal hV HU6 HG6 HB6 HA6 HX6 HM2 k0 k1 k2 k3 k4 k5 kl
  have x0 := HX8.out.cell 0 rfl
  have x1 := HX8.out.cell 1 rfl
  have x2 := HX8.out.cell 2 rfl
  have xl := HX8.out.lt
  go_wp2_with fail
  refine (HSM.out _ (HA8.out.read HLT.out) (HC8.out.read HLT.out)).mono ?_
  rintro e w9 ⟨rfl, hb⟩
  have HB9 := Lib.hid (below2 HB8.out hb)
  clear hb
  go_wp2_with fail
  go_ret
  exact ⟨rfl, HB9.out⟩

end Go.Proofs.Yteiildeaccngjaa
