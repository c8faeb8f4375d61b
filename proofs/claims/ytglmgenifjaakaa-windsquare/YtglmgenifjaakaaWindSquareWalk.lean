/-
  What the law WindSquare does to any world (no claim is made here).
-/
import Derived.Test.YtglmgenifjaakaaWnd6
import Derived.Test.YtglmgenifjaakaaFlt8
import Derived.OpenShut
namespace Go.Proofs.Ytglmgenifjaakaa
open Go.RowKit

set_option maxRecDepth 100000 in
set_option maxHeartbeats 6400000 in
theorem windSquare_core (a0 a1 ww hh xx yy px py M N X Y u0 u1 zx zy : Int) (w : World) (ha0 : -32768 ≤ a0 ∧ a0 ≤ 32767) (ha1 : -32768 ≤ a1 ∧ a1 ≤ 32767) (e0 : a0.tmod 1000 = px) (e1 : a1.tmod 1000 = py) (b0 : -999 ≤ px ∧ px ≤ 999) (b1 : -999 ≤ py ∧ py ≤ 999) (hw : 0 ≤ ww ∧ ww ≤ 255) (hh0 : 0 ≤ hh ∧ hh ≤ 255) (hx : 0 ≤ xx ∧ xx ≤ 255) (hy : 0 ≤ yy ∧ yy ≤ 255)
    (em : ww + 1 = M) (en : hh + 1 = N) (eX : px + M = X) (eY : py + N = Y) (eu0 : px - 20 = u0) (eu1 : py - 20 = u1) (ez0 : u0 + xx = zx) (ez1 : u1 + yy = zy) :
    Calls Try.prog 7 #[.agg #[.int .i16 a0, .int .i16 a1], .int .u8 ww, .int .u8 hh, .int .u8 xx, .int .u8 yy] w fun e w' => e = .returned (.bool true) ∧ Below w.heap.size w w' := by
  have HP0 := Lib.hid (Blk.new w 26 [.int .i16 a0, .int .i16 a1] rfl)
  have bM : 1 ≤ M ∧ M ≤ 256 := by omega
  have bN : 1 ≤ N ∧ N ≤ 256 := by omega
  have bX : -999 ≤ X ∧ X ≤ 1255 := by omega
  have bY : -999 ≤ Y ∧ Y ≤ 1255 := by omega
  have bu0 : -1019 ≤ u0 ∧ u0 ≤ 979 := by omega
  have bu1 : -1019 ≤ u1 ∧ u1 ≤ 979 := by omega
  have bz0 : -1019 ≤ zx ∧ zx ≤ 1234 := by omega
  have bz1 : -1019 ≤ zy ∧ zy ≤ 1234 := by omega
  have HX := Lib.hid eX
  have HY := Lib.hid eY
  obtain ⟨i0, hi0, hz0, hz1, hz2⟩ := infos einfo
  go_enter Try.func7, Try.ntmps7
  go_wp2_with fail
  refine (awake7 _).mono ?_
  rintro e w1 ⟨rfl, hb1⟩
  have HP1 := Lib.hid (HP0.out.keep hb1)
  have HB1 := Lib.hid (((Below.refl _ w).alloc (Nat.le_refl _) (.cells #[.int .i16 a0, .int .i16 a1] 26)).trans (hb1.mono (by simp)))
  have q0 := HP1.out.cell 0 rfl
  have q1 := HP1.out.cell 1 rfl
  have qn := HP1.out.lt
  clear hb1 HP0 HP1
  go_wp2_with fail
  have HB2 := Lib.hid (HB1.out.trans ((alloc2 w1 (.cells #[.int .i64 px, .int .i64 py] 31) (.cells #[.int .i64 px, .int .i64 py, .int .i64 X, .int .i64 py, .int .i64 X, .int .i64 Y, .int .i64 px, .int .i64 Y] 31)).mono HB1.out.size))
  have HP2 := Lib.hid ((Blk.new w1 31 [.int .i64 px, .int .i64 py] rfl).alloc (.cells #[.int .i64 px, .int .i64 py, .int .i64 X, .int .i64 py, .int .i64 X, .int .i64 Y, .int .i64 px, .int .i64 Y] 31))
  have HQ2 := Lib.hid (Blk.new (w1.alloc (.cells #[.int .i64 px, .int .i64 py] 31)) 31 [.int .i64 px, .int .i64 py, .int .i64 X, .int .i64 py, .int .i64 X, .int .i64 Y, .int .i64 px, .int .i64 Y] (g := w1.heap.size + 1) (by simp))
  have hw2z : ((w1.alloc (.cells #[.int .i64 px, .int .i64 py] 31)).alloc (.cells #[.int .i64 px, .int .i64 py, .int .i64 X, .int .i64 py, .int .i64 X, .int .i64 Y, .int .i64 px, .int .i64 Y] 31)).heap.size = w1.heap.size + 1 + 1 := by simp
  generalize hw2 : (w1.alloc (.cells #[.int .i64 px, .int .i64 py] 31)).alloc (.cells #[.int .i64 px, .int .i64 py, .int .i64 X, .int .i64 py, .int .i64 X, .int .i64 Y, .int .i64 px, .int .i64 Y] 31) = w2 at *
  have hgq0 : w1.heap.size + 1 < w2.heap.size := by omega
  generalize w1.heap.size + 1 = gq at *
  generalize w1.heap.size = gp at *
  obtain ⟨base, hbase⟩ : ∃ b, b = w2.heap.size := ⟨_, rfl⟩
  have hgq := Lib.hid (show gq < base by omega)
  have HBZ := Lib.hid hbase
  have HE0 : Hid (ERow w2 base (.slice none 0 0) ((rectS ⟨px, py⟩ M N).take 0)) := Lib.hid (ERow.nil _ _)
  clear q0 q1 qn hw2 hw2z hgq0 HB1 hbase eX eY em en
  go_loopw [64, 15] (fun i u wr => ∃ r : Nat, r ≤ 4 ∧ i = .int .i64 r ∧ Hid (ERow wr base u ((rectS ⟨px, py⟩ M N).take r)) ∧ Hid (Blk wr gq 31 [.int .i64 px, .int .i64 py, .int .i64 X, .int .i64 py, .int .i64 X, .int .i64 Y, .int .i64 px, .int .i64 Y]) ∧ Hid (Below w2.heap.size w2 wr)) (fun i _ _ => 4 - (intOf i).toNat)
  case atStart => exact ⟨0, by omega, rfl, HE0, HQ2, Lib.hid (Below.refl _ _)⟩
  case round =>
    obtain ⟨r, hr, rfl, HE, HQ, HB⟩ := hrel
    clear HE0 HQ2
    by_cases hr4 : r < 4
    · obtain ⟨Au, capu, e⟩ := HE.out.form
      have hl : ((rectS ⟨px, py⟩ M N).take r).length = r := by rw [List.length_take]; show min r 4 = r; omega
      rw [hl] at e
      subst e
      clear hl
      have q0 := HQ.out.cell 0 rfl
      have q1 := HQ.out.cell 1 rfl
      have q2 := HQ.out.cell 2 rfl
      have q3 := HQ.out.cell 3 rfl
      have q4 := HQ.out.cell 4 rfl
      have q5 := HQ.out.cell 5 rfl
      have q6 := HQ.out.cell 6 rfl
      have q7 := HQ.out.cell 7 rfl
      have qn := HQ.out.lt
      have hc : r = 0 ∨ r = 1 ∨ r = 2 ∨ r = 3 := by omega
      clear hr hr4
      rcases hc with rfl | rfl | rfl | rfl
      · have HR1 := Lib.hid (show some gq ≠ Value.ownBlock (.slice Au 0 capu) from fun e => by have h1 := (World.ownsRow.lt HE.out gq e.symm).1; have h2 := hgq.out; omega)
        have HR2 := Lib.hid (fun q (hq : (Value.slice Au 0 capu).ownBlock = some q) => (World.ownsRow.lt HE.out q hq).1)
        have hzw : base ≤ wr.heap.size := by have h1 := HB.out.size; have h2 := HBZ.out; omega
        have hwk : IntKind.i64.wrap 1 = 1 := by decide
        have ht : Int.tmod 1 4 = 1 := by decide
        go_wp2_with fail
        go_region_law (first
          | (refine step_append_lies _ ?_ (.tmp 67) (.tmp 79) 28 ?_ base 37 i0 _ 4 32 Try.underlying28 hi0 hz0 hz1 hz2 ?_ ?_ (.slice Au 0 capu) 0 (ecells ((rectS ⟨px, py⟩ M N).take 0)) ?_ ?_ ⟨wr.heap.size, 0, none⟩ 1 1 [.int .i64 px, .int .i64 py, .int .i64 X, .int .i64 py] ?_ ?_ ?_ ?_ ?_ ?_ ?_ ?_ _ rfl ?_
             rfl
             rfl
             rfl
             omega
             kernel_rfl
             exact ERow.own (ERow.alloc (w := wr.drew) (ERow.below HE.out ((Below.refl _ wr).drew)) _) rfl
             kernel_rfl
             rfl
             exact World.news_of_block (heap_at8 rfl _)
             (simp [Value.oneCell'])
             omega
             (unfold maxLen; omega)
             omega
             exact size_at8 hzw rfl _
             intro g5 cap5 w5 hown5 hgrow5 hat5 hlt5
             have HO5 := Lib.hid hown5
             have HG5 := Lib.hid hgrow5
             clear hown5 hgrow5 hat5 hlt5))
        all_goals
          have FN : Hid (ERow w5 base (.slice (some ⟨g5, 0, none⟩) 1 cap5) ((rectS ⟨px, py⟩ M N).take 1)) := Lib.hid (by
            have h := ERow.push8 (l := (rectS ⟨px, py⟩ M N).take 0) rfl HO5.out
            unfold rectS at h ⊢
            simp only [HX.out, HY.out] at h ⊢
            exact h)
          have HQ6 := Lib.hid ((HQ.out.drew.alloc (.cells #[.int .i64 px, .int .i64 py, .int .i64 X, .int .i64 py] 37)).grown HG5.out HR1.out)
          have HB6 := Lib.hid (((HB.out.drew).alloc HB.out.drew.size (.cells #[.int .i64 px, .int .i64 py, .int .i64 X, .int .i64 py] 37)).grown HG5.out (size_at8 HB.out.size rfl _) (fun q hq => by have h1 := HR2.out q hq; have h2 := HBZ.out; omega))
          go_wp2_with fail
          exact ⟨⟨1, by omega, by go_num, FN, HQ6, HB6⟩, by simp [intOf]⟩
      · have HR1 := Lib.hid (show some gq ≠ Value.ownBlock (.slice Au 1 capu) from fun e => by have h1 := (World.ownsRow.lt HE.out gq e.symm).1; have h2 := hgq.out; omega)
        have HR2 := Lib.hid (fun q (hq : (Value.slice Au 1 capu).ownBlock = some q) => (World.ownsRow.lt HE.out q hq).1)
        have hzw : base ≤ wr.heap.size := by have h1 := HB.out.size; have h2 := HBZ.out; omega
        have hwk : IntKind.i64.wrap 2 = 2 := by decide
        have ht : Int.tmod 2 4 = 2 := by decide
        go_wp2_with fail
        go_region_law (first
          | (refine step_append_lies _ ?_ (.tmp 67) (.tmp 79) 28 ?_ base 37 i0 _ 4 32 Try.underlying28 hi0 hz0 hz1 hz2 ?_ ?_ (.slice Au 1 capu) 1 (ecells ((rectS ⟨px, py⟩ M N).take 1)) ?_ ?_ ⟨wr.heap.size, 0, none⟩ 1 1 [.int .i64 X, .int .i64 py, .int .i64 X, .int .i64 Y] ?_ ?_ ?_ ?_ ?_ ?_ ?_ ?_ _ rfl ?_
             rfl
             rfl
             rfl
             omega
             kernel_rfl
             exact ERow.own (ERow.alloc (w := wr.drew) (ERow.below HE.out ((Below.refl _ wr).drew)) _) rfl
             kernel_rfl
             rfl
             exact World.news_of_block (heap_at8 rfl _)
             (simp [Value.oneCell'])
             omega
             (unfold maxLen; omega)
             omega
             exact size_at8 hzw rfl _
             intro g5 cap5 w5 hown5 hgrow5 hat5 hlt5
             have HO5 := Lib.hid hown5
             have HG5 := Lib.hid hgrow5
             clear hown5 hgrow5 hat5 hlt5))
        all_goals
          have FN : Hid (ERow w5 base (.slice (some ⟨g5, 0, none⟩) 2 cap5) ((rectS ⟨px, py⟩ M N).take 2)) := Lib.hid (by
            have h := ERow.push8 (l := (rectS ⟨px, py⟩ M N).take 1) rfl HO5.out
            unfold rectS at h ⊢
            simp only [HX.out, HY.out] at h ⊢
            exact h)
          have HQ6 := Lib.hid ((HQ.out.drew.alloc (.cells #[.int .i64 X, .int .i64 py, .int .i64 X, .int .i64 Y] 37)).grown HG5.out HR1.out)
          have HB6 := Lib.hid (((HB.out.drew).alloc HB.out.drew.size (.cells #[.int .i64 X, .int .i64 py, .int .i64 X, .int .i64 Y] 37)).grown HG5.out (size_at8 HB.out.size rfl _) (fun q hq => by have h1 := HR2.out q hq; have h2 := HBZ.out; omega))
          go_wp2_with fail
          exact ⟨⟨2, by omega, by go_num, FN, HQ6, HB6⟩, by simp [intOf]⟩
      · have HR1 := Lib.hid (show some gq ≠ Value.ownBlock (.slice Au 2 capu) from fun e => by have h1 := (World.ownsRow.lt HE.out gq e.symm).1; have h2 := hgq.out; omega)
        have HR2 := Lib.hid (fun q (hq : (Value.slice Au 2 capu).ownBlock = some q) => (World.ownsRow.lt HE.out q hq).1)
        have hzw : base ≤ wr.heap.size := by have h1 := HB.out.size; have h2 := HBZ.out; omega
        have hwk : IntKind.i64.wrap 3 = 3 := by decide
        have ht : Int.tmod 3 4 = 3 := by decide
        go_wp2_with fail
        go_region_law (first
          | (refine step_append_lies _ ?_ (.tmp 67) (.tmp 79) 28 ?_ base 37 i0 _ 4 32 Try.underlying28 hi0 hz0 hz1 hz2 ?_ ?_ (.slice Au 2 capu) 2 (ecells ((rectS ⟨px, py⟩ M N).take 2)) ?_ ?_ ⟨wr.heap.size, 0, none⟩ 1 1 [.int .i64 X, .int .i64 Y, .int .i64 px, .int .i64 Y] ?_ ?_ ?_ ?_ ?_ ?_ ?_ ?_ _ rfl ?_
             rfl
             rfl
             rfl
             omega
             kernel_rfl
             exact ERow.own (ERow.alloc (w := wr.drew) (ERow.below HE.out ((Below.refl _ wr).drew)) _) rfl
             kernel_rfl
             rfl
             exact World.news_of_block (heap_at8 rfl _)
             (simp [Value.oneCell'])
             omega
             (unfold maxLen; omega)
             omega
             exact size_at8 hzw rfl _
             intro g5 cap5 w5 hown5 hgrow5 hat5 hlt5
             have HO5 := Lib.hid hown5
             have HG5 := Lib.hid hgrow5
             clear hown5 hgrow5 hat5 hlt5))
        all_goals
          have FN : Hid (ERow w5 base (.slice (some ⟨g5, 0, none⟩) 3 cap5) ((rectS ⟨px, py⟩ M N).take 3)) := Lib.hid (by
            have h := ERow.push8 (l := (rectS ⟨px, py⟩ M N).take 2) rfl HO5.out
            unfold rectS at h ⊢
            simp only [HX.out, HY.out] at h ⊢
            exact h)
          have HQ6 := Lib.hid ((HQ.out.drew.alloc (.cells #[.int .i64 X, .int .i64 Y, .int .i64 px, .int .i64 Y] 37)).grown HG5.out HR1.out)
          have HB6 := Lib.hid (((HB.out.drew).alloc HB.out.drew.size (.cells #[.int .i64 X, .int .i64 Y, .int .i64 px, .int .i64 Y] 37)).grown HG5.out (size_at8 HB.out.size rfl _) (fun q hq => by have h1 := HR2.out q hq; have h2 := HBZ.out; omega))
          go_wp2_with fail
          exact ⟨⟨3, by omega, by go_num, FN, HQ6, HB6⟩, by simp [intOf]⟩
      · have HR1 := Lib.hid (show some gq ≠ Value.ownBlock (.slice Au 3 capu) from fun e => by have h1 := (World.ownsRow.lt HE.out gq e.symm).1; have h2 := hgq.out; omega)
        have HR2 := Lib.hid (fun q (hq : (Value.slice Au 3 capu).ownBlock = some q) => (World.ownsRow.lt HE.out q hq).1)
        have hzw : base ≤ wr.heap.size := by have h1 := HB.out.size; have h2 := HBZ.out; omega
        have hwk : IntKind.i64.wrap 4 = 4 := by decide
        have ht : Int.tmod 4 4 = 0 := by decide
        go_wp2_with fail
        go_region_law (first
          | (refine step_append_lies _ ?_ (.tmp 67) (.tmp 79) 28 ?_ base 37 i0 _ 4 32 Try.underlying28 hi0 hz0 hz1 hz2 ?_ ?_ (.slice Au 3 capu) 3 (ecells ((rectS ⟨px, py⟩ M N).take 3)) ?_ ?_ ⟨wr.heap.size, 0, none⟩ 1 1 [.int .i64 px, .int .i64 Y, .int .i64 px, .int .i64 py] ?_ ?_ ?_ ?_ ?_ ?_ ?_ ?_ _ rfl ?_
             rfl
             rfl
             rfl
             omega
             kernel_rfl
             exact ERow.own (ERow.alloc (w := wr.drew) (ERow.below HE.out ((Below.refl _ wr).drew)) _) rfl
             kernel_rfl
             rfl
             exact World.news_of_block (heap_at8 rfl _)
             (simp [Value.oneCell'])
             omega
             (unfold maxLen; omega)
             omega
             exact size_at8 hzw rfl _
             intro g5 cap5 w5 hown5 hgrow5 hat5 hlt5
             have HO5 := Lib.hid hown5
             have HG5 := Lib.hid hgrow5
             clear hown5 hgrow5 hat5 hlt5))
        all_goals
          have FN : Hid (ERow w5 base (.slice (some ⟨g5, 0, none⟩) 4 cap5) ((rectS ⟨px, py⟩ M N).take 4)) := Lib.hid (by
            have h := ERow.push8 (l := (rectS ⟨px, py⟩ M N).take 3) rfl HO5.out
            unfold rectS at h ⊢
            simp only [HX.out, HY.out] at h ⊢
            exact h)
          have HQ6 := Lib.hid ((HQ.out.drew.alloc (.cells #[.int .i64 px, .int .i64 Y, .int .i64 px, .int .i64 py] 37)).grown HG5.out HR1.out)
          have HB6 := Lib.hid (((HB.out.drew).alloc HB.out.drew.size (.cells #[.int .i64 px, .int .i64 Y, .int .i64 px, .int .i64 py] 37)).grown HG5.out (size_at8 HB.out.size rfl _) (fun q hq => by have h1 := HR2.out q hq; have h2 := HBZ.out; omega))
          go_wp2_with fail
          exact ⟨⟨4, by omega, by go_num, FN, HQ6, HB6⟩, by simp [intOf]⟩
    · obtain rfl : r = 4 := by omega
      have HR := Lib.hid (show ERd wr _ (rectS ⟨px, py⟩ M N) from ERow.read HE.out)
      obtain ⟨Au, capu, e⟩ := HE.out.form
      rw [show ((rectS ⟨px, py⟩ M N).take 4).length = 4 from rfl] at e
      subst e
      have HP3 := Lib.hid (HP2.out.keep HB.out)
      have p0 := HP3.out.cell 0 rfl
      have p1 := HP3.out.cell 1 rfl
      have pn := HP3.out.lt
      have HB3 := Lib.hid (HB2.out.trans (HB.out.mono HB2.out.size))
      clear HE HQ HP2 HB HB2 hr hr4
      have eX := HX.out
      have eY := HY.out
      obtain ⟨I, hI⟩ : ∃ I : Bool, I = decide (px < zx ∧ zx < X ∧ py < zy ∧ zy < Y) := ⟨_, rfl⟩
      obtain ⟨E, hE⟩ : ∃ E : Bool, E = (!I && decide (px ≤ zx ∧ zx ≤ X ∧ py ≤ zy ∧ zy ≤ Y)) := ⟨_, rfl⟩
      have HII := Lib.hid hI
      have HEE := Lib.hid hE
      clear hI hE
      go_upto_region 13 with fail
      have HP4 := Lib.hid (HP3.out.alloc (.cells #[.int .i64 zx, .int .i64 zy] 31))
      have HZ4 := Lib.hid (Blk.new wr 31 [.int .i64 zx, .int .i64 zy] rfl)
      have HB4 := Lib.hid (HB3.out.alloc HB3.out.size (.cells #[.int .i64 zx, .int .i64 zy] 31))
      have HR4 := Lib.hid (HR.out.keep ((Below.refl _ wr).alloc (Nat.le_refl _) (.cells #[.int .i64 zx, .int .i64 zy] 31)))
      generalize wr.alloc (.cells #[.int .i64 zx, .int .i64 zy] 31) = w4 at *
      generalize wr.heap.size = gz at *
      have r0 := HP4.out.cell 0 rfl
      have r1 := HP4.out.cell 1 rfl
      have rn := HP4.out.lt
      have s0 := HZ4.out.cell 0 rfl
      have s1 := HZ4.out.cell 1 rfl
      have sn := HZ4.out.lt
      clear p0 p1 pn HP3 HB3 HR
      go_cut [18] (fun s wx => s = .bool I ∧ wx = w4)
      case first =>
        go_wp2_with fail
        all_goals
          go_meet
          refine ⟨?_, rfl⟩
          refine congrArg Value.bool ?_
          rw [HII.out]
          first
            | (simp; done)
            | (simp; omega)
            | (simp; intros; omega)
            | (rw [Bool.eq_iff_iff]; simp; omega)
      case rest =>
        obtain ⟨rfl, rfl⟩ := hcut
        obtain ⟨w5, rfl⟩ : ∃ x, x = wc := ⟨wc, rfl⟩
        go_upto_region 14 with fail
        go_cut [19] (fun s wx => s = .bool E ∧ wx = w5)
        case first =>
          cases I
          all_goals
            go_wp2_with fail
            all_goals
              go_meet
              refine ⟨?_, rfl⟩
              refine congrArg Value.bool ?_
              rw [HEE.out]
              first
                | (simp; done)
                | (simp; omega)
                | (simp; intros; omega)
                | (rw [Bool.eq_iff_iff]; simp; omega)
        case rest =>
          obtain ⟨rfl, rfl⟩ := hcut
          obtain ⟨w6, rfl⟩ : ∃ x, x = wc := ⟨wc, rfl⟩
          have hNum := rect_num ⟨px, py⟩ M N (by omega) (by omega) ⟨zx, zy⟩
          have hOn : onS (rectS ⟨px, py⟩ M N) ⟨zx, zy⟩ = E := by
            have h := rect_on ⟨px, py⟩ M N (by omega) (by omega) ⟨zx, zy⟩
            simp only [] at h
            rw [eX, eY] at h
            rw [HEE.out, HII.out, Bool.eq_iff_iff, h]
            simp only [Bool.and_eq_true, Bool.not_eq_true', decide_eq_true_eq, decide_eq_false_iff_not]
            constructor
            · rintro ⟨h1, h2⟩; exact ⟨h2, h1⟩
            · rintro ⟨h1, h2⟩; exact ⟨h2, h1⟩
          simp only [] at hNum
          rw [eX, eY] at hNum
          have hN1 : I = true → numS (rectS ⟨px, py⟩ M N) ⟨zx, zy⟩ = 1 := by
            intro h
            rw [HII.out] at h
            have h := of_decide_eq_true h
            rw [hNum, if_pos (by omega)]
          have hN0 : I = false → E = false → numS (rectS ⟨px, py⟩ M N) ⟨zx, zy⟩ = 0 := by
            intro h h'
            rw [HEE.out, h] at h'
            simp only [Bool.not_false, Bool.true_and] at h'
            have h' := of_decide_eq_false h'
            rw [hNum, if_neg (by omega)]
          have hIE : I = true → E = false := by intro h; rw [HEE.out, h]; rfl
          have hIn : ∀ s ∈ rectS ⟨px, py⟩ M N, InD s := by
            intro s hs
            simp only [rectS, List.mem_cons, List.not_mem_nil, or_false] at hs
            rcases hs with rfl | rfl | rfl | rfl <;> (unfold InD; simp only []; omega)
          have hPz : InP ⟨zx, zy⟩ := by unfold InP; simp only []; omega
          have hA := fun w h => area_any (.slice Au 4 capu) (rectS ⟨px, py⟩ M N) w h (by show 4 ≤ 200000; omega) hIn
          rw [rect_area] at hA
          have HO := Lib.hid (fun w h => on_any (.slice Au 4 capu) (rectS ⟨px, py⟩ M N) zx zy w h (by show 4 ≤ 200000; omega) hIn hPz)
          have HI := Lib.hid (fun w h => in_any (.slice Au 4 capu) (rectS ⟨px, py⟩ M N) zx zy w h (by show 4 ≤ 200000; omega) hIn hPz)
          have HN := Lib.hid (fun w h => number_any (.slice Au 4 capu) (rectS ⟨px, py⟩ M N) zx zy w h (by show 4 ≤ 200000; omega) hIn hPz)
          rw [hOn] at HO HI
          have hT := mulB (show (2 * M).natAbs ≤ 512 by omega) (show N.natAbs ≤ 256 by omega)
          have hM2 : IntKind.i64.wrap (2 * M) = 2 * M := wI (by omega) (by omega)
          have hT2 : IntKind.i64.wrap (2 * M * N) = 2 * M * N := wI (by omega) (by omega)
          generalize hT3 : 2 * M * N = T at *
          have HA := Lib.hid hA
          generalize hnn : numS (rectS ⟨px, py⟩ M N) ⟨zx, zy⟩ = Q at *
          generalize rectS ⟨px, py⟩ M N = R at *
          have HB5 := HB4
          clear hNum hOn hIn hPz hA hT hnn HII HEE HX HY eX eY HP4 HB4
          go_wp2_with fail
          refine (HA.out _ HR4.out).mono ?_
          rintro e w7 ⟨rfl, hb7⟩
          have HR7 := Lib.hid (HR4.out.keep hb7)
          have HB7 := Lib.hid (HB5.out.trans (hb7.mono HB5.out.size))
          have K7 := HZ4.out.keep hb7
          have HK7 := Lib.hid K7
          have y0 := K7.cell 0 rfl
          have y1 := K7.cell 1 rfl
          have yn := K7.lt
          clear r0 r1 rn s0 s1 sn hb7 K7 HA HR4 HB5 HZ4
          go_wp2_with fail
          refine (HO.out _ HR7.out).mono ?_
          rintro e w8 ⟨rfl, hb8⟩
          have HR8 := Lib.hid (HR7.out.keep hb8)
          have HB8 := Lib.hid (HB7.out.trans (hb8.mono HB7.out.size))
          have K8 := HK7.out.keep hb8
          have HK8 := Lib.hid K8
          have y0 := K8.cell 0 rfl
          have y1 := K8.cell 1 rfl
          have yn := K8.lt
          clear hb8 K8 HO HR7 HB7 HK7
          have hcase : (I = true ∧ E = false ∧ Q = 1) ∨ (I = false ∧ E = true) ∨ (I = false ∧ E = false ∧ Q = 0) := by
            cases I
            · cases E
              · exact .inr (.inr ⟨rfl, rfl, hN0 rfl rfl⟩)
              · exact .inr (.inl ⟨rfl, rfl⟩)
            · exact .inl ⟨rfl, hIE rfl, hN1 rfl⟩
          clear hN0 hN1 hIE
          rcases hcase with ⟨rfl, rfl, rfl⟩ | ⟨rfl, rfl⟩ | ⟨rfl, rfl, rfl⟩
          · go_wp2_with fail
            refine (HI.out _ HR8.out).mono ?_
            rintro e w9 ⟨rfl, hb9⟩
            have HR9 := Lib.hid (HR8.out.keep hb9)
            have HB9 := Lib.hid (HB8.out.trans (hb9.mono HB8.out.size))
            have K9 := HK8.out.keep hb9
            have y0 := K9.cell 0 rfl
            have y1 := K9.cell 1 rfl
            have yn := K9.lt
            clear hb9 K9 HI HR8 HB8 HK8
            go_wp2_with fail
            refine (HN.out _ HR9.out).mono ?_
            rintro e w10 ⟨rfl, hb10⟩
            have HB10 := Lib.hid (HB9.out.trans (hb10.mono HB9.out.size))
            clear hb10
            go_wp2
            go_ret
            exact ⟨rfl, HB10.out⟩
          · simp only [Bool.or_true] at HI
            go_wp2_with fail
            refine (HI.out _ HR8.out).mono ?_
            rintro e w9 ⟨rfl, hb9⟩
            have HB9 := Lib.hid (HB8.out.trans (hb9.mono HB8.out.size))
            clear hb9 HI
            go_wp2
            go_ret
            exact ⟨rfl, HB9.out⟩
          · go_wp2_with fail
            refine (HI.out _ HR8.out).mono ?_
            rintro e w9 ⟨rfl, hb9⟩
            have HR9 := Lib.hid (HR8.out.keep hb9)
            have HB9 := Lib.hid (HB8.out.trans (hb9.mono HB8.out.size))
            have K9 := HK8.out.keep hb9
            have y0 := K9.cell 0 rfl
            have y1 := K9.cell 1 rfl
            have yn := K9.lt
            clear hb9 K9 HI HR8 HB8 HK8
            go_wp2_with fail
            refine (HN.out _ HR9.out).mono ?_
            rintro e w10 ⟨rfl, hb10⟩
            have HB10 := Lib.hid (HB9.out.trans (hb10.mono HB9.out.size))
            clear hb10
            go_wp2
            go_ret
            exact ⟨rfl, HB10.out⟩


theorem tmod1000_in (x : Int) : -999 ≤ x.tmod 1000 ∧ x.tmod 1000 ≤ 999 := by
  rcases Int.le_total 0 x with h0 | h0
  · rw [Int.tmod_eq_emod_of_nonneg h0]; omega
  · obtain ⟨y, rfl⟩ : ∃ y, x = -y := ⟨-x, by omega⟩
    rw [Int.neg_tmod, Int.tmod_eq_emod_of_nonneg (by omega)]; omega
theorem windSquare_walk (a0 a1 ww hh xx yy : Int) (h0 : (Lit.int .i16 a0).wf = true) (h1 : (Lit.int .i16 a1).wf = true) (hw : (Lit.int .u8 ww).wf = true) (hh0 : (Lit.int .u8 hh).wf = true) (hx : (Lit.int .u8 xx).wf = true) (hy : (Lit.int .u8 yy).wf = true) (w : World) :
    Calls Try.prog 7 #[.agg #[.int .i16 a0, .int .i16 a1], .int .u8 ww, .int .u8 hh, .int .u8 xx, .int .u8 yy] w fun e w' => e = .returned (.bool true) ∧ Below w.heap.size w w' :=
  windSquare_core a0 a1 ww hh xx yy _ _ _ _ _ _ _ _ _ _ w (bounds_i16 h0) (bounds_i16 h1) rfl rfl (tmod1000_in a0) (tmod1000_in a1) (bounds_u8 hw) (bounds_u8 hh0) (bounds_u8 hx) (bounds_u8 hy) rfl rfl rfl rfl rfl rfl rfl rfl

end Go.Proofs.Ytglmgenifjaakaa
