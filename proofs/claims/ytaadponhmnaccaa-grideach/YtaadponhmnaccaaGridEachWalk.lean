/-
  The walk of punchcutlaw09.GridEach (no claim is made here).
-/
import Derived.Test.YtaadponhmnaccaaAwake9
import Derived.Test.YtaadponhmnaccaaGrd4
namespace Go.Proofs.Ytaadponhmnaccaa
open Go.RowKit Go.Shelf

attribute [local go_sem] Oper.semAt_some

set_option maxRecDepth 100000 in
set_option maxHeartbeats 1600000 in
theorem gridEach_walk (s0 s1 s2 s3 s4 s5 t : Int) (w : World) (hs : (0 ≤ s0 ∧ s0 ≤ 255) ∧ (0 ≤ s1 ∧ s1 ≤ 255) ∧ (0 ≤ s2 ∧ s2 ≤ 255) ∧ (0 ≤ s3 ∧ s3 ≤ 255) ∧ (0 ≤ s4 ∧ s4 ≤ 255) ∧ (0 ≤ s5 ∧ s5 ≤ 255)) (ht : 0 ≤ t ∧ t ≤ 255) :
    Calls Try.prog 6 #[.agg #[.int .u8 s0, .int .u8 s1, .int .u8 s2, .int .u8 s3, .int .u8 s4, .int .u8 s5], .int .u8 t] w fun e w' => e = .returned (.bool true) ∧ Below w.heap.size w w' := by
  obtain ⟨h0, h1, h2, h3, h4, h5⟩ := hs
  have HS := Lib.hid (fun w => sgrid_any s0 s1 s2 s3 s4 s5 h0 h1 h2 h3 h4 h5 w)
  have hB0 := alloc3 w (.cells #[.int .u8 s0, .int .u8 s1, .int .u8 s2, .int .u8 s3, .int .u8 s4, .int .u8 s5] 25) (.cells #[.int .u8 t] 5) (.cells #[.bool false] 4)
  have hK0 := ((Blk.new w 25 [.int .u8 s0, .int .u8 s1, .int .u8 s2, .int .u8 s3, .int .u8 s4, .int .u8 s5] rfl).alloc (.cells #[.int .u8 t] 5)).alloc (.cells #[.bool false] 4)
  have hT0 := (Blk.new (w.alloc (.cells #[.int .u8 s0, .int .u8 s1, .int .u8 s2, .int .u8 s3, .int .u8 s4, .int .u8 s5] 25)) 5 [.int .u8 t] (g := w.heap.size + 1) (by simp)).alloc (.cells #[.bool false] 4)
  have hR0 := Blk.new ((w.alloc (.cells #[.int .u8 s0, .int .u8 s1, .int .u8 s2, .int .u8 s3, .int .u8 s4, .int .u8 s5] 25)).alloc (.cells #[.int .u8 t] 5)) 4 [.bool false] (g := w.heap.size + 1 + 1) (by simp)
  have HB0 := Lib.hid hB0
  have HK0 := Lib.hid hK0
  have HT0 := Lib.hid hT0
  have HR0 := Lib.hid hR0
  obtain ⟨u, hu⟩ : ∃ u : Nat, 1 + s3 % 10 = u := ⟨(1 + s3 % 10).toNat, by omega⟩
  obtain ⟨v, hv⟩ : ∃ v : Nat, 1 + s4 % 10 = v := ⟨(1 + s4 % 10).toNat, by omega⟩
  rw [hu, hv] at HS
  have bu : 1 ≤ u ∧ u ≤ 10 := by omega
  have bv : 1 ≤ v ∧ v ≤ 10 := by omega
  obtain ⟨m, rfl⟩ : ∃ m : Nat, t = m := ⟨t.toNat, by omega⟩
  have hm : m ≤ 255 := by omega
  clear h0 h1 h2 h3 h4 h5 hu hv ht hB0 hK0 hT0 hR0
  generalize s0 - 128 = x at *
  generalize s1 - 128 = y at *
  generalize 1 + s2 % 16 = p at *
  generalize 1 + s5 % 64 = s at *
  have HE := Lib.hid (fun w => each_any x y p u v s w)
  refine (callsIn_wide (n := 4)).1 (callsIn_of_wp_marks Try.func6 rfl trivial (wpIn_wide.2 ?_) rfl)
  simp only [Try.ntmps6, List.size_toArray, List.length_cons, List.length_nil, Nat.reduceAdd, Nat.reduceSub, Array.replicate_succ, Array.replicate_zero, List.push_toArray, List.append_toArray, List.nil_append, List.cons_append]
  go_wp2_with fail
  refine (awake9 _).mono ?_
  rintro e w1 ⟨rfl, hb⟩
  have HB1 := Lib.hid (HB0.out.trans (hb.mono HB0.out.size))
  have HK1 := Lib.hid (HK0.out.keep hb)
  have HT1 := Lib.hid (HT0.out.keep hb)
  have HR1 := Lib.hid (HR0.out.keep hb)
  clear hb HB0 HK0 HT0 HR0
  have k0 := HK1.out.cell 0 rfl
  have k1 := HK1.out.cell 1 rfl
  have k2 := HK1.out.cell 2 rfl
  have k3 := HK1.out.cell 3 rfl
  have k4 := HK1.out.cell 4 rfl
  have k5 := HK1.out.cell 5 rfl
  have kl := HK1.out.lt
  go_wp2_with fail
  refine (HS.out _).mono ?_
  rintro e w2 ⟨rfl, hb⟩
  have HB2 := Lib.hid (HB1.out.trans (hb.mono HB1.out.size))
  have HT2 := Lib.hid (HT1.out.keep hb)
  have HR2 := Lib.hid (HR1.out.keep hb)
  clear hb HB1 HK1 HT1 HR1 HS k0 k1 k2 k3 k4 k5 kl
  go_wp2_with fail
  refine (HE.out _).mono ?_
  rintro e w3 ⟨rfl, rfl⟩
  go_wp2_with fail
  have hz2 := HR2.out.lt
  have hal : Below w2.heap.size w2 (((w2.alloc (.cells #[.int .i64 x, .int .i64 y, .int .i64 p, .int .i64 u, .int .i64 v, .int .i64 s] 23)).alloc (.cells #[.int .i64 0] 3)).alloc (.cells #[.int .i64 x, .int .i64 y, .int .i64 p, .int .i64 u, .int .i64 v, .int .i64 s] 23)) := alloc3 _ _ _ _
  have hB0 := HB2.out.trans (hal.mono HB2.out.size)
  have hG1 := ((Blk.new w2 23 [.int .i64 x, .int .i64 y, .int .i64 p, .int .i64 u, .int .i64 v, .int .i64 s] rfl).alloc (.cells #[.int .i64 0] 3)).alloc (.cells #[.int .i64 x, .int .i64 y, .int .i64 p, .int .i64 u, .int .i64 v, .int .i64 s] 23)
  have hN1 := (Blk.new (w2.alloc (.cells #[.int .i64 x, .int .i64 y, .int .i64 p, .int .i64 u, .int .i64 v, .int .i64 s] 23)) 3 [.int .i64 0] (g := w2.heap.size + 1) (by simp)).alloc (.cells #[.int .i64 x, .int .i64 y, .int .i64 p, .int .i64 u, .int .i64 v, .int .i64 s] 23)
  have hE1 := Blk.new ((w2.alloc (.cells #[.int .i64 x, .int .i64 y, .int .i64 p, .int .i64 u, .int .i64 v, .int .i64 s] 23)).alloc (.cells #[.int .i64 0] 3)) 23 [.int .i64 x, .int .i64 y, .int .i64 p, .int .i64 u, .int .i64 v, .int .i64 s] (g := w2.heap.size + 1 + 1) (by simp)
  have hT1 := HT2.out.keep hal
  have hR1 := HR2.out.keep hal
  have hsz : (((w2.alloc (.cells #[.int .i64 x, .int .i64 y, .int .i64 p, .int .i64 u, .int .i64 v, .int .i64 s] 23)).alloc (.cells #[.int .i64 0] 3)).alloc (.cells #[.int .i64 x, .int .i64 y, .int .i64 p, .int .i64 u, .int .i64 v, .int .i64 s] 23)).heap.size = w2.heap.size + 3 := by simp
  obtain ⟨W0, hW0⟩ : ∃ W0, ((w2.alloc (.cells #[.int .i64 x, .int .i64 y, .int .i64 p, .int .i64 u, .int .i64 v, .int .i64 s] 23)).alloc (.cells #[.int .i64 0] 3)).alloc (.cells #[.int .i64 x, .int .i64 y, .int .i64 p, .int .i64 u, .int .i64 v, .int .i64 s] 23) = W0 := ⟨_, rfl⟩
  rw [hW0] at hB0 hG1 hN1 hE1 hsz hT1 hR1 ⊢
  have hsw := HB2.out.size
  obtain ⟨U, hU⟩ : ∃ U : Nat, u * v = U := ⟨_, rfl⟩
  have hUw : IntKind.i64.wrap ((u : Int) * v) = (U : Int) := by rw [← hU, Int.natCast_mul]; exact wI (by have := Nat.mul_le_mul bu.2 bv.2; omega) (by have := Nat.mul_le_mul bu.2 bv.2; omega)
  have hUb : U ≤ 100 := by rw [← hU]; exact Nat.mul_le_mul bu.2 bv.2
  have HSQ := each_stops Fence.wide 3 trivial rfl (by decide) (w2.heap.size + 1 + 1) u v x y p s (by omega) (by omega) W0 hE1
  rw [hU] at HSQ
  have HSE : ∀ k, (upG u k).length = k := upG_length u
  clear hW0 HB2 HT2 HR2 HE hal
  refine (wpIn_wide (n := 4)).1 (wpIn_rangeFunc_ownF rfl (by decide) (gf := 21) (lb := #[.pointer (some ⟨w2.heap.size + 1 + 1, 0, none⟩)]) rfl trivial (enters_of Try.func21 (by kernel_rfl) rfl)
    HSQ KeepB.t (KeepB.b hE1.lt) (Below.refl _ _) (fun _ => rfl)
    (fun pre W => (((Blk W w2.heap.size 23 [.int .i64 x, .int .i64 y, .int .i64 p, .int .i64 u, .int .i64 v, .int .i64 s] ∧ Blk W (w2.heap.size + 1) 3 [.int .i64 pre.length]) ∧ Blk W (w.heap.size + 1) 5 [.int .u8 m] ∧ Blk W (w.heap.size + 1 + 1) 4 [.bool false]) ∧ Below w.heap.size w W) ∧ pre = upG u pre.length ∧ pre.length ≤ m)
    (fun c pre W => ((((Blk W w2.heap.size 23 [.int .i64 x, .int .i64 y, .int .i64 p, .int .i64 u, .int .i64 v, .int .i64 s] ∧ Blk W (w2.heap.size + 1) 3 [.int .i64 pre.length]) ∧ Blk W (w.heap.size + 1) 5 [.int .u8 m] ∧ Blk W (w.heap.size + 1 + 1) 4 [.bool false]) ∧ Below w.heap.size w W) ∧ c = .exit 0 ∧ pre.length = m + 1) ∨ (c = .ret ∧ pre ≠ upG u pre.length))
    (OwnFrom.and (OwnFrom.and (OwnFrom.and (OwnFrom.and (blk_from _ _ _ (fun _ => [.int .i64 x, .int .i64 y, .int .i64 p, .int .i64 u, .int .i64 v, .int .i64 s])) (blk_from _ _ _ (fun pre : List (Nat × Nat) => [.int .i64 pre.length]))) (OwnFrom.and (blk_from _ _ _ (fun _ => [.int .u8 m])) (blk_from _ _ _ (fun _ => [.bool false])))) (ownFrom_below (Nat.le_refl _) (by omega))) (ownFrom_pure _ _))
    (fun c pre A B row hs hg hr => by
      rcases hs with ⟨hs, hp⟩ | hs
      · exact .inl ⟨OwnFrom.and (OwnFrom.and (OwnFrom.and (blk_from _ _ _ (fun _ => [.int .i64 x, .int .i64 y, .int .i64 p, .int .i64 u, .int .i64 v, .int .i64 s])) (blk_from _ _ _ (fun pre : List (Nat × Nat) => [.int .i64 pre.length]))) (OwnFrom.and (blk_from _ _ _ (fun _ => [.int .u8 m])) (blk_from _ _ _ (fun _ => [.bool false])))) (ownFrom_below (B := W0.heap.size) (Nat.le_refl _) (by omega)) pre A B row hs hg hr, hp⟩
      · exact .inr hs)
    ⟨⟨⟨⟨hG1, hN1⟩, hT1, hR1⟩, hB0⟩, rfl, Nat.zero_le _⟩
    (fun z => { tmps := #[.agg #[.int .u8 s0, .int .u8 s1, .int .u8 s2, .int .u8 s3, .int .u8 s4, .int .u8 s5], .int .u8 m, .pointer (some ⟨w.heap.size, 0, none⟩), .pointer (some ⟨w.heap.size + 1, 0, none⟩), .pointer (some ⟨w.heap.size + 1 + 1, 0, none⟩), .pointer (some ⟨w2.heap.size, 0, none⟩), .pointer (some ⟨w2.heap.size + 1, 0, none⟩), .int .i64 z.1, .int .i64 z.2, .bool true, .bool false, .agg #[.int .u8 s0, .int .u8 s1, .int .u8 s2, .int .u8 s3, .int .u8 s4, .int .u8 s5], .agg #[.int .i64 x, .int .i64 y, .int .i64 p, .int .i64 u, .int .i64 v, .int .i64 s], .agg #[.int .i64 x, .int .i64 y, .int .i64 p, .int .i64 u, .int .i64 v, .int .i64 s], .func (.func 21) #[] #[.pointer (some ⟨w2.heap.size + 1 + 1, 0, none⟩)], .int .i64 z.1, .int .i64 z.2, undef, undef, undef, undef, undef, undef, undef, undef, undef, undef, undef, undef, undef, undef, undef, undef, undef, undef, undef, undef, undef, undef, undef, undef, undef, undef, undef, undef, undef, undef, undef], defers := [] }) ?assign ?body ?done ?stop)
  case assign =>
    intro l z W K hK
    gi_wp2
    exact hK
  case body =>
    clear hG1 hN1 hE1 hT1 hR1 HSQ
    rintro l pre z W ⟨⟨⟨⟨hg, hn⟩, htt, hr⟩, hB⟩, hpre, hlm⟩ hlt
    have HPRE := Lib.hid hpre
    clear hpre
    obtain ⟨c, hc⟩ : ∃ c, pre.length = c := ⟨_, rfl⟩
    rw [hc] at hn hlm hlt HPRE
    have g3 := hg.cell 3 rfl
    have n0 := hn.cell 0 rfl
    have nf := hn.frozen 0
    have t0 := htt.cell 0 rfl
    have r0 := hr.cell 0 rfl
    have rf := hr.frozen 0
    have gl := hg.lt
    have nl := hn.lt
    obtain ⟨z1, z2⟩ := z
    obtain ⟨a, ha⟩ : ∃ a, c % u = a := ⟨_, rfl⟩
    obtain ⟨b, hb⟩ : ∃ b, c / u = b := ⟨_, rfl⟩
    have ha1 : (c : Int) % (u : Int) = (a : Int) := by rw [← ha]; rfl
    have hb1 : (c : Int) / (u : Int) = (b : Int) := by rw [← hb]; rfl
    have HUP : Hid (upG u (c + 1) = upG u c ++ [(a, b)]) := Lib.hid (by rw [upG_succ, ha, hb])
    have hab : b ≤ c := by rw [← hb]; exact Nat.div_le_self _ _
    have hLN : (pre ++ [(z1, z2)]).length = c + 1 := by simp [hc]
    have HLN := Lib.hid hLN
    have hz : ((u : Int) == 0) = false := by simp; omega
    clear ha hb hLN hc
    by_cases hx : z1 = a ∧ z2 = b
    · obtain ⟨rfl, rfl⟩ := hx
      by_cases hcm : c + 1 ≤ m
      · gi_wp2
        have hns : Blk (W.setCell ⟨w2.heap.size + 1, 0, none⟩ (.int .i64 ((c : Int) + 1))) (w2.heap.size + 1) 3 [.int .i64 (pre ++ [(z1, z2)]).length] := by rw [HLN.out]; exact hn.set 0 _
        exact ⟨KeepsOthers.setCell _ _ _, heap_set W ⟨w2.heap.size + 1, 0, none⟩ _ _ (by simp), ⟨⟨⟨hg.other (k := w2.heap.size + 1) 0 _ (by omega), hns⟩, htt.other (k := w2.heap.size + 1) 0 _ (by omega), hr.other (k := w2.heap.size + 1) 0 _ (by omega)⟩, hB.setCell (p := ⟨w2.heap.size + 1, 0, none⟩) (by simp; omega) _⟩, by rw [HLN.out, HUP.out, ← HPRE.out], by rw [HLN.out]; omega⟩
      · gi_wp2
        have hns : Blk (W.setCell ⟨w2.heap.size + 1, 0, none⟩ (.int .i64 ((c : Int) + 1))) (w2.heap.size + 1) 3 [.int .i64 (pre ++ [(z1, z2)]).length] := by rw [HLN.out]; exact hn.set 0 _
        exact ⟨KeepsOthers.setCell _ _ _, .inl ⟨⟨⟨⟨hg.other (k := w2.heap.size + 1) 0 _ (by omega), hns⟩, htt.other (k := w2.heap.size + 1) 0 _ (by omega), hr.other (k := w2.heap.size + 1) 0 _ (by omega)⟩, hB.setCell (p := ⟨w2.heap.size + 1, 0, none⟩) (by simp; omega) _⟩, rfl, by rw [HLN.out]; omega⟩⟩
    · have HX : Hid (pre ++ [(z1, z2)] ≠ upG u (pre ++ [(z1, z2)]).length) := Lib.hid (fun h => hx (by
        rw [HLN.out, HUP.out, ← HPRE.out] at h
        have := List.append_cancel_left h
        simpa using this))
      gi_wp2
      all_goals exact ⟨KeepsOthers.setCell _ _ _, .inr ⟨rfl, HX.out⟩⟩
  case done =>
    rintro D ys W hD rfl ⟨hmem, -, hlm⟩ hK
    rw [HSE] at hmem hlm
    have hmin : min (U : Int) ((m : Int) + 1) = (U : Int) := by omega
    have hDl := (Array.getElem?_eq_some_iff.1 hK).1
    clear hG1 hN1 hE1 hT1 hR1 HSQ hB0 HSE
    have hg := hmem.1.1.1
    have hn := hmem.1.1.2
    have htt := hmem.1.2.1
    have hr := hmem.1.2.2
    have hB := hmem.2
    have g3 := hg.cell 3 rfl
    have g4 := hg.cell 4 rfl
    have n0 := hn.cell 0 rfl
    have t0 := htt.cell 0 rfl
    have r0 := hr.cell 0 rfl
    have rf := hr.frozen 0
    have gl := hg.lt
    have hR := Lib.hid (hr.set 0 (.bool true))
    have hBB := Lib.hid (hB.setCell (p := ⟨w.heap.size + 1 + 1, 0, none⟩) (show w.heap.size ≤ w.heap.size + 1 + 1 by omega) (.bool true))
    have HKK : Hid ((W.setCell ⟨w.heap.size + 1 + 1, 0, none⟩ (.bool true)).heap[D]? = some (.deferred (some []))) := Lib.hid ((heap_set W ⟨w.heap.size + 1 + 1, 0, none⟩ (.bool true) D (show D ≠ w.heap.size + 1 + 1 by omega)).trans hK)
    have hMM := fun w => run_min2i (P := Try.prog) #[3, 3] 3 U (m + 1) w
    rw [hmin] at hMM
    go_wp2_with fail
    refine ⟨by simp, .inl ⟨_, _, rfl, run_takeDeferred HKK.out, ?_⟩⟩
    have hcc := cell_kept (hR.out.cell 0 rfl) (grownBy_putObj' _ D (.deferred none)) (fun r e => by cases e; exact ⟨_, HKK.out, rfl⟩)
    refine ⟨.bool true, ?_, rfl, hBB.out.trans (belowK_b (w := w) (Nat.le_refl _) _ D _ _ (by omega) HKK.out rfl rfl)⟩
    simp [results, Try.f6, go_sem, hcc]
  case stop =>
    rintro D c pre W hD ⟨k, hk, rfl⟩ (⟨hmem, rfl, hl⟩ | ⟨rfl, hne⟩) hK
    · rw [HSE] at hmem hl
      have hmin : min (U : Int) ((m : Int) + 1) = (k : Int) := by omega
      have hDl := (Array.getElem?_eq_some_iff.1 hK).1
      clear hG1 hN1 hE1 hT1 hR1 HSQ hB0 HSE
      have hg := hmem.1.1.1
      have hn := hmem.1.1.2
      have htt := hmem.1.2.1
      have hr := hmem.1.2.2
      have hB := hmem.2
      have g3 := hg.cell 3 rfl
      have g4 := hg.cell 4 rfl
      have n0 := hn.cell 0 rfl
      have t0 := htt.cell 0 rfl
      have r0 := hr.cell 0 rfl
      have rf := hr.frozen 0
      have gl := hg.lt
      have hR := Lib.hid (hr.set 0 (.bool true))
      have hBB := Lib.hid (hB.setCell (p := ⟨w.heap.size + 1 + 1, 0, none⟩) (show w.heap.size ≤ w.heap.size + 1 + 1 by omega) (.bool true))
      have HKK : Hid ((W.setCell ⟨w.heap.size + 1 + 1, 0, none⟩ (.bool true)).heap[D]? = some (.deferred (some []))) := Lib.hid ((heap_set W ⟨w.heap.size + 1 + 1, 0, none⟩ (.bool true) D (show D ≠ w.heap.size + 1 + 1 by omega)).trans hK)
      have hMM := fun w => run_min2i (P := Try.prog) #[3, 3] 3 U (m + 1) w
      rw [hmin] at hMM
      refine wpIn_wide.2 ?_
      go_wp2_with fail
      refine ⟨by simp, .inl ⟨_, _, rfl, run_takeDeferred HKK.out, ?_⟩⟩
      have hcc := cell_kept (hR.out.cell 0 rfl) (grownBy_putObj' _ D (.deferred none)) (fun r e => by cases e; exact ⟨_, HKK.out, rfl⟩)
      refine ⟨.bool true, ?_, rfl, hBB.out.trans (belowK_b (w := w) (Nat.le_refl _) _ D _ _ (by omega) HKK.out rfl rfl)⟩
      simp [results, Try.f6, go_sem, hcc]
    · exact absurd (by rw [HSE]) hne

end Go.Proofs.Ytaadponhmnaccaa
