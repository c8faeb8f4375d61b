/-
  The document's examples of layer 9 (no claim is made here).
-/
import Derived.Test.YtaadponhmnaccaaGrd3
import Derived.Test.YtaadponhmnaccaaGrd5
namespace Go.Proofs.Ytaadponhmnaccaa
open Go.RowKit Go.Shelf

attribute [local go_sem] Oper.semAt_some

/-- What awake adds up. -/
def sumA : List (Nat × Nat) → Int := List.foldl (fun n p => wrap64 (wrap64 (wrap64 (10 * n) + p.1) + p.2)) 0
theorem sumA_snoc (pre : List (Nat × Nat)) (x : Nat × Nat) : sumA (pre ++ [x]) = wrap64 (wrap64 (wrap64 (10 * sumA pre) + x.1) + x.2) := by simp [sumA]
theorem sumA_all : sumA (upG 3 (3 * 2)) = 12123 := by simp [upG, sumA, List.range_succ, wrap64]

set_option maxRecDepth 100000 in
set_option maxHeartbeats 3200000 in
theorem awake9 (w : World) : Calls Try.prog 9 #[] w fun e w' => e = .returned (.bool true) ∧ Below w.heap.size w w' := by
  have HE := Lib.hid (fun w => each_any 1 2 2 3 2 4 w)
  have HA : Hid (∀ w, Calls Try.prog 17 #[.agg #[.int .i64 (-1), .int .i64 0], .agg #[.int .i64 64, .int .i64 31], .int .i64 1, .int .i64 4, .int .i64 1] w fun e w' => e = .returned (.tuple #[.agg #[.int .i64 (-2), .int .i64 (-1), .int .i64 1, .int .i64 6, .int .i64 3, .int .i64 4], .int .i64 0]) ∧ Below w.heap.size w w') :=
    Lib.hid (fun w => around_any (-1) 0 64 31 1 4 1 (by decide) (by decide) (by decide) (by decide) (by decide) (by decide) w)
  have HK : Hid (∀ w, Calls Try.prog 11 #[.agg #[.int .i64 1, .int .i64 2, .int .i64 2, .int .i64 3, .int .i64 2, .int .i64 4]] w fun e w' => e = .returned (.int .i64 0) ∧ Below w.heap.size w w') :=
    Lib.hid (fun w => gcheck_any 1 2 2 3 2 4 w)
  have HM : Hid (∀ w, Calls Try.prog 13 #[.agg #[.int .i64 1, .int .i64 2, .int .i64 2, .int .i64 3, .int .i64 2, .int .i64 4], .int .i64 1, .int .i64 0] w fun e w' => e = .returned (.agg #[.int .i64 128, .int .i64 96]) ∧ Below w.heap.size w w') :=
    Lib.hid (fun w => centre_any 1 2 2 3 2 4 1 0 (by decide) (by decide) (by decide) (by decide) (by decide) w)
  have H1 : Hid (∀ w, Calls Try.prog 14 #[.agg #[.int .i64 1, .int .i64 2, .int .i64 2, .int .i64 3, .int .i64 2, .int .i64 4], .int .i64 (-1), .int .i64 5000] w fun e w' => e = .returned (.int .u8 1) ∧ Below w.heap.size w w') :=
    Lib.hid (fun w => code_any 1 2 2 3 2 4 (-1) 5000 (by decide) (by decide) (by decide) w)
  have H2 : Hid (∀ w, Calls Try.prog 14 #[.agg #[.int .i64 1, .int .i64 2, .int .i64 2, .int .i64 3, .int .i64 2, .int .i64 4], .int .i64 1, .int .i64 512] w fun e w' => e = .returned (.int .u8 191) ∧ Below w.heap.size w w') :=
    Lib.hid (fun w => code_any 1 2 2 3 2 4 1 512 (by decide) (by decide) (by decide) w)
  have HG0 := Lib.hid (Blk.new w 23 [.int .i64 1, .int .i64 2, .int .i64 2, .int .i64 3, .int .i64 2, .int .i64 4] rfl)
  have hnil : ∀ (p : Option Addr) w, Sem.run Try.prog (binOp BinOp.eql 41 (.func (.func 21) #[] #[.pointer p]) .nilFunc) w = .ok (.bool false) w := fun p w => by kernel_rfl
  refine (callsIn_wide (n := 4)).1 (callsIn_of_wp_marks Try.func9 rfl trivial (wpIn_wide.2 ?_) rfl)
  simp only [Try.ntmps9, List.size_toArray, List.length_nil, Nat.reduceSub, Array.replicate_succ, Array.replicate_zero, List.push_toArray, List.append_toArray, List.nil_append, List.cons_append]
  go_wp2_with fail
  refine (HE.out _).mono ?_
  rintro e w1 ⟨rfl, rfl⟩
  go_wp2_with fail
  refine (HE.out _).mono ?_
  rintro e w1 ⟨rfl, rfl⟩
  go_wp2_with fail
  have hB0 : Below w.heap.size w ((((w.alloc (.cells #[.int .i64 1, .int .i64 2, .int .i64 2, .int .i64 3, .int .i64 2, .int .i64 4] 23)).alloc (.cells #[.int .i64 1, .int .i64 2, .int .i64 2, .int .i64 3, .int .i64 2, .int .i64 4] 23)).alloc (.cells #[.int .i64 0] 3)).alloc (.cells #[.int .i64 1, .int .i64 2, .int .i64 2, .int .i64 3, .int .i64 2, .int .i64 4] 23)) := (((((Below.refl _ w).alloc (Nat.le_refl _) _).alloc (by simp) _).alloc (by simp; omega) _).alloc (by simp; omega) _)
  have hG1 := ((((Blk.new w 23 [.int .i64 1, .int .i64 2, .int .i64 2, .int .i64 3, .int .i64 2, .int .i64 4] rfl).alloc (.cells #[.int .i64 1, .int .i64 2, .int .i64 2, .int .i64 3, .int .i64 2, .int .i64 4] 23)).alloc (.cells #[.int .i64 0] 3)).alloc (.cells #[.int .i64 1, .int .i64 2, .int .i64 2, .int .i64 3, .int .i64 2, .int .i64 4] 23))
  have hN1 := (Blk.new ((w.alloc (.cells #[.int .i64 1, .int .i64 2, .int .i64 2, .int .i64 3, .int .i64 2, .int .i64 4] 23)).alloc (.cells #[.int .i64 1, .int .i64 2, .int .i64 2, .int .i64 3, .int .i64 2, .int .i64 4] 23)) 3 [.int .i64 0] (g := w.heap.size + 1 + 1) (by simp)).alloc (.cells #[.int .i64 1, .int .i64 2, .int .i64 2, .int .i64 3, .int .i64 2, .int .i64 4] 23)
  have hE1 := Blk.new (((w.alloc (.cells #[.int .i64 1, .int .i64 2, .int .i64 2, .int .i64 3, .int .i64 2, .int .i64 4] 23)).alloc (.cells #[.int .i64 1, .int .i64 2, .int .i64 2, .int .i64 3, .int .i64 2, .int .i64 4] 23)).alloc (.cells #[.int .i64 0] 3)) 23 [.int .i64 1, .int .i64 2, .int .i64 2, .int .i64 3, .int .i64 2, .int .i64 4] (g := w.heap.size + 1 + 1 + 1) (by simp)
  have hsz : ((((w.alloc (.cells #[.int .i64 1, .int .i64 2, .int .i64 2, .int .i64 3, .int .i64 2, .int .i64 4] 23)).alloc (.cells #[.int .i64 1, .int .i64 2, .int .i64 2, .int .i64 3, .int .i64 2, .int .i64 4] 23)).alloc (.cells #[.int .i64 0] 3)).alloc (.cells #[.int .i64 1, .int .i64 2, .int .i64 2, .int .i64 3, .int .i64 2, .int .i64 4] 23)).heap.size = w.heap.size + 4 := by simp
  obtain ⟨W0, hW0⟩ : ∃ W0, (((w.alloc (.cells #[.int .i64 1, .int .i64 2, .int .i64 2, .int .i64 3, .int .i64 2, .int .i64 4] 23)).alloc (.cells #[.int .i64 1, .int .i64 2, .int .i64 2, .int .i64 3, .int .i64 2, .int .i64 4] 23)).alloc (.cells #[.int .i64 0] 3)).alloc (.cells #[.int .i64 1, .int .i64 2, .int .i64 2, .int .i64 3, .int .i64 2, .int .i64 4] 23) = W0 := ⟨_, rfl⟩
  rw [hW0] at hB0 hG1 hN1 hE1 hsz ⊢
  clear hW0 HG0 hnil
  refine (wpIn_wide (n := 4)).1 (wpIn_rangeFunc_ownF rfl (by decide) (gf := 21) (lb := #[.pointer (some ⟨w.heap.size + 1 + 1 + 1, 0, none⟩)]) rfl trivial (enters_of Try.func21 (by kernel_rfl) rfl)
    (each_stops Fence.wide 3 trivial rfl (by decide) (w.heap.size + 1 + 1 + 1) 3 2 1 2 2 4 (by decide) (by decide) W0 hE1) KeepB.t (KeepB.b hE1.lt) (Below.refl _ _) (fun _ => rfl)
    (fun pre W => (Blk W w.heap.size 23 [.int .i64 1, .int .i64 2, .int .i64 2, .int .i64 3, .int .i64 2, .int .i64 4] ∧ Blk W (w.heap.size + 1 + 1) 3 [.int .i64 (sumA pre)]) ∧ Below w.heap.size w W)
    (fun _ _ _ => False)
    (OwnFrom.and (OwnFrom.and (blk_from _ _ _ (fun _ => [.int .i64 1, .int .i64 2, .int .i64 2, .int .i64 3, .int .i64 2, .int .i64 4])) (blk_from _ _ _ (fun pre => [.int .i64 (sumA pre)]))) (ownFrom_below (Nat.le_refl _) (by omega)))
    (fun _ _ _ _ _ hs _ _ => hs)
    ⟨⟨hG1, hN1⟩, hB0⟩
    (fun x => { tmps := #[.bool false, .pointer (some ⟨w.heap.size, 0, none⟩), .pointer (some ⟨w.heap.size + 1 + 1, 0, none⟩), .int .i64 x.1, .int .i64 x.2, undef, undef, .agg #[.int .i64 1, .int .i64 2, .int .i64 2, .int .i64 3, .int .i64 2, .int .i64 4], .agg #[.int .i64 1, .int .i64 2, .int .i64 2, .int .i64 3, .int .i64 2, .int .i64 4], .func (.func 21) #[] #[.pointer (some ⟨w.heap.size + 1, 0, none⟩)], .bool false, .agg #[.int .i64 1, .int .i64 2, .int .i64 2, .int .i64 3, .int .i64 2, .int .i64 4], .func (.func 21) #[] #[.pointer (some ⟨w.heap.size + 1 + 1 + 1, 0, none⟩)], .int .i64 x.1, .int .i64 x.2, undef, undef, undef, undef, undef, undef, undef, undef, undef, undef, undef, undef, undef, undef, undef, undef, undef, undef, undef, undef, undef, undef, undef, undef, undef, undef, undef, undef, undef, undef, undef, undef, undef, undef, undef, undef, undef, undef, undef, undef, undef, undef, undef, undef], defers := [] }) ?assign ?body ?done ?stop)
  case assign =>
    intro l x W K hK
    gi_wp2
    exact hK
  case body =>
    rintro l pre x W ⟨⟨hg, hn⟩, hB⟩ _
    have n0 := hn.cell 0 rfl
    have nf := hn.frozen 0
    gi_wp2
    exact ⟨KeepsOthers.setCell _ _ _, heap_set W ⟨w.heap.size + 1 + 1, 0, none⟩ _ _ (by simp), ⟨hg.other (k := w.heap.size + 1 + 1) 0 _ (by omega), by rw [sumA_snoc]; exact hn.set 0 _⟩, hB.setCell (p := ⟨w.heap.size + 1 + 1, 0, none⟩) (by simp; omega) _⟩
  case done =>
    rintro D ys W hD rfl ⟨⟨hg, hn⟩, hB⟩ hK
    rw [sumA_all] at hn
    have HG := Lib.hid hg
    have HN := Lib.hid hn
    have HB := Lib.hid hB
    have HD := Lib.hid hK
    have hDl := (Array.getElem?_eq_some_iff.1 hK).1
    have hDw : w.heap.size + 4 ≤ D := by omega
    clear hG1 hN1 hE1 hB0 hg hn hB hK hsz hD HE
    go_wp2_with fail
    refine (HA.out _).mono ?_
    rintro e w2 ⟨rfl, hb⟩
    replace HG := Lib.hid (HG.out.keep hb)
    replace HN := Lib.hid (HN.out.keep hb)
    replace HB := Lib.hid (HB.out.trans (hb.mono HB.out.size))
    replace HD := Lib.hid ((hb.block D hDl).trans HD.out)
    replace hDl := Nat.lt_of_lt_of_le hDl hb.size
    clear hb
    have g0 := HG.out.cell 0 rfl
    have g1 := HG.out.cell 1 rfl
    have g2 := HG.out.cell 2 rfl
    have g3 := HG.out.cell 3 rfl
    have g4 := HG.out.cell 4 rfl
    have g5 := HG.out.cell 5 rfl
    have gl := HG.out.lt
    go_wp2_with fail
    have hb : Below w2.heap.size w2 (w2.alloc (.cells #[.int .i64 (-2), .int .i64 (-1), .int .i64 1, .int .i64 6, .int .i64 3, .int .i64 4] 23)) := (Below.refl _ w2).alloc (Nat.le_refl _) _
    have HX := Lib.hid (Blk.new w2 23 [.int .i64 (-2), .int .i64 (-1), .int .i64 1, .int .i64 6, .int .i64 3, .int .i64 4] rfl)
    replace HG := Lib.hid (HG.out.keep hb)
    replace HN := Lib.hid (HN.out.keep hb)
    replace HB := Lib.hid (HB.out.trans (hb.mono HB.out.size))
    replace HD := Lib.hid ((hb.block D hDl).trans HD.out)
    replace hDl := Nat.lt_of_lt_of_le hDl hb.size
    clear hb g0 g1 g2 g3 g4 g5 gl
    generalize hX : w2.heap.size = X at *
    generalize hW : w2.alloc (.cells #[.int .i64 (-2), .int .i64 (-1), .int .i64 1, .int .i64 6, .int .i64 3, .int .i64 4] 23) = w3 at *
    clear hX hW HA
    have g0 := HG.out.cell 0 rfl
    have g1 := HG.out.cell 1 rfl
    have g2 := HG.out.cell 2 rfl
    have g3 := HG.out.cell 3 rfl
    have g4 := HG.out.cell 4 rfl
    have g5 := HG.out.cell 5 rfl
    have gl := HG.out.lt
    refine (HK.out _).mono ?_
    rintro e w4 ⟨rfl, hb⟩
    replace HG := Lib.hid (HG.out.keep hb)
    replace HN := Lib.hid (HN.out.keep hb)
    replace HX := Lib.hid (HX.out.keep hb)
    replace HB := Lib.hid (HB.out.trans (hb.mono HB.out.size))
    replace HD := Lib.hid ((hb.block D hDl).trans HD.out)
    replace hDl := Nat.lt_of_lt_of_le hDl hb.size
    clear hb g0 g1 g2 g3 g4 g5 gl
    clear HK
    have g0 := HG.out.cell 0 rfl
    have g1 := HG.out.cell 1 rfl
    have g2 := HG.out.cell 2 rfl
    have g3 := HG.out.cell 3 rfl
    have g4 := HG.out.cell 4 rfl
    have g5 := HG.out.cell 5 rfl
    have gl := HG.out.lt
    go_wp2_with fail
    refine (HM.out _).mono ?_
    rintro e w5 ⟨rfl, hb⟩
    replace HG := Lib.hid (HG.out.keep hb)
    replace HN := Lib.hid (HN.out.keep hb)
    replace HX := Lib.hid (HX.out.keep hb)
    replace HB := Lib.hid (HB.out.trans (hb.mono HB.out.size))
    replace HD := Lib.hid ((hb.block D hDl).trans HD.out)
    replace hDl := Nat.lt_of_lt_of_le hDl hb.size
    clear hb g0 g1 g2 g3 g4 g5 gl
    clear HM
    have g0 := HG.out.cell 0 rfl
    have g1 := HG.out.cell 1 rfl
    have g2 := HG.out.cell 2 rfl
    have g3 := HG.out.cell 3 rfl
    have g4 := HG.out.cell 4 rfl
    have g5 := HG.out.cell 5 rfl
    have gl := HG.out.lt
    go_wp2_with fail
    refine (H1.out _).mono ?_
    rintro e w6 ⟨rfl, hb⟩
    replace HG := Lib.hid (HG.out.keep hb)
    replace HN := Lib.hid (HN.out.keep hb)
    replace HX := Lib.hid (HX.out.keep hb)
    replace HB := Lib.hid (HB.out.trans (hb.mono HB.out.size))
    replace HD := Lib.hid ((hb.block D hDl).trans HD.out)
    replace hDl := Nat.lt_of_lt_of_le hDl hb.size
    clear hb g0 g1 g2 g3 g4 g5 gl
    clear H1
    have g0 := HG.out.cell 0 rfl
    have g1 := HG.out.cell 1 rfl
    have g2 := HG.out.cell 2 rfl
    have g3 := HG.out.cell 3 rfl
    have g4 := HG.out.cell 4 rfl
    have g5 := HG.out.cell 5 rfl
    have gl := HG.out.lt
    go_wp2_with fail
    refine (H2.out _).mono ?_
    rintro e w7 ⟨rfl, hb⟩
    replace HG := Lib.hid (HG.out.keep hb)
    replace HN := Lib.hid (HN.out.keep hb)
    replace HX := Lib.hid (HX.out.keep hb)
    replace HB := Lib.hid (HB.out.trans (hb.mono HB.out.size))
    replace HD := Lib.hid ((hb.block D hDl).trans HD.out)
    replace hDl := Nat.lt_of_lt_of_le hDl hb.size
    clear hb g0 g1 g2 g3 g4 g5 gl
    clear H2
    have g0 := HG.out.cell 0 rfl
    have g1 := HG.out.cell 1 rfl
    have g2 := HG.out.cell 2 rfl
    have g3 := HG.out.cell 3 rfl
    have g4 := HG.out.cell 4 rfl
    have g5 := HG.out.cell 5 rfl
    have gl := HG.out.lt
    have n0 := HN.out.cell 0 rfl
    have x0 := HX.out.cell 0 rfl
    have x1 := HX.out.cell 1 rfl
    have x2 := HX.out.cell 2 rfl
    have x3 := HX.out.cell 3 rfl
    have x4 := HX.out.cell 4 rfl
    have x5 := HX.out.cell 5 rfl
    have nl := HN.out.lt
    have xl := HX.out.lt
    go_wp2_with fail
    refine ⟨by simp, .inl ⟨_, _, rfl, run_takeDeferred HD.out, ?_⟩⟩
    exact ⟨_, results_tmp rfl _ _ _, rfl, HB.out.trans (belowK_b (w := w) (Nat.le_refl _) _ D _ _ (by omega) HD.out rfl rfl)⟩
  case stop =>
    rintro D c pre W _ _ h _
    exact h.elim

end Go.Proofs.Ytaadponhmnaccaa
