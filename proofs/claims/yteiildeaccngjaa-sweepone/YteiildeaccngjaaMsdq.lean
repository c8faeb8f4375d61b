/-
  SdfQ SdfP in one text (no claim is made here).
-/
import Derived.Test.YteiildeaccngjaaByt
import Derived.Test.YteiildeaccngjaaMnum
import Derived.Test.YteiildeaccngjaaMgrd
import Derived.Test.YteiildeaccngjaaMwid
import Derived.Test.YteiildeaccngjaaJoin
import Derived.Laws.OwnMore
import Derived.Deep.AppendLies
import Derived.Test.YteiildeaccngjaaMsdf
namespace Go.Proofs.Yteiildeaccngjaa
open Go.RowKit

/-- A row of a field while it is filled. -/
def fillN (t : Nat → Nat) (u i : Nat) : List Nat := (List.range u).map fun j => if j < i then t j else 0
theorem fillN_length (t : Nat → Nat) (u i : Nat) : (fillN t u i).length = u := by simp [fillN]
theorem fillN_zero (t : Nat → Nat) (u : Nat) : bvals (fillN t u 0) = List.replicate u (.int .u8 0) := by
  refine List.ext_getElem (by simp [bvals, fillN]) (fun j h1 h2 => ?_)
  simp [bvals, fillN]
theorem fillN_full (t : Nat → Nat) (u : Nat) : fillN t u u = (List.range u).map t := by
  refine List.map_congr_left (fun j hj => ?_)
  rw [if_pos (List.mem_range.1 hj)]
theorem fillN_set (t : Nat → Nat) (u i : Nat) : (bvals (fillN t u i)).set i (.int .u8 (t i : Nat)) = bvals (fillN t u (i + 1)) := by
  refine List.ext_getElem (by simp [bvals, fillN]) (fun j h1 h2 => ?_)
  rw [List.getElem_set]
  by_cases e : i = j
  · subst e
    simp [bvals, fillN]
  · have : j < i ↔ j < i + 1 := by omega
    simp [bvals, fillN, e, this]
/-- A row of ours that is being filled. -/
def Fill (w : World) (gm u : Nat) (t : Nat → Nat) (i : Nat) : Prop := w.ownsRow gm 5 1 (.slice (some ⟨gm, 0, none⟩) u u) u (bvals (fillN t u i))
theorem Fill.keep {w w' : World} {gm u : Nat} {t : Nat → Nat} {i : Nat} (h : Fill w gm u t i) (hb : Below w.heap.size w w') : Fill w' gm u t i := own_blocks h fun g hg => hb.block g (World.ownsRow.lt h g hg).2
theorem Fill.lt {w : World} {gm u : Nat} {t : Nat → Nat} {i : Nat} (h : Fill w gm u t i) : gm < w.heap.size := (World.ownsRow.lt h gm rfl).2
theorem Fill.cell {w : World} {gm u : Nat} {t : Nat → Nat} {i : Nat} (h : Fill w gm u t i) (j : Nat) (hj : j < u) : (∃ x, w.cell? ⟨gm, j, none⟩ = some x) ∧ w.frozen? ⟨gm, j, none⟩ = false := by
  have hl : (bvals (fillN t u i)).length = u := by rw [bvals_length, fillN_length]
  exact ⟨⟨(bvals (fillN t u i))[j]'(by omega), by rw [World.ownsRow.cellAt h j (by omega)]; exact List.getElem?_eq_getElem _⟩, World.ownsRow.frozenAt h j⟩
theorem Fill.store {w : World} {gm u : Nat} {t : Nat → Nat} {i : Nat} (h : Fill w gm u t i) : Fill (w.setCell ⟨gm, i, none⟩ (.int .u8 (t i : Nat))) gm u t (i + 1) := by
  have := (World.ownsRow.stored h i (.int .u8 (t i : Nat))).1
  rw [fillN_set] at this
  exact this
theorem Fill.row {w : World} {gm u : Nat} {t : Nat → Nat} (h : Fill w gm u t u) : BRow w gm (.slice (some ⟨gm, 0, none⟩) u u) ((List.range u).map t) := by
  unfold BRow
  rw [← fillN_full, fillN_length]
  exact h

set_option maxRecDepth 100000 in
set_option maxHeartbeats 3200000 in
theorem prow_any (ve : Value) (x y p s : Int) (u v k : Nat) (t : Nat → Nat) (w : World) (P : World → Prop) (hP : P w) (hPk : ∀ w1 w2, P w1 → Below w1.heap.size w1 w2 → P w2) (hu : 1 ≤ u ∧ u ≤ 24)
    (HT : ∀ (i : Nat) (w : World), P w → i < u → Calls Try.prog 60 #[ve, .agg #[.int .i64 x, .int .i64 y, .int .i64 p, .int .i64 u, .int .i64 v, .int .i64 s], .int .i64 i, .int .i64 k] w fun e w' => e = .returned (.int .u8 (t i : Nat)) ∧ Below w.heap.size w w') :
    Calls Try.prog 47 #[ve, .agg #[.int .i64 x, .int .i64 y, .int .i64 p, .int .i64 u, .int .i64 v, .int .i64 s], .int .i64 k] w fun e w' => ∃ V, e = .returned V ∧ BRow w' w.heap.size V ((List.range u).map t) ∧ Below w.heap.size w w' := by
  obtain ⟨hu1, hu2⟩ := hu
  have HP0 := Lib.hid hP
  have HPK := Lib.hid hPk
  have HTT := Lib.hid HT
  obtain ⟨i0, hi0, hz0, hz1, hz2⟩ := infos binfo
  have B0 : Below w.heap.size w (w.alloc (.cells #[.int .i64 x, .int .i64 y, .int .i64 p, .int .i64 u, .int .i64 v, .int .i64 s] 29)) := (Below.refl _ w).alloc (Nat.le_refl _) _
  obtain ⟨wm, hr, hown, hg⟩ := run_make_full (P := Try.prog) (w.alloc (.cells #[.int .i64 x, .int .i64 y, .int .i64 p, .int .i64 u, .int .i64 v, .int .i64 s] 29)) (w.heap.size + 1) 34 5 i0 _ 1 Try.underlying34 hi0 hz0 hz1 .i64 .i64 u (by rw [hz2]; omega) (by unfold maxLen; omega) (by simp)
  rw [World.size_alloc] at hr hown
  have Bm : Below w.heap.size w wm := B0.grown hg (by simp) (fun q hq => by cases hq)
  have M0 : Fill wm (w.heap.size + 1) u t 0 := by
    rw [show (Value.int IntKind.u8 0).cells = #[.int .u8 0] from rfl, Nat.mul_one, toList_madeCells_one] at hown
    unfold Fill; rw [fillN_zero]; exact hown
  have K0 : Blk wm w.heap.size 29 [.int .i64 x, .int .i64 y, .int .i64 p, .int .i64 u, .int .i64 v, .int .i64 s] := (Blk.new w 29 [.int .i64 x, .int .i64 y, .int .i64 p, .int .i64 u, .int .i64 v, .int .i64 s] rfl).grown hg (by simp)
  obtain ⟨gm, hgm⟩ : ∃ g, w.heap.size + 1 = g := ⟨_, rfl⟩
  rw [hgm] at hr M0
  have HGM := Lib.hid hgm
  have HBm := Lib.hid Bm
  have HM0 := Lib.hid M0
  have HK0 := Lib.hid K0
  clear hown hg hi0 hz0 hz1 hz2 Bm M0 K0 hP hPk HT B0 hgm
  go_enter Try.func47, Try.ntmps47
  go_wp2_with fail
  clear hr
  go_loopw [22] (fun i wr => ∃ r : Nat, r ≤ u ∧ i = .int .i64 r ∧ Hid (Fill wr gm u t r) ∧ Hid (Below w.heap.size w wr) ∧ Hid (Blk wr w.heap.size 29 [.int .i64 x, .int .i64 y, .int .i64 p, .int .i64 u, .int .i64 v, .int .i64 s])) (fun i _ => u - (intOf i).toNat)
  case atStart => exact ⟨0, Nat.zero_le _, rfl, HM0, HBm, HK0⟩
  case round =>
    obtain ⟨r, hr, rfl, HM, HB, HK⟩ := hrel
    by_cases hrn : r < u
    · have hrb : decide ((r : Int) < u) = true := by simp; omega
      have HT1 := Lib.hid (HTT.out r wr (HPK.out w wr HP0.out HB.out) hrn)
      have k0 := HK.out.cell 0 rfl
      have k1 := HK.out.cell 1 rfl
      have k2 := HK.out.cell 2 rfl
      have k3 := HK.out.cell 3 rfl
      have k4 := HK.out.cell 4 rfl
      have k5 := HK.out.cell 5 rfl
      have kl := HK.out.lt
      go_wp2_with fail
      refine HT1.out.mono ?_
      rintro e w3 ⟨rfl, hb3⟩
      have M3 := HM.out.keep hb3
      obtain ⟨⟨x, m1⟩, m2⟩ := M3.cell r hrn
      have m3 := M3.lt
      have M4 := Lib.hid M3.store
      have hg0 : w.heap.size ≤ gm := by have := HGM.out; omega
      have hgl : gm < wr.heap.size := HM.out.lt
      have B4 := Lib.hid ((HB.out.trans (hb3.mono HB.out.size)).setCell (p := ⟨gm, r, none⟩) hg0 (.int .u8 (t r : Nat)))
      have K4 := Lib.hid ((HK.out.keep hb3).other (k := gm) r (.int .u8 (t r : Nat)) (by have := HGM.out; omega))
      clear M3 hb3 HT1 k0 k1 k2 k3 k4 k5 kl
      go_wp2_with fail
      exact ⟨⟨r + 1, by omega, by go_num, M4, B4, K4⟩, by simp [intOf]; omega⟩
    · obtain rfl : r = u := by omega
      go_wp2
      go_ret
      exact ⟨_, rfl, HM.out.row.mono (by have := HGM.out; omega), HB.out⟩

/-- append(s, x...) of bytes, of which there is one at least. -/
theorem bjoin_wp {w : World} {o : Oper} {a : Act} {K : Act → World → Prop} {Q : Exit → Act → World → Prop} (s x : Operand)
    (ho : o.op = .call { callee := .builtin .append, args := #[s, x], argTypes := #[34, 34] }) (base : Nat) (u : Value) (es : List Nat) (N : Nat) (hs : a.eval s = u) (hown : BRow w base u es) (hN : es.length = N)
    (V : Value) (b2 : Nat) (fs : List Nat) (M : Nat) (hx : a.eval x = V) (hfs : BRow w b2 V fs) (hM : fs.length = M) (hM0 : 0 < M) (hlen : N + M ≤ 1000000) (hbase : base ≤ w.heap.size)
    (h : ∀ A' cap' w', BRow w' base (.slice A' (N + M) cap') (es ++ fs) → Below base w w' → K (a.put o.dst (.slice A' (N + M) cap')) w') :
    Oper.wp Try.prog o a w K Q := by
  obtain ⟨i0, hi0, hz0, hz1, hz2⟩ := infos binfo
  rcases hfs.2 with ⟨_, h0⟩ | ⟨g, cp, cur, e, hg, hg2, hl, hm, _, _⟩
  · omega
  · subst e
    have hcell : ∀ j v, (bvals fs)[j]? = some v → w.cell? ((⟨g, 0, none⟩ : Addr).add j) = some v := fun j v hj => World.ownsRow.cells hfs rfl j v hj
    rw [hM] at hx
    refine wp_append_lies w s x 34 ho base 5 i0 _ 1 1 Try.underlying34 hi0 hz0 hz1 hz2 rfl (by omega) u N (bvals es) hs (BRow.own hown hN) ⟨g, 0, none⟩ M cp (bvals fs) hx (by rw [bvals_length, hM, Nat.mul_one]) hcell (by unfold bvals; simp [Value.oneCell']) hM0 (by unfold maxLen; omega) (by omega) hbase _ rfl ?_
    intro g' cap' w' hown' hgrow _ _
    refine h _ _ w' ?_ ?_
    · unfold BRow
      rw [List.length_append, hN, hM, bvals_append]
      exact hown'
    · exact (Below.refl base w).grown hgrow hbase (fun q hq => (World.ownsRow.lt hown q hq).1)

set_option maxRecDepth 100000 in
set_option maxHeartbeats 3200000 in
theorem pmake_any (ve : Value) (x y p s : Int) (u v : Nat) (F rw : Nat → List Nat) (w : World) (P : World → Prop) (hP : P w) (hPk : ∀ w1 w2, P w1 → Below w1.heap.size w1 w2 → P w2) (hg : checkG x y p u v s = 0) (hu : 1 ≤ u ∧ u ≤ 24) (hv : 1 ≤ v ∧ v ≤ 24)
    (hF0 : F 0 = []) (hF : ∀ k, F (k + 1) = F k ++ rw k) (hl : ∀ k, (F k).length = k * u) (hlr : ∀ k, (rw k).length = u)
    (HT : ∀ (k : Nat) (w : World), P w → k < v → Calls Try.prog 47 #[ve, .agg #[.int .i64 x, .int .i64 y, .int .i64 p, .int .i64 u, .int .i64 v, .int .i64 s], .int .i64 k] w fun e w' => ∃ V, e = .returned V ∧ BRow w' w.heap.size V (rw k) ∧ Below w.heap.size w w') :
    Calls Try.prog 21 #[ve, .agg #[.int .i64 x, .int .i64 y, .int .i64 p, .int .i64 u, .int .i64 v, .int .i64 s]] w fun e w' => ∃ V, e = .returned (.tuple #[.agg #[.int .i64 u, .int .i64 v, V], .int .i64 0]) ∧ BRow w' w.heap.size V (F v) ∧ Below w.heap.size w w' := by
  have HP0 := Lib.hid hP
  have HPK := Lib.hid hPk
  have HTT := Lib.hid HT
  have HCK := Lib.hid (fun w => gcheck_any x y p u v s w)
  rw [hg] at HCK
  have HB0 := Lib.hid (alloc2 w (.cells #[.int .i64 x, .int .i64 y, .int .i64 p, .int .i64 u, .int .i64 v, .int .i64 s] 29) (.cells #[.int .i64 0, .int .i64 0, .slice none 0 0] 36))
  have HG0 := Lib.hid ((Blk.new w 29 [.int .i64 x, .int .i64 y, .int .i64 p, .int .i64 u, .int .i64 v, .int .i64 s] rfl).alloc (.cells #[.int .i64 0, .int .i64 0, .slice none 0 0] 36))
  have HR0 := Lib.hid (Blk.new (w.alloc (.cells #[.int .i64 x, .int .i64 y, .int .i64 p, .int .i64 u, .int .i64 v, .int .i64 s] 29)) 36 [.int .i64 0, .int .i64 0, .slice none 0 0] (g := w.heap.size + 1) (by simp))
  clear hP hPk HT hg
  go_enter Try.func21, Try.ntmps21
  go_wp2_with fail
  refine (HCK.out _).mono ?_
  rintro e w1 ⟨rfl, hb⟩
  have HG1 := Lib.hid (HG0.out.keep hb)
  have HR1 := Lib.hid (HR0.out.keep hb)
  have HB1 := Lib.hid (below2 HB0.out hb)
  clear hb HG0 HR0 HB0 HCK
  have k0 := HG1.out.cell 0 rfl
  have k1 := HG1.out.cell 1 rfl
  have k2 := HG1.out.cell 2 rfl
  have k3 := HG1.out.cell 3 rfl
  have k4 := HG1.out.cell 4 rfl
  have k5 := HG1.out.cell 5 rfl
  have kl := HG1.out.lt
  have hal : Below w1.heap.size w1 (w1.alloc (.cells #[.int .i64 u, .int .i64 v, .slice none 0 0] 36)) := (Below.refl _ _).alloc (Nat.le_refl _) _
  have HG2 := Lib.hid (HG1.out.keep hal)
  have HR2 := Lib.hid (HR1.out.keep hal)
  have HB2 := Lib.hid (below2 HB1.out hal)
  have HF2 := Lib.hid (Blk.new w1 36 [.int .i64 u, .int .i64 v, .slice none 0 0] rfl)
  have HS1 := Lib.hid HB1.out.size
  have HW2 := Lib.hid (show w1.heap.size < (w1.alloc (.cells #[.int .i64 u, .int .i64 v, .slice none 0 0] 36)).heap.size by simp)
  have hg1 : w.heap.size + 1 < w1.heap.size := HR1.out.lt
  go_wp2_with fail
  clear hal HG1 HR1 HB1 k0 k1 k2 k3 k4 k5 kl
  generalize w1.alloc (.cells #[.int .i64 u, .int .i64 v, .slice none 0 0] 36) = w2 at *
  generalize w1.heap.size = G at *
  go_loopw [22] (fun i wr => ∃ k : Nat, ∃ T : Value, k ≤ v ∧ i = .int .i64 k ∧ Hid (Blk wr w.heap.size 29 [.int .i64 x, .int .i64 y, .int .i64 p, .int .i64 u, .int .i64 v, .int .i64 s]) ∧ Hid (Blk wr (w.heap.size + 1) 36 [.int .i64 0, .int .i64 0, .slice none 0 0]) ∧ Hid (Blk wr G 36 [.int .i64 u, .int .i64 v, T]) ∧ Hid (BRow wr (G + 1) T (F k)) ∧ Hid (Below w.heap.size w wr)) (fun i _ => v - (intOf i).toNat)
  case atStart => exact ⟨0, _, Nat.zero_le _, rfl, HG2, HR2, HF2, Lib.hid (by rw [hF0]; exact BRow.nil _ _), HB2⟩
  case round =>
    clear HG2 HR2 HF2 HB2 HW2
    obtain ⟨k, T, hk, rfl, HG, HR, HF, HT, HB⟩ := hrel
    by_cases hkv : k < v
    · have hkb : decide ((k : Int) < v) = true := by simp; omega
      have HRW := Lib.hid (fun w' h => HTT.out k w' h hkv)
      have HLK := Lib.hid (hl k)
      have HFK := Lib.hid (hF k)
      have hKb : k * u ≤ 1000 := by have := Nat.mul_le_mul (show k ≤ 24 by omega) hu.2; omega
      have HLR := Lib.hid (hlr k)
      obtain ⟨A, cap, rfl⟩ := HT.out.form
      rw [HLK.out] at HF HT
      obtain ⟨LL, hK⟩ : ∃ K, k * u = K := ⟨_, rfl⟩
      have HKK := Lib.hid hK
      rw [hK] at HF HT HLK hKb
      clear hK
      generalize F k = Fk at *
      generalize rw k = Rk at *
      go_upto_region 8 with fail
      have hd : Below wr.heap.size wr wr.drew := (Below.refl _ wr).drew
      have AB := HB.out.drew
      replace HG := Lib.hid (HG.out.keep hd)
      replace HR := Lib.hid (HR.out.keep hd)
      replace HF := Lib.hid (HF.out.keep hd)
      replace HT := Lib.hid (HT.out.below hd)
      have f2 := HF.out.cell 2 rfl
      clear hd HB
      refine wp_region_held_drew (S := fun wx => wx.cell? ⟨w.heap.size, 0, none⟩ = some (.int .i64 x) ∧ wx.cell? ⟨w.heap.size, 1, none⟩ = some (.int .i64 y) ∧ wx.cell? ⟨w.heap.size, 2, none⟩ = some (.int .i64 p) ∧ wx.cell? ⟨w.heap.size, 3, none⟩ = some (.int .i64 u) ∧ wx.cell? ⟨w.heap.size, 4, none⟩ = some (.int .i64 v) ∧ wx.cell? ⟨w.heap.size, 5, none⟩ = some (.int .i64 s)) (by kernel_rfl) (⟨HG.out.cell 0 rfl, HG.out.cell 1 rfl, HG.out.cell 2 rfl, HG.out.cell 3 rfl, HG.out.cell 4 rfl, HG.out.cell 5 rfl⟩) (fun hHeld => ?_)
      refine wpAnyH_take (i := 0) (v := ?_) rfl (by kernel_rfl) (by kernel_rfl) (by kernel_rfl) (fun _ _ _ h => h) (Or.inl ⟨by rfl, ?_⟩) hHeld ?_
      rotate_left
      · intro w hSw
        (try dsimp only at hSw)
        (try simp only [List.getElem_toArray, List.getElem_cons_zero])
        go_simp
        all_goals with_reducible rfl
      try simp only [List.getElem_toArray, List.getElem_cons_zero, Act.put, List.setIfInBounds_toArray, List.set_cons_zero, List.set_cons_succ]
      refine wpAnyH_take (i := 2) (v := ?_) rfl (by kernel_rfl) (by kernel_rfl) (by kernel_rfl) (fun _ _ _ h => h) (Or.inl ⟨by rfl, ?_⟩) hHeld ?_
      rotate_left
      · intro w hSw
        (try dsimp only at hSw)
        (try simp only [List.getElem_toArray, List.getElem_cons_zero, List.getElem_cons_succ])
        go_simp
        all_goals with_reducible rfl
      try simp only [List.getElem_toArray, List.getElem_cons_zero, List.getElem_cons_succ, Act.put, List.setIfInBounds_toArray, List.set_cons_zero, List.set_cons_succ]
      refine wpAnyH_take (i := 3) (v := ?_) rfl (by kernel_rfl) (by kernel_rfl) (by kernel_rfl) (fun _ _ _ h => h) (Or.inl ⟨by rfl, ?_⟩) hHeld ?_
      rotate_left
      · intro w hSw
        (try dsimp only at hSw)
        (try simp only [List.getElem_toArray, List.getElem_cons_zero, List.getElem_cons_succ])
        go_simp
        all_goals with_reducible rfl
      try simp only [List.getElem_toArray, List.getElem_cons_zero, List.getElem_cons_succ, Act.put, List.setIfInBounds_toArray, List.set_cons_zero, List.set_cons_succ]
      refine wpAnyH_take (i := 4) (v := ?_) rfl (by kernel_rfl) (by kernel_rfl) (by kernel_rfl) (fun _ _ _ h => h) (Or.inl ⟨by rfl, ?_⟩) hHeld ?_
      rotate_left
      · intro w hSw
        (try dsimp only at hSw)
        (try simp only [List.getElem_toArray, List.getElem_cons_zero, List.getElem_cons_succ])
        go_simp
        all_goals with_reducible rfl
      try simp only [List.getElem_toArray, List.getElem_cons_zero, List.getElem_cons_succ, Act.put, List.setIfInBounds_toArray, List.set_cons_zero, List.set_cons_succ]
      refine wpAnyH_ready (rs := [1, 5]) (by kernel_rfl) (by simp) ?_
      refine AllReadyH.cons rfl (fun K hK => ?_) (AllReadyH.cons rfl (fun K hK => ?_) AllReadyH.nil)
      · try simp only [List.getElem_toArray, List.getElem_cons_zero, List.getElem_cons_succ]
        go_simp
        refine hK.out _ _ (⟨HG.out.cell 0 rfl, HG.out.cell 1 rfl, HG.out.cell 2 rfl, HG.out.cell 3 rfl, HG.out.cell 4 rfl, HG.out.cell 5 rfl⟩) (fun hHeld => ?_)
        clear hK K
        try simp only [List.getElem_toArray, List.getElem_cons_zero, List.getElem_cons_succ, Act.put, List.setIfInBounds_toArray, List.set_cons_zero, List.set_cons_succ]
        refine wpAnyH_ready (rs := [5]) (by kernel_rfl) (by simp) ?_
        refine AllReadyH.cons rfl (fun K hK => ?_) AllReadyH.nil
        try simp only [List.getElem_toArray, List.getElem_cons_zero, List.getElem_cons_succ]
        go_simp
        refine (HRW.out _ (HPK.out w _ HP0.out AB)).mono ?_
        rintro e wn ⟨V, rfl, hV, hbn⟩
        have AB := AB.trans (hbn.mono (AB.size))
        replace HG := Lib.hid (HG.out.keep hbn)
        replace HR := Lib.hid (HR.out.keep hbn)
        replace HF := Lib.hid (HF.out.keep hbn)
        replace HT := Lib.hid (HT.out.below hbn)
        have HV := Lib.hid hV
        clear hV f2
        have f2 := HF.out.cell 2 rfl
        clear hbn
        go_wp2_with fail
        refine hK.out _ _ (⟨HG.out.cell 0 rfl, HG.out.cell 1 rfl, HG.out.cell 2 rfl, HG.out.cell 3 rfl, HG.out.cell 4 rfl, HG.out.cell 5 rfl⟩) (fun hHeld => ?_)
        clear hK K
        try simp only [List.getElem_toArray, List.getElem_cons_zero, List.getElem_cons_succ, Act.put, List.setIfInBounds_toArray, List.set_cons_zero, List.set_cons_succ]
        refine wpAnyH_ready (rs := [6]) (by kernel_rfl) (by simp) ?_
        refine AllReadyH.cons rfl (fun K hK => ?_) AllReadyH.nil
        try simp only [List.getElem_toArray, List.getElem_cons_zero, List.getElem_cons_succ]
        refine step_if (by kernel_rfl) ?_
        refine bjoin_wp (.tmp 26) (.tmp 30) ?_ (G + 1) _ Fk LL ?_ HT.out HLK.out V _ Rk u ?_ HV.out HLR.out ?_ ?_ ?_ ?_
        · rfl
        · kernel_rfl
        · kernel_rfl
        · omega
        · omega
        · exact HF.out.lt
        intro A6 c6 wm hT6 hb6
        rw [← HFK.out] at hT6
        replace HT := Lib.hid hT6
        have AB := AB.trans (hb6.mono (show w.heap.size ≤ G + 1 by omega))
        replace HG := Lib.hid (HG.out.heap (hb6.block w.heap.size (by omega)))
        replace HR := Lib.hid (HR.out.heap (hb6.block (w.heap.size + 1) (by omega)))
        replace HF := Lib.hid (HF.out.heap (hb6.block G (by omega)))
        clear f2
        have f2 := HF.out.cell 2 rfl
        have ff := HF.out.frozen 2
        have fl := HF.out.lt
        clear hb6 hT6 HV
        refine hK.out _ _ (⟨HG.out.cell 0 rfl, HG.out.cell 1 rfl, HG.out.cell 2 rfl, HG.out.cell 3 rfl, HG.out.cell 4 rfl, HG.out.cell 5 rfl⟩) (fun hHeld => ?_)
        clear hK K
        try simp only [Act.put, List.setIfInBounds_toArray, List.set_cons_zero, List.set_cons_succ]
        refine wpAnyH_take (i := 7) (v := ?_) rfl (by kernel_rfl) (by kernel_rfl) (by kernel_rfl) (fun _ _ _ h => h) (Or.inl ⟨by rfl, ?_⟩) hHeld ?_
        rotate_left
        · intro w hSw
          (try dsimp only at hSw)
          (try simp only [List.getElem_toArray, List.getElem_cons_zero, List.getElem_cons_succ])
          go_simp
          all_goals with_reducible rfl
        try simp only [List.getElem_toArray, List.getElem_cons_zero, List.getElem_cons_succ, Act.put, List.setIfInBounds_toArray, List.set_cons_zero, List.set_cons_succ]
        refine wpAnyH_ready (rs := [8]) (by kernel_rfl) (by simp) ?_
        refine AllReadyH.cons rfl (fun K hK => ?_) AllReadyH.nil
        try simp only [List.getElem_toArray, List.getElem_cons_zero, List.getElem_cons_succ]
        go_simp
        replace HT := Lib.hid (HT.out.set (p := ⟨G, 2, none⟩) (Nat.lt_succ_self _) (.slice A6 (LL + u) c6))
        have AB := AB.setCell (p := ⟨G, 2, none⟩) (show w.heap.size ≤ G by omega) (.slice A6 (LL + u) c6)
        replace HG := Lib.hid (HG.out.other (k := G) 2 (.slice A6 (LL + u) c6) (by omega))
        replace HR := Lib.hid (HR.out.other (k := G) 2 (.slice A6 (LL + u) c6) (by omega))
        replace HF := Lib.hid (HF.out.set 2 (.slice A6 (LL + u) c6))
        clear f2 ff fl
        refine hK.out _ _ (⟨HG.out.cell 0 rfl, HG.out.cell 1 rfl, HG.out.cell 2 rfl, HG.out.cell 3 rfl, HG.out.cell 4 rfl, HG.out.cell 5 rfl⟩) (fun hHeld => ?_)
        clear hK K
        try simp only [List.getElem_toArray, List.getElem_cons_zero, List.getElem_cons_succ, Act.put, List.setIfInBounds_toArray, List.set_cons_zero, List.set_cons_succ]
        refine wpAnyH_done (by kernel_rfl) ?_ _
        go_wp2_with fail
        exact ⟨⟨k + 1, _, by omega, by go_num, HG, HR, HF, HT, Lib.hid AB⟩, by simp [intOf]; omega⟩
      · try simp only [List.getElem_toArray, List.getElem_cons_zero, List.getElem_cons_succ]
        go_simp
        refine (HRW.out _ (HPK.out w _ HP0.out AB)).mono ?_
        rintro e wn ⟨V, rfl, hV, hbn⟩
        have AB := AB.trans (hbn.mono (AB.size))
        replace HG := Lib.hid (HG.out.keep hbn)
        replace HR := Lib.hid (HR.out.keep hbn)
        replace HF := Lib.hid (HF.out.keep hbn)
        replace HT := Lib.hid (HT.out.below hbn)
        have HV := Lib.hid hV
        clear hV f2
        have f2 := HF.out.cell 2 rfl
        clear hbn
        go_wp2_with fail
        refine hK.out _ _ (⟨HG.out.cell 0 rfl, HG.out.cell 1 rfl, HG.out.cell 2 rfl, HG.out.cell 3 rfl, HG.out.cell 4 rfl, HG.out.cell 5 rfl⟩) (fun hHeld => ?_)
        clear hK K
        try simp only [List.getElem_toArray, List.getElem_cons_zero, List.getElem_cons_succ, Act.put, List.setIfInBounds_toArray, List.set_cons_zero, List.set_cons_succ]
        refine wpAnyH_ready (rs := [1]) (by kernel_rfl) (by simp) ?_
        refine AllReadyH.cons rfl (fun K hK => ?_) AllReadyH.nil
        try simp only [List.getElem_toArray, List.getElem_cons_zero, List.getElem_cons_succ]
        go_simp
        refine hK.out _ _ (⟨HG.out.cell 0 rfl, HG.out.cell 1 rfl, HG.out.cell 2 rfl, HG.out.cell 3 rfl, HG.out.cell 4 rfl, HG.out.cell 5 rfl⟩) (fun hHeld => ?_)
        clear hK K
        try simp only [List.getElem_toArray, List.getElem_cons_zero, List.getElem_cons_succ, Act.put, List.setIfInBounds_toArray, List.set_cons_zero, List.set_cons_succ]
        refine wpAnyH_ready (rs := [6]) (by kernel_rfl) (by simp) ?_
        refine AllReadyH.cons rfl (fun K hK => ?_) AllReadyH.nil
        try simp only [List.getElem_toArray, List.getElem_cons_zero, List.getElem_cons_succ]
        refine step_if (by kernel_rfl) ?_
        refine bjoin_wp (.tmp 26) (.tmp 30) ?_ (G + 1) _ Fk LL ?_ HT.out HLK.out V _ Rk u ?_ HV.out HLR.out ?_ ?_ ?_ ?_
        · rfl
        · kernel_rfl
        · kernel_rfl
        · omega
        · omega
        · exact HF.out.lt
        intro A6 c6 wm hT6 hb6
        rw [← HFK.out] at hT6
        replace HT := Lib.hid hT6
        have AB := AB.trans (hb6.mono (show w.heap.size ≤ G + 1 by omega))
        replace HG := Lib.hid (HG.out.heap (hb6.block w.heap.size (by omega)))
        replace HR := Lib.hid (HR.out.heap (hb6.block (w.heap.size + 1) (by omega)))
        replace HF := Lib.hid (HF.out.heap (hb6.block G (by omega)))
        clear f2
        have f2 := HF.out.cell 2 rfl
        have ff := HF.out.frozen 2
        have fl := HF.out.lt
        clear hb6 hT6 HV
        refine hK.out _ _ (⟨HG.out.cell 0 rfl, HG.out.cell 1 rfl, HG.out.cell 2 rfl, HG.out.cell 3 rfl, HG.out.cell 4 rfl, HG.out.cell 5 rfl⟩) (fun hHeld => ?_)
        clear hK K
        try simp only [Act.put, List.setIfInBounds_toArray, List.set_cons_zero, List.set_cons_succ]
        refine wpAnyH_take (i := 7) (v := ?_) rfl (by kernel_rfl) (by kernel_rfl) (by kernel_rfl) (fun _ _ _ h => h) (Or.inl ⟨by rfl, ?_⟩) hHeld ?_
        rotate_left
        · intro w hSw
          (try dsimp only at hSw)
          (try simp only [List.getElem_toArray, List.getElem_cons_zero, List.getElem_cons_succ])
          go_simp
          all_goals with_reducible rfl
        try simp only [List.getElem_toArray, List.getElem_cons_zero, List.getElem_cons_succ, Act.put, List.setIfInBounds_toArray, List.set_cons_zero, List.set_cons_succ]
        refine wpAnyH_ready (rs := [8]) (by kernel_rfl) (by simp) ?_
        refine AllReadyH.cons rfl (fun K hK => ?_) AllReadyH.nil
        try simp only [List.getElem_toArray, List.getElem_cons_zero, List.getElem_cons_succ]
        go_simp
        replace HT := Lib.hid (HT.out.set (p := ⟨G, 2, none⟩) (Nat.lt_succ_self _) (.slice A6 (LL + u) c6))
        have AB := AB.setCell (p := ⟨G, 2, none⟩) (show w.heap.size ≤ G by omega) (.slice A6 (LL + u) c6)
        replace HG := Lib.hid (HG.out.other (k := G) 2 (.slice A6 (LL + u) c6) (by omega))
        replace HR := Lib.hid (HR.out.other (k := G) 2 (.slice A6 (LL + u) c6) (by omega))
        replace HF := Lib.hid (HF.out.set 2 (.slice A6 (LL + u) c6))
        clear f2 ff fl
        refine hK.out _ _ (⟨HG.out.cell 0 rfl, HG.out.cell 1 rfl, HG.out.cell 2 rfl, HG.out.cell 3 rfl, HG.out.cell 4 rfl, HG.out.cell 5 rfl⟩) (fun hHeld => ?_)
        clear hK K
        try simp only [List.getElem_toArray, List.getElem_cons_zero, List.getElem_cons_succ, Act.put, List.setIfInBounds_toArray, List.set_cons_zero, List.set_cons_succ]
        refine wpAnyH_done (by kernel_rfl) ?_ _
        go_wp2_with fail
        exact ⟨⟨k + 1, _, by omega, by go_num, HG, HR, HF, HT, Lib.hid AB⟩, by simp [intOf]; omega⟩
    · obtain rfl : k = v := by omega
      obtain ⟨A, cap, rfl⟩ := HT.out.form
      obtain ⟨LL, hLL⟩ : ∃ L, (F k).length = L := ⟨_, rfl⟩
      rw [hLL] at HF HT
      have f0 := HF.out.cell 0 rfl
      have f1 := HF.out.cell 1 rfl
      have f2 := HF.out.cell 2 rfl
      have fl := HF.out.lt
      have r0 := HR.out.cell 0 rfl
      have r1 := HR.out.cell 1 rfl
      have r2 := HR.out.cell 2 rfl
      have rf := HR.out.frozen
      have rl := HR.out.lt
      have HF5 := Lib.hid (((HR.out.set 0 (.int .i64 u)).set 1 (.int .i64 k)).set 2 (.slice A LL cap))
      have HWW := Lib.hid (((HT.out.set (p := ⟨w.heap.size + 1, 0, none⟩) (show w.heap.size + 1 < G + 1 by omega) (.int .i64 u)).set (p := ⟨w.heap.size + 1, 1, none⟩) (show w.heap.size + 1 < G + 1 by omega) (.int .i64 k)).set (p := ⟨w.heap.size + 1, 2, none⟩) (show w.heap.size + 1 < G + 1 by omega) (.slice A LL cap))
      have HBB := Lib.hid (((HB.out.setCell (p := ⟨w.heap.size + 1, 0, none⟩) (by simp) (.int .i64 u)).setCell (p := ⟨w.heap.size + 1, 1, none⟩) (by simp) (.int .i64 k)).setCell (p := ⟨w.heap.size + 1, 2, none⟩) (by simp) (.slice A LL cap))
      clear HG HR HF HT HB
      go_wp2_with fail
      have q0 := HF5.out.cell 0 rfl
      have q1 := HF5.out.cell 1 rfl
      have q2 := HF5.out.cell 2 rfl
      exact bodyPost_ret (v := .tuple #[.agg #[.int .i64 u, .int .i64 k, .slice A LL cap], .int .i64 0]) (by simp [results, Try.results21, go_sem, q0, q1, q2]) rfl ⟨_, rfl, HWW.out.mono (by omega), HBB.out⟩

end Go.Proofs.Yteiildeaccngjaa

namespace Go.Proofs.Yteiildeaccngjaa
open Go.RowKit

theorem checkG_zero {x y p u v s : Int} (h : checkG x y p u v s = 0) : (x.natAbs ≤ 300 ∧ y.natAbs ≤ 300) ∧ (1 ≤ p ∧ p ≤ 16) ∧ (1 ≤ s ∧ s ≤ 64) ∧ (1 ≤ u ∧ u ≤ 24) ∧ 1 ≤ v ∧ v ≤ 24 := by
  unfold checkG at h
  by_cases k : u < 1 ∨ v < 1 ∨ 24 < u ∨ 24 < v
  · rw [if_pos k] at h; omega
  · rw [if_neg k] at h
    split at h
    · omega
    · omega

set_option maxRecDepth 100000 in
set_option maxHeartbeats 3200000 in
theorem ptexel_any (ve : Value) (es : List Ed) (x y p s : Int) (u v i k : Nat) (w : World) (hv : ERd w ve es) (hl : es.length ≤ 200000) (hin : ∀ s ∈ es, InD s) (hg : checkG x y p u v s = 0) (hi : i < u) (hk : k < v) :
    Calls Try.prog 60 #[ve, .agg #[.int .i64 x, .int .i64 y, .int .i64 p, .int .i64 u, .int .i64 v, .int .i64 s], .int .i64 i, .int .i64 k] w fun e w' => e = .returned (.int .u8 (texN es s (midP x y p i k) : Nat)) ∧ Below w.heap.size w w' := by
  obtain ⟨⟨hx, hy⟩, hp, hs, hu, hv2⟩ := checkG_zero hg
  have HV := Lib.hid hv
  have HL := Lib.hid hl
  have HI := Lib.hid hin
  obtain ⟨Ae, cape, rfl, hce, -⟩ := hv
  have HC := Lib.hid (fun w => centre_any x y p u v s i k (by omega) (by omega) (by omega) (by omega) (by omega) w)
  have hpm := mid_in x y p i k hx hy hp (by omega) (by omega)
  have HPM := Lib.hid (show InP ⟨midG x p i, midG y p k⟩ from hpm)
  have HB0 := Lib.hid ((Below.refl _ w).alloc (Nat.le_refl _) (.cells #[.int .i64 x, .int .i64 y, .int .i64 p, .int .i64 u, .int .i64 v, .int .i64 s] 29))
  have HG0 := Lib.hid (Blk.new w 29 [.int .i64 x, .int .i64 y, .int .i64 p, .int .i64 u, .int .i64 v, .int .i64 s] rfl)
  obtain ⟨N, hN⟩ : ∃ N, es.length = N := ⟨_, rfl⟩
  rw [hN] at HV hl hce
  have HN := Lib.hid hN
  rw [hN]
  clear hin hg hi hk hpm hN
  by_cases hN0 : N = 0
  · subst hN0
    obtain rfl : es = [] := List.eq_nil_of_length_eq_zero HN.out
    go_enter Try.func60, Try.ntmps60
    go_wp2_with fail
    go_ret
    exact ⟨rfl, HB0.out⟩
  · have hN1 : 0 < (N : Int) := by omega
    have hes : es ≠ [] := fun e => hN0 (by have := HN.out; rw [e] at this; exact this.symm)
    have HE := Lib.hid (fun w (h : ERd w (.slice Ae N cape) es) => eight_any _ es (midG x p i) (midG y p k) w h HL.out HI.out HPM.out)
    have HS := Lib.hid (fun w (h : ERd w (.slice Ae N cape) es) => sign_any _ es (midG x p i) (midG y p k) w h HL.out HI.out HPM.out)
    have hE := (E8.is es ⟨midG x p i, midG y p k⟩).small HI.out HPM.out
    have hE0 := eight_pos (p := ⟨midG x p i, midG y p k⟩) hes
    have hG := sgS_in es ⟨midG x p i, midG y p k⟩
    have hX := texN_is es s ⟨midG x p i, midG y p k⟩ hs.1
    unfold texG at hX
    rw [if_neg hes] at hX
    have HCD := Lib.hid (fun w => code_any x y p u v s _ _ hs hG ⟨hE0, by omega⟩ w)
    rw [← hX] at HCD
    rw [show midP x y p i k = ⟨midG x p i, midG y p k⟩ from rfl]
    generalize eightS es ⟨midG x p i, midG y p k⟩ = E8v at *
    generalize sgS es ⟨midG x p i, midG y p k⟩ = SGv at *
    generalize texN es s ⟨midG x p i, midG y p k⟩ = TXv at *
    generalize midG x p i = mx at *
    generalize midG y p k = my at *
    clear hE hE0 hG hX
    go_enter Try.func60, Try.ntmps60
    go_wp2_with fail
    refine (HC.out _).mono ?_
    rintro e w1 ⟨rfl, hb⟩
    have HGb := Lib.hid (HG0.out.keep hb)
    have HBb := Lib.hid (below2 HB0.out hb)
    clear hb HG0 HB0 HC
    go_wp2_with fail
    have hal : Below w1.heap.size w1 (w1.alloc (.cells #[.int .i64 mx, .int .i64 my] 41)) := (Below.refl _ _).alloc (Nat.le_refl _) _
    have AB := (below2 HBb.out hal).drew
    have HBX := Lib.hid ((HGb.out.keep hal).drew)
    have HP1 := Lib.hid ((Blk.new w1 41 [.int .i64 mx, .int .i64 my] rfl).drew)
    have HVw := Lib.hid (HV.out.keep AB)
    clear hal HGb HBb
    generalize w1.alloc (.cells #[.int .i64 mx, .int .i64 my] 41) = w2 at *
    generalize w1.heap.size = P at *
    refine wp_region_held_drew (S := fun wx => wx.cell? ⟨w.heap.size, 0, none⟩ = some (.int .i64 x) ∧ wx.cell? ⟨w.heap.size, 1, none⟩ = some (.int .i64 y) ∧ wx.cell? ⟨w.heap.size, 2, none⟩ = some (.int .i64 p) ∧ wx.cell? ⟨w.heap.size, 3, none⟩ = some (.int .i64 u) ∧ wx.cell? ⟨w.heap.size, 4, none⟩ = some (.int .i64 v) ∧ wx.cell? ⟨w.heap.size, 5, none⟩ = some (.int .i64 s) ∧ wx.cell? ⟨P, 0, none⟩ = some (.int .i64 mx) ∧ wx.cell? ⟨P, 1, none⟩ = some (.int .i64 my)) (by kernel_rfl) (⟨HBX.out.cell 0 rfl, HBX.out.cell 1 rfl, HBX.out.cell 2 rfl, HBX.out.cell 3 rfl, HBX.out.cell 4 rfl, HBX.out.cell 5 rfl, HP1.out.cell 0 rfl, HP1.out.cell 1 rfl⟩) (fun hHeld => ?_)
    refine wpAnyH_take (i := 0) (v := ?_) rfl (by kernel_rfl) (by kernel_rfl) (by kernel_rfl) (fun _ _ _ h => h) (Or.inl ⟨by rfl, ?_⟩) hHeld ?_
    rotate_left
    · intro w hSw
      (try dsimp only at hSw)
      (try simp only [List.getElem_toArray, List.getElem_cons_zero])
      go_simp
      all_goals with_reducible rfl
    try simp only [List.getElem_toArray, List.getElem_cons_zero, Act.put, List.setIfInBounds_toArray, List.set_cons_zero, List.set_cons_succ]
    refine wpAnyH_take (i := 1) (v := ?_) rfl (by kernel_rfl) (by kernel_rfl) (by kernel_rfl) (fun _ _ _ h => h) (Or.inl ⟨by rfl, ?_⟩) hHeld ?_
    rotate_left
    · intro w hSw
      (try dsimp only at hSw)
      (try simp only [List.getElem_toArray, List.getElem_cons_zero, List.getElem_cons_succ])
      go_simp
      all_goals with_reducible rfl
    try simp only [List.getElem_toArray, List.getElem_cons_zero, List.getElem_cons_succ, Act.put, List.setIfInBounds_toArray, List.set_cons_zero, List.set_cons_succ]
    refine wpAnyH_take (i := 2) (v := ?_) rfl (by kernel_rfl) (by kernel_rfl) (by kernel_rfl) (fun _ _ _ h => h) (Or.inl ⟨by rfl, ?_⟩) hHeld ?_
    rotate_left
    · intro w hSw
      (try dsimp only at hSw)
      (try simp only [List.getElem_toArray, List.getElem_cons_zero, List.getElem_cons_succ])
      go_simp
      all_goals with_reducible rfl
    try simp only [List.getElem_toArray, List.getElem_cons_zero, List.getElem_cons_succ, Act.put, List.setIfInBounds_toArray, List.set_cons_zero, List.set_cons_succ]
    refine wpAnyH_take (i := 4) (v := ?_) rfl (by kernel_rfl) (by kernel_rfl) (by kernel_rfl) (fun _ _ _ h => h) (Or.inl ⟨by rfl, ?_⟩) hHeld ?_
    rotate_left
    · intro w hSw
      (try dsimp only at hSw)
      (try simp only [List.getElem_toArray, List.getElem_cons_zero, List.getElem_cons_succ])
      go_simp
      all_goals with_reducible rfl
    try simp only [List.getElem_toArray, List.getElem_cons_zero, List.getElem_cons_succ, Act.put, List.setIfInBounds_toArray, List.set_cons_zero, List.set_cons_succ]
    refine wpAnyH_take (i := 5) (v := ?_) rfl (by kernel_rfl) (by kernel_rfl) (by kernel_rfl) (fun _ _ _ h => h) (Or.inl ⟨by rfl, ?_⟩) hHeld ?_
    rotate_left
    · intro w hSw
      (try dsimp only at hSw)
      (try simp only [List.getElem_toArray, List.getElem_cons_zero, List.getElem_cons_succ])
      go_simp
      all_goals with_reducible rfl
    try simp only [List.getElem_toArray, List.getElem_cons_zero, List.getElem_cons_succ, Act.put, List.setIfInBounds_toArray, List.set_cons_zero, List.set_cons_succ]
    refine wpAnyH_ready (rs := [3]) (by kernel_rfl) (by simp) ?_
    refine AllReadyH.cons rfl (fun K hK => ?_) AllReadyH.nil
    try simp only [List.getElem_toArray, List.getElem_cons_zero, List.getElem_cons_succ]
    go_simp
    refine (HS.out _ HVw.out).mono ?_
    rintro e wn ⟨rfl, hbn⟩
    have AB := AB.trans (hbn.mono (AB.size))
    replace HBX := Lib.hid (HBX.out.keep hbn)
    replace HP1 := Lib.hid (HP1.out.keep hbn)
    replace HVw := Lib.hid (HVw.out.keep hbn)
    clear hbn
    go_wp2_with fail
    refine hK.out _ _ (⟨HBX.out.cell 0 rfl, HBX.out.cell 1 rfl, HBX.out.cell 2 rfl, HBX.out.cell 3 rfl, HBX.out.cell 4 rfl, HBX.out.cell 5 rfl, HP1.out.cell 0 rfl, HP1.out.cell 1 rfl⟩) (fun hHeld => ?_)
    clear hK K
    try simp only [List.getElem_toArray, List.getElem_cons_zero, List.getElem_cons_succ, Act.put, List.setIfInBounds_toArray, List.set_cons_zero, List.set_cons_succ]
    refine wpAnyH_ready (rs := [6]) (by kernel_rfl) (by simp) ?_
    refine AllReadyH.cons rfl (fun K hK => ?_) AllReadyH.nil
    try simp only [List.getElem_toArray, List.getElem_cons_zero, List.getElem_cons_succ]
    go_simp
    refine (HE.out _ HVw.out).mono ?_
    rintro e wn ⟨rfl, hbn⟩
    have AB := AB.trans (hbn.mono (AB.size))
    replace HBX := Lib.hid (HBX.out.keep hbn)
    replace HP1 := Lib.hid (HP1.out.keep hbn)
    replace HVw := Lib.hid (HVw.out.keep hbn)
    clear hbn
    go_wp2_with fail
    refine hK.out _ _ (⟨HBX.out.cell 0 rfl, HBX.out.cell 1 rfl, HBX.out.cell 2 rfl, HBX.out.cell 3 rfl, HBX.out.cell 4 rfl, HBX.out.cell 5 rfl, HP1.out.cell 0 rfl, HP1.out.cell 1 rfl⟩) (fun hHeld => ?_)
    clear hK K
    try simp only [List.getElem_toArray, List.getElem_cons_zero, List.getElem_cons_succ, Act.put, List.setIfInBounds_toArray, List.set_cons_zero, List.set_cons_succ]
    refine wpAnyH_ready (rs := [7]) (by kernel_rfl) (by simp) ?_
    refine AllReadyH.cons rfl (fun K hK => ?_) AllReadyH.nil
    try simp only [List.getElem_toArray, List.getElem_cons_zero, List.getElem_cons_succ]
    go_simp
    refine (HCD.out _).mono ?_
    rintro e wn ⟨rfl, hbn⟩
    have AB := AB.trans (hbn.mono (AB.size))
    replace HBX := Lib.hid (HBX.out.keep hbn)
    replace HP1 := Lib.hid (HP1.out.keep hbn)
    replace HVw := Lib.hid (HVw.out.keep hbn)
    clear hbn
    go_wp2_with fail
    refine hK.out _ _ (⟨HBX.out.cell 0 rfl, HBX.out.cell 1 rfl, HBX.out.cell 2 rfl, HBX.out.cell 3 rfl, HBX.out.cell 4 rfl, HBX.out.cell 5 rfl, HP1.out.cell 0 rfl, HP1.out.cell 1 rfl⟩) (fun hHeld => ?_)
    clear hK K
    try simp only [List.getElem_toArray, List.getElem_cons_zero, List.getElem_cons_succ, Act.put, List.setIfInBounds_toArray, List.set_cons_zero, List.set_cons_succ]
    refine wpAnyH_take (i := 8) (v := ?_) rfl (by kernel_rfl) (by kernel_rfl) (by kernel_rfl) (fun _ _ _ h => h) (Or.inl ⟨by rfl, ?_⟩) hHeld ?_
    rotate_left
    · intro w hSw
      (try dsimp only at hSw)
      (try simp only [List.getElem_toArray, List.getElem_cons_zero, List.getElem_cons_succ])
      go_simp
      all_goals with_reducible rfl
    try simp only [List.getElem_toArray, List.getElem_cons_zero, List.getElem_cons_succ, Act.put, List.setIfInBounds_toArray, List.set_cons_zero, List.set_cons_succ]
    refine wpAnyH_done (by kernel_rfl) ?_ _
    go_wp2_with fail
    go_ret
    exact ⟨rfl, AB⟩

theorem fld_mid (es : List Ed) (x y p s : Int) (u k : Nat) : rowN es x y p s u k = (List.range u).map (fun (i : Nat) => texN es s (midP x y p i k)) := rfl
theorem fld_next_row (es : List Ed) (x y p s : Int) (u k : Nat) : fldN es x y p s u ((k + 1) * u) = fldN es x y p s u (k * u) ++ rowN es x y p s u k := by
  rw [Nat.add_mul, Nat.one_mul]
  exact fldN_row es x y p s u k

theorem prow10_any (ve : Value) (es : List Ed) (x y p s : Int) (u v k : Nat) (w : World) (hv : ERd w ve es) (hl : es.length ≤ 200000) (hin : ∀ s ∈ es, InD s) (hg : checkG x y p u v s = 0) (hk : k < v) :
    Calls Try.prog 47 #[ve, .agg #[.int .i64 x, .int .i64 y, .int .i64 p, .int .i64 u, .int .i64 v, .int .i64 s], .int .i64 k] w fun e w' => ∃ V, e = .returned V ∧ BRow w' w.heap.size V (rowN es x y p s u k) ∧ Below w.heap.size w w' := by
  obtain ⟨_, _, _, hu, _⟩ := checkG_zero hg
  exact prow_any ve x y p s u v k (fun i => texN es s (midP x y p i k)) w (fun w => ERd w ve es) hv (fun w1 w2 h hb => h.keep hb) (by omega) (fun i w h hi => ptexel_any ve es x y p s u v i k w h hl hin hg hi hk)

theorem pmake10_any (ve : Value) (es : List Ed) (x y p s : Int) (u v : Nat) (w : World) (hv : ERd w ve es) (hl : es.length ≤ 200000) (hin : ∀ s ∈ es, InD s) (hg : checkG x y p u v s = 0) :
    Calls Try.prog 21 #[ve, .agg #[.int .i64 x, .int .i64 y, .int .i64 p, .int .i64 u, .int .i64 v, .int .i64 s]] w fun e w' => ∃ V, e = .returned (.tuple #[.agg #[.int .i64 u, .int .i64 v, V], .int .i64 0]) ∧ BRow w' w.heap.size V (fldN es x y p s u (u * v)) ∧ Below w.heap.size w w' := by
  obtain ⟨_, _, _, hu, hv2⟩ := checkG_zero hg
  have h := pmake_any ve x y p s u v (fun k => fldN es x y p s u (k * u)) (fun k => rowN es x y p s u k) w (fun w => ERd w ve es) hv (fun w1 w2 h hb => h.keep hb) hg (by omega) (by omega)
    (by simp [fldN]) (fun k => fld_next_row es x y p s u k) (fun k => fldN_length _ _ _ _ _ _ _) (fun k => by simp [rowN]) (fun k w h hk => prow10_any ve es x y p s u v k w h hl hin hg hk)
  rw [Nat.mul_comm u v]
  exact h

set_option maxRecDepth 100000 in
set_option maxHeartbeats 1600000 in
theorem pwrong10_any (ve : Value) (x y p u v s : Int) (w : World) (hg : checkG x y p u v s ≠ 0) :
    Calls Try.prog 21 #[ve, .agg #[.int .i64 x, .int .i64 y, .int .i64 p, .int .i64 u, .int .i64 v, .int .i64 s]] w fun e w' => e = .returned (.tuple #[.agg #[.int .i64 0, .int .i64 0, .slice none 0 0], .int .i64 (checkG x y p u v s)]) ∧ Below w.heap.size w w' := by
  have HCK := Lib.hid (fun w => gcheck_any x y p u v s w)
  have HB0 := Lib.hid (alloc2 w (.cells #[.int .i64 x, .int .i64 y, .int .i64 p, .int .i64 u, .int .i64 v, .int .i64 s] 29) (.cells #[.int .i64 0, .int .i64 0, .slice none 0 0] 36))
  have HG0 := Lib.hid ((Blk.new w 29 [.int .i64 x, .int .i64 y, .int .i64 p, .int .i64 u, .int .i64 v, .int .i64 s] rfl).alloc (.cells #[.int .i64 0, .int .i64 0, .slice none 0 0] 36))
  have HR0 := Lib.hid (Blk.new (w.alloc (.cells #[.int .i64 x, .int .i64 y, .int .i64 p, .int .i64 u, .int .i64 v, .int .i64 s] 29)) 36 [.int .i64 0, .int .i64 0, .slice none 0 0] (g := w.heap.size + 1) (by simp))
  generalize checkG x y p u v s = C at *
  have hC : (C == 0) = false := by simpa using hg
  go_enter Try.func21, Try.ntmps21
  go_wp2_with fail
  refine (HCK.out _).mono ?_
  rintro e w1 ⟨rfl, hb⟩
  have HG1 := Lib.hid (HG0.out.keep hb)
  have HR1 := Lib.hid (HR0.out.keep hb)
  have HB1 := Lib.hid (below2 HB0.out hb)
  clear hb HG0 HR0 HB0 HCK
  have r0 := HR1.out.cell 0 rfl
  have r1 := HR1.out.cell 1 rfl
  have r2 := HR1.out.cell 2 rfl
  have rf := HR1.out.frozen
  have rl := HR1.out.lt
  have HF5 := Lib.hid (((HR1.out.set 0 (.int .i64 0)).set 1 (.int .i64 0)).set 2 (.slice none 0 0))
  have HBB := Lib.hid (((HB1.out.setCell (p := ⟨w.heap.size + 1, 0, none⟩) (by simp) (.int .i64 0)).setCell (p := ⟨w.heap.size + 1, 1, none⟩) (by simp) (.int .i64 0)).setCell (p := ⟨w.heap.size + 1, 2, none⟩) (by simp) (.slice none 0 0))
  clear HG1 HR1 HB1
  go_wp2_with fail
  have q0 := HF5.out.cell 0 rfl
  have q1 := HF5.out.cell 1 rfl
  have q2 := HF5.out.cell 2 rfl
  exact bodyPost_ret (v := .tuple #[.agg #[.int .i64 0, .int .i64 0, .slice none 0 0], .int .i64 C]) (by simp [results, Try.results21, go_sem, q0, q1, q2]) rfl ⟨rfl, HBB.out⟩

/-- What the document asks of the program's Texel, Row and Make. -/
theorem sdfOK : SdfOK where
  texel := ptexel_any
  row := prow10_any
  make := pmake10_any
  wrong := fun ve _ x y p u v s w _ hg => pwrong10_any ve x y p u v s w hg

end Go.Proofs.Yteiildeaccngjaa
