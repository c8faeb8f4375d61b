/-
  What the law PathLines does to any world (no claim is made here).
-/
import Derived.Test.YthipookenpmfpaaPth7
import Derived.Test.YthipookenpmfpaaPthO
namespace Go.Proofs.Ythipookenpmfpaa
open Go.RowKit

theorem addZ (g k j : Nat) : (⟨g, k, none⟩ : Addr).add j = ⟨g, k + j, none⟩ := by unfold Addr.add; by_cases h : j = 0 <;> simp [h]
theorem vcells_cons (v : Vtx) (c : List Vtx) : vcells (v :: c) = .int .i64 v.x :: .int .i64 v.y :: .bool v.on :: vcells c := by simp [vcells]
theorem vcells_turn : ∀ (c : List Vtx) (j : Nat) (v : Vtx) (_ : c[j]? = some v) (b : Bool), (vcells c).set (j * 3 + 2) (.bool b) = vcells (c.set j ⟨v.x, v.y, b⟩)
  | [], _, _, h, _ => by cases h
  | u :: c, 0, v, h, b => by cases h; simp [vcells_cons]
  | u :: c, j + 1, v, h, b => by
    have ih := vcells_turn c j v h b
    rw [vcells_cons, show (j + 1) * 3 + 2 = j * 3 + 2 + 1 + 1 + 1 by omega, List.set_cons_succ, List.set_cons_succ, List.set_cons_succ, ih, List.set_cons_succ, vcells_cons]

theorem vcells_at3 {c : List Vtx} {j : Nat} {v : Vtx} (h : c[j]? = some v) : (vcells c)[j * 3]? = some (.int .i64 v.x) ∧ (vcells c)[j * 3 + 1]? = some (.int .i64 v.y) ∧ (vcells c)[j * 3 + 2]? = some (.bool v.on) := by
  obtain ⟨hj, rfl⟩ := List.getElem?_eq_some_iff.1 h
  exact vcells_at c j hj

/-- A contour whose first points are set onto the line. -/
def setOn (v : Vtx) : Vtx := ⟨v.x, v.y, true⟩
def onTo (c : List Vtx) (j : Nat) : List Vtx := (c.take j).map setOn ++ c.drop j
theorem onTo_len (c : List Vtx) (j : Nat) : (onTo c j).length = c.length := by
  unfold onTo
  rw [List.length_append, List.length_map, List.length_take, List.length_drop]
  omega
theorem onTo_at {c : List Vtx} {j : Nat} {v : Vtx} (h : c[j]? = some v) : (onTo c j)[j]? = some v := by
  have hj := (List.getElem?_eq_some_iff.1 h).1
  unfold onTo
  rw [List.getElem?_append_right (by rw [List.length_map, List.length_take]; omega), List.length_map, List.length_take, List.getElem?_drop]
  rw [show j + (j - min j c.length) = j by omega]
  exact h
theorem onTo_step {c : List Vtx} {j : Nat} {v : Vtx} (h : c[j]? = some v) : (onTo c j).set j ⟨v.x, v.y, true⟩ = onTo c (j + 1) := by
  have hj := (List.getElem?_eq_some_iff.1 h).1
  have hl : ((c.take j).map setOn).length = j := by rw [List.length_map, List.length_take]; omega
  unfold onTo
  rw [drop_push c j v h, List.set_append_right _ _ (by omega), hl, Nat.sub_self, List.set_cons_zero, take_push c j v h, List.map_append, List.append_assoc]
  rfl
theorem onTo_all (c : List Vtx) : onTo c c.length = c.map setOn := by
  unfold onTo
  rw [List.take_length, List.drop_length, List.append_nil]

/-- Lines from point to point. -/
theorem walk_lines (s : Pt) : ∀ (vs : List Vtx) (a : Pt), (∀ v ∈ vs, v.on = true) → (walkS s a none vs).length = vs.length + 1 ∧ (∃ e, (walkS s a none vs)[0]? = some ⟨a, a, e, false⟩) ∧ ∀ (k : Nat) (v : Vtx), vs[k]? = some v → ∃ e, (walkS s a none vs)[k + 1]? = some ⟨ptV v, ptV v, e, false⟩
  | [], a, _ => ⟨rfl, ⟨s, rfl⟩, fun k v h => by cases h⟩
  | u :: vs, a, h => by
    obtain ⟨h1, ⟨e, h2⟩, h3⟩ := walk_lines s vs (ptV u) (fun v hv => h v (List.mem_cons_of_mem _ hv))
    rw [walk_on _ _ _ _ _ (h u (List.mem_cons_self ..))]
    refine ⟨by rw [List.length_cons, h1, List.length_cons], ⟨ptV u, rfl⟩, fun k v hk => ?_⟩
    match k with
    | 0 => cases hk; exact ⟨e, h2⟩
    | k + 1 => exact h3 k v hk
theorem segs_lines (c : List Vtx) (h : ∀ v ∈ c, v.on = true) : (segsS c).length = c.length ∧ ∀ (k : Nat) (v : Vtx), c[k]? = some v → ∃ e, (segsS c)[k]? = some ⟨ptV v, ptV v, e, false⟩ := by
  cases c with
  | nil => exact ⟨rfl, fun k v h => by cases h⟩
  | cons u vs =>
    have hu := h u (List.mem_cons_self ..)
    have hf : firstOn (u :: vs) = some 0 := by rw [firstOn, if_pos hu]
    have hs : segsS (u :: vs) = walkS (ptV u) (ptV u) none vs := by
      unfold segsS startS othersS
      rw [if_neg (by simp), hf]
      simp [vtxAt]
    obtain ⟨h1, h2, h3⟩ := walk_lines (ptV u) vs (ptV u) (fun v hv => h v (List.mem_cons_of_mem _ hv))
    rw [hs]
    refine ⟨by rw [h1, List.length_cons], fun k v hk => ?_⟩
    match k with
    | 0 => cases hk; exact h2
    | k + 1 => exact h3 k v hk
theorem setOn_on (c : List Vtx) : ∀ v ∈ c.map setOn, v.on = true := by
  intro v hv
  obtain ⟨u, _, rfl⟩ := List.mem_map.1 hv
  rfl
theorem setOn_small {c : List Vtx} (h : ∀ v ∈ c, smallV v) : ∀ v ∈ c.map setOn, smallV v := by
  intro v hv
  obtain ⟨u, hu, rfl⟩ := List.mem_map.1 hv
  exact h u hu

/-- The contours from a place on, that are still as they were. -/
def Rest (w : World) (base : Nat) (v : Value) (n : Nat) (o : List (List Vtx)) (vs : List Value) (r : Nat) : Prop :=
  w.ownsRow base 28 1 v n vs ∧ ∀ (i : Nat) (c : List Vtx), r ≤ i → o[i]? = some c → ∃ u, vs[i]? = some u ∧ VRow w base u c
theorem Rest.blocks {w w' : World} {base : Nat} {v : Value} {n : Nat} {o : List (List Vtx)} {vs : List Value} {r r' : Nat} (h : Rest w base v n o vs r) (hr : r ≤ r') (h1 : ∀ g, v.ownBlock = some g → w'.heap[g]? = w.heap[g]?) (h2 : ∀ (i : Nat) (u : Value) (g : Nat), r' ≤ i → vs[i]? = some u → u.ownBlock = some g → w'.heap[g]? = w.heap[g]?) : Rest w' base v n o vs r' := by
  refine ⟨own_blocks h.1 h1, fun i c hi hc => ?_⟩
  obtain ⟨u, e, hu⟩ := h.2 i c (by omega) hc
  exact ⟨u, e, own_blocks hu (fun g hg => h2 i u g hi e hg)⟩
theorem Rest.below {w w' : World} {base : Nat} {v : Value} {n : Nat} {o : List (List Vtx)} {vs : List Value} {r : Nat} (h : Rest w base v n o vs r) (hb : Below w.heap.size w w') : Rest w' base v n o vs r := by
  refine ⟨own_blocks h.1 fun g hg => hb.block g (h.1.lt g hg).2, fun i c hi hc => ?_⟩
  obtain ⟨u, e, hu⟩ := h.2 i c hi hc
  exact ⟨u, e, VRow.below hu hb⟩
/-- One cell of the contour at a place is written: the contours behind it, and their row, stay. -/
theorem Rest.set {w : World} {base : Nat} {v : Value} {n : Nat} {o : List (List Vtx)} {vs : List Value} {r : Nat} (h : Rest w base v n o vs (r + 1)) (hp : vs.Pairwise (fun a b => a.ownBlock ≠ b.ownBlock)) (hne : ∀ (i : Nat) (u : Value), vs[i]? = some u → u.ownBlock ≠ v.ownBlock) {u : Value} (hu : vs[r]? = some u) {p : Nat} (hup : u.ownBlock = some p) (j : Nat) (x : Value) : Rest (w.setCell ⟨p, j, none⟩ x) base v n o vs (r + 1) := by
  refine h.blocks (Nat.le_refl _) (fun g hg => heap_set _ _ _ _ (fun e => ?_)) (fun i u' g hi hu' hg => heap_set _ _ _ _ (fun e => ?_))
  · have e' : g = p := e
    subst e'
    exact hne r u hu (hup.trans hg.symm)
  · have e' : g = p := e
    subst e'
    obtain ⟨hr', rfl⟩ := List.getElem?_eq_some_iff.1 hu
    obtain ⟨hi', rfl⟩ := List.getElem?_eq_some_iff.1 hu'
    exact List.pairwise_iff_getElem.1 hp r i hr' hi' (by omega) (hup.trans hg.symm)
theorem OutlV.rest {w : World} {base : Nat} {v : Value} {o : List (List Vtx)} {vs : List Value} (h : OutlV w base v o vs) : Rest w base v o.length o vs 0 ∧ vs.Pairwise (fun a b => a.ownBlock ≠ b.ownBlock) ∧ (∀ (i : Nat) (u : Value), vs[i]? = some u → u.ownBlock ≠ v.ownBlock) ∧ (∀ c ∈ o, c ≠ []) := by
  obtain ⟨e, h1, h2, h3⟩ := h
  refine ⟨⟨h1, fun i c _ hc => ?_⟩, h3, fun i u hu => ?_, fun c hc => ?_⟩
  · obtain ⟨hi, rfl⟩ := List.getElem?_eq_some_iff.1 hc
    exact ⟨vs[i], List.getElem?_eq_getElem (by omega), (h2 i hi (by omega)).1⟩
  · obtain ⟨hi, rfl⟩ := List.getElem?_eq_some_iff.1 hu
    exact (h2 i (by omega) hi).2.2
  · obtain ⟨i, hi, rfl⟩ := List.getElem_of_mem hc
    exact (h2 i hi (by omega)).2.1

set_option maxRecDepth 100000 in
set_option maxHeartbeats 3200000 in
theorem pathLines_walk (A : Option Addr) (n cap : Nat) (cs : List (List Dot)) (w : World) (hcs : DotRows w A n cap cs) :
    Calls Try.prog 5 #[.slice A n cap] w fun e w' => e = .returned (.bool true) ∧ Below w.heap.size w w' := by
  have HD := Lib.hid hcs
  have HSM := Lib.hid (outline_small cs)
  obtain ⟨o, ho⟩ : ∃ o, outlineS cs = o := ⟨_, rfl⟩
  rw [ho] at HSM
  have HO := Lib.hid ho
  clear hcs ho
  go_enter Try.func5, Try.ntmps5
  go_wp2_with fail
  refine (awake5 _).mono ?_
  rintro e w1 ⟨rfl, hb1⟩
  have HC := Lib.hid (outline_any A n cap cs w1 (HD.out.keep hb1))
  have HB1 := Lib.hid hb1
  clear hb1
  go_wp2_with fail
  refine HC.out.mono ?_
  rintro e w2 ⟨v, rfl, hol, hb2⟩
  rw [HO.out] at hol
  obtain ⟨Ao, capo, rfl⟩ := hol.form
  obtain ⟨N, hN⟩ : ∃ N, o.length = N := ⟨_, rfl⟩
  obtain ⟨vs, hOV⟩ := hol
  obtain ⟨hrest, hpair, hne, hnil⟩ := OutlV.rest hOV
  rw [hN] at hrest hne
  rw [hN]
  have hN8 : N ≤ 8 := by rw [← hN]; exact HSM.out.1
  have HN := Lib.hid hN
  have HREST := Lib.hid hrest
  have HPAIR := Lib.hid hpair
  have HNE := Lib.hid hne
  have HNIL := Lib.hid hnil
  have HB2 := Lib.hid hb2
  have hfld := fun w => run_contours (.slice Ao N capo) rfl w
  clear hb2 HC hN hOV hrest hpair hne hnil
  go_wp2_with fail
  go_loopw [15] (fun i wr => ∃ r : Nat, r ≤ N ∧ i = .int .i64 r ∧ Hid (Rest wr w1.heap.size (.slice Ao N capo) N o vs r) ∧ Hid (Below w1.heap.size w1 wr)) (fun i _ => N - (intOf i).toNat)
  case atStart => exact ⟨0, Nat.zero_le _, rfl, HREST, HB2⟩
  case round =>
    obtain ⟨r, hr, rfl, HR, HW⟩ := hrel
    clear HREST HB2 hfld
    by_cases hrn : r < N
    · have hrb : decide ((r : Int) < N) = true := by simp; omega
      obtain ⟨c, hc⟩ : ∃ c, o[r]? = some c := ⟨_, List.getElem?_eq_getElem (by rw [HN.out]; exact hrn)⟩
      obtain ⟨u, hu, hvr⟩ := HR.out.2 r c (Nat.le_refl _) hc
      have hcm := List.mem_of_getElem? hc
      obtain ⟨hc1, hc2⟩ := HSM.out.2 c hcm
      obtain ⟨L, hL⟩ : ∃ L, c.length = L := ⟨_, rfl⟩
      have hL0 : 0 < L := by rw [← hL]; exact List.length_pos_iff.2 (HNIL.out c hcm)
      obtain ⟨p, capp, eu, hp1, hp2⟩ := World.ownsRow.form hvr (by omega)
      obtain ⟨gv, capv, ev, hgv1, hgv2⟩ := World.ownsRow.form HR.out.1 (by omega)
      simp only [Value.slice.injEq] at ev
      obtain ⟨rfl, -, rfl⟩ := ev
      have hcell : wr.cell? ((⟨gv, 0, none⟩ : Addr).add r) = some u := by rw [addZ, Nat.zero_add, HR.out.1.cellAt r (by omega)]; exact hu
      rw [addZ, Nat.zero_add] at hcell
      rw [hL] at eu hc1
      subst eu
      have hcap : L ≤ capp := by
        rcases hvr.2 with ⟨h, _⟩ | ⟨g, cap2, cur, h, _, _, hl2, _⟩
        · cases h
        · simp only [Value.slice.injEq] at h
          rw [hL] at hl2
          omega
      have HU := Lib.hid hu
      have HL := Lib.hid hL
      have HC2 := Lib.hid hc2
      have HROW : Hid (VRow wr w1.heap.size (.slice (some ⟨p, 0, none⟩) L capp) (onTo c 0)) := Lib.hid hvr
      have HR1 : Hid (Rest wr w1.heap.size (.slice (some ⟨gv, 0, none⟩) N capo) N o vs (r + 1)) := Lib.hid (HR.out.blocks (Nat.le_succ _) (fun _ _ => rfl) (fun _ _ _ _ _ _ => rfl))
      clear hc hu hvr hcm hc2 hL
      go_wp2_with fail
      clear hcell
      go_loopw [21] (fun i wr => ∃ j : Nat, j ≤ L ∧ i = .int .i64 j ∧ Hid (VRow wr w1.heap.size (.slice (some ⟨p, 0, none⟩) L capp) (onTo c j)) ∧ Hid (Rest wr w1.heap.size (.slice (some ⟨gv, 0, none⟩) N capo) N o vs (r + 1)) ∧ Hid (Below w1.heap.size w1 wr)) (fun i _ => L - (intOf i).toNat)
      case atStart => exact ⟨0, Nat.zero_le _, rfl, HROW, HR1, HW⟩
      case round =>
        obtain ⟨j, hj, rfl, HVJ, HRJ, HWJ⟩ := hrel
        clear HROW HR1 HW HR
        by_cases hjL : j < L
        · have hjb : decide ((j : Int) < L) = true := by simp; omega
          obtain ⟨d, hd⟩ : ∃ d, c[j]? = some d := ⟨_, List.getElem?_eq_getElem (by rw [HL.out]; exact hjL)⟩
          have hon := VRow.own HVJ.out ((onTo_len c j).trans HL.out)
          obtain ⟨q0, q1, q2⟩ := vcells_at3 (onTo_at hd)
          have c2 : wr.cell? ⟨p, j * 3 + 2, none⟩ = some (.bool d.on) := by rw [hon.cellAt (j * 3 + 2) (by omega)]; exact q2
          have f2 := hon.frozenAt (j * 3 + 2)
          have z2 := (hon.lt p rfl).2
          have hst := (hon.stored (j * 3 + 2) (.bool true)).1
          rw [vcells_turn _ _ _ (onTo_at hd), onTo_step hd] at hst
          have HV' : Hid (VRow (wr.setCell ⟨p, j * 3 + 2, none⟩ (.bool true)) w1.heap.size (.slice (some ⟨p, 0, none⟩) L capp) (onTo c (j + 1))) := Lib.hid (by unfold VRow; rw [onTo_len, HL.out]; exact hst)
          have HR' := Lib.hid (HRJ.out.set HPAIR.out HNE.out HU.out (p := p) rfl (j * 3 + 2) (.bool true))
          have HW' := Lib.hid (HWJ.out.setCell (p := ⟨p, j * 3 + 2, none⟩) hp1 (.bool true))
          clear hd hon q0 q1 q2 hst HVJ HRJ HWJ
          go_wp2_with fail
          exact ⟨⟨j + 1, by omega, by go_num, HV', HR', HW'⟩, by simp [intOf]; omega⟩
        · obtain rfl : j = L := by omega
          have hall : onTo c j = c.map setOn := by rw [← HL.out]; exact onTo_all c
          have hvj := HVJ.out
          rw [hall] at hvj
          have HV := Lib.hid hvj
          have HS := Lib.hid (segs_any _ (c.map setOn) wr (VRow.read hvj) (by rw [List.length_map, HL.out]; exact hc1) (setOn_small HC2.out))
          obtain ⟨hs1, hs2⟩ := segs_lines (c.map setOn) (setOn_on c)
          rw [List.length_map, HL.out] at hs1
          have HS1 := Lib.hid hs1
          have HS2 := Lib.hid hs2
          clear hall hvj HVJ hs1 hs2 hjL
          go_wp2_with fail
          refine HS.out.mono ?_
          rintro e w3 ⟨u3, rfl, hu3, hb3⟩
          obtain ⟨A3, cap3, e3⟩ := SRow.form hu3
          rw [HS1.out] at e3
          subst e3
          have HSR := Lib.hid hu3.read
          have HVR := Lib.hid ((VRow.read HV.out).keep hb3)
          have HR3 := Lib.hid (HRJ.out.below hb3)
          have HW3 := Lib.hid (HWJ.out.trans (hb3.mono HWJ.out.size))
          clear hu3 hb3 HS HV HRJ HWJ
          go_wp2_with fail
          go_loopw [38] (fun i wr => ∃ k : Nat, k ≤ j ∧ i = .int .i64 k ∧ Hid (Below w3.heap.size w3 wr)) (fun i _ => j - (intOf i).toNat)
          case atStart => exact ⟨0, Nat.zero_le _, rfl, Lib.hid (Below.refl _ _)⟩
          case round =>
            obtain ⟨k, hk, rfl, HK⟩ := hrel
            by_cases hkj : k < j
            · have hkb : decide ((k : Int) < j) = true := by simp; omega
              have hkI : (k : Int) < j := by omega
              have hk0 : (0 : Int) ≤ k := by omega
              obtain ⟨d, hd⟩ : ∃ d, (c.map setOn)[k]? = some d := ⟨_, List.getElem?_eq_getElem (by rw [List.length_map, HL.out]; exact hkj)⟩
              obtain ⟨e, he⟩ := HS2.out k d hd
              have hds : smallV d := setOn_small HC2.out d (List.mem_of_getElem? hd)
              obtain ⟨a3, rfl, ha3, x0, x1, x2, x3, x4, x5, x6⟩ := (HSR.out.keep HK.out).at k _ he
              simp only [ptV] at x0 x1 x2 x3 x4 x5 x6
              have hal : Below w3.heap.size w3 (wr.alloc (.cells #[.int .i64 (2 * d.x), .int .i64 (2 * d.y), .int .i64 (2 * d.x), .int .i64 (2 * d.y), .int .i64 e.x, .int .i64 e.y, .bool false] 40)) := HK.out.alloc HK.out.size _
              obtain ⟨a4, e4, -, y0, y1, y2⟩ := (HVR.out.keep hal).at k d hd
              cases e4
              simp only [addZ, Nat.zero_add] at y0 y1 y2
              obtain ⟨⟨d1, d2⟩, d3, d4⟩ := hds
              rw [← two] at x0 x1 x2 x3
              obtain ⟨dx, dy, don⟩ := d
              obtain ⟨ex, ey⟩ := e
              simp only [] at x0 x1 x2 x3 x4 x5 x6 y0 y1 y2 d1 d2 d3 d4 hal
              have HAL := Lib.hid hal
              have wx1 : IntKind.i64.wrap (2 * dx) = 2 * dx := IntWalk.i64_in _ (by omega)
              have wy1 : IntKind.i64.wrap (2 * dy) = 2 * dy := IntWalk.i64_in _ (by omega)
              clear hd he hal
              go_wp2_with fail
              go_quiet (fail)
              have HN' := Lib.hid (belowDN HAL.out nq)
              go_wp2_with fail
              exact ⟨⟨k + 1, by omega, by go_num, HN'⟩, by simp [intOf]; omega⟩
            · obtain rfl : k = j := by omega
              have HRF := Lib.hid (HR3.out.below HK.out)
              have HWF := Lib.hid (HW3.out.trans (HK.out.mono HW3.out.size))
              go_wp2_with fail
              exact ⟨⟨r + 1, by omega, by go_num, HRF, HWF⟩, by simp [intOf]; omega⟩
    · obtain rfl : r = N := by omega
      have HF := Lib.hid (HB1.out.trans (HW.out.mono HB1.out.size))
      go_wp2
      go_ret
      exact ⟨rfl, HF.out⟩

end Go.Proofs.Ythipookenpmfpaa
