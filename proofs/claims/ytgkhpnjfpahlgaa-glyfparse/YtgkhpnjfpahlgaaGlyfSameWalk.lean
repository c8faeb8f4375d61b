/-
  What the law GlyfSame does to any world (no claim is made here).
-/
import Derived.Test.YtgkhpnjfpahlgaaOstore
import Derived.Deep.RegionHeld3
namespace Go.Proofs.Ytgkhpnjfpahlgaa
open Go.RowKit

theorem small_lens {o : List (List Vtx)} (h : checkS o = 0) : o.length ≤ 1000 ∧ ∀ c ∈ o, c.length ≤ 1000 := by
  obtain ⟨h1, h2, _, _⟩ := checkS_zero h
  exact ⟨by omega, fun c hc => by have := le_flatten o c hc; omega⟩

theorem flip_ne {o : List (List Vtx)} {i j : Nat} {row : List Vtx} {v u : Vtx} (hi : o[i]? = some row) (hj : row[j]? = some v) (hu : u.on ≠ v.on) : o ≠ o.set i (row.set j u) := by
  obtain ⟨hi1, hi2⟩ := List.getElem?_eq_some_iff.1 hi
  obtain ⟨hj1, hj2⟩ := List.getElem?_eq_some_iff.1 hj
  intro e
  have h1 : row = row.set j u := by
    have := congrArg (fun l => l[i]?) e
    simp only [hi, List.getElem?_set_self hi1] at this
    injection this
  have h2 : v = u := by
    have := congrArg (fun l => l[j]?) h1
    simp only [hj, List.getElem?_set_self hj1] at this
    injection this
  exact hu (by rw [h2])
theorem vcells_flip {c : List Vtx} {j : Nat} {v : Vtx} (h : c[j]? = some v) (b : Bool) : (vcells c).set (j * 3 + 2) (.bool b) = vcells (c.set j ⟨v.x, v.y, b⟩) := by
  obtain ⟨hj, rfl⟩ := List.getElem?_eq_some_iff.1 h
  exact vcells_on c j hj b
theorem vcells_three {c : List Vtx} {j : Nat} {v : Vtx} (h : c[j]? = some v) : (vcells c)[j * 3]? = some (.int .i64 v.x) ∧ (vcells c)[j * 3 + 1]? = some (.int .i64 v.y) ∧ (vcells c)[j * 3 + 2]? = some (.bool v.on) := by
  obtain ⟨hj, rfl⟩ := List.getElem?_eq_some_iff.1 h
  exact vcells_at c j hj

set_option maxRecDepth 100000 in
set_option maxHeartbeats 3200000 in
theorem glyfSame_walk (A : Option Addr) (n cap : Nat) (cs : List (List Dot)) (B : Option Addr) (nb capb : Nat) (ds : List (List Dot)) (k' : Int) (w : World) (hcs : DotRows w A n cap cs) (hds : DotRows w B nb capb ds) (hk : 0 ≤ k' ∧ k' ≤ 255) :
    Calls Try.prog 8 #[.slice A n cap, .slice B nb capb, .int .u8 k'] w fun e w' => e = .returned (.bool true) ∧ Below w.heap.size w w' := by
  have HD := Lib.hid hcs
  have HD2 := Lib.hid hds
  have HCK := Lib.hid (outlineS_check cs)
  have HCK2 := Lib.hid (outlineS_check ds)
  obtain ⟨oa, hoa⟩ : ∃ o, outlineS cs = o := ⟨_, rfl⟩
  obtain ⟨ob, hob⟩ : ∃ o, outlineS ds = o := ⟨_, rfl⟩
  rw [hoa] at HCK
  rw [hob] at HCK2
  have HOA := Lib.hid hoa
  have HOB := Lib.hid hob
  obtain ⟨k, rfl⟩ : ∃ k : Nat, k' = k := ⟨k'.toNat, by omega⟩
  have hk255 : k ≤ 255 := by omega
  have hkw : IntKind.i64.wrap (k : Int) = k := by rw [IntKind.wrap_i64]; omega
  clear hcs hds hoa hob hk
  go_enter Try.func8, Try.ntmps8
  go_wp2_with fail
  refine (awake_any _).mono ?_
  rintro e w1 ⟨rfl, hb1⟩
  have HC := Lib.hid (outline_any A n cap cs w1 (HD.out.keep hb1))
  have HB1 := Lib.hid hb1
  clear hb1
  go_wp2_with fail
  refine HC.out.mono ?_
  rintro e w2 ⟨va, rfl, hol, hb2⟩
  rw [HOA.out] at hol
  have HB2 := Lib.hid (HB1.out.trans (hb2.mono HB1.out.size))
  have HC2 := Lib.hid (outline_any B nb capb ds w2 (HD2.out.keep HB2.out))
  have HOL := Lib.hid hol
  obtain ⟨na, hna⟩ : ∃ na, oa.length = na := ⟨_, rfl⟩
  obtain ⟨Aa, capa, rfl⟩ := hol.form
  rw [hna] at HOL
  rw [hna]
  have HNA := Lib.hid hna
  clear hol hb2 HC HB1 hna
  go_wp2_with fail
  refine HC2.out.mono ?_
  rintro e w3 ⟨vb, rfl, hol2, hb3⟩
  rw [HOB.out] at hol2
  have HB3 := Lib.hid (HB2.out.trans (hb3.mono HB2.out.size))
  obtain ⟨nbb, hnbb⟩ : ∃ na, ob.length = na := ⟨_, rfl⟩
  obtain ⟨Ab, capbb, rfl⟩ := hol2.form
  rw [hnbb] at hol2
  rw [hnbb]
  have hBW : Below w3.heap.size w3 ((w3.alloc (.cells #[.slice Aa na capa] 29)).alloc (.cells #[.slice Ab nbb capbb] 29)) := ((Below.refl _ w3).alloc (Nat.le_refl _) _).alloc (by simp) _
  have OA : One ((w3.alloc (.cells #[.slice Aa na capa] 29)).alloc (.cells #[.slice Ab nbb capbb] 29)) w3.heap.size (.slice Aa na capa) := (One.new _ _ rfl).alloc _
  have OB : One ((w3.alloc (.cells #[.slice Aa na capa] 29)).alloc (.cells #[.slice Ab nbb capbb] 29)) (w3.heap.size + 1) (.slice Ab nbb capbb) := One.new _ _ (by simp)
  have RA : ORd ((w3.alloc (.cells #[.slice Aa na capa] 29)).alloc (.cells #[.slice Ab nbb capbb] 29)) (.slice Aa na capa) oa := (HOL.out.read.keep hb3).keep hBW
  have RB : ORd ((w3.alloc (.cells #[.slice Aa na capa] 29)).alloc (.cells #[.slice Ab nbb capbb] 29)) (.slice Ab nbb capbb) ob := hol2.read.keep hBW
  have HBW := Lib.hid (HB3.out.trans (hBW.mono HB3.out.size))
  have HOLW := Lib.hid (((HOL.out.below hb3).below hBW))
  clear hb3 hol2 HB2 HB3 HC2 hnbb HOL hBW
  go_wp2_with fail
  generalize (w3.alloc (.cells #[.slice Aa na capa] 29)).alloc (.cells #[.slice Ab nbb capbb] 29) = W at *
  obtain ⟨ga, hga⟩ : ∃ ga, w3.heap.size = ga := ⟨_, rfl⟩
  rw [hga] at OA OB
  rw [hga]
  have HOAW := Lib.hid OA
  have HOBW := Lib.hid OB
  obtain ⟨ca, fa⟩ := OA
  obtain ⟨cb, fb⟩ := OB
  have za := HOAW.out.lt
  have zb := HOBW.out.lt
  obtain ⟨bv, hbv⟩ : ∃ bv : Bool, bv = true ↔ oa = ob := ⟨@decide (oa = ob) (Classical.propDecidable _), by simp⟩
  have HPS : Hid (∀ wx, Below W.heap.size W wx → Calls Try.prog 19 #[.agg #[.slice Aa na capa], .agg #[.slice Ab nbb capbb]] wx fun e w' => e = .returned (.bool bv) ∧ Below wx.heap.size wx w') := Lib.hid (fun wx hb => psame_any _ _ oa ob bv hbv wx (RA.keep hb) (RB.keep hb) (small_lens HCK.out).1 (small_lens HCK.out).2)
  have HSM : Hid (∀ wx, Below W.heap.size W wx → Calls Try.prog 18 #[.agg #[.slice Aa na capa], .agg #[.slice Ab nbb capbb]] wx fun e w' => e = .returned (.bool bv) ∧ Below wx.heap.size wx w') := Lib.hid (fun wx hb => same_any _ _ oa ob bv hbv wx (RA.keep hb) (RB.keep hb) (small_lens HCK.out).1 (small_lens HCK.out).2)
  have HOT : Hid (∀ wx, Below W.heap.size W wx → Calls Try.prog 11 #[.slice A n cap] wx fun e w' => ∃ C capc, e = .returned (.agg #[.slice C na capc]) ∧ Outl w' wx.heap.size (.slice C na capc) oa ∧ Below wx.heap.size wx w') := Lib.hid (fun wx hb => (outline_any A n cap cs wx (HD.out.keep (HBW.out.trans (hb.mono HBW.out.size)))).mono (by
    rintro e w' ⟨v, rfl, ho, hb'⟩
    rw [HOA.out] at ho
    obtain ⟨C, capc, rfl⟩ := ho.form
    rw [HNA.out] at ho ⊢
    exact ⟨C, capc, rfl, ho, hb'⟩))
  have HPT : Hid (∀ wx C capc, Below W.heap.size W wx → ORd wx (.slice C na capc) oa → Calls Try.prog 19 #[.agg #[.slice Aa na capa], .agg #[.slice C na capc]] wx fun e w' => e = .returned (.bool true) ∧ Below wx.heap.size wx w') := Lib.hid (fun wx C capc hb ho => psame_any _ _ oa oa true (by simp) wx (RA.keep hb) ho (small_lens HCK.out).1 (small_lens HCK.out).2)
  have HRA := Lib.hid RA
  clear RA RB hbv hga
  cases bv
  all_goals
    go_region_held3 (fun wx => wx.cell? ⟨ga, 0, none⟩ = some (.slice Aa na capa) ∧ wx.cell? ⟨ga + 1, 0, none⟩ = some (.slice Ab nbb capbb) ∧ Below W.heap.size W wx)
      (first | assumption | exact ⟨ca, cb, Below.drew (Below.refl _ _)⟩)
      (first
        | (go_at_call 19; with_reducible refine (HPS.out _ (Below.drew (Below.refl _ _))).mono ?_; rintro e w5 ⟨rfl, hb5⟩; replace hb5 := undrew hb5; have hS5 : w5.cell? ⟨ga, 0, none⟩ = some (.slice Aa na capa) ∧ w5.cell? ⟨ga + 1, 0, none⟩ = some (.slice Ab nbb capbb) ∧ Below W.heap.size W w5 := ⟨keepc hb5 ca, keepc hb5 cb, hb5⟩)
        | (go_at_call 18; with_reducible refine (HSM.out _ hb5).mono ?_; rintro e w6 ⟨rfl, hb6⟩; have A6 : Below W.heap.size W w6 := hb5.trans (hb6.mono hb5.size); have hS6 : w6.cell? ⟨ga, 0, none⟩ = some (.slice Aa na capa) ∧ w6.cell? ⟨ga + 1, 0, none⟩ = some (.slice Ab nbb capbb) ∧ Below W.heap.size W w6 := ⟨keepc A6 ca, keepc A6 cb, A6⟩)
        | (go_at_call 11; with_reducible refine (HOT.out _ A6).mono ?_; rintro e w7 ⟨C7, cap7, rfl, hol7, hb7⟩; have A7 : Below W.heap.size W w7 := A6.trans (hb7.mono A6.size); have hS7 : w7.cell? ⟨ga, 0, none⟩ = some (.slice Aa na capa) ∧ w7.cell? ⟨ga + 1, 0, none⟩ = some (.slice Ab nbb capbb) ∧ Below W.heap.size W w7 := ⟨keepc A7 ca, keepc A7 cb, A7⟩)
        | (go_at_call 19; with_reducible refine (HPT.out _ _ _ A7 hol7.read).mono ?_; rintro e w8 ⟨rfl, hb8⟩; have A8 : Below W.heap.size W w8 := A7.trans (hb8.mono A7.size); have hS8 : w8.cell? ⟨ga, 0, none⟩ = some (.slice Aa na capa) ∧ w8.cell? ⟨ga + 1, 0, none⟩ = some (.slice Ab nbb capbb) ∧ Below W.heap.size W w8 := ⟨keepc A8 ca, keepc A8 cb, A8⟩))
  all_goals
    have HA8 := Lib.hid A8
    have O8 := HOAW.out.keep A8
    have HO8 := Lib.hid O8
    obtain ⟨oc8, of8⟩ := O8
    have oz8 := HO8.out.lt
    have HR8 := Lib.hid (HRA.out.keep A8)
    have HBF := Lib.hid (HBW.out.trans (A8.mono HBW.out.size))
    clear hS5 hS6 hS7 hS8 hb5 hb6 hb7 hb8 A6 A7 hol7 ca fa cb fb za zb HPS HSM HPT HOLW HRA A8
    by_cases hna0 : na = 0
    · subst hna0
      have hoa0 : oa = [] := List.eq_nil_of_length_eq_zero HNA.out
      have HS := Lib.hid (psame_any (.slice Aa 0 capa) (.slice none 0 0) oa [] true (by simp [hoa0]) w8 HR8.out (ORd.nil _) (small_lens HCK.out).1 (small_lens HCK.out).2)
      clear hoa0
      go_wp2_with fail
      refine HS.out.mono ?_
      rintro e w9 ⟨rfl, hb9⟩
      go_wp2
      go_ret
      exact ⟨rfl, HBF.out.trans (hb9.mono HBF.out.size)⟩
    · have hna0' : ((na : Int) == 0) = false := by simp; omega
      have HOT8 := Lib.hid (HOT.out w8 HA8.out)
      go_wp2_with fail
      refine HOT8.out.mono ?_
      rintro e w9 ⟨C9, cap9, rfl, hol9, hb9⟩
      have hal : Below w9.heap.size w9 (w9.alloc (.cells #[.slice C9 na cap9] 29)) := (Below.refl _ w9).alloc (Nat.le_refl _) _
      have hol10 := hol9.below hal
      obtain ⟨i, hi⟩ : ∃ i : Nat, k % na = i := ⟨_, rfl⟩
      have hin : i < na := by rw [← hi]; exact Nat.mod_lt _ (by omega)
      have hiI : (k : Int).tmod (na : Int) = i := by rw [← hi]; exact (Int.ofNat_tmod k na).symm
      have hnz : ¬ (na : Int) = 0 := by omega
      obtain ⟨gv, capv, p, capp, hv, hcv, hgv, hcell, hcp, hp1, hp2, hpos, hVR, hst⟩ := hol10.row i (by rw [HNA.out]; exact hin)
      simp only [Value.slice.injEq] at hv
      obtain ⟨rfl, -, rfl⟩ := hv
      have hp9 : p < w9.heap.size := by
        obtain ⟨gv', capv', p', capp', hv', _, _, hcell', _, _, hp2', _⟩ := hol9.row i (by rw [HNA.out]; exact hin)
        simp only [Value.slice.injEq, Option.some.injEq, Addr.mk.injEq, and_true] at hv'
        obtain ⟨rfl, -⟩ := hv'
        have h1 := keepc hal hcell'
        rw [hcell] at h1
        simp only [Option.some.injEq, Value.slice.injEq, Addr.mk.injEq, true_and, and_true] at h1
        omega
      have hz9 : w8.heap.size ≤ w9.heap.size := hb9.size
      obtain ⟨row, hrow⟩ : ∃ row, oa[i]'(by rw [HNA.out]; exact hin) = row := ⟨_, rfl⟩
      rw [hrow] at hcell hcp hpos hVR
      obtain ⟨M, hM⟩ : ∃ M, row.length = M := ⟨_, rfl⟩
      rw [hM] at hcell hcp hpos hVR
      obtain ⟨j, hj⟩ : ∃ j : Nat, k % M = j := ⟨_, rfl⟩
      have hjM : j < M := by rw [← hj]; exact Nat.mod_lt _ hpos
      have hjI : (k : Int).tmod (M : Int) = j := by rw [← hj]; exact (Int.ofNat_tmod k M).symm
      have hMz : ¬ (M : Int) = 0 := by omega
      obtain ⟨vx, hvx⟩ : ∃ vx, row[j]? = some vx := ⟨_, List.getElem?_eq_getElem (by rw [hM]; exact hjM)⟩
      obtain ⟨-, -, hon⟩ := vcells_three hvx
      obtain ⟨px, py, on⟩ := vx
      simp only [] at hon
      have hown : (w9.alloc (.cells #[.slice (some ⟨gv, 0, none⟩) na cap9] 29)).ownsRow w8.heap.size 25 3 (.slice (some ⟨p, 0, none⟩) M capp) M (vcells row) := hVR.own hM
      have hcon : (w9.alloc (.cells #[.slice (some ⟨gv, 0, none⟩) na cap9] 29)).cell? ⟨p, j * 3 + 2, none⟩ = some (.bool on) := by rw [hown.cellAt (j * 3 + 2) (by omega), hon]
      have hfon := hown.frozenAt (j * 3 + 2)
      have O10 : One (w9.alloc (.cells #[.slice (some ⟨gv, 0, none⟩) na cap9] 29)) w9.heap.size (.slice (some ⟨gv, 0, none⟩) na cap9) := One.new _ _ rfl
      have HON := Lib.hid hvx
      have HOI : Hid (oa[i]? = some row) := Lib.hid (by rw [← hrow]; exact List.getElem?_eq_getElem _)
      have HOWN := Lib.hid hown
      rw [hrow, hM] at hst
      have HST := Lib.hid hst
      have HM := Lib.hid hM
      have HO10 := Lib.hid O10
      have hBX := (hb9.alloc (Nat.le_trans (Nat.le_refl _) hb9.size) (.cells #[.slice (some ⟨gv, 0, none⟩) na cap9] 29))
      have HBX := Lib.hid hBX
      have O8' := HO8.out.keep hBX
      have HO8' := Lib.hid O8'
      obtain ⟨oc10, of10⟩ := O10
      have oz10 := HO10.out.lt
      clear hol9 hol10 hal hb9 hVR hst hrow hM hi hj hon hvx HOT8 hown hBX O8'
      go_wp2_with fail
      go_quiet (fail)
      have HOX : Hid (((w9.alloc (.cells #[.slice (some ⟨gv, 0, none⟩) na cap9] 29)).drewN nq).ownsRow w8.heap.size 25 3 (.slice (some ⟨p, 0, none⟩) M capp) M (vcells row)) := HOWN
      have HBY := Lib.hid (belowDN HBX.out nq)
      have HSX : Hid (∀ (W : World) (c' : List Vtx), W.heap.size = ((w9.alloc (.cells #[.slice (some ⟨gv, 0, none⟩) na cap9] 29)).drewN nq).heap.size → (∀ k, k ≠ p → W.heap[k]? = ((w9.alloc (.cells #[.slice (some ⟨gv, 0, none⟩) na cap9] 29)).drewN nq).heap[k]?) → c'.length = M → VRow W w8.heap.size (.slice (some ⟨p, 0, none⟩) M capp) c' → ORd W (.slice (some ⟨gv, 0, none⟩) na cap9) (oa.set i c')) := HST
      have HO8X := Lib.hid (HO8'.out.drewN nq)
      have HO10X := Lib.hid (HO10.out.drewN nq)
      have cX : ((w9.alloc (.cells #[.slice (some ⟨gv, 0, none⟩) na cap9] 29)).drewN nq).cell? ⟨p, j * 3 + 2, none⟩ = some (.bool on) := hcon
      have fX : ((w9.alloc (.cells #[.slice (some ⟨gv, 0, none⟩) na cap9] 29)).drewN nq).frozen? ⟨p, j * 3 + 2, none⟩ = false := hfon
      have zX : p < ((w9.alloc (.cells #[.slice (some ⟨gv, 0, none⟩) na cap9] 29)).drewN nq).heap.size := hp2
      obtain ⟨gc, hgc⟩ : ∃ gc, w9.heap.size = gc := ⟨_, rfl⟩
      rw [hgc] at hz9 hp9
      rw [hgc] at HO10X
      rw [hgc]
      clear hcon hfon hp2 oc10 of10 oz10 HOWN HBX HST HO8' HO10 hcell hgv
      generalize (w9.alloc (.cells #[.slice (some ⟨gv, 0, none⟩) na cap9] 29)).drewN nq = X at *
      go_wp2_with fail
      go_region
      have hN : Nigh p X (X.setCell ⟨p, j * 3 + 2, none⟩ (.bool !on)).drew := ⟨rfl, rfl, rfl, by simp, fun k hk => heap_set X ⟨p, j * 3 + 2, none⟩ _ k (by simpa using hk)⟩
      have hVn : VRow (X.setCell ⟨p, j * 3 + 2, none⟩ (.bool !on)).drew w8.heap.size (.slice (some ⟨p, 0, none⟩) M capp) (row.set j ⟨px, py, !on⟩) := by
        have h1 : X.ownsRow w8.heap.size 25 3 (.slice (some ⟨p, 0, none⟩) M capp) M (vcells row) := HOX.out
        have h2 := (h1.stored (j * 3 + 2) (.bool !on)).1
        rw [vcells_flip HON.out] at h2
        unfold VRow
        rw [List.length_set, HM.out]
        exact h2
      have hOC := HSX.out (X.setCell ⟨p, j * 3 + 2, none⟩ (.bool !on)).drew (row.set j ⟨px, py, !on⟩) hN.size hN.block (by rw [List.length_set, HM.out]) hVn
      have hBZ : Below w8.heap.size w8 (X.setCell ⟨p, j * 3 + 2, none⟩ (.bool !on)).drew := (HBY.out.setCell (p := ⟨p, j * 3 + 2, none⟩) hp1 _).drew
      have hne := flip_ne HOI.out HON.out (u := ⟨px, py, !on⟩) (by simp)
      have HS := Lib.hid (psame_any (.slice Aa na capa) (.slice (some ⟨gv, 0, none⟩) na cap9) oa _ false (by simp [hne]) _ (HR8.out.keep hBZ) hOC (small_lens HCK.out).1 (small_lens HCK.out).2)
      have O8Z := HO8.out.keep hBZ
      have O10Y : One (X.setCell ⟨p, j * 3 + 2, none⟩ (.bool !on)).drew gc (.slice (some ⟨gv, 0, none⟩) na cap9) := ⟨(World.cell?_of_block (a := ⟨gc, 0, none⟩) (hN.block gc (by omega))).trans HO10X.out.1, (World.frozen?_of_block (a := ⟨gc, 0, none⟩) (hN.block gc (by omega))).trans HO10X.out.2⟩
      have HFB := Lib.hid (HBF.out.trans (hBZ.mono HBF.out.size))
      have yz := O10Y.lt
      have ez := O8Z.lt
      obtain ⟨yc, yf⟩ := O10Y
      obtain ⟨ec, ef⟩ := O8Z
      clear hVn hOC hBZ hne hN cX fX zX
      generalize (X.setCell ⟨p, j * 3 + 2, none⟩ (.bool !on)).drew = Z at *
      go_wp2_with fail
      refine HS.out.mono ?_
      rintro e w11 ⟨rfl, hb11⟩
      have HFB2 := Lib.hid (HFB.out.trans (hb11.mono HFB.out.size))
      go_wp2
      go_ret
      exact ⟨rfl, HFB2.out⟩

end Go.Proofs.Ytgkhpnjfpahlgaa
