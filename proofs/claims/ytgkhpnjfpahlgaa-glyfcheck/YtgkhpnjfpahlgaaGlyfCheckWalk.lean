/-
  What the law GlyfCheck does to any world (no claim is made here).
-/
import Derived.Test.YtgkhpnjfpahlgaaFew
namespace Go.Proofs.Ytgkhpnjfpahlgaa
open Go.RowKit

theorem FewV.blocks {w0 w w' : World} {base : Nat} {u : Value} {fo : List (List Vtx)} (h : FewV w0 w base u fo) (hb : ∀ g, u.ownBlock = some g → w'.heap[g]? = w.heap[g]?) : FewV w0 w' base u fo := by
  obtain ⟨us, h1, h2, h3⟩ := h
  exact ⟨us, h1, own_blocks h2 hb, h3⟩
theorem FewV.lt {w0 w : World} {base : Nat} {u : Value} {fo : List (List Vtx)} (h : FewV w0 w base u fo) : ∀ g, u.ownBlock = some g → g < w.heap.size := by
  obtain ⟨us, h1, h2, h3⟩ := h
  exact fun g hg => (h2.lt g hg).2
theorem set_lens {o : List (List Vtx)} {i j : Nat} {row : List Vtx} (h : o[i]? = some row) (v : Vtx) (hl : o.length ≤ 1000 ∧ ∀ c ∈ o, c.length ≤ 1000) : (o.set i (row.set j v)).length ≤ 1000 ∧ ∀ c ∈ o.set i (row.set j v), c.length ≤ 1000 := by
  refine ⟨by rw [List.length_set]; exact hl.1, fun c hc => ?_⟩
  rcases List.mem_or_eq_of_mem_set hc with h1 | h1
  · exact hl.2 c h1
  · subst h1
    rw [List.length_set]
    exact hl.2 row (List.mem_of_getElem? h)

set_option maxRecDepth 100000 in
set_option maxHeartbeats 3200000 in
theorem glyfCheck_walk (A0 : Option Addr) (n0 cap0 : Nat) (o0 : List (List Vtx)) (A : Option Addr) (n cap : Nat) (cs : List (List Dot)) (k' vx vy : Int) (von : Bool) (w : World) (h0 : ORd w (.slice A0 n0 cap0) o0) (hcs : DotRows w A n cap cs) (hk : 0 ≤ k' ∧ k' ≤ 255) (_ : -9223372036854775808 ≤ vx ∧ vx ≤ 9223372036854775807) (_ : -9223372036854775808 ≤ vy ∧ vy ≤ 9223372036854775807) :
    Calls Try.prog 3 #[.slice A0 n0 cap0, .slice A n cap, .int .u8 k', .agg #[.int .i64 vx, .int .i64 vy, .bool von]] w fun e w' => e = .returned (.bool true) ∧ Below w.heap.size w w' := by
  have HD := Lib.hid hcs
  have HCK := Lib.hid (outlineS_check cs)
  obtain ⟨oa, hoa⟩ : ∃ o, outlineS cs = o := ⟨_, rfl⟩
  rw [hoa] at HCK
  have HOA := Lib.hid hoa
  obtain ⟨k, rfl⟩ : ∃ k : Nat, k' = k := ⟨k'.toNat, by omega⟩
  have hk255 : k ≤ 255 := by omega
  have hkw : IntKind.i64.wrap (k : Int) = k := by rw [IntKind.wrap_i64]; omega
  obtain ⟨A0', cap0', e, hcc, h3⟩ := h0
  simp only [Value.slice.injEq] at e
  obtain ⟨rfl, hn0, rfl⟩ := e
  have H3 := Lib.hid h3
  have HN0 := Lib.hid hn0
  rw [← hn0] at hcc
  obtain ⟨K, hK⟩ : ∃ K : Nat, K = min n0 12 := ⟨_, rfl⟩
  have hKn : K ≤ n0 := by omega
  have hK12 : K ≤ 12 := by omega
  have HFE : Hid (fewS o0 = (o0.take K).map (List.take 70)) := Lib.hid (by
    unfold fewS
    by_cases h12 : 12 ≤ o0.length
    · rw [show K = 12 by omega]
    · rw [List.take_of_length_le (by omega), List.take_of_length_le (by omega)])
  have hKI : (if (12 : Int) < (n0 : Int) then (12 : Int) else (n0 : Int)) = (K : Int) := by split <;> omega
  have hKR := fun w => run_min2 (P := Try.prog) #[3, 3] 3 _ _ _ hKI w
  have hB1 : Below w.heap.size w (w.alloc (.cells #[.int .i64 vx, .int .i64 vy, .bool von] 25)) := (Below.refl _ w).alloc (Nat.le_refl _) _
  have HT1 : Hid (Thr (w.alloc (.cells #[.int .i64 vx, .int .i64 vy, .bool von] 25)) w.heap.size (.int .i64 vx) (.int .i64 vy) (.bool von)) := Lib.hid (Thr.new _ _ _ _ rfl)
  have HB1 := Lib.hid hB1
  have HAW := Lib.hid (awake_any (w.alloc (.cells #[.int .i64 vx, .int .i64 vy, .bool von] 25)))
  clear hcs hoa hk h3 hn0 hB1 hK hKI
  go_enter Try.func3, Try.ntmps3
  go_wp2_with fail
  refine HAW.out.mono ?_
  rintro e w1 ⟨rfl, hb1⟩
  have HT := Lib.hid (HT1.out.keep hb1)
  have HB := Lib.hid (HB1.out.trans (hb1.mono HB1.out.size))
  have hz1 : w.heap.size + 1 ≤ w1.heap.size := by have := HT.out.lt; omega
  clear hb1 HT1 HB1 HAW
  go_wp2_with fail
  go_loopw [22, 9] (fun i u wr => ∃ r : Nat, r ≤ K ∧ i = .int .i64 r ∧ Hid (FewV w wr (w.heap.size + 1) u ((o0.take r).map (List.take 70))) ∧ Hid (Thr wr w.heap.size (.int .i64 vx) (.int .i64 vy) (.bool von)) ∧ w.heap.size + 1 ≤ wr.heap.size ∧ Hid (Below w.heap.size w wr)) (fun i _ _ => K - (intOf i).toNat)
  case atStart => exact ⟨0, Nat.zero_le _, rfl, Lib.hid (FewV.nil _ _ _), HT, hz1, HB⟩
  case round =>
    clear HT hz1 HB
    obtain ⟨r, hr, rfl, HF, HT, hz, HB⟩ := hrel
    by_cases hrK : r < K
    · have hrb : decide ((r : Int) < K) = true := by simp; omega
      obtain ⟨a, u0, rfl, hal, hac, hrow⟩ := H3.out r (by have := HN0.out; omega)
      replace hac := (HB.out.cell (p := a.add r) (by rw [block_add]; exact hal)).trans hac
      obtain ⟨c, hcr⟩ : ∃ c, c = o0[r]'(by have := HN0.out; omega) := ⟨_, rfl⟩
      rw [← hcr] at hrow
      have HCR : Hid (o0[r]? = some c) := Lib.hid (by rw [hcr]; exact List.getElem?_eq_getElem _)
      obtain ⟨L, hL⟩ : ∃ L : Nat, c.length = L := ⟨_, rfl⟩
      obtain ⟨m, hm⟩ : ∃ m : Nat, m = min L 70 := ⟨_, rfl⟩
      have hrf : ∃ Ac capc, u0 = .slice Ac L capc ∧ L ≤ capc := by
        obtain ⟨Ac, capc, e, h1, _⟩ := hrow
        exact ⟨Ac, capc, by rw [← hL]; exact e, by omega⟩
      obtain ⟨Ac, capc, rfl, hLc⟩ := hrf
      have HV := Lib.hid (hrow.take m (by omega))
      have hmI : (if (70 : Int) < (L : Int) then (70 : Int) else (L : Int)) = (m : Int) := by split <;> omega
      have hmR := fun w => run_min2 (P := Try.prog) #[3, 3] 3 _ _ _ hmI w
      have HST := Lib.hid (fewS_step o0 r c HCR.out m (by rw [hL]; exact hm))
      have hmL : m ≤ L := by omega
      obtain ⟨us, g1, g2, g3⟩ := HF.out
      have hfl : ((o0.take r).map (List.take 70)).length = r := by rw [List.length_map, List.length_take]; have := HN0.out; omega
      rw [hfl] at g2
      have HG1 := Lib.hid g1
      have HG2 := Lib.hid g2
      have HG3 := Lib.hid g3
      have HFL := Lib.hid hfl
      have hnb : (wr.alloc (.cells #[.slice Ac m capc] 27)).heap[wr.heap.size]? = some (.cells #[.slice Ac m capc] 27 (0, 0)) := heap_alloc_new _ _
      have HNB := Lib.hid hnb
      have hne : some w.heap.size ≠ u9.ownBlock := fun e => by have := (g2.lt _ e.symm).1; omega
      have HNE := Lib.hid hne
      have huf := own_form g2
      obtain ⟨i0, hi0, hz0, hz1, hz2⟩ := infos rinfo
      clear hrow hcr hL hm hmI hnb hne g1 g2 g3 hfl HF
      obtain ⟨Au, capu, rfl⟩ := huf
      go_wp2_with (at_builtin; refine wpList_append_lies _ rfl _ _ _ (by rfl) (w.heap.size + 1) 27 i0 _ 1 24 Try.underlying22 hi0 hz0 hz1 hz2 (by rfl) (by omega) _ r _ (by rfl) (HG2.out.alloc _) ⟨wr.heap.size, 0, none⟩ 1 1 [.slice Ac m capc] (by rfl) (by rfl) (World.news_of_block HNB.out) (by simp [Value.oneCell']) (by omega) (by simp [maxLen]; omega) (by omega) (by simp; omega) (wr.heap.size + 1) (by simp) ?_; intro g cp w4 hown hgrow hat hlt)
      have FN := FewV.push (c := c.take m) HG1.out HG3.out HV.out HFL.out hown
      rw [← HST.out] at FN
      have BN := (HB.out.alloc HB.out.size (.cells #[.slice Ac m capc] 27)).grown hgrow (by have := HB.out.size; simp; omega) (fun q hq => by have := (HG2.out.lt q hq).1; omega)
      exact ⟨⟨r + 1, by omega, by go_num, Lib.hid FN, Lib.hid ((HT.out.alloc (.cells #[.slice Ac m capc] 27)).grown hgrow HNE.out), by have := hgrow.size; simp at this; omega, Lib.hid BN⟩, by simp [intOf]; omega⟩
    · obtain rfl : r = K := by omega
      have HFW : Hid (FewV w wr (w.heap.size + 1) u9 (fewS o0)) := Lib.hid (by rw [HFE.out]; exact HF.out)
      obtain ⟨nf, hnf⟩ : ∃ nf, (fewS o0).length = nf := ⟨_, rfl⟩
      obtain ⟨Af, capf, rfl⟩ := HFW.out.form
      rw [hnf] at HFW
      rw [hnf]
      have HFB := Lib.hid HFW.out.lt
      clear HF hnf
      have HC := Lib.hid (outline_any A n cap cs wr (HD.out.keep HB.out))
      go_wp2_with fail
      refine HC.out.mono ?_
      rintro e w2 ⟨va, rfl, hol, hb2⟩
      rw [HOA.out] at hol
      obtain ⟨na, hna⟩ : ∃ na, oa.length = na := ⟨_, rfl⟩
      obtain ⟨Aa, capa, rfl⟩ := hol.form
      rw [hna] at hol
      rw [hna]
      have hal : Below w2.heap.size w2 (w2.alloc (.cells #[.slice Aa na capa] 29)) := (Below.refl _ w2).alloc (Nat.le_refl _) _
      have hol3 := hol.below hal
      have HPC := Lib.hid (pcheck_any (.slice Aa na capa) oa _ hol3.read (small_lens HCK.out).2 (small_lens HCK.out).1)
      rw [HCK.out] at HPC
      have B3 := (HB.out.trans (hb2.mono HB.out.size)).alloc (Nat.le_trans HB.out.size hb2.size) (.cells #[.slice Aa na capa] 29)
      have HB3 := Lib.hid B3
      have HOL3 := Lib.hid hol3
      have HF3 := Lib.hid ((HFW.out.below hb2).below hal)
      have HT3 := Lib.hid ((HT.out.keep hb2).alloc (.cells #[.slice Aa na capa] 29))
      have HO3 : Hid (One (w2.alloc (.cells #[.slice Aa na capa] 29)) w2.heap.size (.slice Aa na capa)) := Lib.hid (One.new _ _ rfl)
      have HNA := Lib.hid hna
      have hz2 : wr.heap.size ≤ w2.heap.size := hb2.size
      have HOL2 := Lib.hid hol
      clear hol hol3 hb2 hal B3 HFW HT HB HC hna
      go_wp2_with fail
      refine HPC.out.mono ?_
      rintro e w4 ⟨rfl, hb4⟩
      have HB4 := Lib.hid (HB3.out.trans (hb4.mono HB3.out.size))
      have HOL4 := Lib.hid (HOL3.out.below hb4)
      have HF4 := Lib.hid (HF3.out.below hb4)
      have HT4 := Lib.hid (HT3.out.keep hb4)
      have O4 := HO3.out.keep hb4
      have HO4 := Lib.hid O4
      have hz4 : w2.heap.size + 1 ≤ w4.heap.size := by have := O4.lt; omega
      have HK24 : Hid (∀ q, q < w2.heap.size → w4.heap[q]? = w2.heap[q]?) := Lib.hid (fun q hq => (hb4.block q (by simp; omega)).trans (Below.heap_alloc _ _ _ hq))
      obtain ⟨g4, hg4⟩ : ∃ g4, w2.heap.size = g4 := ⟨_, rfl⟩
      rw [hg4] at O4 HO4 hz2 hz4
      rw [hg4]
      obtain ⟨oc, of⟩ := O4
      have oz := HO4.out.lt
      clear hb4 HPC HB3 HOL3 HF3 HT3 HO3
      by_cases hna0 : na = 0
      · subst hna0
        have hoa0 : oa = [] := List.eq_nil_of_length_eq_zero HNA.out
        have RO := HOL4.out.read
        have RF := HF4.out.read HB4.out
        have hlo := small_lens HCK.out
        have HBZ := HB4
        clear hoa0
        obtain ⟨C1, hC1⟩ : ∃ C1, checkS oa = C1 := ⟨_, rfl⟩
        obtain ⟨C2, hC2⟩ : ∃ C2, checkS (fewS o0) = C2 := ⟨_, rfl⟩
        have HPA : Hid (∀ wx, Below w4.heap.size w4 wx → Calls Try.prog 12 #[.agg #[.slice Aa 0 capa]] wx fun e w' => e = .returned (.int .i64 (C1 : Nat)) ∧ Below wx.heap.size wx w') := Lib.hid (fun wx hb => by rw [← hC1]; exact pcheck_any _ _ wx (RO.keep hb) hlo.2 hlo.1)
        have HCA : Hid (∀ wx, Below w4.heap.size w4 wx → Calls Try.prog 13 #[.agg #[.slice Aa 0 capa]] wx fun e w' => e = .returned (.int .i64 (C1 : Nat)) ∧ Below wx.heap.size wx w') := Lib.hid (fun wx hb => by rw [← hC1]; exact check_any _ _ wx (RO.keep hb) hlo.2 hlo.1)
        have HPF : Hid (∀ wx, Below w4.heap.size w4 wx → Calls Try.prog 12 #[.agg #[.slice Af nf capf]] wx fun e w' => e = .returned (.int .i64 (C2 : Nat)) ∧ Below wx.heap.size wx w') := Lib.hid (fun wx hb => by rw [← hC2]; exact pcheck_any _ _ wx (RF.keep hb) (fun c hc => by have := (fewS_lens o0).2 c hc; omega) (by have := (fewS_lens o0).1; omega))
        have HCF : Hid (∀ wx, Below w4.heap.size w4 wx → Calls Try.prog 13 #[.agg #[.slice Af nf capf]] wx fun e w' => e = .returned (.int .i64 (C2 : Nat)) ∧ Below wx.heap.size wx w') := Lib.hid (fun wx hb => by rw [← hC2]; exact check_any _ _ wx (RF.keep hb) (fun c hc => by have := (fewS_lens o0).2 c hc; omega) (by have := (fewS_lens o0).1; omega))
        clear hC1 hC2 RO RF hlo
        go_wp2_with fail
        go_region_held3 (fun wx => wx.cell? ⟨g4, 0, none⟩ = some (.slice Aa 0 capa) ∧ Below w4.heap.size w4 wx)
          (first | assumption | exact ⟨oc, Below.drew (Below.refl _ _)⟩)
          (first
            | (go_at_call 12; with_reducible refine (HPA.out _ (Below.drew (Below.refl _ _))).mono ?_; rintro e w5 ⟨rfl, hb5⟩; replace hb5 := undrew hb5; have hS5 : w5.cell? ⟨g4, 0, none⟩ = some (.slice Aa 0 capa) ∧ Below w4.heap.size w4 w5 := ⟨keepc hb5 oc, hb5⟩)
            | (go_at_call 13; with_reducible refine (HCA.out _ hb5).mono ?_; rintro e w6 ⟨rfl, hb6⟩; have A6 : Below w4.heap.size w4 w6 := hb5.trans (hb6.mono hb5.size); have hS6 : w6.cell? ⟨g4, 0, none⟩ = some (.slice Aa 0 capa) ∧ Below w4.heap.size w4 w6 := ⟨keepc A6 oc, A6⟩)
            | (go_at_call 12; with_reducible refine (HPF.out _ A6).mono ?_; rintro e w7 ⟨rfl, hb7⟩; have A7 : Below w4.heap.size w4 w7 := A6.trans (hb7.mono A6.size); have hS7 : w7.cell? ⟨g4, 0, none⟩ = some (.slice Aa 0 capa) ∧ Below w4.heap.size w4 w7 := ⟨keepc A7 oc, A7⟩)
            | (go_at_call 13; with_reducible refine (HCF.out _ A7).mono ?_; rintro e w8 ⟨rfl, hb8⟩; have A8 : Below w4.heap.size w4 w8 := A7.trans (hb8.mono A7.size); have hS8 : w8.cell? ⟨g4, 0, none⟩ = some (.slice Aa 0 capa) ∧ Below w4.heap.size w4 w8 := ⟨keepc A8 oc, A8⟩))
        have HFIN := Lib.hid (HBZ.out.trans (A8.mono HBZ.out.size))
        clear hS5 hS6 hS7 hS8 hb5 hb6 hb7 hb8 A6 A7 A8
        go_wp2
        go_ret
        exact ⟨rfl, HFIN.out⟩
      · have hna0' : (0 : Int) < na := by omega
        have hna0b : decide ((0 : Int) < na) = true := by simp; omega
        obtain ⟨i, hi⟩ : ∃ i : Nat, k % na = i := ⟨_, rfl⟩
        have hin : i < na := by rw [← hi]; exact Nat.mod_lt _ (by omega)
        have hiI : (k : Int).tmod (na : Int) = i := by rw [← hi]; exact (Int.ofNat_tmod k na).symm
        have hnz : ¬ (na : Int) = 0 := by omega
        obtain ⟨gv, capv, p, capp, hv, hcv, hgv, hcell, hcp, hp1, hp2, hpos, hVR, hst⟩ := HOL4.out.row i (by rw [HNA.out]; exact hin)
        simp only [Value.slice.injEq] at hv
        obtain ⟨rfl, -, rfl⟩ := hv
        have hp9 : p < g4 := by
          obtain ⟨gv', capv', p', capp', hv', _, _, hcell', _, _, hp2', _⟩ := HOL2.out.row i (by rw [HNA.out]; exact hin)
          simp only [Value.slice.injEq, Option.some.injEq, Addr.mk.injEq, and_true] at hv'
          obtain ⟨rfl, -⟩ := hv'
          have hlt := World.block_lt_of_cell? w2 _ hcell'
          have h1 : w4.cell? ⟨gv, i, none⟩ = _ := (World.cell?_of_block (a := ⟨gv, i, none⟩) (HK24.out gv hlt)).trans hcell'
          rw [hcell] at h1
          simp only [Option.some.injEq, Value.slice.injEq, Addr.mk.injEq, true_and, and_true] at h1
          omega
        have hpw : p ≠ w.heap.size := by omega
        obtain ⟨row, hrow⟩ : ∃ row, oa[i]'(by rw [HNA.out]; exact hin) = row := ⟨_, rfl⟩
        rw [hrow] at hcell hcp hpos hVR
        obtain ⟨M, hM⟩ : ∃ M, row.length = M := ⟨_, rfl⟩
        rw [hM] at hcell hcp hpos hVR
        obtain ⟨j, hj⟩ : ∃ j : Nat, k % M = j := ⟨_, rfl⟩
        have hjM : j < M := by rw [← hj]; exact Nat.mod_lt _ hpos
        have hjI : (k : Int).tmod (M : Int) = j := by rw [← hj]; exact (Int.ofNat_tmod k M).symm
        have hMz : ¬ (M : Int) = 0 := by omega
        have hown : w4.ownsRow wr.heap.size 25 3 (.slice (some ⟨p, 0, none⟩) M capp) M (vcells row) := hVR.own hM
        have hvl : (vcells row).length = M * 3 := by rw [vcells_length, hM]
        have rcx : ∀ q, q < M * 3 → ∃ u, w4.cell? ⟨p, q, none⟩ = some u := fun q hq => ⟨_, (hown.cellAt q hq).trans (List.getElem?_eq_getElem (by omega))⟩
        rw [hrow, hM] at hst
        have HST := Lib.hid hst
        have HOWN := Lib.hid hown
        have HM := Lib.hid hM
        have HOI : Hid (oa[i]? = some row) := Lib.hid (by rw [← hrow]; exact List.getElem?_eq_getElem _)
        have HRC := Lib.hid rcx
        clear hVR hst hrow hM hi hj hown hvl rcx
        go_wp2_with fail
        go_quiet (fail)
        have HOX : Hid ((w4.drewN nq).ownsRow wr.heap.size 25 3 (.slice (some ⟨p, 0, none⟩) M capp) M (vcells row)) := HOWN
        have HBY := Lib.hid (belowDN HB4.out nq)
        have HSX : Hid (∀ (W : World) (c' : List Vtx), W.heap.size = (w4.drewN nq).heap.size → (∀ k, k ≠ p → W.heap[k]? = (w4.drewN nq).heap[k]?) → c'.length = M → VRow W wr.heap.size (.slice (some ⟨p, 0, none⟩) M capp) c' → ORd W (.slice (some ⟨gv, 0, none⟩) na capa) (oa.set i c')) := HST
        have HTX : Hid (Thr (w4.drewN nq) w.heap.size (.int .i64 vx) (.int .i64 vy) (.bool von)) := HT4
        have HO4X := Lib.hid (HO4.out.drewN nq)
        have HFX : Hid (FewV w (w4.drewN nq) (w.heap.size + 1) (.slice Af nf capf) (fewS o0)) := HF4
        have HRX : Hid (∀ q, q < M * 3 → ∃ u, (w4.drewN nq).cell? ⟨p, q, none⟩ = some u) := HRC
        have zX : p < (w4.drewN nq).heap.size := hp2
        clear hp2 HOWN HST HRC hcell hgv HT4 HO4 HF4 HB4 HOL4 oc of oz HK24 HOL2
        generalize w4.drewN nq = X at *
        obtain ⟨u0, rc0⟩ := HRX.out (j * 3) (by omega)
        obtain ⟨u1, rc1⟩ := HRX.out (j * 3 + 1) (by omega)
        obtain ⟨u2, rc2⟩ := HRX.out (j * 3 + 2) (by omega)
        have rf0 := HOX.out.frozenAt (j * 3)
        have rf1 := HOX.out.frozenAt (j * 3 + 1)
        have rf2 := HOX.out.frozenAt (j * 3 + 2)
        obtain ⟨⟨t0, t1, t2⟩, -, -, -⟩ := HTX.out
        have tz := HTX.out.lt
        go_wp2_with fail
        go_region
        have hN : Nigh p X (((X.setCell ⟨p, j * 3, none⟩ (.int .i64 vx)).setCell ⟨p, j * 3 + 1, none⟩ (.int .i64 vy)).setCell ⟨p, j * 3 + 2, none⟩ (.bool von)).drew := by
          have h := ((Nigh.set (w := X) ⟨p, j * 3, none⟩ rfl (.int .i64 vx)).trans (Nigh.set ⟨p, j * 3 + 1, none⟩ rfl (.int .i64 vy))).trans (Nigh.set ⟨p, j * 3 + 2, none⟩ rfl (.bool von))
          exact ⟨h.os, h.tape, h.output, h.size, h.block⟩
        have hVn : VRow (((X.setCell ⟨p, j * 3, none⟩ (.int .i64 vx)).setCell ⟨p, j * 3 + 1, none⟩ (.int .i64 vy)).setCell ⟨p, j * 3 + 2, none⟩ (.bool von)).drew wr.heap.size (.slice (some ⟨p, 0, none⟩) M capp) (row.set j ⟨vx, vy, von⟩) := by
          have h2 := (((HOX.out.stored (j * 3) (.int .i64 vx)).1.stored (j * 3 + 1) (.int .i64 vy)).1.stored (j * 3 + 2) (.bool von)).1
          have e := vcells_put row j (by rw [HM.out]; exact hjM) ⟨vx, vy, von⟩
          simp only [] at e
          rw [e] at h2
          unfold VRow
          rw [List.length_set, HM.out]
          exact h2
        have RO := HSX.out _ (row.set j ⟨vx, vy, von⟩) hN.size hN.block (by rw [List.length_set, HM.out]) hVn
        have HBZ : Hid (Below w.heap.size w (((X.setCell ⟨p, j * 3, none⟩ (.int .i64 vx)).setCell ⟨p, j * 3 + 1, none⟩ (.int .i64 vy)).setCell ⟨p, j * 3 + 2, none⟩ (.bool von)).drew) := Lib.hid (HBY.out.trans (hN.below (by omega)))
        have RF := (HFX.out.blocks (fun q hq => hN.block q (by have := HFB.out q hq; omega))).read HBZ.out
        have oc : (((X.setCell ⟨p, j * 3, none⟩ (.int .i64 vx)).setCell ⟨p, j * 3 + 1, none⟩ (.int .i64 vy)).setCell ⟨p, j * 3 + 2, none⟩ (.bool von)).drew.cell? ⟨g4, 0, none⟩ = some (.slice (some ⟨gv, 0, none⟩) na capa) := (World.cell?_of_block (a := ⟨g4, 0, none⟩) (hN.block g4 (by omega))).trans HO4X.out.1
        have oz : g4 < (((X.setCell ⟨p, j * 3, none⟩ (.int .i64 vx)).setCell ⟨p, j * 3 + 1, none⟩ (.int .i64 vy)).setCell ⟨p, j * 3 + 2, none⟩ (.bool von)).drew.heap.size := by rw [hN.size]; exact HO4X.out.lt
        have hlo := set_lens (j := j) HOI.out ⟨vx, vy, von⟩ (small_lens HCK.out)
        clear hN hVn rc0 rc1 rc2 rf0 rf1 rf2 t0 t1 t2 tz zX HOX HBY HSX HTX HO4X HFX HRX
        generalize (((X.setCell ⟨p, j * 3, none⟩ (.int .i64 vx)).setCell ⟨p, j * 3 + 1, none⟩ (.int .i64 vy)).setCell ⟨p, j * 3 + 2, none⟩ (.bool von)).drew = Z at *
        obtain ⟨C1, hC1⟩ : ∃ C1, checkS (oa.set i (row.set j ⟨vx, vy, von⟩)) = C1 := ⟨_, rfl⟩
        obtain ⟨C2, hC2⟩ : ∃ C2, checkS (fewS o0) = C2 := ⟨_, rfl⟩
        have HPA : Hid (∀ wx, Below Z.heap.size Z wx → Calls Try.prog 12 #[.agg #[.slice (some ⟨gv, 0, none⟩) na capa]] wx fun e w' => e = .returned (.int .i64 (C1 : Nat)) ∧ Below wx.heap.size wx w') := Lib.hid (fun wx hb => by rw [← hC1]; exact pcheck_any _ _ wx (RO.keep hb) hlo.2 hlo.1)
        have HCA : Hid (∀ wx, Below Z.heap.size Z wx → Calls Try.prog 13 #[.agg #[.slice (some ⟨gv, 0, none⟩) na capa]] wx fun e w' => e = .returned (.int .i64 (C1 : Nat)) ∧ Below wx.heap.size wx w') := Lib.hid (fun wx hb => by rw [← hC1]; exact check_any _ _ wx (RO.keep hb) hlo.2 hlo.1)
        have HPF : Hid (∀ wx, Below Z.heap.size Z wx → Calls Try.prog 12 #[.agg #[.slice Af nf capf]] wx fun e w' => e = .returned (.int .i64 (C2 : Nat)) ∧ Below wx.heap.size wx w') := Lib.hid (fun wx hb => by rw [← hC2]; exact pcheck_any _ _ wx (RF.keep hb) (fun c hc => by have := (fewS_lens o0).2 c hc; omega) (by have := (fewS_lens o0).1; omega))
        have HCF : Hid (∀ wx, Below Z.heap.size Z wx → Calls Try.prog 13 #[.agg #[.slice Af nf capf]] wx fun e w' => e = .returned (.int .i64 (C2 : Nat)) ∧ Below wx.heap.size wx w') := Lib.hid (fun wx hb => by rw [← hC2]; exact check_any _ _ wx (RF.keep hb) (fun c hc => by have := (fewS_lens o0).2 c hc; omega) (by have := (fewS_lens o0).1; omega))
        clear hC1 hC2 RO RF hlo
        go_wp2_with fail
        go_region_held3 (fun wx => wx.cell? ⟨g4, 0, none⟩ = some (.slice (some ⟨gv, 0, none⟩) na capa) ∧ Below Z.heap.size Z wx)
          (first | assumption | exact ⟨oc, Below.drew (Below.refl _ _)⟩)
          (first
            | (go_at_call 12; with_reducible refine (HPA.out _ (Below.drew (Below.refl _ _))).mono ?_; rintro e w5 ⟨rfl, hb5⟩; replace hb5 := undrew hb5; have hS5 : w5.cell? ⟨g4, 0, none⟩ = some (.slice (some ⟨gv, 0, none⟩) na capa) ∧ Below Z.heap.size Z w5 := ⟨keepc hb5 oc, hb5⟩)
            | (go_at_call 13; with_reducible refine (HCA.out _ hb5).mono ?_; rintro e w6 ⟨rfl, hb6⟩; have A6 : Below Z.heap.size Z w6 := hb5.trans (hb6.mono hb5.size); have hS6 : w6.cell? ⟨g4, 0, none⟩ = some (.slice (some ⟨gv, 0, none⟩) na capa) ∧ Below Z.heap.size Z w6 := ⟨keepc A6 oc, A6⟩)
            | (go_at_call 12; with_reducible refine (HPF.out _ A6).mono ?_; rintro e w7 ⟨rfl, hb7⟩; have A7 : Below Z.heap.size Z w7 := A6.trans (hb7.mono A6.size); have hS7 : w7.cell? ⟨g4, 0, none⟩ = some (.slice (some ⟨gv, 0, none⟩) na capa) ∧ Below Z.heap.size Z w7 := ⟨keepc A7 oc, A7⟩)
            | (go_at_call 13; with_reducible refine (HCF.out _ A7).mono ?_; rintro e w8 ⟨rfl, hb8⟩; have A8 : Below Z.heap.size Z w8 := A7.trans (hb8.mono A7.size); have hS8 : w8.cell? ⟨g4, 0, none⟩ = some (.slice (some ⟨gv, 0, none⟩) na capa) ∧ Below Z.heap.size Z w8 := ⟨keepc A8 oc, A8⟩))
        have HFIN := Lib.hid (HBZ.out.trans (A8.mono HBZ.out.size))
        clear hS5 hS6 hS7 hS8 hb5 hb6 hb7 hb8 A6 A7 A8
        go_wp2
        go_ret
        exact ⟨rfl, HFIN.out⟩

end Go.Proofs.Ytgkhpnjfpahlgaa
