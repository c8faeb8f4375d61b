/-
  What the law's colours of layer 11 does to any world: a contract (no claim is made here).
-/
import Derived.Test.YtbnjajhhbcnepaaCorn1
import Derived.Laws.OwnMore
namespace Go.Proofs.Ytbnjajhhbcnepaa
open Go.RowKit

/-- A row of ints while it is filled. -/
def fillI (t : Nat → Nat) (n i : Nat) : List Nat := (List.range n).map fun j => if j < i then t j else 0
theorem fillI_length (t : Nat → Nat) (n i : Nat) : (fillI t n i).length = n := by simp [fillI]
theorem fillI_zero (t : Nat → Nat) (n : Nat) : nvals (fillI t n 0) = List.replicate n (.int .i64 0) := by
  refine List.ext_getElem (by simp [nvals, fillI]) (fun j h1 h2 => ?_)
  simp [nvals, fillI]
theorem fillI_full (t : Nat → Nat) (n : Nat) : fillI t n n = (List.range n).map t := by
  refine List.map_congr_left (fun j hj => ?_)
  rw [if_pos (List.mem_range.1 hj)]
theorem fillI_set (t : Nat → Nat) (n i : Nat) : (nvals (fillI t n i)).set i (.int .i64 (t i : Nat)) = nvals (fillI t n (i + 1)) := by
  refine List.ext_getElem (by simp [nvals, fillI]) (fun j h1 h2 => ?_)
  rw [List.getElem_set]
  by_cases e : i = j
  · subst e
    simp [nvals, fillI]
  · have : j < i ↔ j < i + 1 := by omega
    simp [nvals, fillI, e, this]
/-- A row of ours of so many cells. -/
def NRw (w : World) (gm n : Nat) (xs : List Value) : Prop := xs.length = n ∧ w.ownsRow gm 3 1 (.slice (some ⟨gm, 0, none⟩) n n) n xs
theorem NRw.keep {w w' : World} {gm n : Nat} {xs : List Value} (h : NRw w gm n xs) (hb : Below w.heap.size w w') : NRw w' gm n xs := ⟨h.1, own_blocks h.2 fun g hg => hb.block g (World.ownsRow.lt h.2 g hg).2⟩
theorem NRw.lt {w : World} {gm n : Nat} {xs : List Value} (h : NRw w gm n xs) : gm < w.heap.size := (World.ownsRow.lt h.2 gm rfl).2
theorem NRw.cell {w : World} {gm n : Nat} {xs : List Value} (h : NRw w gm n xs) (j : Nat) (hj : j < n) : (∃ x, w.cell? ⟨gm, j, none⟩ = some x) ∧ w.frozen? ⟨gm, j, none⟩ = false := by
  have hl := h.1
  exact ⟨⟨xs[j]'(by omega), by rw [World.ownsRow.cellAt h.2 j (by omega)]; exact List.getElem?_eq_getElem _⟩, World.ownsRow.frozenAt h.2 j⟩
theorem NRw.store {w : World} {gm n : Nat} {xs : List Value} (h : NRw w gm n xs) (i : Nat) (v : Value) : NRw (w.setCell ⟨gm, i, none⟩ v) gm n (xs.set i v) := ⟨by rw [List.length_set]; exact h.1, (World.ownsRow.stored h.2 i v).1⟩
theorem NRw.again {w : World} {gm n i : Nat} {xs : List Value} {u v : Value} (h : NRw w gm n ((xs.set i u).set i v)) : NRw w gm n (xs.set i v) := by rw [List.set_set] at h; exact h
theorem NRw.next {w : World} {gm n i : Nat} {t : Nat → Nat} (h : NRw w gm n ((nvals (fillI t n i)).set i (.int .i64 (t i : Nat)))) : NRw w gm n (nvals (fillI t n (i + 1))) := by rw [fillI_set] at h; exact h
theorem NRw.fin {w : World} {gm n i : Nat} {t : Nat → Nat} {c : Int} (h : NRw w gm n ((nvals (fillI t n i)).set i (.int .i64 c))) (hc : ((t i : Nat) : Int) = c) : NRw w gm n (nvals (fillI t n (i + 1))) := by subst hc; exact h.next
theorem NRw.row {w : World} {gm n : Nat} {t : Nat → Nat} (h : NRw w gm n (nvals (fillI t n n))) : NRow w gm (.slice (some ⟨gm, 0, none⟩) n n) ((List.range n).map t) := by
  have := h.2
  unfold NRow
  rw [← fillI_full, fillI_length]
  exact this

set_option maxRecDepth 100000 in
set_option maxHeartbeats 3200000 in
theorem lcolours_any (ve : Value) (es : List Ed) (w : World) (hv : ERd w ve es) (hl : es.length ≤ 200000) (hin : ∀ s ∈ es, InD s) :
    Calls Try.prog 18 #[ve] w fun e w' => ∃ V, e = .returned V ∧ NRow w' w.heap.size V (coloursL es) ∧ Below w.heap.size w w' := by
  obtain ⟨A, cap, he, hce, -⟩ := id hv
  subst he
  have HV := Lib.hid hv
  have HCO := Lib.hid (fun w h => lcorners_any (.slice A es.length cap) es w h hl hin)
  have hcl : (cornersL es).length ≤ es.length := cornersTo_len es es.length
  obtain ⟨n, hN⟩ : ∃ N, es.length = N := ⟨_, rfl⟩
  have HN := Lib.hid hN
  rw [hN] at hv hl hce HV HCO hcl
  rw [hN]
  obtain ⟨i0, hi0, hz0, hz1, hz2⟩ := infos ninfo
  obtain ⟨wm, hr, hown, hg⟩ := run_make_full (P := Try.prog) w w.heap.size 38 3 i0 _ 1 Try.underlying38 hi0 hz0 hz1 .i64 .i64 n (by rw [hz2]; omega) (by unfold maxLen; omega) (Nat.le_refl _)
  have Bm : Below w.heap.size w wm := (Below.refl _ w).grown hg (Nat.le_refl _) (fun q hq => by cases hq)
  have M0 : NRw wm w.heap.size n (nvals (fillI (colC n (cornersL es)) n 0)) := by
    rw [show (Value.int IntKind.i64 0).cells = #[.int .i64 0] from rfl, Nat.mul_one, toList_madeCells_one] at hown
    rw [fillI_zero]; exact ⟨by simp, hown⟩
  have HBm := Lib.hid Bm
  have HM0 := Lib.hid M0
  have HVm := Lib.hid (HV.out.keep Bm)
  clear hown hg hi0 hz0 hz1 hz2 Bm M0 hv hin hN
  go_enter Try.func18, Try.ntmps18
  go_wp2_with fail
  refine (HCO.out _ HVm.out).mono ?_
  rintro e w1 ⟨V, rfl, hV, hb⟩
  clear hr
  obtain ⟨Ac, capc, rfl⟩ := hV.form
  have HC1 := Lib.hid (hV.mono (show w.heap.size + 1 ≤ wm.heap.size from HM0.out.lt))
  have HM1 := Lib.hid (HM0.out.keep hb)
  have HB1 := Lib.hid (below2 HBm.out hb)
  clear hV hb HM0 HBm HVm HCO
  obtain ⟨m, hm⟩ : ∃ m, (cornersL es).length = m := ⟨_, rfl⟩
  have HML := Lib.hid hm
  rw [hm] at HC1 hcl
  rw [hm]
  have HCC := Lib.hid (show ∀ j, j < m → ∃ c, (cornersL es)[j]? = some c ∧ (cornersL es).getD j 0 = c ∧ c < n from fun j hj => by
    have hj' : j < (cornersL es).length := by omega
    refine ⟨_, List.getElem?_eq_getElem hj', ?_, ?_⟩
    · rw [List.getD_eq_getElem?_getD, List.getElem?_eq_getElem hj']; rfl
    · have := corner_lt hj'
      rw [List.getD_eq_getElem?_getD, List.getElem?_eq_getElem hj', HN.out] at this
      exact this)
  obtain ⟨cs, hcs⟩ : ∃ c, cornersL es = c := ⟨_, rfl⟩
  have HCS := Lib.hid hcs
  rw [hcs] at HC1 HML HCC HM1
  clear hm hcs
  go_wp2_with fail
  go_loopw [17] (fun i wr => ∃ r : Nat, r ≤ n ∧ i = .int .i64 r ∧ Hid (NRw wr w.heap.size n (nvals (fillI (colC n cs) n r))) ∧ Hid (Below w.heap.size w wr) ∧ Hid (NRow wr (w.heap.size + 1) (.slice Ac m capc) cs)) (fun i _ => n - (intOf i).toNat)
  case atStart => exact ⟨0, Nat.zero_le _, rfl, HM1, HB1, HC1⟩
  case round =>
    clear HM1 HB1 HC1
    obtain ⟨r, hr, rfl, HM, HB, HC⟩ := hrel
    by_cases hrn : r < n
    · have hrb : decide ((r : Int) < n) = true := by simp; omega
      have HM7 := Lib.hid (HM.out.store r (.int .i64 7))
      have HB7 := Lib.hid (HB.out.setCell (p := ⟨w.heap.size, r, none⟩) (Nat.le_refl _) (.int .i64 7))
      have HC7 := Lib.hid (HC.out.set (p := ⟨w.heap.size, r, none⟩) (Nat.lt_succ_self _) (.int .i64 7))
      obtain ⟨⟨x0, m0⟩, mf⟩ := HM.out.cell r hrn
      have ml := HM.out.lt
      go_upto_region 7 with fail
      clear HM HB HC m0 mf ml
      generalize wr.setCell ⟨w.heap.size, r, none⟩ (.int .i64 7) = w7 at *
      obtain h0 | rfl | h2 : m = 0 ∨ m = 1 ∨ 2 ≤ m := by omega
      · have HCO := Lib.hid (show colC n cs r = 7 by unfold colC; rw [if_pos (by rw [HML.out]; exact h0)])
        subst h0
        go_wp2_with fail
        exact ⟨⟨r + 1, hrn, by go_num, Lib.hid (HM7.out.fin (by rw [HCO.out]; rfl)), HB7, HC7⟩, by simp [intOf]; omega⟩
      · have HCO := Lib.hid (show colC n cs r = oneC n (cs.getD 0 0) r by unfold colC; rw [if_neg (by rw [HML.out]; omega), if_pos HML.out])
        obtain ⟨c, hc, hc2, hcn⟩ := HCC.out 0 (by omega)
        rw [hc2] at HCO
        unfold oneC at HCO
        obtain ⟨a, rfl, hal, a0⟩ := HC7.out.read.at 0 c hc
        rw [show a.add 0 = a from rfl] at a0
        obtain ⟨⟨x1, m1⟩, mf⟩ := HM7.out.cell r hrn
        have ml := HM7.out.lt
        clear hc hc2
        have HM8 := Lib.hid (HM7.out.store r (.int .i64 5)).again
        have HB8 := Lib.hid (HB7.out.setCell (p := ⟨w.heap.size, r, none⟩) (Nat.le_refl _) (.int .i64 5))
        have HC8 := Lib.hid (HC7.out.set (p := ⟨w.heap.size, r, none⟩) (Nat.lt_succ_self _) (.int .i64 5))
        have HM9 := Lib.hid (HM8.out.store r (.int .i64 6)).again
        have HB9 := Lib.hid (HB8.out.setCell (p := ⟨w.heap.size, r, none⟩) (Nat.le_refl _) (.int .i64 6))
        have HC9 := Lib.hid (HC8.out.set (p := ⟨w.heap.size, r, none⟩) (Nat.lt_succ_self _) (.int .i64 6))
        by_cases hrc : r < c
        · rw [if_pos hrc] at HCO
          obtain ⟨d, hd⟩ : ∃ d : Nat, r + n - c = d := ⟨_, rfl⟩
          rw [hd] at HCO
          have hrc' : (r : Int) - c < 0 := by omega
          by_cases h2 : n ≤ 2 * d
          · rw [if_pos h2] at HCO
            go_wp2_with fail
            exact ⟨⟨r + 1, hrn, by go_num, Lib.hid (HM9.out.fin (by rw [HCO.out]; rfl)), HB9, HC9⟩, by simp [intOf]; omega⟩
          · rw [if_neg h2] at HCO
            go_wp2_with fail
            exact ⟨⟨r + 1, hrn, by go_num, Lib.hid (HM8.out.fin (by rw [HCO.out]; rfl)), HB8, HC8⟩, by simp [intOf]; omega⟩
        · rw [if_neg hrc] at HCO
          obtain ⟨d, hd⟩ : ∃ d : Nat, r - c = d := ⟨_, rfl⟩
          rw [hd] at HCO
          have hrc' : ¬(r : Int) - c < 0 := by omega
          by_cases h2 : n ≤ 2 * d
          · rw [if_pos h2] at HCO
            go_wp2_with fail
            exact ⟨⟨r + 1, hrn, by go_num, Lib.hid (HM9.out.fin (by rw [HCO.out]; rfl)), HB9, HC9⟩, by simp [intOf]; omega⟩
          · rw [if_neg h2] at HCO
            go_wp2_with fail
            exact ⟨⟨r + 1, hrn, by go_num, Lib.hid (HM8.out.fin (by rw [HCO.out]; rfl)), HB8, HC8⟩, by simp [intOf]; omega⟩
      · have HCO := Lib.hid (show colC n cs r = colP m (pieceC cs r) by unfold colC; rw [if_neg (by rw [HML.out]; omega), if_neg (by rw [HML.out]; omega), HML.out])
        have HP0 := Lib.hid (show pieceTo cs r 0 = m - 1 by unfold pieceTo; rw [HML.out])
        have HPL := Lib.hid (fun q (h : q ≤ m) => show pieceTo cs r q < m by have := pieceTo_lt (cs := cs) (k := r) (r := q) (by rw [HML.out]; exact h) (by rw [HML.out]; omega); rw [HML.out] at this; exact this)
        have hm1 : IntKind.i64.wrap ((m : Int) - 1) = ((m - 1 : Nat) : Int) := by rw [Int.natCast_sub (by omega)]; exact wI (by omega) (by omega)
        have hmz : ((m : Int) == 1) = false := by simp; omega
        go_wp2_with fail
        go_loopw [56, 7] (fun i pv wr => ∃ q pc : Nat, q ≤ m ∧ i = .int .i64 q ∧ pv = .int .i64 pc ∧ Hid (pieceTo cs r q = pc) ∧ wr = w7) (fun i _ _ => m - (intOf i).toNat)
        case atStart => exact ⟨0, m - 1, Nat.zero_le _, rfl, by simp, HP0, rfl⟩
        case round =>
          obtain ⟨q, pc, hq, rfl, rfl, HPC, rfl⟩ := hrel
          by_cases hqm : q < m
          · have hqb : decide ((q : Int) < m) = true := by simp; omega
            obtain ⟨c, hc, hc2, hcn⟩ := HCC.out q hqm
            obtain ⟨a, rfl, hal, a0⟩ := HC7.out.read.at q c hc
            have HST := Lib.hid (show pieceTo cs r (q + 1) = if c ≤ r then q else pc by
              have : pieceTo cs r (q + 1) = if cs.getD q 0 ≤ r then q else pieceTo cs r q := rfl
              rw [this, hc2, HPC.out])
            clear hc hc2
            by_cases hcr : c ≤ r
            · have HS2 := Lib.hid (HST.out.trans (if_pos hcr))
              clear HST
              go_wp2_with fail
              exact ⟨⟨q + 1, q, hqm, by go_num, rfl, HS2, trivial⟩, by simp [intOf]; omega⟩
            · have HS2 := Lib.hid (HST.out.trans (if_neg hcr))
              clear HST
              go_wp2_with fail
              exact ⟨⟨q + 1, pc, hqm, by go_num, rfl, HS2, trivial⟩, by simp [intOf]; omega⟩
          · have hqe : q = m := by omega
            subst hqe
            have hpc : pc < q := by rw [← HPC.out]; exact HPL.out q (Nat.le_refl _)
            have HCP := Lib.hid (show colC n cs r = if pc = q - 1 ∧ q % 3 = 1 then 6 else if pc % 3 = 0 then 5 else if pc % 3 = 1 then 6 else 3 by
              rw [HCO.out]
              unfold pieceC
              rw [HML.out, HPC.out]
              rfl)
            clear HCO HPC HPL HP0
            obtain ⟨⟨x1, m1⟩, mf⟩ := HM7.out.cell r hrn
            have ml := HM7.out.lt
            obtain ⟨t, ht, htb⟩ : ∃ t : Nat, pc % 3 = t ∧ t < 3 := ⟨_, rfl, Nat.mod_lt _ (by omega)⟩
            have htm : (pc : Int).tmod 3 = (t : Int) := by rw [← ht]; exact (Int.ofNat_tmod pc 3).symm
            have hte : (pc : Int) % 3 = (t : Int) := by rw [← ht]; rfl
            rw [ht] at HCP
            go_upto_region 22 with fail
            clear ht
            obtain rfl | rfl | rfl : t = 0 ∨ t = 1 ∨ t = 2 := by omega
            · have HM8 := Lib.hid ((HM7.out.store r (.int .i64 5)).again.keep ((Below.refl _ _).alloc (Nat.le_refl _) (.cells #[.int .i64 5, .int .i64 6, .int .i64 3] 3)))
              have hb8 := HB7.out.setCell (p := ⟨w.heap.size, r, none⟩) (Nat.le_refl _) (.int .i64 5)
              have HB8 := Lib.hid (hb8.alloc hb8.size (.cells #[.int .i64 5, .int .i64 6, .int .i64 3] 3))
              have HC8 := Lib.hid ((HC7.out.set (p := ⟨w.heap.size, r, none⟩) (Nat.lt_succ_self _) (.int .i64 5)).alloc (.cells #[.int .i64 5, .int .i64 6, .int .i64 3] 3))
              clear hb8
              go_upto_region 23 with fail
              clear HM7 HB7 HC7 m1 mf ml htm hte
              generalize (wr.setCell ⟨w.heap.size, r, none⟩ (.int .i64 5)).alloc (.cells #[.int .i64 5, .int .i64 6, .int .i64 3] 3) = w8 at *
              obtain ⟨⟨x2, m1⟩, mf⟩ := HM8.out.cell r hrn
              have ml := HM8.out.lt
              by_cases hl : pc = q - 1
              · have hlb : ((pc : Int) == ((q - 1 : Nat) : Int)) = true := by rw [hl]; simp
                obtain ⟨t3, ht3, ht4⟩ : ∃ t : Nat, q % 3 = t ∧ (q : Int).tmod 3 = (t : Int) := ⟨_, rfl, (Int.ofNat_tmod q 3).symm⟩
                by_cases hq : t3 = 1
                · have HV6 := Lib.hid (HCP.out.trans (if_pos ⟨hl, ht3.trans hq⟩))
                  subst hq
                  have HM9 := Lib.hid (HM8.out.store r (.int .i64 6)).again
                  have HB9 := Lib.hid (HB8.out.setCell (p := ⟨w.heap.size, r, none⟩) (Nat.le_refl _) (.int .i64 6))
                  have HC9 := Lib.hid (HC8.out.set (p := ⟨w.heap.size, r, none⟩) (Nat.lt_succ_self _) (.int .i64 6))
                  clear hl ht3
                  go_wp2_with fail
                  exact ⟨⟨r + 1, hrn, by go_num, Lib.hid (HM9.out.fin (by rw [HV6.out]; rfl)), HB9, HC9⟩, by simp [intOf]; omega⟩
                · have HV6 := Lib.hid (HCP.out.trans (if_neg (fun h => hq (ht3.symm.trans h.2))))
                  have ht5 : ((t3 : Int) == 1) = false := by simp; omega
                  clear hl ht3
                  go_wp2_with fail
                  exact ⟨⟨r + 1, hrn, by go_num, Lib.hid (HM8.out.fin (by rw [HV6.out, if_pos rfl]; rfl)), HB8, HC8⟩, by simp [intOf]; omega⟩
              · have HV6 := Lib.hid (HCP.out.trans (if_neg (fun h => hl h.1)))
                have hlb : ((pc : Int) == ((q - 1 : Nat) : Int)) = false := by simp; omega
                clear hl
                go_wp2_with fail
                exact ⟨⟨r + 1, hrn, by go_num, Lib.hid (HM8.out.fin (by rw [HV6.out, if_pos rfl]; rfl)), HB8, HC8⟩, by simp [intOf]; omega⟩
            · have HM8 := Lib.hid ((HM7.out.store r (.int .i64 6)).again.keep ((Below.refl _ _).alloc (Nat.le_refl _) (.cells #[.int .i64 5, .int .i64 6, .int .i64 3] 3)))
              have hb8 := HB7.out.setCell (p := ⟨w.heap.size, r, none⟩) (Nat.le_refl _) (.int .i64 6)
              have HB8 := Lib.hid (hb8.alloc hb8.size (.cells #[.int .i64 5, .int .i64 6, .int .i64 3] 3))
              have HC8 := Lib.hid ((HC7.out.set (p := ⟨w.heap.size, r, none⟩) (Nat.lt_succ_self _) (.int .i64 6)).alloc (.cells #[.int .i64 5, .int .i64 6, .int .i64 3] 3))
              clear hb8
              go_upto_region 23 with fail
              clear HM7 HB7 HC7 m1 mf ml htm hte
              generalize (wr.setCell ⟨w.heap.size, r, none⟩ (.int .i64 6)).alloc (.cells #[.int .i64 5, .int .i64 6, .int .i64 3] 3) = w8 at *
              obtain ⟨⟨x2, m1⟩, mf⟩ := HM8.out.cell r hrn
              have ml := HM8.out.lt
              by_cases hl : pc = q - 1
              · have hlb : ((pc : Int) == ((q - 1 : Nat) : Int)) = true := by rw [hl]; simp
                obtain ⟨t3, ht3, ht4⟩ : ∃ t : Nat, q % 3 = t ∧ (q : Int).tmod 3 = (t : Int) := ⟨_, rfl, (Int.ofNat_tmod q 3).symm⟩
                by_cases hq : t3 = 1
                · have HV6 := Lib.hid (HCP.out.trans (if_pos ⟨hl, ht3.trans hq⟩))
                  subst hq
                  have HM9 := Lib.hid (HM8.out.store r (.int .i64 6)).again
                  have HB9 := Lib.hid (HB8.out.setCell (p := ⟨w.heap.size, r, none⟩) (Nat.le_refl _) (.int .i64 6))
                  have HC9 := Lib.hid (HC8.out.set (p := ⟨w.heap.size, r, none⟩) (Nat.lt_succ_self _) (.int .i64 6))
                  clear hl ht3
                  go_wp2_with fail
                  exact ⟨⟨r + 1, hrn, by go_num, Lib.hid (HM9.out.fin (by rw [HV6.out]; rfl)), HB9, HC9⟩, by simp [intOf]; omega⟩
                · have HV6 := Lib.hid (HCP.out.trans (if_neg (fun h => hq (ht3.symm.trans h.2))))
                  have ht5 : ((t3 : Int) == 1) = false := by simp; omega
                  clear hl ht3
                  go_wp2_with fail
                  exact ⟨⟨r + 1, hrn, by go_num, Lib.hid (HM8.out.fin (by rw [HV6.out, if_neg (by omega), if_pos rfl]; rfl)), HB8, HC8⟩, by simp [intOf]; omega⟩
              · have HV6 := Lib.hid (HCP.out.trans (if_neg (fun h => hl h.1)))
                have hlb : ((pc : Int) == ((q - 1 : Nat) : Int)) = false := by simp; omega
                clear hl
                go_wp2_with fail
                exact ⟨⟨r + 1, hrn, by go_num, Lib.hid (HM8.out.fin (by rw [HV6.out, if_neg (by omega), if_pos rfl]; rfl)), HB8, HC8⟩, by simp [intOf]; omega⟩
            · have HM8 := Lib.hid ((HM7.out.store r (.int .i64 3)).again.keep ((Below.refl _ _).alloc (Nat.le_refl _) (.cells #[.int .i64 5, .int .i64 6, .int .i64 3] 3)))
              have hb8 := HB7.out.setCell (p := ⟨w.heap.size, r, none⟩) (Nat.le_refl _) (.int .i64 3)
              have HB8 := Lib.hid (hb8.alloc hb8.size (.cells #[.int .i64 5, .int .i64 6, .int .i64 3] 3))
              have HC8 := Lib.hid ((HC7.out.set (p := ⟨w.heap.size, r, none⟩) (Nat.lt_succ_self _) (.int .i64 3)).alloc (.cells #[.int .i64 5, .int .i64 6, .int .i64 3] 3))
              clear hb8
              go_upto_region 23 with fail
              clear HM7 HB7 HC7 m1 mf ml htm hte
              generalize (wr.setCell ⟨w.heap.size, r, none⟩ (.int .i64 3)).alloc (.cells #[.int .i64 5, .int .i64 6, .int .i64 3] 3) = w8 at *
              obtain ⟨⟨x2, m1⟩, mf⟩ := HM8.out.cell r hrn
              have ml := HM8.out.lt
              by_cases hl : pc = q - 1
              · have hlb : ((pc : Int) == ((q - 1 : Nat) : Int)) = true := by rw [hl]; simp
                obtain ⟨t3, ht3, ht4⟩ : ∃ t : Nat, q % 3 = t ∧ (q : Int).tmod 3 = (t : Int) := ⟨_, rfl, (Int.ofNat_tmod q 3).symm⟩
                by_cases hq : t3 = 1
                · have HV6 := Lib.hid (HCP.out.trans (if_pos ⟨hl, ht3.trans hq⟩))
                  subst hq
                  have HM9 := Lib.hid (HM8.out.store r (.int .i64 6)).again
                  have HB9 := Lib.hid (HB8.out.setCell (p := ⟨w.heap.size, r, none⟩) (Nat.le_refl _) (.int .i64 6))
                  have HC9 := Lib.hid (HC8.out.set (p := ⟨w.heap.size, r, none⟩) (Nat.lt_succ_self _) (.int .i64 6))
                  clear hl ht3
                  go_wp2_with fail
                  exact ⟨⟨r + 1, hrn, by go_num, Lib.hid (HM9.out.fin (by rw [HV6.out]; rfl)), HB9, HC9⟩, by simp [intOf]; omega⟩
                · have HV6 := Lib.hid (HCP.out.trans (if_neg (fun h => hq (ht3.symm.trans h.2))))
                  have ht5 : ((t3 : Int) == 1) = false := by simp; omega
                  clear hl ht3
                  go_wp2_with fail
                  exact ⟨⟨r + 1, hrn, by go_num, Lib.hid (HM8.out.fin (by rw [HV6.out, if_neg (by omega), if_neg (by omega)]; rfl)), HB8, HC8⟩, by simp [intOf]; omega⟩
              · have HV6 := Lib.hid (HCP.out.trans (if_neg (fun h => hl h.1)))
                have hlb : ((pc : Int) == ((q - 1 : Nat) : Int)) = false := by simp; omega
                clear hl
                go_wp2_with fail
                exact ⟨⟨r + 1, hrn, by go_num, Lib.hid (HM8.out.fin (by rw [HV6.out, if_neg (by omega), if_neg (by omega)]; rfl)), HB8, HC8⟩, by simp [intOf]; omega⟩
    · obtain rfl : r = n := by omega
      go_wp2
      go_ret
      exact ⟨_, rfl, by unfold coloursL; rw [HN.out, HCS.out]; exact HM.out.row, HB.out⟩

end Go.Proofs.Ytbnjajhhbcnepaa
