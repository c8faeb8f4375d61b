/-
  What the law's Glyph does to any world (no claim is made here).
-/
import Derived.Test.YtglmgenifjaakaaFlt10
namespace Go.Proofs.Ytglmgenifjaakaa
open Go.RowKit

theorem run_minD {P : Program} (ats : Array TypeId) (ty : TypeId) (a b m : Int) (h : (if b < a then b else a) = m) (w : World) :
    Sem.run P (Builtin.min_ ats ty #[.int .i64 a, .int .i64 b]) w = .ok (.int .i64 m) w := by
  subst h
  simp [Builtin.min_, Builtin.min2]
theorem DotRow.take {w : World} {A : Option Addr} {n cap : Nat} {c : List Dot} (h : DotRow w (.slice A n cap) c) (k : Nat) (hk : k ≤ c.length) : DotRow w (.slice A k cap) (c.take k) := by
  obtain ⟨A', cap', e, h1, h2, h3⟩ := h
  simp only [Value.slice.injEq] at e
  obtain ⟨rfl, _, rfl⟩ := e
  refine ⟨A, cap, by rw [List.length_take, Nat.min_eq_left hk], by rw [List.length_take]; omega, h2, fun i hi => ?_⟩
  rw [List.length_take] at hi
  obtain ⟨a, ha, hlt, r⟩ := h3 i (by omega)
  rw [List.getElem_take]
  exact ⟨a, ha, hlt, r⟩
theorem drinfo : (Try.prog.info? 45).map (fun i => (i.zero, i.size, i.bytes)) = some (some (.slice none 0 0), 1, 24) := by kernel_rfl
/-- A row of ours of contours that came in. -/
def FewD (w0 w : World) (base : Nat) (u : Value) (fo : List (List Dot)) : Prop := ∃ us : List Value, us.length = fo.length ∧ w.ownsRow base 45 1 u fo.length us ∧ ∀ i (h : i < us.length) (h' : i < fo.length), DotRow w0 us[i] fo[i]
theorem FewD.nil (w0 w : World) (base : Nat) : FewD w0 w base (.slice none 0 0) [] := ⟨[], rfl, World.ownsRow_nil _ _ _ _, fun _ h => absurd h (Nat.not_lt_zero _)⟩
theorem FewD.read {w0 w : World} {base : Nat} {u : Value} {fo : List (List Dot)} (h : FewD w0 w base u fo) (hb : Below w0.heap.size w0 w) : ∃ A cap, u = .slice A fo.length cap ∧ DotRows w A fo.length cap fo := by
  obtain ⟨us, h1, h2, h3⟩ := h
  rcases h2.2 with ⟨rfl, h0⟩ | ⟨g, cap, cur, rfl, _, hg, hl, hm, _, _⟩
  · have : fo = [] := List.eq_nil_of_length_eq_zero h0
    subst this
    exact ⟨none, 0, rfl, rfl, Nat.le_refl _, by simp [maxLen], fun i hi => absurd hi (Nat.not_lt_zero _)⟩
  · exact ⟨_, cap, rfl, rfl, hl, hm, fun r hr => ⟨_, us[r]'(by omega), rfl, (h2.lt g rfl).2, h2.cells rfl r _ (List.getElem?_eq_getElem (by omega)), (h3 r (by omega) hr).keep hb⟩⟩
theorem FewD.push {w0 w1 : World} {base g cap n : Nat} {v : Value} {us : List Value} {fo : List (List Dot)} {c : List Dot} (h1 : us.length = fo.length) (h3 : ∀ i (h : i < us.length) (h' : i < fo.length), DotRow w0 us[i] fo[i]) (hv : DotRow w0 v c) (hn : fo.length = n)
    (hown : w1.ownsRow base 45 1 (.slice (some ⟨g, 0, none⟩) (n + 1) cap) (n + 1) (us ++ [v])) : FewD w0 w1 base (.slice (some ⟨g, 0, none⟩) (n + 1) cap) (fo ++ [c]) := by
  refine ⟨us ++ [v], by simp [h1], by rw [List.length_append, hn]; exact hown, fun i h h' => ?_⟩
  by_cases hi : i < us.length
  · rw [List.getElem_append_left hi, List.getElem_append_left (by omega)]
    exact h3 i hi (by omega)
  · obtain rfl : i = us.length := by simp at h; omega
    have e1 : (us ++ [v])[us.length] = v := by simp
    have e2 : (fo ++ [c])[us.length]'h' = c := by simp [h1]
    rw [e1, e2]
    exact hv
theorem fewD_step (o : List (List Dot)) (r : Nat) (c : List Dot) (h : o[r]? = some c) (m : Nat) (hm : m = min c.length 6) : (o.take (r + 1)).map (List.take 6) = (o.take r).map (List.take 6) ++ [c.take m] := by
  rw [take_next h, List.map_append]
  have : c.take 6 = c.take m := by
    by_cases h7 : 6 ≤ c.length
    · rw [show m = 6 by omega]
    · rw [List.take_of_length_le (by omega), List.take_of_length_le (by omega)]
  simp [this]

set_option maxRecDepth 100000 in
set_option maxHeartbeats 3200000 in
theorem glyph_more (A : Option Addr) (n cap : Nat) (cs : List (List Dot)) (w : World) (hcs : DotRows w A n cap cs) :
    Calls Try.prog 10 #[.slice A n cap] w fun e w' => ∃ u es fo, e = .returned u ∧ ERow w' w.heap.size u es ∧ es.length ≤ 100000 ∧ es = ((outlineS fo).map segsS).flatMap edgesS ∧ Below w.heap.size w w' := by
  have HD := Lib.hid hcs
  obtain ⟨hn, h1, -, h3⟩ := hcs
  have H3 := Lib.hid h3
  have HN := Lib.hid hn
  obtain ⟨K, hk⟩ : ∃ k : Nat, k = min n 3 := ⟨_, rfl⟩
  have hk1 : K ≤ n := by omega
  have hk3 : K ≤ 3 := by omega
  have HKK := Lib.hid hk
  clear h3 hn hk
  go_enter Try.func10, Try.ntmps10
  go_upto_region 2 with fail
  go_cut [10, 11, 12] (fun s10 s11 s12 wx => s10 = .slice A K cap ∧ s11 = .int .i64 K ∧ s12 = .int .i64 0 ∧ wx = w)
  case first =>
    have hk := HKK.out
    by_cases h8 : n ≤ 3
    · obtain rfl : K = n := by omega
      have h8' : (K : Int) ≤ 3 := by omega
      clear hk hk1
      go_wp2_with fail
      all_goals
        go_meet
        exact ⟨rfl, rfl, rfl, rfl⟩
    · obtain rfl : K = 3 := by omega
      have h8' : (3 : Int) < n := by omega
      clear hk hk1
      go_wp2_with fail
      all_goals
        go_meet
        exact ⟨rfl, rfl, rfl, rfl⟩
  case rest =>
    obtain ⟨rfl, rfl, rfl, rfl⟩ := hcut
    obtain ⟨w, rfl⟩ : ∃ x, x = wc := ⟨wc, rfl⟩
    have hKc : K ≤ cap := by omega
    go_wp2_with fail
    go_loopw [12, 3] (fun i u wr => ∃ r : Nat, r ≤ K ∧ i = .int .i64 r ∧ Hid (FewD w wr w.heap.size u ((cs.take r).map (List.take 6))) ∧ Hid (Below w.heap.size w wr)) (fun i _ _ => K - (intOf i).toNat)
    case atStart => exact ⟨0, Nat.zero_le _, rfl, Lib.hid (FewD.nil _ _ _), Lib.hid (Below.refl _ _)⟩
    case round =>
      obtain ⟨r, hr, rfl, HF, HB⟩ := hrel
      by_cases hrK : r < K
      · have hrb : decide ((r : Int) < K) = true := by simp; omega
        obtain ⟨a, u0, rfl, hal, hac, hrow⟩ := H3.out r (by have := HN.out; omega)
        replace hac := (HB.out.cell (p := a.add r) (by rw [block_add]; exact hal)).trans hac
        obtain ⟨c, hcr⟩ : ∃ c, c = cs[r]'(by have := HN.out; omega) := ⟨_, rfl⟩
        rw [← hcr] at hrow
        have HCR : Hid (cs[r]? = some c) := Lib.hid (by rw [hcr]; exact List.getElem?_eq_getElem _)
        obtain ⟨L, hL⟩ : ∃ L : Nat, c.length = L := ⟨_, rfl⟩
        obtain ⟨m, hm⟩ : ∃ m : Nat, m = min L 6 := ⟨_, rfl⟩
        have hrf : ∃ Ac capc, u0 = .slice Ac L capc ∧ L ≤ capc := by
          obtain ⟨Ac, capc, e, h1, _⟩ := hrow
          exact ⟨Ac, capc, by rw [← hL]; exact e, by omega⟩
        obtain ⟨Ac, capc, rfl, hLc⟩ := hrf
        have HV := Lib.hid (hrow.take m (by omega))
        have hmI : (if (6 : Int) < (L : Int) then (6 : Int) else (L : Int)) = (m : Int) := by split <;> omega
        have hmR := fun w => run_minD (P := Try.prog) #[3, 3] 3 _ _ _ hmI w
        have HST := Lib.hid (fewD_step cs r c HCR.out m (by rw [hL]; exact hm))
        have hmL : m ≤ L := by omega
        obtain ⟨us, g1, g2, g3⟩ := HF.out
        have hfl : ((cs.take r).map (List.take 6)).length = r := by rw [List.length_map, List.length_take]; have := HN.out; omega
        rw [hfl] at g2
        have HG1 := Lib.hid g1
        have HG2 := Lib.hid g2
        have HG3 := Lib.hid g3
        have HFL := Lib.hid hfl
        have hnb : (wr.alloc (.cells #[.slice Ac m capc] 45)).heap[wr.heap.size]? = some (.cells #[.slice Ac m capc] 45 (0, 0)) := heap_alloc_new _ _
        have HNB := Lib.hid hnb
        have huf := own_form g2
        have hbz := HB.out.size
        obtain ⟨i0, hi0, hz0, hz1, hz2⟩ := infos drinfo
        clear hrow hcr hL hm hmI hnb g1 g2 g3 hfl HF
        obtain ⟨Au, capu, rfl⟩ := huf
        go_wp2_with (at_builtin; refine wpList_append_lies _ rfl _ _ _ (by rfl) w.heap.size 45 i0 _ 1 24 Try.underlying22 hi0 hz0 hz1 hz2 (by rfl) (by omega) _ r _ (by rfl) (own_blocks HG2.out fun g hg => ((Below.refl _ wr).alloc (Nat.le_refl _) _).block g (HG2.out.lt g hg).2) ⟨wr.heap.size, 0, none⟩ 1 1 [.slice Ac m capc] (by rfl) (by rfl) (World.news_of_block HNB.out) (by simp [Value.oneCell']) (by omega) (by simp [maxLen]; omega) (by omega) (by simp; omega) (wr.heap.size + 1) (by simp) ?_; intro g cp w4 hown hgrow hat hlt)
        have FN := FewD.push (c := c.take m) HG1.out HG3.out HV.out HFL.out hown
        rw [← HST.out] at FN
        have BN : Below w.heap.size w w4 := (HB.out.alloc HB.out.size _).grown hgrow (by simp; omega) (fun q hq => (HG2.out.lt q hq).1)
        exact ⟨⟨r + 1, by omega, by go_num, Lib.hid FN, Lib.hid BN⟩, by simp [intOf]; omega⟩
      · obtain rfl : r = K := by omega
        obtain ⟨Af, capf, rfl, hdf⟩ := HF.out.read HB.out
        obtain ⟨fo, hfo⟩ : ∃ fo, (cs.take r).map (List.take 6) = fo := ⟨_, rfl⟩
        rw [hfo] at hdf
        rw [hfo]
        have HC := Lib.hid (outline_any Af fo.length capf fo wr hdf)
        have HSM := Lib.hid (outline_small fo)
        obtain ⟨nf, hnf⟩ : ∃ k, fo.length = k := ⟨_, rfl⟩
        rw [hnf] at HC
        rw [hnf]
        clear hdf hfo HF hnf
        go_wp2_with fail
        refine HC.out.mono ?_
        rintro e w5 ⟨v, rfl, hol, hb5⟩
        have HA := Lib.hid (all_any _ (outlineS fo) w5 hol.read HSM.out)
        have HB5 := Lib.hid (HB.out.trans (hb5.mono HB.out.size))
        obtain ⟨Ao, capo, rfl⟩ := hol.form
        have HPS := Lib.hid (pieces_small HSM.out)
        obtain ⟨N, hN⟩ : ∃ N, (outlineS fo).length = N := ⟨_, rfl⟩
        rw [hN] at HA
        rw [hN]
        clear hol hb5 HC hN
        go_wp2_with fail
        refine HA.out.mono ?_
        rintro e w6 ⟨Al, capl, rfl, hsr, hb6⟩
        have HFA := Lib.hid (fall_any _ _ w6 hsr HPS.out)
        have HB6 := Lib.hid (HB5.out.trans (hb6.mono HB5.out.size))
        clear hsr hb6 HA
        go_wp2_with fail
        refine HFA.out.mono ?_
        rintro e w7 ⟨u7, rfl, hu7, hb7⟩
        have HU7 := Lib.hid (hu7.mono HB6.out.size)
        have HB7 := Lib.hid (HB6.out.trans (hb7.mono HB6.out.size))
        have HLN := Lib.hid (show (((outlineS fo).map segsS).flatMap edgesS).length ≤ 100000 by
          have h := flat_len ((outlineS fo).map segsS) 1001 (fun d hd => (HPS.out.2 d hd).1)
          have h3 := Nat.mul_le_mul_right (4 * 1001) HPS.out.1
          omega)
        obtain ⟨A7, c7, e7⟩ := hu7.form
        obtain ⟨es, hes⟩ : ∃ es, ((outlineS fo).map segsS).flatMap edgesS = es := ⟨_, rfl⟩
        rw [hes] at HU7 HLN e7
        obtain ⟨n7, hn7⟩ : ∃ k, es.length = k := ⟨_, rfl⟩
        rw [hn7] at e7
        subst e7
        have HES := Lib.hid hes.symm
        clear hu7 hb7 HFA hes hn7
        go_wp2_with fail
        go_ret
        exact ⟨_, es, fo, rfl, HU7.out, HLN.out, HES.out, HB7.out⟩
theorem glyph_any (A : Option Addr) (n cap : Nat) (cs : List (List Dot)) (w : World) (hcs : DotRows w A n cap cs) :
    Calls Try.prog 10 #[.slice A n cap] w fun e w' => ∃ u es, e = .returned u ∧ ERow w' w.heap.size u es ∧ es.length ≤ 100000 ∧ Below w.heap.size w w' := by
  refine (glyph_more A n cap cs w hcs).mono ?_
  rintro e w' ⟨u, es, fo, rfl, h1, h2, _, h3⟩
  exact ⟨u, es, rfl, h1, h2, h3⟩

end Go.Proofs.Ytglmgenifjaakaa
