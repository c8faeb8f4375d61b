/-
  What the law PathCount does to any world (no claim is made here).
-/
import Derived.Test.YthipookenpmfpaaPthK
import Derived.Test.YthipookenpmfpaaPthM
namespace Go.Proofs.Ythipookenpmfpaa
open Go.RowKit Go.Maps

/-- A map of the law's, of which the count is known. -/
def CMap (w : World) (b : Nat) (ps : List Pt) : Prop := ∃ (n : Nat) (D : DataW Unit), w.ownsMap Try.prog 38 (plainElem Try.prog 3) b n D ∧ n ≤ ps.length ∧ Counts D ps
theorem CMap.lt {w : World} {b : Nat} {ps : List Pt} (h : CMap w b ps) : b < w.heap.size := by obtain ⟨n, D, h, _⟩ := h; exact h.lt
theorem CMap.below {w w' : World} {b : Nat} {ps : List Pt} (h : CMap w b ps) (hb : Below w.heap.size w w') : CMap w' b ps := by
  obtain ⟨n, D, ⟨es, clock, e, r⟩, h2⟩ := h
  have hlt : b < w.heap.size := (Array.getElem?_eq_some_iff.1 e).1
  exact ⟨n, D, ⟨es, clock, (hb.block b hlt).trans e, r⟩, h2⟩
theorem CMap.grown {w w' : World} {b b' : Nat} {ps : List Pt} (h : CMap w b ps) (hg : w.grownBy w' (some b')) (hne : b ≠ b') : CMap w' b ps := by
  obtain ⟨n, D, h1, h2⟩ := h
  exact ⟨n, D, h1.kept hg (fun e => hne (by injection e)), h2⟩
theorem CMap.drew {w : World} {b : Nat} {ps : List Pt} (h : CMap w b ps) : CMap w.drew b ps := h
theorem i64_wf {x : Int} (h : -9223372036854775808 ≤ x ∧ x ≤ 9223372036854775807) : (Lit.int .i64 x).wf = true := WalkArith.wf_i64 h
/-- 'm[p]++' in its parts, for the walk. -/
theorem CMap.bump {w : World} {b : Nat} {ps : List Pt} (h : CMap w b ps) (hl : ps.length ≤ 2000) (hr : ∀ q ∈ ps, inR q) {p : Pt} (hp : inR p) :
    ∃ (c : Int) (v0 : Value) (st : Nat) (w2 w3 : World), (0 ≤ c ∧ c ≤ 2000) ∧ (Instr.lookup 41 (.map (some b)) (ptVal p) false).run Try.prog w = .ok (.int .i64 c) w ∧
      (Instr.mapEntry 41 (.map (some b)) (ptVal p)).run Try.prog w = .ok (.tuple #[v0, .int .i64 st]) w2 ∧ (Instr.lookup 41 (.map (some b)) (ptVal p) false).run Try.prog w2 = .ok (.int .i64 c) w2 ∧
      (Instr.entryStore 41 (.map (some b)) (.int .i64 st) (.int .i64 (c + 1))).run Try.prog w2 = .ok () w3 ∧ CMap w3 b (ps ++ [p]) ∧ w.grownBy w3 (some b) := by
  obtain ⟨n, D, h1, h2, h3⟩ := h
  obtain ⟨c, v0, st, w2, q1, q2, q3, q4, q5⟩ := Go.Proofs.Ythipookenpmfpaa.bump h1 (by unfold maxLen; omega) hp
  have hc := counts_at h3 hr hp q2
  have hcl := List.count_le_length (a := p) (l := ps)
  obtain ⟨w3, r1, r2, r3⟩ := q5 (c + 1) (i64_wf (by omega))
  exact ⟨c, v0, st, w2, w3, by omega, q1, q4, look_behind h1 (by unfold maxLen; omega) hp q4 q2, r1, ⟨n + 1, _, r2, by rw [List.length_append]; simp; omega, counts_put h3 hr h1.isMap hp q2⟩, r3⟩
theorem CMap.made (w : World) : CMap (w.alloc (.map #[] 0)) w.heap.size [] := ⟨0, .map [], World.ownsMap_made w _ _ _, Nat.le_refl _, counts_nil⟩

theorem off_step {c : List Vtx} {j : Nat} {v : Vtx} (h : c[j]? = some v) : offPts (c.take (j + 1)) = offPts (c.take j) ++ if v.on = true then [] else [⟨2 * v.x, 2 * v.y⟩] := by
  rw [take_push c j v h]
  unfold offPts
  rw [List.filter_append, List.map_append]
  cases hv : v.on <;> simp [hv, ptV, two]
theorem off_len (c : List Vtx) : (offPts c).length ≤ c.length := by
  unfold offPts
  rw [List.length_map]
  exact List.length_filter_le _ _
theorem off_in {c : List Vtx} (h : ∀ v ∈ c, smallV v) : ∀ p ∈ offPts c, inR p := by
  intro p hp
  obtain ⟨v, hv, rfl⟩ := List.mem_map.1 hp
  have := h v (List.mem_filter.1 hv).1
  unfold smallV at this
  exact ⟨i64_wf (by simp only [ptV]; omega), i64_wf (by simp only [ptV]; omega)⟩
theorem curve_step {l : List Sg} {j : Nat} {s : Sg} (h : l[j]? = some s) : curveBs (l.take (j + 1)) = curveBs (l.take j) ++ if s.curve = true then [s.b] else [] := by
  rw [take_push l j s h]
  unfold curveBs
  rw [List.filter_append, List.map_append]
  cases hv : s.curve <;> simp [hv]
theorem segs_bin {c : List Vtx} (h : ∀ v ∈ c, smallV v) : ∀ s ∈ segsS c, inR s.b := by
  intro s hs
  obtain ⟨_, hb, _⟩ := in_segs h s hs
  unfold inP at hb
  exact ⟨i64_wf (by omega), i64_wf (by omega)⟩
theorem curve_len (l : List Sg) : (curveBs l).length ≤ l.length := by
  unfold curveBs
  rw [List.length_map]
  exact List.length_filter_le _ _

theorem CMap.ne {w : World} {g : Nat} {ps : List Pt} (h : CMap w g ps) {a : Addr} {v : Value} (hc : w.cell? a = some v) : a.block ≠ g := by
  obtain ⟨n, D, ⟨es, clock, e, _⟩, _⟩ := h
  intro hh
  unfold World.cell? at hc
  rw [hh, e] at hc
  cases hc
theorem srd_grown {w w' : World} {v : Value} {l : List Sg} {g : Nat} {ps : List Pt} (h : SRd w v l) (hm : CMap w g ps) (hg : w.drew.grownBy w' (some g)) : SRd w' v l := by
  obtain ⟨A, cap, e, h1, h3⟩ := h
  refine ⟨A, cap, e, h1, fun i hi => ?_⟩
  obtain ⟨a, ha, hlt, p0, p1, p2, p3, p4, p5, p6⟩ := h3 i hi
  have hne : a.block ≠ g := by have := hm.ne p0; rwa [block_add] at this
  have k : ∀ j, w'.cell? (a.add j) = w.cell? (a.add j) := fun j => World.cell?_of_block (hg.block _ (by rw [block_add]; exact hlt) (fun e => hne (by rw [block_add] at e; injection e)))
  exact ⟨a, ha, Nat.lt_of_lt_of_le hlt hg.size, (k _).trans p0, (k _).trans p1, (k _).trans p2, (k _).trans p3, (k _).trans p4, (k _).trans p5, (k _).trans p6⟩
theorem inv_pt (key : Value) (kl : Lit) (h : keyOf Try.prog 38 key = some kl) : ∃ x : Int × Int, key = .agg #[.int .i64 x.1, .int .i64 x.2] := by
  obtain ⟨p, rfl, _⟩ := keyOf_pt_inv h
  exact ⟨(p.x, p.y), rfl⟩
theorem inv_int (v : Value) (y : DataW Unit × List MemPlace) (h : plainElem Try.prog 3 v = some y) : ∃ c : Int, v = .int .i64 c := by
  obtain ⟨c, rfl, _⟩ := plainElem_int_inv Try.underlying3 h
  exact ⟨c, rfl⟩

set_option maxRecDepth 100000 in
set_option maxHeartbeats 3200000 in
theorem pathCount_walk (A : Option Addr) (n cap : Nat) (cs : List (List Dot)) (w : World) (hcs : DotRows w A n cap cs) :
    Calls Try.prog 6 #[.slice A n cap] w fun e w' => e = .returned (.bool true) ∧ Below w.heap.size w w' := by
  have HD := Lib.hid hcs
  have HSM := Lib.hid (outline_small cs)
  obtain ⟨o, ho⟩ : ∃ o, outlineS cs = o := ⟨_, rfl⟩
  rw [ho] at HSM
  have HO := Lib.hid ho
  clear hcs ho
  go_enter Try.func6, Try.ntmps6
  go_wp2_with fail
  refine (awake5 _).mono ?_
  rintro e w1 ⟨rfl, hb1⟩
  have HC := Lib.hid (outline_any A n cap cs w1 (HD.out.keep hb1))
  have HB1 := Lib.hid hb1
  clear hb1
  go_wp2_with fail
  refine HC.out.mono ?_
  rintro e w2 ⟨v, rfl, hol, hb2⟩
  rw [HO.out] at hol
  have HB2 := Lib.hid (HB1.out.trans (hb2.mono HB1.out.size))
  obtain ⟨Ao, capo, rfl⟩ := hol.form
  have HRD := Lib.hid hol.read
  obtain ⟨N, hN⟩ : ∃ N, o.length = N := ⟨_, rfl⟩
  rw [hN] at HRD
  rw [hN]
  have hN8 : N ≤ 8 := by rw [← hN]; exact HSM.out.1
  have HN := Lib.hid hN
  have hfld := fun w => run_contours (.slice Ao N capo) rfl w
  clear hol hb2 HC HB1 hN
  go_wp2_with fail
  go_loopw [19] (fun i wr => ∃ r : Nat, r ≤ N ∧ i = .int .i64 r ∧ Hid (Below w2.heap.size w2 wr)) (fun i _ => N - (intOf i).toNat)
  case atStart => exact ⟨0, Nat.zero_le _, rfl, Lib.hid (Below.refl _ _)⟩
  case round =>
    obtain ⟨r, hr, rfl, HW⟩ := hrel
    clear hfld
    by_cases hrn : r < N
    · have hrb : decide ((r : Int) < N) = true := by simp; omega
      obtain ⟨c, hc⟩ : ∃ c, o[r]? = some c := ⟨_, List.getElem?_eq_getElem (by rw [HN.out]; exact hrn)⟩
      obtain ⟨a, u, rfl, hlt, hcell, hrow⟩ := (HRD.out.keep HW.out).at r c hc
      have hcm := List.mem_of_getElem? hc
      obtain ⟨hc1, hc2⟩ := HSM.out.2 c hcm
      have HROW := Lib.hid hrow
      obtain ⟨Ac, capc, rfl, hcapc, -⟩ := hrow
      obtain ⟨L, hL⟩ : ∃ L, c.length = L := ⟨_, rfl⟩
      rw [hL] at hcell hcapc HROW hc1
      have HL := Lib.hid hL
      have HC2 := Lib.hid hc2
      have hmm := @run_makeMap Try.prog
      have M1 := Lib.hid ((CMap.made wr).below ((Below.refl _ (wr.alloc (.map #[] 0))).alloc (Nat.le_refl _) (.map #[] 0)))
      have M2 := Lib.hid (CMap.made (wr.alloc (.map #[] 0)))
      rw [World.size_alloc] at M2
      have MB : Hid (Below wr.heap.size wr ((wr.alloc (.map #[] 0)).alloc (.map #[] 0))) := Lib.hid (((Below.refl _ wr).alloc (Nat.le_refl _) _).alloc (by simp) _)
      obtain ⟨w0, rfl⟩ : ∃ w0, w0 = wr := ⟨_, rfl⟩
      clear hc hcm hL hc2
      go_wp2_with fail
      generalize (w0.alloc (.map #[] 0)).alloc (.map #[] 0) = W0 at *
      obtain ⟨g1, hg1⟩ : ∃ g, w0.heap.size = g := ⟨_, rfl⟩
      obtain ⟨g2, hg2⟩ : ∃ g, w0.heap.size + 1 = g := ⟨_, rfl⟩
      rw [hg1] at M1
      rw [hg2] at M2
      rw [hg2, hg1]
      have hg12 : g1 ≠ g2 := by omega
      have hgz : w0.heap.size ≤ g1 ∧ w0.heap.size ≤ g2 := by omega
      clear hg1 hg2 hmm hcell
      go_loopw [27] (fun i wr => ∃ j : Nat, j ≤ L ∧ i = .int .i64 j ∧ Hid (CMap wr g1 (offPts (c.take j))) ∧ Hid (CMap wr g2 []) ∧ Hid (Below w0.heap.size w0 wr)) (fun i _ => L - (intOf i).toNat)
      case atStart => exact ⟨0, Nat.zero_le _, rfl, M1, M2, MB⟩
      case round =>
        obtain ⟨j, hj, rfl, K1, K2, KB⟩ := hrel
        clear M1 M2 MB
        by_cases hjL : j < L
        · have hjb : decide ((j : Int) < L) = true := by simp; omega
          obtain ⟨d, hd⟩ : ∃ d, c[j]? = some d := ⟨_, List.getElem?_eq_getElem (by rw [HL.out]; exact hjL)⟩
          obtain ⟨ad, rfl, had, x0, x1, x2⟩ := (HROW.out.keep KB.out).at j d hd
          have hds := HC2.out d (List.mem_of_getElem? hd)
          have HST := Lib.hid (off_step hd)
          have hoff : ∀ q ∈ offPts (c.take j), inR q := off_in (fun v hv => HC2.out v (List.mem_of_mem_take hv))
          have hlen : (offPts (c.take j)).length ≤ 2000 := by have := off_len (c.take j); rw [List.length_take] at this; omega
          obtain ⟨⟨d1, d2⟩, d3, d4⟩ := hds
          obtain ⟨dx, dy, don⟩ := d
          simp only [] at x0 x1 x2 d1 d2 d3 d4
          have hba : Below wr.heap.size wr (wr.alloc (.cells #[.int .i64 dx, .int .i64 dy, .bool don] 36)) := (Below.refl _ wr).alloc (Nat.le_refl _) _
          have KA := KB.out.alloc KB.out.size (.cells #[.int .i64 dx, .int .i64 dy, .bool don] 36)
          cases don with
          | true =>
            have e1 : offPts (c.take (j + 1)) = offPts (c.take j) := by rw [HST.out]; simp
            have N1 := K1.out.below hba
            rw [← e1] at N1
            have HN1 := Lib.hid N1
            have HN2 := Lib.hid (K2.out.below hba)
            have HNB := Lib.hid KA
            clear hd hba KA e1 N1 hoff hlen
            go_wp2_with fail
            exact ⟨⟨j + 1, by omega, by go_num, HN1, HN2, HNB⟩, by simp [intOf]; omega⟩
          | false =>
            have e1 : offPts (c.take (j + 1)) = offPts (c.take j) ++ [⟨2 * dx, 2 * dy⟩] := by rw [HST.out]; simp
            obtain ⟨cc, v0, st, w3, w4, ⟨hc0, hc9⟩, r1, r2, r0, r3, r4, r5⟩ := ((K1.out.below hba).drew).bump hlen hoff (p := ⟨2 * dx, 2 * dy⟩) ⟨i64_wf (by simp only []; omega), i64_wf (by simp only []; omega)⟩
            rw [← e1] at r4
            have HN1 := Lib.hid r4
            have HN2 := Lib.hid (((K2.out.below hba).drew).grown r5 (fun e => hg12 e.symm))
            have HNB := Lib.hid (KA.drew.grown r5 (by have := KA.size; simpa using this) (fun q hq => by cases hq; exact hgz.1))
            simp only [ptVal] at r1 r2 r0
            have wx : IntKind.i64.wrap (2 * dx) = 2 * dx := IntWalk.i64_in _ (by omega)
            have wy : IntKind.i64.wrap (2 * dy) = 2 * dy := IntWalk.i64_in _ (by omega)
            have wc : IntKind.i64.wrap (cc + 1) = cc + 1 := IntWalk.i64_in _ (by omega)
            clear hd hba KA e1 hoff hlen r4 r5
            go_wp2_with fail
            go_region
            all_goals
              go_wp2_with fail
              exact ⟨⟨j + 1, by omega, by go_num, HN1, HN2, HNB⟩, by simp [intOf]; omega⟩
        · obtain rfl : j = L := by omega
          have ht : c.take j = c := List.take_of_length_le (by rw [HL.out]; exact Nat.le_refl _)
          rw [ht] at K1
          have HS := Lib.hid (segs_any _ c wr (HROW.out.keep KB.out) (by rw [HL.out]; exact hc1) HC2.out)
          have HCC := Lib.hid (curves_count c)
          have HIS : Hid (∀ s ∈ segsS c, inR s.b) := Lib.hid (segs_bin HC2.out)
          have HSL : Hid ((segsS c).length ≤ 1001) := Lib.hid (by have h := segs_len c; rw [HL.out] at h; omega)
          generalize segsS c = l at *
          clear ht hjL
          go_wp2_with fail
          refine HS.out.mono ?_
          rintro e w3 ⟨u3, rfl, hu3, hb3⟩
          obtain ⟨Al, capl, e3⟩ := SRow.form hu3
          subst e3
          obtain ⟨M, hM⟩ : ∃ M, l.length = M := ⟨_, rfl⟩
          rw [hM] at hu3
          rw [hM]
          have hM2 : M ≤ 1001 := by rw [← hM]; exact HSL.out
          have HM := Lib.hid hM
          have HU3 := Lib.hid hu3.read
          have HK1 := Lib.hid (K1.out.below hb3)
          have HK2 : Hid (CMap w3 g2 (curveBs (l.take 0))) := Lib.hid (K2.out.below hb3)
          have HKB := Lib.hid (KB.out.trans (hb3.mono KB.out.size))
          have hz3 : w0.heap.size ≤ w3.heap.size := HKB.out.size
          have hg1z := HK1.out.lt
          have hg2z := HK2.out.lt
          clear hu3 hb3 HS K1 K2 KB hM
          go_wp2_with fail
          go_loopw [50] (fun i wr => ∃ k : Nat, k ≤ M ∧ i = .int .i64 k ∧ Hid (CMap wr g1 (offPts c)) ∧ Hid (CMap wr g2 (curveBs (l.take k))) ∧ Hid (SRd wr (.slice Al M capl) l) ∧ Hid (Below w0.heap.size w0 wr)) (fun i _ => M - (intOf i).toNat)
          case atStart => exact ⟨0, Nat.zero_le _, rfl, HK1, HK2, HU3, HKB⟩
          case round =>
            obtain ⟨k, hk, rfl, K1, K2, KS, KB⟩ := hrel
            clear HK1 HK2 HKB HU3
            by_cases hkM : k < M
            · have hkb : decide ((k : Int) < M) = true := by simp; omega
              obtain ⟨s, hs⟩ : ∃ s, l[k]? = some s := ⟨_, List.getElem?_eq_getElem (by rw [HM.out]; exact hkM)⟩
              obtain ⟨al, rfl, hal, x0, x1, x2, x3, x4, x5, x6⟩ := KS.out.at k s hs
              have hsb := HIS.out s (List.mem_of_getElem? hs)
              have HST := Lib.hid (curve_step hs)
              have hoff : ∀ q ∈ curveBs (l.take k), inR q := fun q hq => by
                obtain ⟨t, ht, rfl⟩ := List.mem_map.1 hq
                exact HIS.out t (List.mem_of_mem_take (List.mem_filter.1 ht).1)
              have hlen : (curveBs (l.take k)).length ≤ 2000 := by have := curve_len (l.take k); rw [List.length_take] at this; omega
              obtain ⟨⟨ax, ay⟩, ⟨bx, by'⟩, ⟨cx, cy⟩, cv⟩ := s
              simp only [] at x0 x1 x2 x3 x4 x5 x6
              have hba : Below wr.heap.size wr (wr.alloc (.cells #[.int .i64 ax, .int .i64 ay, .int .i64 bx, .int .i64 by', .int .i64 cx, .int .i64 cy, .bool cv] 40)) := (Below.refl _ wr).alloc (Nat.le_refl _) _
              have KA := KB.out.alloc KB.out.size (.cells #[.int .i64 ax, .int .i64 ay, .int .i64 bx, .int .i64 by', .int .i64 cx, .int .i64 cy, .bool cv] 40)
              cases cv with
              | false =>
                have e1 : curveBs (l.take (k + 1)) = curveBs (l.take k) := by rw [HST.out]; simp
                have N2 := K2.out.below hba
                rw [← e1] at N2
                have HN1 := Lib.hid (K1.out.below hba)
                have HN2 := Lib.hid N2
                have HNS := Lib.hid (KS.out.keep hba)
                have HNB := Lib.hid KA
                clear hs hba KA e1 N2 hoff hlen hsb
                go_wp2_with fail
                exact ⟨⟨k + 1, by omega, by go_num, HN1, HN2, HNS, HNB⟩, by simp [intOf]; omega⟩
              | true =>
                have e1 : curveBs (l.take (k + 1)) = curveBs (l.take k) ++ [⟨bx, by'⟩] := by rw [HST.out]; simp
                obtain ⟨cc, v0, st, w4, w5, ⟨hc0, hc9⟩, r1, r2, r0, r3, r4, r5⟩ := ((K2.out.below hba).drew).bump hlen hoff (p := ⟨bx, by'⟩) hsb
                rw [← e1] at r4
                have HN1 := Lib.hid (((K1.out.below hba).drew).grown r5 hg12)
                have HN2 := Lib.hid r4
                have HNS := Lib.hid (srd_grown (KS.out.keep hba) (K2.out.below hba) r5)
                have HNB := Lib.hid (KA.drew.grown r5 (by have := KA.size; simpa using this) (fun q hq => by cases hq; exact hgz.2))
                simp only [ptVal] at r1 r2 r0
                have wc : IntKind.i64.wrap (cc + 1) = cc + 1 := IntWalk.i64_in _ (by omega)
                clear hs hba KA e1 hoff hlen r4 r5 hsb
                go_wp2_with fail
                go_region
                all_goals
                  go_wp2_with fail
                  exact ⟨⟨k + 1, by omega, by go_num, HN1, HN2, HNS, HNB⟩, by simp [intOf]; omega⟩
            · obtain rfl : k = M := by omega
              have ht : l.take k = l := List.take_of_length_le (by rw [HM.out]; exact Nat.le_refl _)
              rw [ht] at K2
              obtain ⟨n1, D1, h1, hn1, q1⟩ := K1.out
              obtain ⟨n2, D2, h2, hn2, q2⟩ := K2.out
              obtain rfl : D1 = D2 := counts_ext q1 q2 HCC.out (h1.canon lawK) (h2.canon lawK)
              have H1 := Lib.hid h1
              have H2 := Lib.hid h2
              clear ht K1 K2 h1 h2 q1 q2 hn1 hn2
              go_wp2_with (first
                | (at_len; refine wpList_len_own _ rfl _ 41 rfl 38 3 Try.underlying41 _ g1 n1 D1 rfl H1.out ?_)
                | (at_len; refine wpList_len_own _ rfl _ 41 rfl 38 3 Try.underlying41 _ g2 n2 D1 rfl H2.out ?_)
                | (at_range; refine wpList_range_own _ rfl _ 41 rfl 38 3 lawK Try.underlying41 _ g1 n1 D1 rfl H1.out ?_; intro w4 hrg0 hg0 hs0))
              go_frame
              have hne2 : g2 ≠ wr.heap.size := by have := H2.out.lt; omega
              have hle0 := KB.out.size
              have HR0 := Lib.hid hrg0
              have HM2 := Lib.hid (H2.out.kept hg0 (by simp))
              have HB4 := Lib.hid (KB.out.grown hg0 (by omega) (fun q hq => by cases hq))
              obtain ⟨r0, hr0⟩ : ∃ r0, wr.heap.size = r0 := ⟨_, rfl⟩
              rw [hr0] at HR0 hne2 hle0
              rw [hr0]
              clear hrg0 hg0 hs0 H1 H2 KB hr0
              go_loopw [12] (fun _ wr => ∃ (left : Lit → Bool) (cnt : Nat), Hid (wr.ranges Try.prog 38 (plainElem Try.prog 3) g1 r0 n1 D1 left cnt) ∧ Hid (wr.ownsMap Try.prog 38 (plainElem Try.prog 3) g2 n2 D1) ∧ Hid (Below w0.heap.size w0 wr)) (fun _ wr => wr.rangeLeft g1 r0)
              case atStart => exact ⟨_, _, HR0, HM2, HB4⟩
              case round =>
                obtain ⟨left, cnt, HR, HM, HB⟩ := hrel
                clear HR0 HM2 HB4
                have hl1 := HR.out.lt
                go_wp2_with (at_next; refine wpList_next_ranges _ rfl _ rfl 38 lawK (plainElem (H := Unit) Try.prog 3) (fun x : Int × Int => .agg #[.int .i64 x.1, .int .i64 x.2]) (Value.int .i64) inv_pt inv_int g1 r0 n1 D1 left cnt rfl HR.out ?_ ?_)
                · intro _ _
                  have HWF := Lib.hid (HW.out.trans (HB.out.mono HW.out.size))
                  go_wp2_with fail
                  exact ⟨⟨r + 1, by omega, by go_num, HWF⟩, by simp [intOf]; omega⟩
                · intro x0 x1 cc kl y yp w5 cnt5 hkey hlk hv hat hrg5 hlt5 hg5 hs5 hen
                  obtain ⟨c', ec, ey, hwc⟩ := plainElem_int_inv Try.underlying3 hv
                  injection ec with _ ec
                  subst ec
                  have ey1 : y = .lit (.int .i64 cc) := congrArg Prod.fst ey
                  have HR5 := Lib.hid (hrg5.alloc (.cells #[.int .i64 x0, .int .i64 x1] 38))
                  have hm5 := (HM.out.kept hg5 (fun e => hne2 (by injection e))).alloc (.cells #[.int .i64 x0, .int .i64 x1] 38)
                  have HM5 := Lib.hid hm5
                  have hB5 := HB.out.grown hg5 (by omega) (fun q hq => by cases hq; exact hle0)
                  have HB5 := Lib.hid (hB5.alloc hB5.size (.cells #[.int .i64 x0, .int .i64 x1] 38))
                  have HKEY := Lib.hid hkey
                  have HAT : Hid (∀ zd, D1.atKey kl zd = .lit (.int .i64 cc)) := Lib.hid (fun zd => by rw [hat zd, ey1])
                  have HLT := Lib.hid hlt5
                  clear hkey hlk hv hat hrg5 hlt5 hg5 hm5 hB5 ey ey1 hwc
                  go_wp2_with (at_lookup; refine wpList_lookup_own_int _ rfl _ _ 41 rfl 38 3 .i64 lawK Try.underlying41 Try.underlying3 (zeroInt _) g2 n2 D1 rfl HM5.out _ _ rfl HKEY.out ?_; intro c5 hat5 hw5; obtain rfl : cc = c5 := (by have h := HAT.out (.lit (.int .i64 0)); rw [hat5] at h; injection h with h; injection h with _ h; exact h.symm))
                  exact ⟨⟨_, cnt5, HR5, HM5, HB5⟩, by rw [HR5.out.left_eq, HR.out.left_eq]; exact HLT.out⟩
    · obtain rfl : r = N := by omega
      have HF := Lib.hid (HB2.out.trans (HW.out.mono HB2.out.size))
      go_wp2
      go_ret
      exact ⟨rfl, HF.out⟩

end Go.Proofs.Ythipookenpmfpaa
