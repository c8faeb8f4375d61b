/-
  What the law PathMove does to any world (no claim is made here).
-/
import Derived.Test.YthipookenpmfpaaPthM
namespace Go.Proofs.Ythipookenpmfpaa
open Go.RowKit

def thirdV (v : Vtx) : Vtx := ⟨v.x.tdiv 3, v.y.tdiv 3, v.on⟩
theorem tdiv3 (x : Int) (h : -255 ≤ x ∧ x ≤ 255) : -85 ≤ x.tdiv 3 ∧ x.tdiv 3 ≤ 85 := by
  have h1 : (x.tdiv 3).natAbs = x.natAbs / 3 := by
    have h := Int.natAbs_tdiv x 3
    rw [show (3 : Int).natAbs = 3 from rfl] at h
    exact h
  omega
theorem outline_in (cs : List (List Dot)) : ∀ c ∈ outlineS cs, ∀ v ∈ c, inV v := by
  obtain ⟨_, _, _, h4⟩ := checkS_zero (outlineS_check cs)
  exact fun c hc v hv => h4 v (List.mem_flatten.2 ⟨c, hc, hv⟩)
theorem third_small {v : Vtx} (h : inV v) : smallV (thirdV v) := by
  have h1 := tdiv3 v.x h.1
  have h2 := tdiv3 v.y h.2
  unfold smallV thirdV
  simp only []
  omega
theorem third_mv_small {v : Vtx} (h : inV v) {dx dy : Int} (hd : (-128 ≤ dx ∧ dx ≤ 127) ∧ -128 ≤ dy ∧ dy ≤ 127) : smallV (mvV dx dy (thirdV v)) := by
  have h1 := tdiv3 v.x h.1
  have h2 := tdiv3 v.y h.2
  unfold smallV mvV thirdV
  simp only []
  omega

/-- Two rows in blocks apart. -/
def Sep (u v : Value) : Prop := ∀ g, u.ownBlock = some g → v.ownBlock ≠ some g
theorem Sep.symm {u v : Value} (h : Sep u v) : Sep v u := fun g hv hu => h g hu hv
theorem Sep.kept {w w' : World} {base : Nat} {u v : Value} {c : List Vtx} (h : Sep u v) (hv : VRow w base v c) (hg : w.grownBy w' u.ownBlock) : VRow w' base v c := by
  refine World.ownsRow.kept hv hg ?_
  cases hb : v.ownBlock with
  | none => exact .inl rfl
  | some g => exact .inr (fun e => h g e.symm hb)
theorem Sep.grow {w : World} {base : Nat} {u v : Value} {c : List Vtx} {g n cap H : Nat} (h : Sep u v) (hv : VRow w base v c) (hH : w.heap.size ≤ H) (hat : u.ownBlock = some g ∨ g = H) : Sep (.slice (some ⟨g, 0, none⟩) n cap) v := by
  intro q hq hv'
  have : some g = some q := hq
  injection this with e
  subst e
  rcases hat with hat | rfl
  · exact h g hat hv'
  · have := (World.ownsRow.lt hv g hv').2
    omega

theorem VRow.pushA {w1 : World} {base g n cp : Nat} {l : List Vtx} {x y : Int} {b : Bool} (hn : l.length = n) (h : w1.ownsRow base 36 3 (.slice (some ⟨g, 0, none⟩) (n + 1) cp) (n + 1) (vcells l ++ [.int .i64 x, .int .i64 y, .bool b])) : VRow w1 base (.slice (some ⟨g, 0, none⟩) (n + 1) cp) (l ++ [⟨x, y, b⟩]) := by
  unfold VRow
  rw [List.length_append, hn, vcells_push]
  exact h

set_option maxRecDepth 100000 in
set_option maxHeartbeats 3200000 in
theorem pathMove_walk (A : Option Addr) (n cap : Nat) (cs : List (List Dot)) (dx dy : Int) (w : World) (hcs : DotRows w A n cap cs) (hdx : -128 ≤ dx ∧ dx ≤ 127) (hdy : -128 ≤ dy ∧ dy ≤ 127) :
    Calls Try.prog 7 #[.slice A n cap, .int .i8 dx, .int .i8 dy] w fun e w' => e = .returned (.bool true) ∧ Below w.heap.size w w' := by
  have HSM := Lib.hid (outline_small cs)
  have HIN := Lib.hid (outline_in cs)
  obtain ⟨o, ho⟩ : ∃ o, outlineS cs = o := ⟨_, rfl⟩
  rw [ho] at HSM HIN
  have HO := Lib.hid ho
  obtain ⟨dx1, dx2⟩ := hdx
  obtain ⟨dy1, dy2⟩ := hdy
  have B0 : Below w.heap.size w ((w.alloc (.cells #[.int .i8 dx] 42)).alloc (.cells #[.int .i8 dy] 42)) := ((Below.refl _ w).alloc (Nat.le_refl _) _).alloc (by simp) _
  have P4 := (Blk.new w 42 [.int .i8 dx] rfl).alloc (.cells #[.int .i8 dy] 42)
  have P5 := Blk.new (w.alloc (.cells #[.int .i8 dx] 42)) 42 [.int .i8 dy] (g := w.heap.size + 1) (by simp)
  have HD := Lib.hid (hcs.keep B0)
  have HB0 := Lib.hid B0
  have HP4 := Lib.hid P4
  have HP5 := Lib.hid P5
  clear hcs ho B0 P4 P5
  go_enter Try.func7, Try.ntmps7
  go_wp2_with fail
  generalize (w.alloc (.cells #[.int .i8 dx] 42)).alloc (.cells #[.int .i8 dy] 42) = W0 at *
  obtain ⟨g4, hg4⟩ : ∃ g, w.heap.size = g := ⟨_, rfl⟩
  obtain ⟨g5, hg5⟩ : ∃ g, w.heap.size + 1 = g := ⟨_, rfl⟩
  rw [hg4] at HP4
  rw [hg5] at HP5
  rw [hg5, hg4]
  clear hg4 hg5
  refine (awake5 _).mono ?_
  rintro e w1 ⟨rfl, hb1⟩
  have HC := Lib.hid (outline_any A n cap cs w1 (HD.out.keep hb1))
  have HB1 := Lib.hid hb1
  clear hb1
  go_wp2_with fail
  refine HC.out.mono ?_
  rintro e w2 ⟨v, rfl, hol, hb2⟩
  rw [HO.out] at hol
  have HB2 := Lib.hid (HB1.out.trans (hb2.mono HB1.out.size))
  obtain ⟨Ao, capo, rfl⟩ := hol.form
  have HRD := Lib.hid hol.read
  obtain ⟨N, hN⟩ : ∃ N, o.length = N := ⟨_, rfl⟩
  rw [hN] at HRD
  rw [hN]
  have hN8 : N ≤ 8 := by rw [← hN]; exact HSM.out.1
  have HN := Lib.hid hN
  have HQ4 := Lib.hid (HP4.out.keep HB2.out)
  have HQ5 := Lib.hid (HP5.out.keep HB2.out)
  have hfld := fun w => run_contours (.slice Ao N capo) rfl w
  clear hol hb2 HC HB1 hN HP4 HP5 HD
  go_wp2_with fail
  go_loopw [24] (fun i wr => ∃ r : Nat, r ≤ N ∧ i = .int .i64 r ∧ Hid (Below w2.heap.size w2 wr)) (fun i _ => N - (intOf i).toNat)
  case atStart => exact ⟨0, Nat.zero_le _, rfl, Lib.hid (Below.refl _ _)⟩
  case round =>
    obtain ⟨r, hr, rfl, HW⟩ := hrel
    clear hfld
    by_cases hrn : r < N
    · have hrb : decide ((r : Int) < N) = true := by simp; omega
      obtain ⟨c, hc⟩ : ∃ c, o[r]? = some c := ⟨_, List.getElem?_eq_getElem (by rw [HN.out]; exact hrn)⟩
      obtain ⟨a, u, rfl, hlt, hcell, hrow⟩ := (HRD.out.keep HW.out).at r c hc
      have hcm := List.mem_of_getElem? hc
      obtain ⟨hc1, -⟩ := HSM.out.2 c hcm
      have HCI := Lib.hid (HIN.out c hcm)
      have HROW := Lib.hid hrow
      obtain ⟨Ac, capc, rfl, hcapc, -⟩ := hrow
      obtain ⟨L, hL⟩ : ∃ L, c.length = L := ⟨_, rfl⟩
      rw [hL] at hcell hcapc HROW hc1
      have HL := Lib.hid hL
      obtain ⟨w0, rfl⟩ : ∃ w0, w0 = wr := ⟨_, rfl⟩
      clear hc hcm hL
      go_wp2_with fail
      clear hcell
      go_loopw [30, 9, 10] (fun i uf un wr => ∃ j : Nat, j ≤ L ∧ i = .int .i64 j ∧ Hid (VRow wr w0.heap.size un ((c.take j).map thirdV)) ∧ Hid (VRow wr w0.heap.size uf ((c.take j).map fun v => mvV dx dy (thirdV v))) ∧ Hid (Sep un uf) ∧ Hid (Below w0.heap.size w0 wr)) (fun i _ _ _ => L - (intOf i).toNat)
      case atStart => exact ⟨0, Nat.zero_le _, rfl, Lib.hid (World.ownsRow_nil _ _ _ _), Lib.hid (World.ownsRow_nil _ _ _ _), Lib.hid (fun g h => by cases h), Lib.hid (Below.refl _ _)⟩
      case round =>
        obtain ⟨j, hj, rfl, HN1, HF1, HSE, HJ⟩ := hrel
        by_cases hjL : j < L
        · have hjb : decide ((j : Int) < L) = true := by simp; omega
          obtain ⟨d, hd⟩ : ∃ d, c[j]? = some d := ⟨_, List.getElem?_eq_getElem (by rw [HL.out]; exact hjL)⟩
          obtain ⟨ad, rfl, had, x0, x1, x2⟩ := (HROW.out.keep HJ.out).at j d hd
          have hdi := HCI.out d (List.mem_of_getElem? hd)
          have ht1 := tdiv3 d.x hdi.1
          have ht2 := tdiv3 d.y hdi.2
          have HT1 := Lib.hid (take_push c j d hd)
          obtain ⟨⟨e1, e2⟩, e3, e4⟩ := hdi
          obtain ⟨px, py, pon⟩ := d
          simp only [] at x0 x1 x2 e1 e2 e3 e4 ht1 ht2
          obtain ⟨t1, t2⟩ := ht1
          obtain ⟨t3, t4⟩ := ht2
          have hlenN : ((c.take j).map thirdV).length = j := by rw [List.length_map, List.length_take, HL.out]; omega
          have hlenF : ((c.take j).map fun v => mvV dx dy (thirdV v)).length = j := by rw [List.length_map, List.length_take, HL.out]; omega
          obtain ⟨i0, hi0, hz0, hz1, hz2⟩ := infos vinfo
          have hbz := HJ.out.size
          have G4 := HQ4.out.keep (HW.out.trans (HJ.out.mono HW.out.size))
          have G5 := HQ5.out.keep (HW.out.trans (HJ.out.mono HW.out.size))
          have hg4 : g4 < w0.heap.size := (HQ4.out.keep HW.out).lt
          have hg5 : g5 < w0.heap.size := (HQ5.out.keep HW.out).lt
          have T4 := Lib.hid ((G4.alloc (.cells #[.int .i64 px, .int .i64 py, .bool pon] 36)).alloc (.cells #[.int .i64 (px.tdiv 3), .int .i64 (py.tdiv 3), .bool pon] 36))
          have T5 := Lib.hid ((G5.alloc (.cells #[.int .i64 px, .int .i64 py, .bool pon] 36)).alloc (.cells #[.int .i64 (px.tdiv 3), .int .i64 (py.tdiv 3), .bool pon] 36))
          have T12 := Lib.hid ((Blk.new wr 36 [.int .i64 px, .int .i64 py, .bool pon] rfl).alloc (.cells #[.int .i64 (px.tdiv 3), .int .i64 (py.tdiv 3), .bool pon] 36))
          have T13 := Lib.hid (Blk.new (wr.alloc (.cells #[.int .i64 px, .int .i64 py, .bool pon] 36)) 36 [.int .i64 (px.tdiv 3), .int .i64 (py.tdiv 3), .bool pon] (g := wr.heap.size + 1) (by simp))
          have TN := Lib.hid (((VRow.own HN1.out hlenN).alloc (.cells #[.int .i64 px, .int .i64 py, .bool pon] 36)).alloc (.cells #[.int .i64 (px.tdiv 3), .int .i64 (py.tdiv 3), .bool pon] 36))
          have hba2 : Below wr.heap.size wr ((wr.alloc (.cells #[.int .i64 px, .int .i64 py, .bool pon] 36)).alloc (.cells #[.int .i64 (px.tdiv 3), .int .i64 (py.tdiv 3), .bool pon] 36)) := ((Below.refl _ wr).alloc (Nat.le_refl _) _).alloc (by simp) _
          have TF := Lib.hid (VRow.below HF1.out hba2)
          have TB := Lib.hid (HJ.out.trans (hba2.mono hbz))
          have hrow0 : ∀ k, k < w0.heap.size → some k ≠ Value.ownBlock u10 := fun k hk e => by have := (TN.out.lt k e.symm).1; omega
          have hrow1 : some wr.heap.size ≠ Value.ownBlock u10 := fun e => by have := (World.ownsRow.lt HN1.out _ e.symm).2; omega
          have HR0 := Lib.hid hrow0
          have HR1 := Lib.hid hrow1
          have HLN := Lib.hid hlenN
          have HLF := Lib.hid hlenF
          clear hd G4 G5 hba2 hrow0 hrow1 hlenN hlenF HJ HN1 HF1
          go_wp2_with (first
            | (at_builtin; refine wpList_append_lies _ rfl _ _ _ (by rfl) w0.heap.size 36 i0 _ 3 24 Try.underlying28 hi0 hz0 hz1 hz2 (by rfl) (by omega) _ j _ (by rfl) TN.out ⟨wr.heap.size + 1, 0, none⟩ 1 1 [.int .i64 (px.tdiv 3), .int .i64 (py.tdiv 3), .bool pon] (by rfl) (by rfl) (World.news_of_block T13.out) (by simp [Value.oneCell']) (by omega) (by simp [maxLen]; omega) (by omega) (by simp; omega) (wr.heap.size + 2) (by simp) ?_; intro g cp w3 hown hgrow hat hlt; have V4 := T4.out.grown hgrow (HR0.out g4 hg4); have V5 := T5.out.grown hgrow (HR0.out g5 hg5); have V12 := T12.out.grown hgrow HR1.out; have q0 := V12.cell 0 rfl; have q1 := V12.cell 1 rfl; have q2 := V12.cell 2 rfl; have qz := V12.lt; have p4 := V4.cell 0 rfl; have p5 := V5.cell 0 rfl; have pz4 := V4.lt; have pz5 := V5.lt; have UN := Lib.hid (VRow.pushA HLN.out hown); have US := Lib.hid (HSE.out.grow (n := j + 1) (cap := cp) TF.out (by simp) hat); have UF := Lib.hid (HSE.out.kept TF.out hgrow); have UB := Lib.hid (TB.out.grown hgrow (by simp; omega) (fun q hq => (TN.out.lt q hq).1)); have hz3 := UB.out.size; clear hown hgrow hat hlt V4 V5 V12)
            | (at_builtin; refine wpList_append_lies _ rfl _ _ _ (by rfl) w0.heap.size 36 i0 _ 3 24 Try.underlying28 hi0 hz0 hz1 hz2 (by rfl) (by omega) _ j _ (by rfl) ((VRow.own UF.out HLF.out).alloc _) ⟨w3.heap.size, 0, none⟩ 1 1 [.int .i64 (px.tdiv 3 + dx), .int .i64 (py.tdiv 3 + dy), .bool pon] (by rfl) (by rfl) (World.news_of_block (heap_alloc_new w3 _)) (by simp [Value.oneCell']) (by omega) (by simp [maxLen]; omega) (by omega) (by simp; omega) (w3.heap.size + 1) (by simp) ?_; intro g' cp' w4 hown hgrow hat hlt))
          have XF := VRow.pushA HLF.out hown
          have XA := VRow.below UN.out ((Below.refl _ w3).alloc (Nat.le_refl _) (.cells #[.int .i64 (px.tdiv 3 + dx), .int .i64 (py.tdiv 3 + dy), .bool pon] 36))
          have XN := US.out.symm.kept XA hgrow
          have XS := (US.out.symm.grow (n := j + 1) (cap := cp') XA (by simp) hat).symm
          have XB := (UB.out.alloc UB.out.size (.cells #[.int .i64 (px.tdiv 3 + dx), .int .i64 (py.tdiv 3 + dy), .bool pon] 36)).grown hgrow (by simp; omega) (fun q hq => (World.ownsRow.lt UF.out q hq).1)
          have E1 : (c.take (j + 1)).map thirdV = (c.take j).map thirdV ++ [⟨px.tdiv 3, py.tdiv 3, pon⟩] := by rw [HT1.out, List.map_append]; rfl
          have E2 : ((c.take (j + 1)).map fun v => mvV dx dy (thirdV v)) = ((c.take j).map fun v => mvV dx dy (thirdV v)) ++ [⟨px.tdiv 3 + dx, py.tdiv 3 + dy, pon⟩] := by rw [HT1.out, List.map_append]; rfl
          rw [← E1] at XN
          rw [← E2] at XF
          exact ⟨⟨j + 1, by omega, by go_num, Lib.hid XN, Lib.hid XF, Lib.hid XS, Lib.hid XB⟩, by simp [intOf]; omega⟩
        · obtain rfl : j = L := by omega
          have ht : c.take j = c := List.take_of_length_le (by rw [HL.out]; exact Nat.le_refl _)
          have hn1 := HN1.out
          have hf1 := HF1.out
          rw [ht] at hn1 hf1
          have hmm : (c.map fun v => mvV dx dy (thirdV v)) = (c.map thirdV).map (mvV dx dy) := by rw [List.map_map]; rfl
          rw [hmm] at hf1
          have hsN : ∀ v ∈ c.map thirdV, smallV v := fun v hv => by
            obtain ⟨u, hu, rfl⟩ := List.mem_map.1 hv
            exact third_small (HCI.out u hu)
          have hsF : ∀ v ∈ (c.map thirdV).map (mvV dx dy), smallV v := fun v hv => by
            rw [← hmm] at hv
            obtain ⟨u, hu, rfl⟩ := List.mem_map.1 hv
            exact third_mv_small (HCI.out u hu) ⟨⟨dx1, dx2⟩, dy1, dy2⟩
          have HSN := Lib.hid (segs_any _ _ wr (VRow.read hn1) (by rw [List.length_map, HL.out]; exact hc1) hsN)
          have HSF := Lib.hid (fun wx (hb : Below wr.heap.size wr wx) => segs_any _ _ wx ((VRow.read hf1).keep hb) (by rw [List.length_map, List.length_map, HL.out]; exact hc1) hsF)
          have HMV := Lib.hid (mv_segs dx dy (c.map thirdV))
          have HIS := Lib.hid (in_segs hsN)
          have HSL : Hid ((segsS (c.map thirdV)).length ≤ 2000) := Lib.hid (by have h := segs_len (c.map thirdV); rw [List.length_map, HL.out] at h; omega)
          generalize segsS ((c.map thirdV).map (mvV dx dy)) = lF at *
          generalize segsS (c.map thirdV) = l at *
          have HWJ := Lib.hid (HW.out.trans (HJ.out.mono HW.out.size))
          clear ht hn1 hf1 hmm hsN hsF HN1 HF1 HSE HJ HW hjL
          go_wp2_with fail
          refine HSN.out.mono ?_
          rintro e w3 ⟨u3, rfl, hu3, hb3⟩
          have HSF' := Lib.hid (HSF.out w3 hb3)
          have HU3 := Lib.hid hu3.read
          have HB3 := Lib.hid (HWJ.out.trans (hb3.mono HWJ.out.size))
          obtain ⟨An, capn, e3⟩ := SRow.form hu3
          subst e3
          obtain ⟨M, hM⟩ : ∃ M, l.length = M := ⟨_, rfl⟩
          rw [hM] at HU3
          rw [hM]
          have hM2 : M ≤ 2000 := by rw [← hM]; exact HSL.out
          have HM := Lib.hid hM
          clear hu3 hb3 HSN HSF HWJ hM
          go_wp2_with fail
          refine HSF'.out.mono ?_
          rintro e w4 ⟨u4, rfl, hu4, hb4⟩
          obtain ⟨Af, capf, e4⟩ := SRow.form hu4
          subst e4
          have hMF : lF.length = M := by rw [HMV.out, List.length_map, HM.out]
          rw [hMF] at hu4
          rw [hMF]
          have HU4 := Lib.hid hu4.read
          have HU3' := Lib.hid (HU3.out.keep hb4)
          have HB4 := Lib.hid (HB3.out.trans (hb4.mono HB3.out.size))
          clear hu4 hb4 HSF' HU3 HB3 hMF
          go_wp2_with fail
          go_loopw [77] (fun i wr => ∃ k : Nat, k ≤ M ∧ i = .int .i64 k ∧ Hid (Below w4.heap.size w4 wr)) (fun i _ => M - (intOf i).toNat)
          case atStart => exact ⟨0, Nat.zero_le _, rfl, Lib.hid (Below.refl _ _)⟩
          case round =>
            obtain ⟨k, hk, rfl, HK⟩ := hrel
            by_cases hkM : k < M
            · have hkb : decide ((k : Int) < M) = true := by simp; omega
              have hkI : (k : Int) < M := by omega
              have hk0 : (0 : Int) ≤ k := by omega
              obtain ⟨s, hs⟩ : ∃ s, l[k]? = some s := ⟨_, List.getElem?_eq_getElem (by rw [HM.out]; exact hkM)⟩
              have hsF : lF[k]? = some (mvS dx dy s) := by rw [HMV.out, List.getElem?_map, hs]; rfl
              obtain ⟨i1, i2, i3⟩ := HIS.out s (List.mem_of_getElem? hs)
              obtain ⟨an, rfl, han, x0, x1, x2, x3, x4, x5, x6⟩ := (HU3'.out.keep HK.out).at k _ hs
              obtain ⟨af, rfl, haf, hyy⟩ := (HU4.out.keep HK.out).at k _ hsF
              obtain ⟨⟨ax, ay⟩, ⟨bx, by'⟩, ⟨cx, cy⟩, cv⟩ := s
              simp only [mvS, mvP] at hyy
              simp only [] at x0 x1 x2 x3 x4 x5 x6
              have hal : Below wr.heap.size wr (wr.alloc (.cells #[.int .i64 ax, .int .i64 ay, .int .i64 bx, .int .i64 by', .int .i64 cx, .int .i64 cy, .bool cv] 40)) := (Below.refl _ wr).alloc (Nat.le_refl _) _
              have T17 := Blk.new wr 40 [.int .i64 ax, .int .i64 ay, .int .i64 bx, .int .i64 by', .int .i64 cx, .int .i64 cy, .bool cv] rfl
              have HK4 := (HQ4.out.keep (HB4.out.trans (HK.out.mono HB4.out.size))).keep hal
              have HK5 := (HQ5.out.keep (HB4.out.trans (HK.out.mono HB4.out.size))).keep hal
              have HKA := Lib.hid (HK.out.trans (hal.mono HK.out.size))
              obtain ⟨y0, y1, y2, y3, y4, y5, y6⟩ := hyy
              replace y0 := keepc hal y0
              replace y1 := keepc hal y1
              replace y2 := keepc hal y2
              replace y3 := keepc hal y3
              replace y4 := keepc hal y4
              replace y5 := keepc hal y5
              replace y6 := keepc hal y6
              have HY := Lib.hid (show _ ∧ _ ∧ _ ∧ _ ∧ _ ∧ _ ∧ _ from ⟨y0, y1, y2, y3, y4, y5, y6⟩)
              have HT := Lib.hid T17
              have HH4 := Lib.hid HK4
              have HH5 := Lib.hid HK5
              clear hs hsF hal T17 HK4 HK5 y0 y1 y2 y3 y4 y5 y6
              go_wp2_with fail
              generalize wr.alloc (.cells #[.int .i64 ax, .int .i64 ay, .int .i64 bx, .int .i64 by', .int .i64 cx, .int .i64 cy, .bool cv] 40) = W at *
              obtain ⟨gt, hgt⟩ : ∃ g, wr.heap.size = g := ⟨_, rfl⟩
              rw [hgt] at HT
              rw [hgt]
              clear hgt
              have SO : ∀ wx, Below W.heap.size W wx → (wx.cell? (af.add (k * 7)) = some (.int .i64 (ax + 2 * dx)) ∧ wx.cell? ⟨(af.add (k * 7)).block, (af.add (k * 7)).off + 1, none⟩ = some (.int .i64 (ay + 2 * dy)) ∧ wx.cell? ⟨(af.add (k * 7)).block, (af.add (k * 7)).off + 2, none⟩ = some (.int .i64 (bx + 2 * dx)) ∧ wx.cell? ⟨(af.add (k * 7)).block, (af.add (k * 7)).off + 3, none⟩ = some (.int .i64 (by' + 2 * dy)) ∧ wx.cell? ⟨(af.add (k * 7)).block, (af.add (k * 7)).off + 4, none⟩ = some (.int .i64 (cx + 2 * dx)) ∧ wx.cell? ⟨(af.add (k * 7)).block, (af.add (k * 7)).off + 5, none⟩ = some (.int .i64 (cy + 2 * dy)) ∧ wx.cell? ⟨(af.add (k * 7)).block, (af.add (k * 7)).off + 6, none⟩ = some (.bool cv)) ∧ (wx.cell? ⟨gt, 0, none⟩ = some (.int .i64 ax) ∧ wx.cell? ⟨gt, 1, none⟩ = some (.int .i64 ay) ∧ wx.cell? ⟨gt, 2, none⟩ = some (.int .i64 bx) ∧ wx.cell? ⟨gt, 3, none⟩ = some (.int .i64 by') ∧ wx.cell? ⟨gt, 4, none⟩ = some (.int .i64 cx) ∧ wx.cell? ⟨gt, 5, none⟩ = some (.int .i64 cy) ∧ wx.cell? ⟨gt, 6, none⟩ = some (.bool cv)) ∧ Below W.heap.size W wx := fun wx hb => by
                obtain ⟨y0, y1, y2, y3, y4, y5, y6⟩ := HY.out
                have T := HT.out.keep hb
                exact ⟨⟨keepc hb y0, keepc hb y1, keepc hb y2, keepc hb y3, keepc hb y4, keepc hb y5, keepc hb y6⟩, ⟨T.cell 0 rfl, T.cell 1 rfl, T.cell 2 rfl, T.cell 3 rfl, T.cell 4 rfl, T.cell 5 rfl, T.cell 6 rfl⟩, hb⟩
              have HSO := Lib.hid SO
              have hD := SO W.drew (Below.refl _ _).drew
              have hD0 : Below W.heap.size W W.drew := (Below.refl _ _).drew
              have MV : ∀ (px py : Int), inP ⟨px, py⟩ → ∀ wx, Below W.heap.size W wx → Calls Try.prog 14 #[.agg #[.int .i64 px, .int .i64 py], .pointer (some ⟨g4, 0, none⟩), .pointer (some ⟨g5, 0, none⟩)] wx fun e w' => e = .returned (.agg #[.int .i64 (px + 2 * dx), .int .i64 (py + 2 * dy)]) ∧ Below wx.heap.size wx w' := fun px py hp wx hb => mover_any px py dx dy g4 g5 _ _ wx (HH4.out.keep hb) (HH5.out.keep hb) ⟨⟨dx1, dx2⟩, dy1, dy2⟩ hp
              have MA := Lib.hid (MV ax ay i1)
              have MB := Lib.hid (MV bx by' i2)
              have MC := Lib.hid (MV cx cy i3)
              clear MV i1 i2 i3 SO HY HT HH4 HH5 x0 x1 x2 x3 x4 x5 x6
              go_region_held3 (fun wx => (wx.cell? (af.add (k * 7)) = some (.int .i64 (ax + 2 * dx)) ∧ wx.cell? ⟨(af.add (k * 7)).block, (af.add (k * 7)).off + 1, none⟩ = some (.int .i64 (ay + 2 * dy)) ∧ wx.cell? ⟨(af.add (k * 7)).block, (af.add (k * 7)).off + 2, none⟩ = some (.int .i64 (bx + 2 * dx)) ∧ wx.cell? ⟨(af.add (k * 7)).block, (af.add (k * 7)).off + 3, none⟩ = some (.int .i64 (by' + 2 * dy)) ∧ wx.cell? ⟨(af.add (k * 7)).block, (af.add (k * 7)).off + 4, none⟩ = some (.int .i64 (cx + 2 * dx)) ∧ wx.cell? ⟨(af.add (k * 7)).block, (af.add (k * 7)).off + 5, none⟩ = some (.int .i64 (cy + 2 * dy)) ∧ wx.cell? ⟨(af.add (k * 7)).block, (af.add (k * 7)).off + 6, none⟩ = some (.bool cv)) ∧ (wx.cell? ⟨gt, 0, none⟩ = some (.int .i64 ax) ∧ wx.cell? ⟨gt, 1, none⟩ = some (.int .i64 ay) ∧ wx.cell? ⟨gt, 2, none⟩ = some (.int .i64 bx) ∧ wx.cell? ⟨gt, 3, none⟩ = some (.int .i64 by') ∧ wx.cell? ⟨gt, 4, none⟩ = some (.int .i64 cx) ∧ wx.cell? ⟨gt, 5, none⟩ = some (.int .i64 cy) ∧ wx.cell? ⟨gt, 6, none⟩ = some (.bool cv)) ∧ Below W.heap.size W wx)
                (first
                  | with_reducible assumption
                  | fail)
                (first
                  | (go_at_call 14; (with_reducible refine (MA.out _ hD0).mono ?_); rintro e w5 ⟨rfl, hb5⟩; replace hb5 := undrew0 hb5; have hS5 := HSO.out _ hb5)
                  | (go_at_call 14; (with_reducible refine (MB.out _ hb5).mono ?_); rintro e w6 ⟨rfl, hb6⟩; have E6 := below_w hb5 hb6 hb5.size; have hS6 := HSO.out _ E6)
                  | (go_at_call 14; (with_reducible refine (MC.out _ E6).mono ?_); rintro e w7 ⟨rfl, hb7⟩; have E7 := below_w E6 hb7 E6.size; have hS7 := HSO.out _ E7))
              all_goals
                have HWF := Lib.hid (HKA.out.trans (E7.mono HKA.out.size))
                clear hD hD0 hS5 hS6 hS7 hb5 hb6 hb7 E6 E7
                go_wp2_with fail
                exact ⟨⟨k + 1, by omega, by go_num, HWF⟩, by simp [intOf]; omega⟩
            · obtain rfl : k = M := by omega
              have HWF := Lib.hid (HB4.out.trans (HK.out.mono HB4.out.size))
              go_wp2_with fail
              exact ⟨⟨r + 1, by omega, by go_num, HWF⟩, by simp [intOf]; omega⟩
    · obtain rfl : r = N := by omega
      have HF := Lib.hid (HB0.out.trans ((HB2.out.trans (HW.out.mono HB2.out.size)).mono HB0.out.size))
      go_wp2
      go_ret
      exact ⟨rfl, HF.out⟩

end Go.Proofs.Ythipookenpmfpaa
