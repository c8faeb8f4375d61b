/-
  What the law FlatEdges does to any world (no claim is made here).
-/
import Derived.Test.YtnejdngeeppphaaFlt8
import Derived.Test.YtnejdngeeppphaaFlt9
import Derived.Test.YtnejdngeeppphaaFlt11
import Derived.BigRegion
namespace Go.Proofs.Ytnejdngeeppphaa
open Go.RowKit

set_option maxRecDepth 100000 in
set_option maxHeartbeats 6400000 in
theorem flatEdges_walk (A : Option Addr) (n cap : Nat) (l : List Sg) (w : World) (hv : SRd w (.slice A n cap) l) (_hc : cap ≤ maxLen) :
    Calls Try.prog 4 #[.slice A n cap] w fun e w' => e = .returned (.bool true) ∧ Below w.heap.size w w' := by
  have hn : l.length = n ∧ n ≤ cap := by obtain ⟨_, _, e, h, _⟩ := hv; injection e with _ e2 e3; omega
  obtain ⟨hn, hnc⟩ := hn
  have HV := Lib.hid hv
  obtain ⟨m, hm⟩ : ∃ m : Nat, m = min n 40 := ⟨_, rfl⟩
  have hmn : m ≤ n := by omega
  have hm40 : m ≤ 40 := by omega
  have HM : Hid ((l.take m).length = m) := Lib.hid (by rw [List.length_take]; omega)
  have HMM := Lib.hid hm
  have HNN := Lib.hid hn
  obtain ⟨i0, hi0, hz0, hz1, hz2⟩ := infos sinfo
  clear hv _hc hm hn
  go_enter Try.func4, Try.ntmps4
  go_wp2_with fail
  refine (awake6 _).mono ?_
  rintro e w1 ⟨rfl, hb1⟩
  have HV1 := Lib.hid (srd_take7 (HV.out.keep hb1) hmn)
  have HB1 := Lib.hid hb1
  clear hb1 HV
  go_upto_region 3 with fail
  go_cut [0] (fun s0 wx => Hid (SRow wx w.heap.size s0 (l.take m)) ∧ Hid (Below w.heap.size w wx))
  case first =>
    by_cases h40 : n ≤ 40
    · obtain rfl : m = n := by have := HMM.out; omega
      have h40' : (m : Int) ≤ 40 := by omega
      by_cases hm0 : m = 0
      · subst hm0
        have HR := Lib.hid (append_empty (P := Try.prog) (w := w1) w.heap.size 31 31 25 i0 7 Try.underlying31 hi0 _ _ _ (World.ownsRow_nil _ _ _ _) A cap)
        have HS0 : Hid (SRow w1 w.heap.size (.slice none 0 0) (l.take 0)) := Lib.hid (World.ownsRow_nil _ _ _ _)
        go_wp2_with (at_builtin; refine Lib.wpList_append_run _ rfl _ _ _ _ rfl _ _ rfl rfl _ _ HR.out ?_)
        all_goals
          go_meet
          exact ⟨HS0, HB1⟩
      · obtain ⟨a, ha⟩ : ∃ a, A = some a := by
          obtain ⟨A', cap', e, _, h3⟩ := HV1.out
          injection e with e1 _ _
          obtain ⟨a, ha, _⟩ := h3 0 (by rw [HM.out]; omega)
          exact ⟨a, by rw [e1, ha]⟩
        subst ha
        have HNW := Lib.hid (srd_news HV1.out)
        have hb1 := HB1.out.size
        go_wp2_with (at_builtin; refine wp_append_nil rfl _ _ (by rfl) w.heap.size 25 i0 _ 7 56 Try.underlying31 hi0 hz0 hz1 hz2 (by rfl) (by omega) a m cap (scells (l.take m)) (by rfl) (by rw [scells_length, HM.out]) HNW.out (scells_one _) (by omega) (by unfold maxLen; omega) (by omega) hb1 ?_; intro g cp w2 hown hgrow hat; clear hat)
        all_goals
          have HS0 : Hid (SRow w2 w.heap.size (.slice (some ⟨g, 0, none⟩) m cp) (l.take m)) := Lib.hid (by unfold SRow; rw [HM.out]; exact hown)
          have HB2 := Lib.hid (HB1.out.grown hgrow (by omega) (fun q hq => by cases hq))
          clear hown hgrow
          go_meet
          exact ⟨HS0, HB2⟩
    · have hme : m = 40 := by have := HMM.out; omega
      have h40' : (40 : Int) < n := by omega
      subst hme
      obtain ⟨a, ha⟩ : ∃ a, A = some a := by
        obtain ⟨A', cap', e, _, h3⟩ := HV1.out
        injection e with e1 _ _
        obtain ⟨a, ha, _⟩ := h3 0 (by rw [HM.out]; omega)
        exact ⟨a, by rw [e1, ha]⟩
      subst ha
      have HNW := Lib.hid (srd_news HV1.out)
      have hb1 := HB1.out.size
      go_wp2_with (at_builtin; refine wp_append_nil rfl _ _ (by rfl) w.heap.size 25 i0 _ 7 56 Try.underlying31 hi0 hz0 hz1 hz2 (by rfl) (by omega) a 40 cap (scells (l.take 40)) (by rfl) (by rw [scells_length, HM.out]) HNW.out (scells_one _) (by omega) (by unfold maxLen; omega) (by omega) hb1 ?_; intro g cp w2 hown hgrow hat; clear hat)
      all_goals
        have HS0 : Hid (SRow w2 w.heap.size (.slice (some ⟨g, 0, none⟩) 40 cp) (l.take 40)) := Lib.hid (by unfold SRow; rw [HM.out]; exact hown)
        have HB2 := Lib.hid (HB1.out.grown hgrow (by omega) (fun q hq => by cases hq))
        clear hown hgrow
        go_meet
        exact ⟨HS0, HB2⟩
  case rest =>
    obtain ⟨HS0, HB2⟩ := hcut
    have HX0 : Hid (SRow wc w.heap.size u0 (((l.take m).take 0).map cutS ++ (l.take m).drop 0)) := HS0
    obtain ⟨Ax, capx, hsx⟩ := HS0.out.form
    rw [HM.out] at hsx
    subst hsx
    have hcx : m ≤ capx := by obtain ⟨_, _, e, h, _⟩ := (SRow.read HS0.out); injection e with _ _ e; rw [HM.out] at h; omega
    clear HS0 HV1 HB1 HMM HNN
    generalize l.take m = L at *
    go_wp2_with fail
    go_loopw [16] (fun i wr => ∃ k : Nat, k ≤ m ∧ i = .int .i64 k ∧ Hid (SRow wr w.heap.size (.slice Ax m capx) ((L.take k).map cutS ++ L.drop k)) ∧ Hid (Below w.heap.size w wr)) (fun i _ => m - (intOf i).toNat)
    case atStart => exact ⟨0, Nat.zero_le _, rfl, HX0, HB2⟩
    case round =>
      obtain ⟨k, hk, rfl, HX, HB⟩ := hrel
      clear HX0 HB2
      by_cases hkm : k < m
      · have hkb : decide ((k : Int) < m) = true := by simp; omega
        have hkI : (k : Int) < m := by omega
        obtain ⟨s, hs⟩ : ∃ s, L[k]? = some s := ⟨_, List.getElem?_eq_getElem (by rw [HM.out]; exact hkm)⟩
        obtain ⟨g, hAx⟩ : ∃ g, Ax = some ⟨g, 0, none⟩ := by
          rcases HX.out.2 with ⟨e, h0⟩ | ⟨g, cp, cur, e, _⟩
          · injection e with _ e2 _; omega
          · injection e with e1 _ _; exact ⟨g, e1⟩
        subst hAx
        have HK0 := Lib.hid (KSt.open HX.out HM.out hs)
        have hgw : w.heap.size ≤ g := (World.ownsRow.lt HX.out g rfl).1
        have hgl : g < wr.heap.size := (World.ownsRow.lt HX.out g rfl).2
        have HSS := Lib.hid hs
        obtain ⟨⟨s0, s1⟩, ⟨s2, s3⟩, ⟨s4, s5⟩, s6⟩ := s
        obtain ⟨wo, rfl⟩ : ∃ x, x = wr := ⟨wr, rfl⟩
        clear hs
        go_wp2_with fail
        go_cut [31, 32, 33] (fun t1 t2 t3 wx => t1 = .slice (some ⟨wo.heap.size, 0, none⟩) 3 3 ∧ t2 = .int .i64 3 ∧ t3 = .int .i64 0 ∧ Hid (KSt wx w.heap.size g m capx k L (cutR ⟨⟨s0, s1⟩, ⟨s2, s3⟩, ⟨s4, s5⟩, s6⟩ 0)) ∧ Hid (Blk wx wo.heap.size 27 [.pointer (some ⟨g, k * 7, none⟩), .pointer (some ⟨g, k * 7 + 2, none⟩), .pointer (some ⟨g, k * 7 + 4, none⟩)]) ∧ Hid (Below w.heap.size w wx))
        case first =>
          go_region
          have HB0 := Lib.hid (HB.out.alloc HB.out.size (.cells #[.pointer (some ⟨g, k * 7, none⟩), .pointer (some ⟨g, k * 7 + 2, none⟩), .pointer (some ⟨g, k * 7 + 4, none⟩)] 27)).drew
          have HP0 := Lib.hid (Blk.new wo 27 [.pointer (some ⟨g, k * 7, none⟩), .pointer (some ⟨g, k * 7 + 2, none⟩), .pointer (some ⟨g, k * 7 + 4, none⟩)] rfl).drew
          have HK2 : Hid (KSt (wo.alloc (.cells #[.pointer (some ⟨g, k * 7, none⟩), .pointer (some ⟨g, k * 7 + 2, none⟩), .pointer (some ⟨g, k * 7 + 4, none⟩)] 27)).drew w.heap.size g m capx k L (cutR ⟨⟨s0, s1⟩, ⟨s2, s3⟩, ⟨s4, s5⟩, s6⟩ 0)) := Lib.hid (own_blocks HK0.out (fun q hq => (((Below.refl _ wo).alloc (Nat.le_refl _) (.cells #[.pointer (some ⟨g, k * 7, none⟩), .pointer (some ⟨g, k * 7 + 2, none⟩), .pointer (some ⟨g, k * 7 + 4, none⟩)] 27)).drew).block q (World.ownsRow.lt HK0.out q hq).2))
          go_wp2_with fail
          go_meet
          exact ⟨rfl, rfl, rfl, HK2, HP0, HB0⟩
        case rest =>
          obtain ⟨rfl, rfl, rfl, HK1, HP1, HB1⟩ := hcut
          have hgp : wo.heap.size ≠ g := by omega
          clear HX HB HK0
          go_wp2_with fail
          go_loopw [33] (fun i wr => ∃ r : Nat, r ≤ 3 ∧ i = .int .i64 r ∧ Hid (KSt wr w.heap.size g m capx k L (cutR ⟨⟨s0, s1⟩, ⟨s2, s3⟩, ⟨s4, s5⟩, s6⟩ r)) ∧ Hid (Blk wr wo.heap.size 27 [.pointer (some ⟨g, k * 7, none⟩), .pointer (some ⟨g, k * 7 + 2, none⟩), .pointer (some ⟨g, k * 7 + 4, none⟩)]) ∧ Hid (Below w.heap.size w wr)) (fun i _ => 3 - (intOf i).toNat)
          case atStart => exact ⟨0, by omega, rfl, HK1, HP1, HB1⟩
          case round =>
            obtain ⟨r, hr, rfl, HK, HP, HB⟩ := hrel
            clear HK1 HP1 HB1
            have c0 := HP.out.cell 0 rfl
            have c1 := HP.out.cell 1 rfl
            have c2 := HP.out.cell 2 rfl
            have cz := HP.out.lt
            have gz : g < wr.heap.size := (World.ownsRow.lt HK.out g rfl).2
            obtain rfl | rfl | rfl | rfl : r = 0 ∨ r = 1 ∨ r = 2 ∨ r = 3 := by omega
            · have d0 : wr.cell? ⟨g, k * 7, none⟩ = _ := HK.out.cell HM.out hkm rfl 0 (by omega) rfl
              have d1 : wr.cell? ⟨g, k * 7 + 1, none⟩ = _ := HK.out.cell HM.out hkm rfl 1 (by omega) rfl
              have f0 : wr.frozen? ⟨g, k * 7, none⟩ = false := World.ownsRow.frozenAt HK.out _
              have f1 : wr.frozen? ⟨g, k * 7 + 1, none⟩ = false := World.ownsRow.frozenAt HK.out _
              have HS2 : Hid (KSt ((wr.setCell ⟨g, k * 7, none⟩ (.int .i64 (s0.tmod 511))).setCell ⟨g, k * 7 + 1, none⟩ (.int .i64 (s1.tmod 511))).drew w.heap.size g m capx k L (cutR ⟨⟨s0, s1⟩, ⟨s2, s3⟩, ⟨s4, s5⟩, s6⟩ 1)) := Lib.hid (HK.out.set2 HM.out hkm rfl 0 (by omega) (.int .i64 (s0.tmod 511)) (.int .i64 (s1.tmod 511)))
              have HP2 := Lib.hid ((HP.out.other (k := g) (k * 7) (.int .i64 (s0.tmod 511)) hgp).other (k := g) (k * 7 + 1) (.int .i64 (s1.tmod 511)) hgp).drew
              have HB2 := Lib.hid ((HB.out.setCell (p := ⟨g, k * 7, none⟩) hgw (.int .i64 (s0.tmod 511))).setCell (p := ⟨g, k * 7 + 1, none⟩) hgw (.int .i64 (s1.tmod 511))).drew
              go_wp2_with fail
              go_region
              go_wp2_with fail
              exact ⟨⟨1, by omega, rfl, HS2, HP2, HB2⟩, by simp [intOf]⟩
            · have d0 : wr.cell? ⟨g, k * 7 + 2, none⟩ = _ := HK.out.cell HM.out hkm rfl 2 (by omega) rfl
              have d1 : wr.cell? ⟨g, k * 7 + 3, none⟩ = _ := HK.out.cell HM.out hkm rfl 3 (by omega) rfl
              have f0 : wr.frozen? ⟨g, k * 7 + 2, none⟩ = false := World.ownsRow.frozenAt HK.out _
              have f1 : wr.frozen? ⟨g, k * 7 + 3, none⟩ = false := World.ownsRow.frozenAt HK.out _
              have HS2 : Hid (KSt ((wr.setCell ⟨g, k * 7 + 2, none⟩ (.int .i64 (s2.tmod 511))).setCell ⟨g, k * 7 + 3, none⟩ (.int .i64 (s3.tmod 511))).drew w.heap.size g m capx k L (cutR ⟨⟨s0, s1⟩, ⟨s2, s3⟩, ⟨s4, s5⟩, s6⟩ 2)) := Lib.hid (HK.out.set2 HM.out hkm rfl 2 (by omega) (.int .i64 (s2.tmod 511)) (.int .i64 (s3.tmod 511)))
              have HP2 := Lib.hid ((HP.out.other (k := g) (k * 7 + 2) (.int .i64 (s2.tmod 511)) hgp).other (k := g) (k * 7 + 3) (.int .i64 (s3.tmod 511)) hgp).drew
              have HB2 := Lib.hid ((HB.out.setCell (p := ⟨g, k * 7 + 2, none⟩) hgw (.int .i64 (s2.tmod 511))).setCell (p := ⟨g, k * 7 + 3, none⟩) hgw (.int .i64 (s3.tmod 511))).drew
              go_wp2_with fail
              go_region
              go_wp2_with fail
              exact ⟨⟨2, by omega, rfl, HS2, HP2, HB2⟩, by simp [intOf]⟩
            · have d0 : wr.cell? ⟨g, k * 7 + 4, none⟩ = _ := HK.out.cell HM.out hkm rfl 4 (by omega) rfl
              have d1 : wr.cell? ⟨g, k * 7 + 5, none⟩ = _ := HK.out.cell HM.out hkm rfl 5 (by omega) rfl
              have f0 : wr.frozen? ⟨g, k * 7 + 4, none⟩ = false := World.ownsRow.frozenAt HK.out _
              have f1 : wr.frozen? ⟨g, k * 7 + 5, none⟩ = false := World.ownsRow.frozenAt HK.out _
              have HS2 : Hid (KSt ((wr.setCell ⟨g, k * 7 + 4, none⟩ (.int .i64 (s4.tmod 511))).setCell ⟨g, k * 7 + 5, none⟩ (.int .i64 (s5.tmod 511))).drew w.heap.size g m capx k L (cutR ⟨⟨s0, s1⟩, ⟨s2, s3⟩, ⟨s4, s5⟩, s6⟩ 3)) := Lib.hid (HK.out.set2 HM.out hkm rfl 4 (by omega) (.int .i64 (s4.tmod 511)) (.int .i64 (s5.tmod 511)))
              have HP2 := Lib.hid ((HP.out.other (k := g) (k * 7 + 4) (.int .i64 (s4.tmod 511)) hgp).other (k := g) (k * 7 + 5) (.int .i64 (s5.tmod 511)) hgp).drew
              have HB2 := Lib.hid ((HB.out.setCell (p := ⟨g, k * 7 + 4, none⟩) hgw (.int .i64 (s4.tmod 511))).setCell (p := ⟨g, k * 7 + 5, none⟩) hgw (.int .i64 (s5.tmod 511))).drew
              go_wp2_with fail
              go_region
              go_wp2_with fail
              exact ⟨⟨3, by omega, rfl, HS2, HP2, HB2⟩, by simp [intOf]⟩
            · have HX2 := Lib.hid (KSt.close HK.out HM.out HSS.out)
              clear HK
              go_wp2_with fail
              exact ⟨⟨k + 1, by omega, by go_num, HX2, HB⟩, by simp [intOf]; omega⟩
      · obtain rfl : k = m := by omega
        have HR := Lib.hid (SRow.read HX.out)
        have he : (L.take k).map cutS ++ L.drop k = L.map cutS := by rw [List.take_of_length_le (by rw [HM.out]; exact Nat.le_refl _), List.drop_of_length_le (by rw [HM.out]; exact Nat.le_refl _), List.append_nil]
        rw [he] at HR
        have hin : ∀ s ∈ L.map cutS, inS s := by
          intro s hs
          obtain ⟨x, _, rfl⟩ := List.mem_map.1 hs
          exact cutS_in x
        have hlen : (L.map cutS).length ≤ 4000 := by rw [List.length_map, HM.out]; omega
        obtain ⟨T, hT⟩ : ∃ T, L.map cutS = T := ⟨_, rfl⟩
        rw [hT] at HR hin hlen
        have HIN := Lib.hid (And.intro hlen hin)
        have HE := Lib.hid (edges_any _ T wr HR.out hlen hin)
        clear he hT hin hlen HX
        go_wp2_with fail
        refine HE.out.mono ?_
        rintro e w5 ⟨u5, rfl, hu5, hb5⟩
        have HL := Lib.hid (ledges_any _ T w5 (HR.out.keep hb5) HIN.out.1 HIN.out.2)
        have HB5 := Lib.hid (HB.out.trans (hb5.mono HB.out.size))
        have HU5 := Lib.hid (ERow.read hu5)
        obtain ⟨A5, c5, e5⟩ := ERow.form hu5
        obtain ⟨N5, hN5⟩ : ∃ N5, (edgesS T).length = N5 := ⟨_, rfl⟩
        have hN5b : N5 ≤ 16000 := by rw [← hN5]; have h := edgesS_len T; have := HIN.out.1; omega
        rw [hN5] at e5
        subst e5
        have HN5 := Lib.hid hN5
        clear hu5 hb5 HE hN5
        go_wp2_with fail
        refine HL.out.mono ?_
        rintro e w6 ⟨u6, rfl, hu6, hb6⟩
        have HSA := Lib.hid (sameE_any _ u6 (edgesS T) w6 (HU5.out.keep hb6) (ERow.read hu6) (by rw [HN5.out]; omega))
        have HB6 := Lib.hid (HB5.out.trans (hb6.mono HB5.out.size))
        obtain ⟨A6, c6, e6⟩ := ERow.form hu6
        rw [HN5.out] at e6
        subst e6
        clear hu6 hb6 HL
        go_wp2_with fail
        refine HSA.out.mono ?_
        rintro e w7 ⟨rfl, hb7⟩
        have HB7 := Lib.hid (HB6.out.trans (hb7.mono HB6.out.size))
        clear hb7
        go_wp2_with fail
        go_ret
        exact ⟨rfl, HB7.out⟩

end Go.Proofs.Ytnejdngeeppphaa
