/-
  What the law FlatAll does to any world (no claim is made here).
-/
import Derived.Test.YtnejdngeeppphaaFlt10
namespace Go.Proofs.Ytnejdngeeppphaa
open Go.RowKit

set_option maxRecDepth 100000 in
set_option maxHeartbeats 3200000 in
theorem flatAll_walk (A : Option Addr) (n cap : Nat) (cs : List (List Dot)) (w : World) (hcs : DotRows w A n cap cs) :
    Calls Try.prog 5 #[.slice A n cap] w fun e w' => e = .returned (.bool true) ∧ Below w.heap.size w w' := by
  have HD := Lib.hid hcs
  have HSM := Lib.hid (outline_small cs)
  obtain ⟨o, ho⟩ : ∃ o, outlineS cs = o := ⟨_, rfl⟩
  rw [ho] at HSM
  have HO := Lib.hid ho
  obtain ⟨i0, hi0, hz0, hz1, hz2⟩ := infos einfo
  clear hcs ho
  go_enter Try.func5, Try.ntmps5
  go_wp2_with fail
  refine (awake6 _).mono ?_
  rintro e w1 ⟨rfl, hb1⟩
  have HC := Lib.hid (outline_any A n cap cs w1 (HD.out.keep hb1))
  have HB1 := Lib.hid hb1
  clear hb1
  go_wp2_with fail
  refine HC.out.mono ?_
  rintro e w2 ⟨v, rfl, hol, hb2⟩
  rw [HO.out] at hol
  have HA := Lib.hid (all_any _ o w2 hol.read HSM.out)
  have HB2 := Lib.hid (HB1.out.trans (hb2.mono HB1.out.size))
  obtain ⟨Ao, capo, rfl⟩ := hol.form
  have HPS := Lib.hid (pieces_small HSM.out)
  have HPW := Lib.hid (fun r c h => pieces_way (o := o) (r := r) (c := c) h)
  clear hol hb2 HC HB1
  go_wp2_with fail
  refine HA.out.mono ?_
  rintro e w3 ⟨Al, capl, rfl, hsr, hb3⟩
  have HB3 := Lib.hid (HB2.out.trans (hb3.mono HB2.out.size))
  have HSR := Lib.hid hsr
  obtain ⟨N, hN⟩ : ∃ N, o.length = N := ⟨_, rfl⟩
  rw [hN] at HSR
  rw [hN]
  have hN8 : N ≤ 8 := by rw [← hN]; exact HSM.out.1
  obtain ⟨ls, hls⟩ : ∃ ls, o.map segsS = ls := ⟨_, rfl⟩
  have HN : Hid (ls.length = N) := Lib.hid (by rw [← hls, List.length_map, hN])
  rw [hls] at HSR HPS HPW
  have hcl : N ≤ capl := by obtain ⟨_, _, e, h, _⟩ := HSR.out; injection e with _ _ e; rw [HN.out] at h; omega
  clear hsr hb3 HA hls hN HSM HO HD
  go_wp2_with fail
  go_loopw [17, 4] (fun i u wr => ∃ r : Nat, r ≤ N ∧ i = .int .i64 r ∧ Hid (ERow wr w3.heap.size u ((ls.take r).flatMap edgesS)) ∧ Hid (Below w3.heap.size w3 wr)) (fun i _ _ => N - (intOf i).toNat)
  case atStart => exact ⟨0, Nat.zero_le _, rfl, Lib.hid (ERow.nil _ _), Lib.hid (Below.refl _ _)⟩
  case round =>
    obtain ⟨r, hr, rfl, HE, HB⟩ := hrel
    by_cases hrn : r < N
    · have hrb : decide ((r : Int) < N) = true := by simp; omega
      obtain ⟨c, hc⟩ : ∃ c, ls[r]? = some c := ⟨_, List.getElem?_eq_getElem (by rw [HN.out]; exact hrn)⟩
      obtain ⟨a, u, rfl, hlt, hcell, hrow⟩ := (HSR.out.keep HB.out).at r c hc
      obtain ⟨hc1, hc2⟩ := HPS.out.2 c (List.mem_of_getElem? hc)
      have HS1 := Lib.hid (ledges_any u c wr hrow (by omega) hc2)
      have HP := Lib.hid (flat_push hc)
      have HWY := Lib.hid (HPW.out r c hc)
      have HL2 := Lib.hid (show (edgesS c).length ≤ 4004 by have := edgesS_len c; omega)
      have hl1 := flat_len (ls.take r) 1001 (fun d hd => (HPS.out.2 d (List.mem_of_mem_take hd)).1)
      have hl2 : (ls.take r).length ≤ 8 := by rw [List.length_take, HN.out]; omega
      obtain ⟨m, hm⟩ : ∃ m, ((ls.take r).flatMap edgesS).length = m := ⟨_, rfl⟩
      have hmb : m ≤ 32032 := by rw [← hm]; have := Nat.mul_le_mul_right (4 * 1001) hl2; omega
      have HM := Lib.hid hm
      clear hrow hc1 hc2 hc hl1 hl2 hm
      go_wp2_with fail
      refine HS1.out.mono ?_
      rintro e w4 ⟨u1, rfl, hu1, hb4⟩
      have HE3 := Lib.hid (ERow.own (HE.out.below hb4) HM.out)
      have HE4 := Lib.hid (HE.out.below hb4)
      have HB4 := Lib.hid (HB.out.trans (hb4.mono HB.out.size))
      have hbz := HB4.out.size
      have HF := ERow.forms hu1
      have HU1 := Lib.hid hu1
      obtain ⟨L, hL⟩ : ∃ L, (edgesS c).length = L := ⟨_, rfl⟩
      have hLb : L ≤ 4004 := by rw [← hL]; exact HL2.out
      have HLn := Lib.hid hL
      have HLT := Lib.hid (fun g hg => (World.ownsRow.lt HE.out g hg).2)
      obtain ⟨A1, cap1, hu1f⟩ := hu1.form
      rw [hL] at hu1f
      subst hu1f
      clear hu1 hb4 HS1 hcell HE HB
      go_upto_region 9 with fail
      go_cut [4] (fun s4 wx => Hid (ERow wx w3.heap.size s4 ((ls.take (r + 1)).flatMap edgesS)) ∧ Hid (ERd wx (.slice A1 L cap1) (edgesS c)) ∧ Hid (Below w3.heap.size w3 wx))
      case first =>
        by_cases hL0 : L = 0
        · subst hL0
          have he : edgesS c = [] := List.eq_nil_of_length_eq_zero hL
          have HV' : Hid (ERow w4 w3.heap.size u4 ((ls.take (r + 1)).flatMap edgesS)) := Lib.hid (by rw [HP.out, he, List.append_nil]; exact HE4.out)
          have HR := Lib.hid (append_empty (P := Try.prog) w3.heap.size 33 33 44 i0 4 Try.underlying33 hi0 _ _ _ HE3.out A1 cap1)
          have HU2 := Lib.hid (ERow.read HU1.out)
          clear HF hL he
          go_wp2_with (at_builtin; refine Lib.wpList_append_run _ rfl _ _ _ _ rfl _ _ rfl rfl _ _ HR.out ?_)
          go_meet
          exact ⟨HV', HU2, HB4⟩
        · obtain ⟨g1, hg1⟩ : ∃ g, A1 = some ⟨g, 0, none⟩ := by
            rcases HF with ⟨_, e⟩ | ⟨g, cp, e⟩
            · rw [e] at hL; exact absurd hL.symm hL0
            · injection e with e _ _; exact ⟨g, e⟩
          subst hg1
          have HNW := Lib.hid (ERow.news HU1.out)
          clear HF hL
          go_wp2_with (at_builtin; refine wpList_append_lies _ rfl _ _ _ (by rfl) w3.heap.size 44 i0 _ 4 32 Try.underlying33 hi0 hz0 hz1 hz2 (by rfl) (by omega) _ m _ (by rfl) HE3.out ⟨g1, 0, none⟩ L cap1 (ecells (edgesS c)) (by rfl) (by rw [ecells_length, HLn.out]) HNW.out (ecells_one _) (by omega) (by simp [maxLen]; omega) (by omega) (by omega) w4.heap.size rfl ?_; intro g cp w5 hown hgrow hat hlt)
          have VN : ERow w5 w3.heap.size (.slice (some ⟨g, 0, none⟩) (m + L) cp) ((ls.take (r + 1)).flatMap edgesS) := by
            unfold ERow
            rw [HP.out, List.length_append, HM.out, HLn.out, ecells_append]
            exact hown
          have BN : Below w3.heap.size w3 w5 := HB4.out.grown hgrow (by omega) (fun q hq => (World.ownsRow.lt HE3.out q hq).1)
          have UN : ERow w5 wr.heap.size (.slice (some ⟨g1, 0, none⟩) L cap1) (edgesS c) := own_blocks HU1.out (fun g hg => hgrow.block g (World.ownsRow.lt HU1.out g hg).2 (fun e => by have h1 := HLT.out g e.symm; have h2 := (World.ownsRow.lt HU1.out g hg).1; omega))
          have H1 := Lib.hid VN
          have H2 := Lib.hid (ERow.read UN)
          have H3 := Lib.hid BN
          clear VN BN UN hown hgrow hat hlt
          go_meet
          exact ⟨H1, H2, H3⟩
      case rest =>
        obtain ⟨HE5, HU5, HB5⟩ := hcut
        clear HE3 HE4 HB4 HF HU1 HLT hL
        have hcap1 : L ≤ cap1 := by obtain ⟨_, _, e, h, _⟩ := HU5.out; injection e with _ _ e; rw [HLn.out] at h; omega
        go_wp2_with fail
        obtain ⟨w5, rfl⟩ : ∃ x, x = wc := ⟨wc, rfl⟩
        go_loopw [28] (fun i wr => ∃ k : Nat, k ≤ L ∧ i = .int .i64 k ∧ Hid (Below w5.heap.size w5 wr)) (fun i _ => L - (intOf i).toNat)
        case atStart => exact ⟨0, Nat.zero_le _, rfl, Lib.hid (Below.refl _ _)⟩
        case round =>
          obtain ⟨k, hk, rfl, HW⟩ := hrel
          by_cases hkL : k < L
          · have hkb : decide ((k : Int) < L) = true := by simp; omega
            obtain ⟨e, he⟩ : ∃ e, (edgesS c)[k]? = some e := ⟨_, List.getElem?_eq_getElem (by rw [HLn.out]; exact hkL)⟩
            obtain ⟨q, hq⟩ : ∃ q, (k + 1) % L = q := ⟨_, rfl⟩
            have hqL : q < L := by rw [← hq]; exact Nat.mod_lt _ (by omega)
            obtain ⟨f, hf⟩ : ∃ f, (edgesS c)[q]? = some f := ⟨_, List.getElem?_eq_getElem (by rw [HLn.out]; exact hqL)⟩
            obtain ⟨p, hp⟩ := HWY.out
            obtain ⟨hne, hst⟩ := hp.closed he (by rw [HLn.out, hq]; exact hf)
            obtain ⟨a, rfl, ha, x0, x1, x2, x3⟩ := (HU5.out.keep HW.out).at k e he
            obtain ⟨a', e', hb, y0, y1, y2, y3⟩ := (HU5.out.keep HW.out).at q f hf
            cases e'
            have hqI : (((k : Int) + 1).tmod (L : Int)) = q := by rw [← hq]; exact (Int.ofNat_tmod (k + 1) L).symm
            have hnz : ¬ (L : Int) = 0 := by omega
            have hnz' : ((L : Int) == 0) = false := by simp; omega
            have hqb : (q : Int) < L := by omega
            obtain ⟨⟨e0, e1⟩, ⟨e2, e3⟩⟩ := e
            obtain ⟨⟨f0, f1⟩, ⟨f2, f3⟩⟩ := f
            simp only [] at x0 x1 x2 x3 y0 y1 y2 y3 hst hne
            obtain ⟨rfl, rfl⟩ : e2 = f0 ∧ e3 = f1 := by injection hst with h1 h2; exact ⟨h1, h2⟩
            have hal : Below wr.heap.size wr (wr.alloc (.cells #[.int .i64 e0, .int .i64 e1, .int .i64 e2, .int .i64 e3] 44)) := (Below.refl _ wr).alloc (Nat.le_refl _) _
            replace y0 := keepc hal y0
            replace y1 := keepc hal y1
            replace y2 := keepc hal y2
            replace y3 := keepc hal y3
            have HW' := Lib.hid (HW.out.alloc HW.out.size (.cells #[.int .i64 e0, .int .i64 e1, .int .i64 e2, .int .i64 e3] 44))
            have hcase : e0 ≠ e2 ∨ (e0 = e2 ∧ e1 ≠ e3) := by
              by_cases h0 : e0 = e2
              · exact .inr ⟨h0, fun h1 => hne (by rw [h0, h1])⟩
              · exact .inl h0
            clear he hf hq hst hal hp hne
            rcases hcase with h | ⟨rfl, h⟩
            · have hb1 : (e0 == e2) = false := by simpa using h
              go_wp2_with fail
              go_quiet (fail)
              have HW2 := Lib.hid (belowDN HW'.out nq)
              go_wp2_with fail
              exact ⟨⟨k + 1, by omega, by go_num, HW2⟩, by simp [intOf]; omega⟩
            · have hb1 : (e1 == e3) = false := by simpa using h
              go_wp2_with fail
              go_quiet (fail)
              have HW2 := Lib.hid (belowDN HW'.out nq)
              go_wp2_with fail
              exact ⟨⟨k + 1, by omega, by go_num, HW2⟩, by simp [intOf]; omega⟩
          · obtain rfl : k = L := by omega
            have H1 := Lib.hid (HE5.out.below HW.out)
            have H2 := Lib.hid (HB5.out.trans (HW.out.mono HB5.out.size))
            clear HW
            go_wp2_with fail
            exact ⟨⟨r + 1, by omega, by go_num, H1, H2⟩, by simp [intOf]; omega⟩
    · obtain rfl : r = N := by omega
      have HF : Hid (ERow wr w3.heap.size u4 (ls.flatMap edgesS)) := Lib.hid (by have h := HE.out; rwa [List.take_of_length_le (by rw [HN.out]; exact Nat.le_refl _)] at h)
      have HL := Lib.hid (show (ls.flatMap edgesS).length ≤ 100000 by have h := flat_len ls 1001 (fun d hd => (HPS.out.2 d hd).1); have h2 := HN.out; have h3 := Nat.mul_le_mul_right (4 * 1001) (show ls.length ≤ 8 by omega); omega)
      have hA := fall_any _ ls wr (HSR.out.keep HB.out) HPS.out
      obtain ⟨tot, htot⟩ : ∃ t, ls.flatMap edgesS = t := ⟨_, rfl⟩
      rw [htot] at HF HL hA
      have HA := Lib.hid hA
      clear HE htot hA
      go_wp2_with fail
      refine HA.out.mono ?_
      rintro e w6 ⟨u6, rfl, hu6, hb6⟩
      have HSA := Lib.hid (sameE_any u6 u4 tot w6 (ERow.read hu6) (ERow.read (HF.out.below hb6)) HL.out)
      have HB6 := Lib.hid (HB.out.trans (hb6.mono HB.out.size))
      obtain ⟨A6, c6, rfl⟩ := hu6.form
      clear hu6 hb6
      go_wp2_with fail
      refine HSA.out.mono ?_
      rintro e w7 ⟨rfl, hb7⟩
      have HB7 := Lib.hid (HB3.out.trans ((HB6.out.trans (hb7.mono HB6.out.size)).mono HB3.out.size))
      clear hb7
      go_wp2_with fail
      go_ret
      exact ⟨rfl, HB7.out⟩

end Go.Proofs.Ytnejdngeeppphaa
