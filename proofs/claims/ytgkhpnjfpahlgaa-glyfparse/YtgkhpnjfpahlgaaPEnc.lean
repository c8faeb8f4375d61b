/-
  What the program's Encode of layer 4 does to any world (no claim is made here).
-/
import Derived.Test.YtgkhpnjfpahlgaaPApf
import Derived.Test.YtgkhpnjfpahlgaaPChk
import Derived.Test.YtgkhpnjfpahlgaaPStepsOf
namespace Go.Proofs.Ytgkhpnjfpahlgaa
open Go.RowKit

def sB (s : St) : List Nat := stepB s.x ++ stepB s.y
theorem and2 (f : Nat) (h : f < 8) : bits .and .u8 (f : Int) 2 = if decide (f / 2 % 2 = 1) = true then 2 else 0 := by
  rcases (by omega : f = 0 ∨ f = 1 ∨ f = 2 ∨ f = 3 ∨ f = 4 ∨ f = 5 ∨ f = 6 ∨ f = 7) with rfl | rfl | rfl | rfl | rfl | rfl | rfl | rfl <;> rfl
theorem and4 (f : Nat) (h : f < 8) : bits .and .u8 (f : Int) 4 = if decide (f / 4 % 2 = 1) = true then 4 else 0 := by
  rcases (by omega : f = 0 ∨ f = 1 ∨ f = 2 ∨ f = 3 ∨ f = 4 ∨ f = 5 ∨ f = 6 ∨ f = 7) with rfl | rfl | rfl | rfl | rfl | rfl | rfl | rfl <;> rfl
theorem take_flat_len {α : Type} (g : α → List Nat) (ss : List α) (j : Nat) : ((ss.take j).flatMap g).length ≤ (ss.flatMap g).length := by
  have e : ss.flatMap g = (ss.take j).flatMap g ++ (ss.drop j).flatMap g := by rw [← List.flatMap_append, List.take_append_drop]
  rw [e, List.length_append]
  omega

set_option maxRecDepth 100000 in
set_option maxHeartbeats 1600000 in
theorem pencode_any (v : Value) (o : List (List Vtx)) (w : World) (ho : ORd w v o) (hl : ∀ c ∈ o, c.length ≤ 1000) (hn : o.length ≤ 1000) :
    Calls Try.prog 14 #[.agg #[v]] w fun e w' => ∃ u, e = .returned (.tuple #[u, .int .i64 (checkS o : Nat)]) ∧ Below w.heap.size w w' ∧ (checkS o = 0 → BRow w' w.heap.size u (encodeS o)) ∧ (checkS o ≠ 0 → u = .slice none 0 0) := by
  have HO := Lib.hid ho
  obtain ⟨A, cap, rfl, hc, h3⟩ := ho
  obtain ⟨n, hnn⟩ : ∃ n : Nat, o.length = n := ⟨_, rfl⟩
  rw [hnn] at hc hn HO
  rw [hnn]
  have hB1 : Below w.heap.size w (w.alloc (.cells #[.slice A n cap] 29)) := (Below.refl _ w).alloc (Nat.le_refl _) _
  have hO1 : One (w.alloc (.cells #[.slice A n cap] 29)) w.heap.size (.slice A n cap) := One.new _ _ rfl
  have HCK := Lib.hid (pcheck_any _ o _ (HO.out.keep hB1) hl (by omega))
  have HB1 := Lib.hid hB1
  have HO1 := Lib.hid hO1
  have HNN := Lib.hid hnn
  obtain ⟨R, hR⟩ : ∃ R : Nat, checkS o = R := ⟨_, rfl⟩
  rw [hR] at HCK
  rw [hR]
  have HR := Lib.hid hR
  have HL := Lib.hid hl
  clear h3 hB1 hO1 hnn hl hR
  go_enter Try.func14, Try.ntmps14
  go_wp2_with fail
  refine HCK.out.mono ?_
  rintro e w1 ⟨rfl, hb1⟩
  by_cases hR0 : R = 0
  · subst hR0
    have hCZ := checkS_zero HR.out
    have HZ := Lib.hid hCZ
    have hn8 : n ≤ 8 := by rw [← HNN.out]; exact hCZ.1
    have B1 := HB1.out.trans (hb1.mono HB1.out.size)
    have O1 := HO1.out.keep hb1
    have HBW := Lib.hid B1
    have HOW := Lib.hid O1
    obtain ⟨oc, of⟩ := O1
    have oz := HOW.out.lt
    have hw8 : IntKind.u8.wrap (n : Int) = n := by rw [IntKind.wrap_u8]; omega
    clear hCZ hb1 B1 HO1 HB1 HCK
    go_wp2_with fail
    have HR1 : BRow (w1.alloc (.cells #[.int .u8 n] 5)) (w.heap.size + 1) (.slice (some ⟨w1.heap.size, 0, none⟩) 1 1) (n :: (o.take 0).map List.length) := World.ownsRow_lit w1 _ 1 (by omega) (by unfold maxLen; omega) rfl
    have O2 := HOW.out.alloc (.cells #[.int .u8 n] 5)
    have B2 := HBW.out.alloc HBW.out.size (.cells #[.int .u8 n] 5)
    generalize w1.alloc (.cells #[.int .u8 n] 5) = w2 at *
    clear oc of oz hw8
    go_loopw [24, 5] (fun i u wr => ∃ (r : Nat), r ≤ n ∧ i = .int .i64 r ∧ Hid (BRow wr (w.heap.size + 1) u (n :: (o.take r).map List.length)) ∧ Hid (One wr w.heap.size (.slice A n cap)) ∧ Hid (Below w.heap.size w wr)) (fun i _ _ => n - (intOf i).toNat)
    case atStart => exact ⟨0, Nat.zero_le _, rfl, Lib.hid HR1, Lib.hid O2, Lib.hid B2⟩
    case round =>
      clear HR1 O2 B2 HOW HBW
      obtain ⟨r, hr, rfl, HU, HOW, HBW⟩ := hrel
      by_cases hrn : r < n
      · have hrb : decide ((r : Int) < n) = true := by simp; omega
        have hORD := HO.out.keep HBW.out
        obtain ⟨A', cap', e, hcc, h3⟩ := hORD
        obtain ⟨a, u0, hAe, hal, hac, hrow⟩ := h3 r (by have := HNN.out; omega)
        simp only [Value.slice.injEq] at e
        obtain ⟨rfl, -, rfl⟩ := e
        subst hAe
        obtain ⟨A1, cap1, rfl, hcl, hd⟩ := hrow
        obtain ⟨c, hcr⟩ : ∃ c, c = o[r]'(by have := HNN.out; omega) := ⟨_, rfl⟩
        rw [← hcr] at hac hcl hd
        have HCR : Hid (o[r]? = some c) := Lib.hid (by rw [hcr]; exact List.getElem?_eq_getElem _)
        have hL1 : c.length ≤ 64 := by
          have h1 := le_flatten o c (by rw [hcr]; exact List.getElem_mem _)
          have h2 := HZ.out.2.1
          omega
        obtain ⟨L, hL⟩ : ∃ L : Nat, c.length = L := ⟨_, rfl⟩
        rw [hL] at hac hcl hL1
        have HT : Hid (n :: (o.take (r + 1)).map List.length = (n :: (o.take r).map List.length) ++ [L]) := Lib.hid (by rw [take_push o r c HCR.out]; simp [hL])
        have hlen : (n :: (o.take r).map List.length).length = r + 1 := by rw [List.length_cons, List.length_map, List.length_take]; have := HNN.out; omega
        have HLE := Lib.hid hlen
        have hw8 : IntKind.u8.wrap (L : Int) = L := by rw [IntKind.wrap_u8]; omega
        have HUO := Lib.hid (HU.out.own hlen)
        have hzz : w.heap.size + 1 ≤ wr.heap.size := by have := HOW.out.lt; omega
        have hnb : (wr.alloc (.cells #[.int .u8 L] 5)).heap[wr.heap.size]? = some (.cells #[.int .u8 L] 5 (0, 0)) := heap_alloc_new _ _
        have HNB := Lib.hid hnb
        have hne : some w.heap.size ≠ u5.ownBlock := fun e => by have := (HUO.out.lt _ e.symm).1; omega
        have HNE := Lib.hid hne
        obtain ⟨i0, hi0, hz0, hz1, hz2⟩ := infos binfo
        clear hcr hd hL hlen hnb hne h3
        go_wp2_with (at_builtin; refine wpList_append_lies _ rfl _ _ _ (by rfl) (w.heap.size + 1) 5 i0 _ 1 1 Try.underlying34 hi0 hz0 hz1 hz2 (by rfl) (by omega) _ (r + 1) _ (by rfl) (HUO.out.alloc _) ⟨wr.heap.size, 0, none⟩ 1 1 [.int .u8 L] (by rfl) (by rfl) (World.news_of_block HNB.out) (by simp [Value.oneCell']) (by omega) (by simp [maxLen]; omega) (by omega) (by simp; omega) (wr.heap.size + 1) (by simp) ?_; intro g cp w4 hown hgrow hat hlt)
        have UN : BRow w4 (w.heap.size + 1) (.slice (some ⟨g, 0, none⟩) (r + 1 + 1) cp) (n :: (o.take (r + 1)).map List.length) := by
          rw [HT.out]
          unfold BRow
          rw [bvals_append, List.length_append, HLE.out]
          exact hown
        have ON := (HOW.out.alloc (.cells #[.int .u8 L] 5)).grown hgrow HNE.out
        have BN := (HBW.out.alloc HBW.out.size (.cells #[.int .u8 L] 5)).grown hgrow (by have := HBW.out.size; simp; omega) (fun q hq => by have := (HUO.out.lt q hq).1; omega)
        exact ⟨⟨r + 1, by omega, by go_num, Lib.hid UN, Lib.hid ON, Lib.hid BN⟩, by simp [intOf]; omega⟩
      · obtain rfl : r = n := by omega
        have HSO := Lib.hid (stepsOf_any _ o wr (HO.out.keep HBW.out) HR.out)
        obtain ⟨oc, of⟩ := HOW.out
        have oz := HOW.out.lt
        go_wp2_with fail
        refine HSO.out.mono ?_
        rintro e w3 ⟨su, rfl, hsr, hb3⟩
        have HUR : Hid (BRow w3 (w.heap.size + 1) u5 (r :: o.map List.length)) := Lib.hid (by
          have := HU.out.below hb3
          rwa [List.take_of_length_le (by rw [HNN.out]; omega)] at this)
        have HSR := Lib.hid hsr
        have HB3 := Lib.hid (HBW.out.trans (hb3.mono HBW.out.size))
        have HAP : Hid (Apart u5 su) := Lib.hid (by
          intro g hg hs
          have h1 := (World.ownsRow.lt HU.out g hg).2
          have h2 := (World.ownsRow.lt hsr g hs).1
          omega)
        obtain ⟨ss, hss⟩ : ∃ ss, stepsL 0 0 o.flatten = ss := ⟨_, rfl⟩
        rw [hss] at HSR
        have hfl : ss.map St.f = flagsV 0 0 o.flatten := by rw [← hss]; exact stepsL_flags _ _ _
        have hbl : ss.flatMap sB = stepsV 0 0 o.flatten := by rw [← hss]; exact stepsL_bytes _ _ _
        have hok : ∀ s ∈ ss, okSt s := by rw [← hss]; exact stepsL_ok _ _ _ (by omega) (by omega) HZ.out.2.2.2
        have hsl : ss.length ≤ 64 := by rw [← hss, stepsL_length]; exact HZ.out.2.1
        have HAF := Lib.hid (appendFlags_any (w.heap.size + 1) u5 su (r :: o.map List.length) ss w3 HUR.out HSR.out.read HAP.out (fun k hk => (World.ownsRow.lt HSR.out k hk).2) (by have := HB3.out.size; have := hb3.size; omega) (by rw [List.length_cons, List.length_map]; have := HNN.out; omega) hsl (fun s hs => (hok s hs).1))
        have HEN : Hid (encodeS o = (r :: o.map List.length ++ rle (ss.map St.f)) ++ ss.flatMap sB) := Lib.hid (by rw [hfl, hbl]; unfold encodeS; rw [HNN.out]; simp)
        have HOK := Lib.hid hok
        have hz3 : w.heap.size + 1 ≤ w3.heap.size := by have := hb3.size; omega
        have HMX := Lib.hid (encode_max o HR.out)
        obtain ⟨L, hL⟩ : ∃ L, ss.length = L := ⟨_, rfl⟩
        have hsf : ∃ B capb, su = .slice B L capb := own_form (HSR.out.own hL)
        have huf : ∃ B capb, u5 = .slice B (r + 1) capb := own_form (HUR.out.own (by rw [List.length_cons, List.length_map, HNN.out]))
        have HLn := Lib.hid hL
        rw [hL] at hsl
        clear hss hfl hbl hok hsr hb3 HU HOW HBW HSO oc of oz hL
        obtain ⟨sB', capS, rfl⟩ := hsf
        obtain ⟨Au, capu, rfl⟩ := huf
        go_wp2_with fail
        refine HAF.out.mono ?_
        rintro e w4 ⟨u4, rfl, happ⟩
        have HU4 := Lib.hid happ.1
        have HAP4 := Lib.hid (happ.far HAP.out (fun k hk => (World.ownsRow.lt HSR.out k hk).2))
        have HS4 := Lib.hid (HSR.out.read.grown happ.2.1 HAP.out.ne)
        have HB4 := Lib.hid (HB3.out.grown happ.2.1 (by omega) (fun k hk => by have := (World.ownsRow.lt HUR.out k hk).1; omega))
        have hz4 : w.heap.size + 1 ≤ w4.heap.size := by have := happ.size; omega
        obtain ⟨hd, hhd⟩ : ∃ hd, r :: o.map List.length ++ rle (ss.map St.f) = hd := ⟨_, rfl⟩
        rw [hhd] at HU4 HEN
        have HU4' : Hid (BRow w4 (w.heap.size + 1) u4 (hd ++ (ss.take 0).flatMap sB)) := Lib.hid (by rw [List.take_zero, List.flatMap_nil, List.append_nil]; exact HU4.out)
        clear happ hhd HU4 HAF HAP HSR HB3 HUR
        go_wp2_with fail
        go_loopw [42, 5] (fun i u wr => ∃ (j : Nat), j ≤ L ∧ i = .int .i64 j ∧ Hid (BRow wr (w.heap.size + 1) u (hd ++ (ss.take j).flatMap sB)) ∧ Hid (SRd wr (.slice sB' L capS) ss) ∧ Hid (Apart u (.slice sB' L capS)) ∧ w.heap.size + 1 ≤ wr.heap.size ∧ Hid (Below w.heap.size w wr)) (fun i _ _ => L - (intOf i).toNat)
        case atStart => exact ⟨0, Nat.zero_le _, rfl, HU4', HS4, HAP4, hz4, HB4⟩
        case round =>
          clear HU4' HS4 HAP4 hz4 HB4
          obtain ⟨j, hj, rfl, HU, HS, HAP, hzz, HB⟩ := hrel
          by_cases hjL : j < L
          · have hjb : decide ((j : Int) < L) = true := by simp; omega
            obtain ⟨B', cb', e, hcc, h3⟩ := HS.out
            obtain ⟨a1, hAe, ha1, x0, x1, x2⟩ := h3 j (by have := HLn.out; omega)
            simp only [Value.slice.injEq] at e
            obtain ⟨rfl, -, rfl⟩ := e
            subst hAe
            obtain ⟨d, hdd⟩ : ∃ d, d = ss[j]'(by have := HLn.out; omega) := ⟨_, rfl⟩
            rw [← hdd] at x0 x1 x2
            have hok : okSt d := HOK.out d (by rw [hdd]; exact List.getElem_mem _)
            have HDJ : Hid (ss[j]? = some d) := Lib.hid (by rw [hdd]; exact List.getElem?_eq_getElem _)
            have HT : Hid (hd ++ (ss.take (j + 1)).flatMap sB = ((hd ++ (ss.take j).flatMap sB) ++ stepB d.x) ++ stepB d.y) := Lib.hid (by rw [take_push ss j d HDJ.out, List.flatMap_append]; simp [sB])
            have hlen : (hd ++ (ss.take j).flatMap sB).length ≤ 400 := by
              have h1 := HMX.out.2
              rw [HEN.out, List.length_append] at h1
              have h2 := take_flat_len sB ss j
              rw [List.length_append]
              omega
            obtain ⟨df, dx, dy⟩ := d
            obtain ⟨k1, k2, k3, k4, k5⟩ := hok
            simp only [] at x0 x1 x2 HT k1 k2 k3 k4 k5
            rw [add_spell _ _ _ (by omega)] at x1 x2
            have q2 := and2 df k1
            have q4 := and4 df k1
            rw [k2] at q2
            rw [k3] at q4
            obtain ⟨k, hk⟩ : ∃ k, (hd ++ (ss.take j).flatMap sB).length = k := ⟨_, rfl⟩
            obtain ⟨pre, hpre⟩ : ∃ pre, hd ++ (ss.take j).flatMap sB = pre := ⟨_, rfl⟩
            rw [hpre] at HU HT hlen hk
            have huf : ∃ B capb, u5 = .slice B k capb := own_form (HU.out.own hk)
            have TH : Hid (Thr (wr.alloc (.cells #[.int .u8 df, .int .i64 dx, .int .i64 dy] 59)) wr.heap.size (.int .u8 df) (.int .i64 dx) (.int .i64 dy)) := Lib.hid (Thr.new _ _ _ _ rfl)
            have HUa : Hid (BRow (wr.alloc (.cells #[.int .u8 df, .int .i64 dx, .int .i64 dy] 59)) (w.heap.size + 1) u5 pre) := Lib.hid (HU.out.alloc _)
            have HC1 := Lib.hid (appendStep_any (w.heap.size + 1) u5 pre dx (far dx) rfl (by omega) _ HUa.out (by simp; omega) (by omega))
            have hy : -600 ≤ dy ∧ dy ≤ 600 := by omega
            have HY : Hid (∀ (v : Value) (w : World) (base : Nat), BRow w base v (pre ++ stepB dx) → base ≤ w.heap.size → Calls Try.prog 24 #[v, .int .i64 dy, .bool (far dy)] w fun e w' => ∃ v', e = .returned v' ∧ App w w' base v v' ((pre ++ stepB dx) ++ stepB dy)) := Lib.hid (fun v w base hv hb => appendStep_any base v _ dy (far dy) rfl hy w hv hb (by rw [List.length_append]; have := (stepB_le dx).1; omega))
            obtain ⟨tx, htx⟩ : ∃ tx, far dx = tx := ⟨_, rfl⟩
            obtain ⟨ty, hty⟩ : ∃ ty, far dy = ty := ⟨_, rfl⟩
            rw [htx] at q2 HC1
            rw [hty] at q4 HY
            obtain ⟨Au1, capu1, rfl⟩ := huf
            clear hdd k1 k2 k3 k4 k5 htx hty hk hpre h3 hy
            cases tx <;> cases ty
            all_goals
              simp only [if_true, Bool.false_eq_true, if_false] at q2 q4
              go_wp2_with fail
              refine HC1.out.mono ?_
              rintro e w5 ⟨u6, rfl, ha⟩
              have T5 : Thr w5 wr.heap.size (.int .u8 df) (.int .i64 dx) (.int .i64 dy) := TH.out.grown ha.2.1 (fun e => by have := (World.ownsRow.lt HU.out _ e.symm).2; omega)
              have HA := Lib.hid ha
              have HT5 := Lib.hid T5
              have hz5 : w.heap.size + 1 ≤ w5.heap.size := by have := ha.size; simp at this; omega
              have HC2 := Lib.hid (HY.out u6 w5 (w.heap.size + 1) ha.1 hz5)
              obtain ⟨⟨t0, t1, t2⟩, -, -, -⟩ := T5
              have tz := HT5.out.lt
              clear ha
              go_wp2_with fail
              refine HC2.out.mono ?_
              rintro e w6 ⟨u7', rfl, ha2⟩
              have HXX := HA.out.trans ha2
              have HX := HXX.pre ((Below.refl _ wr).alloc (Nat.le_refl _) _)
              have HS6 := HS.out.grown HX.2.1 HAP.out.ne
              have HAP6 := HX.far HAP.out (fun q hq => by injection hq with hq; omega)
              have BN : Below w.heap.size w w6 := HB.out.grown HX.2.1 (by omega) (fun q hq => by have := (World.ownsRow.lt HU.out q hq).1; omega)
              have hz6 : w.heap.size + 1 ≤ w6.heap.size := by have := HX.size; omega
              go_wp2_with fail
              exact ⟨⟨j + 1, by omega, by go_num, Lib.hid (by rw [HT.out]; exact HX.1), Lib.hid HS6, Lib.hid HAP6, hz6, Lib.hid BN⟩, by simp [intOf]; omega⟩
          · obtain rfl : j = L := by omega
            have HF : Hid (BRow wr w.heap.size u5 (encodeS o)) := Lib.hid (by
              have := HU.out
              rw [List.take_of_length_le (by rw [HLn.out]; omega), ← HEN.out] at this
              exact World.ownsRow.mono this (by omega))
            clear HU
            go_wp2
            go_ret2
            exact ⟨_, rfl, HB.out, HF.out⟩
  · have hR0' : ((R : Int) != 0) = true := by simp; omega
    have hR0'' : ((R : Int) == 0) = false := by simp; omega
    have BF := Lib.hid (HB1.out.trans (hb1.mono HB1.out.size))
    go_wp2
    go_ret2
    exact ⟨_, rfl, BF.out, fun h => absurd h hR0, fun _ => rfl⟩

end Go.Proofs.Ytgkhpnjfpahlgaa
