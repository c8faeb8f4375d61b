/-
  The walk of punchcutlaw10.SdfBack, over what the program is to do (no claim is made here).
-/
import Derived.Test.YtlhngelifmjefaaSdf1
import Derived.Test.YtlhngelifmjefaaGrd4
import Derived.Laws.OwnMore
import Derived.OpenShut
namespace Go.Proofs.Ytlhngelifmjefaa
open Go.RowKit

set_option maxRecDepth 100000 in
set_option maxHeartbeats 3200000 in
theorem sdfBack_walk (H : SdfOK) (A : Option Addr) (n cap : Nat) (cs : List (List Dot)) (s0 s1 s2 s3 s4 s5 : Int) (w : World) (hcs : DotRows w A n cap cs) (hs : (0 ≤ s0 ∧ s0 ≤ 255) ∧ (0 ≤ s1 ∧ s1 ≤ 255) ∧ (0 ≤ s2 ∧ s2 ≤ 255) ∧ (0 ≤ s3 ∧ s3 ≤ 255) ∧ (0 ≤ s4 ∧ s4 ≤ 255) ∧ (0 ≤ s5 ∧ s5 ≤ 255)) :
    Calls Try.prog 9 #[.slice A n cap, .agg #[.int .u8 s0, .int .u8 s1, .int .u8 s2, .int .u8 s3, .int .u8 s4, .int .u8 s5]] w fun e w' => e = .returned (.bool true) ∧ Below w.heap.size w w' := by
  have HD := Lib.hid hcs
  have HAW := Lib.hid (fun w => awake10 H w)
  obtain ⟨h0, h1, h2, h3, h4, h5⟩ := hs
  have HS := Lib.hid (fun w => sgrid_any s0 s1 s2 s3 s4 s5 h0 h1 h2 h3 h4 h5 w)
  have HB0 := Lib.hid ((Below.refl _ w).alloc (Nat.le_refl _) (.cells #[.int .u8 s0, .int .u8 s1, .int .u8 s2, .int .u8 s3, .int .u8 s4, .int .u8 s5] 24))
  have HK0 := Lib.hid (Blk.new w 24 [.int .u8 s0, .int .u8 s1, .int .u8 s2, .int .u8 s3, .int .u8 s4, .int .u8 s5] rfl)
  have hck : checkG (s0 - 128) (s1 - 128) (1 + s2 % 16) (1 + s3 % 10) (1 + s4 % 10) (1 + s5 % 64) = 0 := by unfold checkG; rw [if_neg (by omega), if_neg (by omega)]
  obtain ⟨u, hu⟩ : ∃ u : Nat, 1 + s3 % 10 = u := ⟨(1 + s3 % 10).toNat, by omega⟩
  obtain ⟨v, hv⟩ : ∃ v : Nat, 1 + s4 % 10 = v := ⟨(1 + s4 % 10).toNat, by omega⟩
  rw [hu, hv] at hck HS
  have bu : 1 ≤ u ∧ u ≤ 10 := by omega
  have bv : 1 ≤ v ∧ v ≤ 10 := by omega
  have bx : -128 ≤ s0 - 128 ∧ s0 - 128 ≤ 127 := by omega
  have by' : -128 ≤ s1 - 128 ∧ s1 - 128 ≤ 127 := by omega
  have bp : 1 ≤ 1 + s2 % 16 ∧ 1 + s2 % 16 ≤ 16 := by omega
  have bs : 1 ≤ 1 + s5 % 64 ∧ 1 + s5 % 64 ≤ 64 := by omega
  clear h0 h1 h2 h3 h4 h5 hu hv hcs
  generalize s0 - 128 = x at *
  generalize s1 - 128 = y at *
  generalize 1 + s2 % 16 = p at *
  generalize 1 + s5 % 64 = s at *
  go_enter Try.func9, Try.ntmps9
  go_wp2_with fail
  refine (HAW.out _).mono ?_
  rintro e w1 ⟨rfl, hb⟩
  have HK1 := Lib.hid (HK0.out.keep hb)
  have HB1 := Lib.hid (below2 HB0.out hb)
  have HC := Lib.hid (glyph7 A n cap cs w1 (HD.out.keep HB1.out))
  clear hb HK0 HB0 HD HAW
  go_wp2_with fail
  refine HC.out.mono ?_
  rintro e w2 ⟨U, es, rfl, hU, hln, hin, hcl, hb⟩
  have HK2 := Lib.hid (HK1.out.keep hb)
  have HB2 := Lib.hid (below2 HB1.out hb)
  have HU2 := Lib.hid hU.read
  have HIN := Lib.hid hin
  have HCL := Lib.hid hcl
  have hln2 : es.length ≤ 200000 := by omega
  have HLN := Lib.hid hln2
  obtain ⟨Au, capu, rfl⟩ := hU.form
  obtain ⟨N, hN⟩ : ∃ N, es.length = N := ⟨_, rfl⟩
  rw [hN] at HU2
  rw [hN]
  have HN := Lib.hid hN
  clear hb HK1 HB1 hU hin hcl hln hln2 hN HC
  obtain ⟨i0, hi0, hz0, hz1, hz2⟩ := infos einfo
  have hcu : N ≤ capu := by obtain ⟨_, _, e, h, _⟩ := HU2.out; injection e with _ _ e; omega
  have hln : N ≤ 200000 := by have := HLN.out; have := HN.out; omega
  go_wp2_with fail
  go_loopw [19, 6] (fun i u wr => ∃ r : Nat, r ≤ N ∧ i = .int .i64 r ∧ Hid (ERow wr w2.heap.size u ((es.take r).map backE).reverse) ∧ Hid (Below w2.heap.size w2 wr)) (fun i _ _ => N - (intOf i).toNat)
  case atStart => exact ⟨0, Nat.zero_le _, rfl, Lib.hid (ERow.nil _ _), Lib.hid (Below.refl _ _)⟩
  case round =>
    obtain ⟨r, hr, rfl, HE, HB⟩ := hrel
    by_cases hrn : r < N
    · have hrb : decide ((r : Int) < N) = true := by simp; omega
      obtain ⟨s, hs⟩ : ∃ s, es[r]? = some s := ⟨_, List.getElem?_eq_getElem (by rw [HN.out]; exact hrn)⟩
      obtain ⟨a, rfl, ha, x0, x1, x2, x3⟩ := (HU2.out.keep HB.out).at r s hs
      have HT := Lib.hid (back_push hs)
      have HLr : Hid (((es.take r).map backE).reverse.length = r) := Lib.hid (by rw [List.length_reverse, List.length_map, List.length_take, HN.out]; omega)
      obtain ⟨⟨s0, s1⟩, s2, s3⟩ := s
      simp only [] at x0 x1 x2 x3
      have hsz := HB.out.size
      obtain ⟨Lr, hLr⟩ : ∃ l, ((es.take r).map backE).reverse = l := ⟨_, rfl⟩
      rw [hLr] at HE HT HLr
      have HB1 := Lib.hid ((HB.out.alloc HB.out.size (.cells #[.int .i64 s0, .int .i64 s1, .int .i64 s2, .int .i64 s3] 57)).alloc (Nat.le_trans HB.out.size (by simp)) (.cells #[.int .i64 s2, .int .i64 s3, .int .i64 s0, .int .i64 s1] 57))
      have HE1 := Lib.hid ((HE.out.alloc (.cells #[.int .i64 s0, .int .i64 s1, .int .i64 s2, .int .i64 s3] 57)).alloc (.cells #[.int .i64 s2, .int .i64 s3, .int .i64 s0, .int .i64 s1] 57))
      have HO1 := Lib.hid (World.ownsRow_lit (base := w2.heap.size) (e := 57) (size := 4) (wr.alloc (.cells #[.int .i64 s0, .int .i64 s1, .int .i64 s2, .int .i64 s3] 57)) #[.int .i64 s2, .int .i64 s3, .int .i64 s0, .int .i64 s1] 1 (by simp; omega) (by simp [maxLen]) rfl)
      rw [World.size_alloc] at HO1
      clear hs hLr
      by_cases hr0 : r = 0
      · obtain ⟨Ab, cb, e⟩ := HE.out.form
        rw [HLr.out, hr0] at e
        subst e
        have hnil : Lr = [] := List.eq_nil_of_length_eq_zero (by rw [HLr.out, hr0])
        have HR := Lib.hid (append_empty (P := Try.prog) w2.heap.size 26 26 57 i0 4 Try.underlying26 hi0 _ _ _ HO1.out Ab cb)
        have HE2 : Hid (ERow ((wr.alloc (.cells #[.int .i64 s0, .int .i64 s1, .int .i64 s2, .int .i64 s3] 57)).alloc (.cells #[.int .i64 s2, .int .i64 s3, .int .i64 s0, .int .i64 s1] 57)) w2.heap.size (.slice (some ⟨wr.heap.size + 1, 0, none⟩) 1 1) ((es.take (r + 1)).map backE).reverse) := Lib.hid (by rw [HT.out, hnil]; exact HO1.out)
        clear HE HB HE1 HO1 hnil hr0
        go_wp2_with (at_builtin; refine Lib.wpList_append_run _ rfl _ _ _ _ rfl _ _ rfl rfl _ _ HR.out ?_)
        exact ⟨⟨r + 1, by omega, by go_num, HE2, HB1⟩, by simp [intOf]; omega⟩
      · have hrp : 0 < r := by omega
        obtain ⟨g, cp, hu⟩ := ERow.some7 HE.out (by rw [HLr.out]; exact hrp)
        rw [HLr.out] at hu
        subst hu
        have HNW := Lib.hid HE1.out.news
        clear HE HB hr0
        go_wp2_with (at_builtin; refine wpList_append_lies _ rfl _ _ _ (by rfl) w2.heap.size 57 i0 _ 4 32 Try.underlying26 hi0 hz0 hz1 hz2 (by rfl) (by omega) _ 1 _ (by rfl) HO1.out ⟨g, 0, none⟩ r cp (ecells Lr) (by rfl) (by rw [ecells_length, HLr.out]) HNW.out (ecells_one _) hrp (by simp [maxLen]; omega) (by omega) (by simp; omega) _ rfl ?_; intro g5 cp5 w5 hown hgrow hat hlt)
        have HE2 : Hid (ERow w5 w2.heap.size (.slice (some ⟨g5, 0, none⟩) (1 + r) cp5) ((es.take (r + 1)).map backE).reverse) := Lib.hid (by
          rw [HT.out]
          unfold ERow
          rw [List.length_cons, HLr.out, Nat.add_comm r 1]
          exact hown)
        have HB2 := Lib.hid (HB1.out.grown hgrow HB1.out.size (fun q hq => by simp [Value.ownBlock] at hq; omega))
        exact ⟨⟨r + 1, by omega, by go_num, HE2, HB2⟩, by simp [intOf]; omega⟩
    · obtain rfl : r = N := by omega
      have hfull : es.take r = es := List.take_of_length_le (by rw [HN.out]; exact Nat.le_refl _)
      rw [hfull] at HE
      obtain ⟨Bk, hBk⟩ : ∃ l, (es.map backE).reverse = l := ⟨_, rfl⟩
      rw [hBk] at HE
      have hlb : Bk.length = r := by rw [← hBk, List.length_reverse, List.length_map, HN.out]
      have hib : ∀ s ∈ Bk, InD s := by
        intro s hs
        rw [← hBk, List.mem_reverse, List.mem_map] at hs
        obtain ⟨t, ht, rfl⟩ := hs
        exact ⟨(HIN.out t ht).2, (HIN.out t ht).1⟩
      have HBR := Lib.hid (ERow.read HE.out)
      obtain ⟨Ab, cb, e⟩ := HE.out.form
      rw [hlb] at e
      subst e
      have HUR := Lib.hid (HU2.out.keep HB.out)
      have HKR := Lib.hid (HK2.out.keep HB.out)
      have HB3 := Lib.hid (below2 HB2.out HB.out)
      have HM1 := Lib.hid (fun w h => H.make (.slice Au r capu) es x y p s u v w h HLN.out HIN.out hck)
      have HM2 := Lib.hid (fun w h => H.make (.slice Ab r cb) Bk x y p s u v w h (by omega) hib hck)
      have hbk := fldN_back es x y p s u (u * v)
      rw [hBk] at hbk
      rw [hbk] at HM2
      have HLT := Lib.hid (fldN_lt es x y p s u (u * v) bs.1)
      generalize fldN es x y p s u (u * v) = bb at *
      have k0 := HKR.out.cell 0 rfl
      have k1 := HKR.out.cell 1 rfl
      have k2 := HKR.out.cell 2 rfl
      have k3 := HKR.out.cell 3 rfl
      have k4 := HKR.out.cell 4 rfl
      have k5 := HKR.out.cell 5 rfl
      have kl := HKR.out.lt
      clear HE HB hBk hlb hib hck hbk HU2 HK2 HB2 hfull
      go_wp2_with fail
      refine (HS.out _).mono ?_
      rintro e w3 ⟨rfl, hb⟩
      have HK4 := Lib.hid (HKR.out.keep hb)
      have HB4 := Lib.hid (below2 HB3.out hb)
      have HU4 := Lib.hid (HUR.out.keep hb)
      have HR4 := Lib.hid (HBR.out.keep hb)
      clear hb HKR HB3 HUR HBR k0 k1 k2 k3 k4 k5 kl
      go_wp2_with fail
      refine (HM1.out _ HU4.out).mono ?_
      rintro e w4 ⟨V, rfl, hV, hb⟩
      have hal : Below w4.heap.size w4 (w4.alloc (.cells #[.int .i64 u, .int .i64 v, V] 30)) := (Below.refl _ _).alloc (Nat.le_refl _) _
      have HK5 := Lib.hid ((HK4.out.keep hb).keep hal)
      have HB5 := Lib.hid (below2 (below2 HB4.out hb) hal)
      have HR5 := Lib.hid ((HR4.out.keep hb).keep hal)
      have HV5 := Lib.hid (hV.keep hal)
      have HF5 := Lib.hid (Blk.new w4 30 [.int .i64 u, .int .i64 v, V] rfl)
      clear hb hal HK4 HB4 HU4 HR4 hV HM1
      obtain ⟨Av, capv, rfl⟩ := HV5.out.form
      generalize bb.length = L at *
      have k0 := HK5.out.cell 0 rfl
      have k1 := HK5.out.cell 1 rfl
      have k2 := HK5.out.cell 2 rfl
      have k3 := HK5.out.cell 3 rfl
      have k4 := HK5.out.cell 4 rfl
      have k5 := HK5.out.cell 5 rfl
      have kl := HK5.out.lt
      go_upto_region 11 with fail
      generalize w4.alloc (.cells #[.int .i64 u, .int .i64 v, .slice Av L capv] 30) = w5 at *
      generalize w4.heap.size = F at *
      go_wp2_with fail
      refine (HS.out _).mono ?_
      rintro e w6 ⟨rfl, hb⟩
      have HF6 := Lib.hid (HF5.out.keep hb)
      have HB6 := Lib.hid (below2 HB5.out hb)
      have HR6 := Lib.hid (HR5.out.keep hb)
      have HV6 := Lib.hid (HV5.out.keep hb)
      clear hb HK5 HB5 HR5 HV5 HF5 HS k0 k1 k2 k3 k4 k5 kl
      go_wp2_with fail
      refine (HM2.out _ HR6.out).mono ?_
      rintro e w7 ⟨V2, rfl, hV2, hb⟩
      have hal : Below w7.heap.size w7 (w7.alloc (.cells #[.int .i64 u, .int .i64 v, V2] 30)) := (Below.refl _ _).alloc (Nat.le_refl _) _
      have HF8 := Lib.hid ((HF6.out.keep hb).keep hal)
      have HB8 := Lib.hid (below2 (below2 HB6.out hb) hal)
      have HV8 := Lib.hid ((HV6.out.keep hb).keep hal)
      have HW8 := Lib.hid (hV2.keep hal)
      obtain ⟨Aw, capw, rfl⟩ := hV2.form
      clear hb hal HF6 HB6 HV6 HR6 hV2 HM2
      have f0 := HF8.out.cell 0 rfl
      have f1 := HF8.out.cell 1 rfl
      have f2 := HF8.out.cell 2 rfl
      have fl := HF8.out.lt
      go_wp2_with fail
      refine (same10_any _ _ _ _ _ _ (HV8.out.read HLT.out) (HW8.out.read HLT.out)).mono ?_
      rintro e w9 ⟨rfl, hb⟩
      have HB9 := Lib.hid (below2 HB8.out hb)
      clear hb
      go_wp2
      go_ret
      exact ⟨rfl, HB9.out⟩

end Go.Proofs.Ytlhngelifmjefaa
