/-
  The walk of punchcutlaw11.CornerAll, over what the program is to do (no claim is made here).
-/
import Derived.Test.YtbnjajhhbcnepaaCorn5
import Derived.Test.YtbnjajhhbcnepaaCorn6
namespace Go.Proofs.Ytbnjajhhbcnepaa
open Go.RowKit

theorem flatten_at {o : List (List Ed)} {q z : Nat} {es : List Ed} {E : Ed} (hes : o[q]? = some es) (hz : es[z]? = some E) : o.flatten[(o.take q).flatten.length + z]? = some E := by
  obtain ⟨hq, he⟩ := List.getElem?_eq_some_iff.1 hes
  have hz' := (List.getElem?_eq_some_iff.1 hz).1
  have h : o.flatten = (o.take q).flatten ++ (es ++ (o.drop (q + 1)).flatten) := by
    conv => lhs; rw [← List.take_append_drop q o, List.drop_eq_getElem_cons hq, he]
    simp
  rw [h, List.getElem?_append_right (by omega), show (o.take q).flatten.length + z - (o.take q).flatten.length = z by omega, List.getElem?_append_left hz']
  exact hz
theorem flatten_take_len (o : List (List Ed)) (q : Nat) : (o.take q).flatten.length ≤ o.flatten.length := by
  have h : o.flatten = (o.take q).flatten ++ (o.drop q).flatten := by rw [← List.flatten_append, List.take_append_drop]
  rw [h, List.length_append]
  omega

set_option maxRecDepth 100000 in
set_option maxHeartbeats 3200000 in
theorem cornerAll_walk (H : CornOK) (A : Option Addr) (n cap : Nat) (cs : List (List Dot)) (w : World) (hcs : DotRows w A n cap cs) :
    Calls Try.prog 6 #[.slice A n cap] w fun e w' => e = .returned (.bool true) ∧ Below w.heap.size w w' := by
  have HD := Lib.hid hcs
  have HAW := Lib.hid (fun w => awake11 H w)
  have HN0 : Hid (∀ w : World, ERd w (.slice none 0 0) []) := Lib.hid (fun w => ⟨none, 0, rfl, Nat.le_refl _, fun i hi => absurd hi (Nat.not_lt_zero _)⟩)
  clear hcs
  go_enter Try.func6, Try.ntmps6
  go_wp2_with fail
  refine (HAW.out _).mono ?_
  rintro e w1 ⟨rfl, hb1⟩
  have HC := Lib.hid (contours_any A n cap cs w1 (HD.out.keep hb1))
  have HB1 := Lib.hid hb1
  clear hb1 HD HAW
  go_wp2_with fail
  refine HC.out.mono ?_
  rintro e w2 ⟨v, rfl, hv, hb2⟩
  have HB2 := Lib.hid (below2 HB1.out hb2)
  obtain ⟨Ao, capo, rfl⟩ := hv.form
  obtain ⟨hs1, hs2⟩ := contE_small cs
  obtain ⟨o, ho⟩ : ∃ o, contE cs = o := ⟨_, rfl⟩
  rw [ho] at hv hs1 hs2
  rw [ho]
  obtain ⟨N, hN⟩ : ∃ N, o.length = N := ⟨_, rfl⟩
  have HNO := Lib.hid hN
  have HO := Lib.hid hv.read
  have HS := Lib.hid hs2
  rw [hN] at HO hs1
  rw [hN]
  clear hb2 HB1 HC hv hs2 ho hN
  have HAL := Lib.hid (fun w v h => H.all v o w h (by rw [HNO.out]; exact hs1) HS.out)
  go_wp2_with fail
  go_loopw [21, 4, 5] (fun i u nn wr => ∃ r s : Nat, r ≤ N ∧ i = .int .i64 r ∧ nn = .int .i64 s ∧ s ≤ 5000 * r ∧ Hid ((o.take r).flatten.length = s) ∧ Hid ((((o.take r).map coloursL).flatten).length = s) ∧ Hid (NRow wr w2.heap.size u (((o.take r).map coloursL).flatten)) ∧ Hid (Below w2.heap.size w2 wr)) (fun i _ _ _ => N - (intOf i).toNat)
  case atStart => exact ⟨0, 0, Nat.zero_le _, rfl, rfl, Nat.zero_le _, Lib.hid rfl, Lib.hid rfl, Lib.hid (NRow.nil _ _), Lib.hid (Below.refl _ _)⟩
  case round =>
    obtain ⟨r, s, hr, rfl, rfl, hs, HS1, HS2, HR, HB⟩ := hrel
    by_cases hrN : r < N
    · have hrb : decide ((r : Int) < N) = true := by simp; omega
      obtain ⟨es, hes⟩ : ∃ c, o[r]? = some c := ⟨_, List.getElem?_eq_getElem (by rw [HNO.out]; exact hrN)⟩
      obtain ⟨a, u0, rfl, hal, hac, hrow⟩ := (HO.out.keep HB.out).at r es hes
      obtain ⟨he1, he2⟩ := HS.out es (List.mem_of_getElem? hes)
      have he3 : es.length ≤ 200000 := by omega
      have HE := Lib.hid hrow
      have HW := Lib.hid (fun w h => lcolours_any u0 es w h he3 he2)
      obtain ⟨Ae, cape, e, _, _⟩ := id hrow
      subst e
      obtain ⟨M, hM⟩ : ∃ k, es.length = k := ⟨_, rfl⟩
      have HT1 := Lib.hid (show (o.take (r + 1)).flatten.length = s + M by rw [take_next hes, List.flatten_append, List.length_append, HS1.out]; simp [hM])
      have HT2 := Lib.hid (show ((o.take (r + 1)).map coloursL).flatten = ((o.take r).map coloursL).flatten ++ coloursL es by rw [take_next hes, List.map_append, List.flatten_append]; simp)
      have HMC := Lib.hid (show (coloursL es).length = M by rw [coloursL_length]; exact hM)
      rw [hM] at HW he1 hac HE
      clear hes hrow he2 he3 hM
      go_wp2_with fail
      refine (HW.out _ HE.out).mono ?_
      rintro e w3 ⟨V, rfl, hV, hb3⟩
      obtain ⟨Av, capv, rfl⟩ := hV.form
      rw [HMC.out] at hV ⊢
      have HV := Lib.hid hV.read
      have HR3 := Lib.hid (HR.out.below hb3)
      have HB3 := Lib.hid (below2 HB.out hb3)
      obtain ⟨Au, capu, rfl⟩ := HR.out.form
      rw [HS2.out] at HR3 ⊢
      have hsz := HB3.out.size
      clear hV hb3 HE HB HW HR hac hal HS1
      generalize ((o.take r).map coloursL).flatten = cur at *
      go_wp2_with (at_builtin; refine njoin_list rfl _ _ (by rfl) w2.heap.size _ cur s (by rfl) HR3.out HS2.out _ M _ _ (by rfl) HV.out HMC.out (by omega) (by omega) ?_; intro A6 c6 w6 hR6 hb6)
      exact ⟨⟨r + 1, s + M, by omega, by go_num, by go_num, by omega, HT1, Lib.hid (by rw [HT2.out, List.length_append, HS2.out, HMC.out]), Lib.hid (by rw [HT2.out]; exact hR6), Lib.hid (HB3.out.trans hb6)⟩, by simp [intOf]; omega⟩
    · have hrN2 : r = N := by omega
      subst hrN2
      have hfull : o.take r = o := List.take_of_length_le (by rw [HNO.out]; exact Nat.le_refl _)
      rw [hfull] at HS1 HS2 HR
      clear hfull
      obtain ⟨Aw, capw, rfl⟩ := HR.out.form
      rw [HS2.out] at HR ⊢
      obtain ⟨wo, rfl⟩ : ∃ x, x = wr := ⟨wr, rfl⟩
      go_wp2_with fail
      refine (HAL.out _ _ (HO.out.keep HB.out)).mono ?_
      rintro e w7 ⟨V, U, rfl, hV, hU, hb7⟩
      obtain ⟨Av, capv, rfl⟩ := hV.form
      obtain ⟨Au, capu, rfl⟩ := hU.form
      rw [HS2.out] at hU
      rw [HS1.out] at hV ⊢
      rw [HS2.out]
      have HV := Lib.hid hV.read
      have HI := Lib.hid (ints_same _ _ _ w7 hU.read (HR.out.below hb7).read (by rw [HS2.out]; omega))
      have HO7 := Lib.hid ((HO.out.keep HB.out).keep hb7)
      have HB7 := Lib.hid (HB2.out.trans ((below2 HB.out hb7).mono HB2.out.size))
      clear hV hU hb7 HO HB HAL HR
      go_wp2_with fail
      refine HI.out.mono ?_
      rintro e w8 ⟨rfl, hb8⟩
      have HV8 := Lib.hid (HV.out.keep hb8)
      have HO8 := Lib.hid (HO7.out.keep hb8)
      have HB8 := Lib.hid (below2 HB7.out hb8)
      clear hb8 HI HV HO7 HB7
      go_wp2_with fail
      go_loopw [51, 10] (fun i kk wr => ∃ q t : Nat, q ≤ r ∧ i = .int .i64 q ∧ kk = .int .i64 t ∧ t ≤ 5000 * q ∧ Hid ((o.take q).flatten.length = t) ∧ Hid (Below w8.heap.size w8 wr)) (fun i _ _ => r - (intOf i).toNat)
      case atStart => exact ⟨0, 0, Nat.zero_le _, rfl, rfl, Nat.zero_le _, Lib.hid rfl, Lib.hid (Below.refl _ _)⟩
      case round =>
        obtain ⟨q, t, hq, rfl, rfl, ht, HT, HX⟩ := hrel
        by_cases hqr : q < r
        · have hqb : decide ((q : Int) < r) = true := by simp; omega
          obtain ⟨es, hes⟩ : ∃ c, o[q]? = some c := ⟨_, List.getElem?_eq_getElem (by rw [HNO.out]; exact hqr)⟩
          obtain ⟨a, u0, rfl, hal, hac, hrow⟩ := (HO8.out.keep HX.out).at q es hes
          have hel := (HS.out es (List.mem_of_getElem? hes)).1
          obtain ⟨Ae, cape, e, hec, _⟩ := id hrow
          subst e
          obtain ⟨M, hM⟩ : ∃ k, es.length = k := ⟨_, rfl⟩
          have HM := Lib.hid hM
          have HT1 := Lib.hid (show (o.take (q + 1)).flatten.length = t + M by rw [take_next hes, List.flatten_append, List.length_append, HT.out]; simp [hM])
          have HAT := Lib.hid (fun z E (hz : es[z]? = some E) => show o.flatten[t + z]? = some E by rw [← HT.out]; exact flatten_at hes hz)
          have hts : t + M ≤ s := by
            have := flatten_take_len o (q + 1)
            rw [HT1.out, HS1.out] at this
            exact this
          rw [hM] at hrow hac hel hec
          have HE := Lib.hid hrow
          clear hes hrow hM
          obtain ⟨wo2, rfl⟩ : ∃ x, x = wr := ⟨wr, rfl⟩
          go_wp2_with fail
          clear hac
          go_loopw [57, 10] (fun i kk wr => ∃ z : Nat, z ≤ M ∧ i = .int .i64 z ∧ kk = .int .i64 (t + z : Nat) ∧ Hid (Below wo2.heap.size wo2 wr)) (fun i _ _ => M - (intOf i).toNat)
          case atStart => exact ⟨0, Nat.zero_le _, rfl, by simp, Lib.hid (Below.refl _ _)⟩
          case round =>
            obtain ⟨z, hz, rfl, rfl, HY⟩ := hrel
            by_cases hzM : z < M
            · have hzb : decide ((z : Int) < M) = true := by simp; omega
              obtain ⟨E, hE⟩ : ∃ c, es[z]? = some c := ⟨_, List.getElem?_eq_getElem (by rw [HM.out]; exact hzM)⟩
              obtain ⟨ae, rfl, hael, e0, e1, e2, e3⟩ := (HE.out.keep HY.out).at z E hE
              obtain ⟨av, rfl, havl, v0, v1, v2, v3⟩ := ((HV8.out.keep HX.out).keep HY.out).at (t + z) E (HAT.out z E hE)
              obtain ⟨p, hp⟩ : ∃ p, t + z = p := ⟨_, rfl⟩
              have hps : p < s := by omega
              rw [hp] at v0 v1 v2 v3 ⊢
              have hp1 : IntKind.i64.wrap ((p : Int) + 1) = ((t + (z + 1) : Nat) : Int) := by rw [show t + (z + 1) = p + 1 by omega, Int.natCast_add]; exact wI (by omega) (by omega)
              have h1 : Below wr.heap.size wr (wr.alloc (.cells #[.int .i64 E.a.x, .int .i64 E.a.y, .int .i64 E.b.x, .int .i64 E.b.y] 29)) := (Below.refl _ _).alloc (Nat.le_refl _) _
              have w0 := Go.Proofs.Ytbnjajhhbcnepaa.keep h1 v0
              have w1' := Go.Proofs.Ytbnjajhhbcnepaa.keep h1 v1
              have w2' := Go.Proofs.Ytbnjajhhbcnepaa.keep h1 v2
              have w3' := Go.Proofs.Ytbnjajhhbcnepaa.keep h1 v3
              have HYn := Lib.hid (below2 HY.out h1)
              clear hE hp
              go_upto_region 22 with fail
              go_region
              go_wp2_with fail
              exact ⟨⟨z + 1, by omega, by go_num, rfl, Lib.hid HYn.out.drew⟩, by simp [intOf]; omega⟩
            · have hzz : z = M := by omega
              subst hzz
              go_wp2_with fail
              exact ⟨⟨q + 1, t + z, by omega, by go_num, rfl, by omega, HT1, Lib.hid (HX.out.trans (HY.out.mono HX.out.size))⟩, by simp [intOf]; omega⟩
        · have hqq : q = r := by omega
          subst hqq
          go_wp2_with fail
          go_ret
          exact ⟨rfl, HB8.out.trans (HX.out.mono HB8.out.size)⟩

end Go.Proofs.Ytbnjajhhbcnepaa
