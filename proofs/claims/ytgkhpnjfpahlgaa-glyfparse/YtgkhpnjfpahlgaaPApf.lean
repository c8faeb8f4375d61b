/-
  What the program's appendFlags of layer 4 does to any world (no claim is made here).
-/
import Derived.Test.YtgkhpnjfpahlgaaPApp
namespace Go.Proofs.Ytgkhpnjfpahlgaa
open Go.RowKit

theorem own_if (p : Prop) [Decidable p] (a : Addr) (k x y : Nat) : (Value.slice (if p then some a else some (a.add k)) x y).ownBlock = some a.block := by
  split
  · rfl
  · show some (a.add k).block = _
    rw [block_add]
theorem apf_step {w wr w4 : World} {base n cap R i : Nat} {a : Addr} {v0 v v' : Value} {bs cur new : List Nat} {ss c : List St} (HA : App w wr base v0 v cur) (HX : App wr w4 base v v' (cur ++ new)) (HAP : Apart v (.slice (some a) n cap)) (HSL : ∀ k, (Value.slice (some a) n cap).ownBlock = some k → k < w.heap.size)
    (hD : SRd wr (.slice (some (a.add (R * 3))) (n - R) (cap - R)) (c.drop R)) (hbs : bs ++ rle (ss.map St.f) = cur ++ rle (c.map St.f)) (hst : rle (c.map St.f) = new ++ rle ((c.drop R).map St.f)) (hdr : ss.drop (i + R) = c.drop R) (hlen : c.length = n) (hn : n = ss.length - i) (hi : i ≤ ss.length) (hR1 : 1 ≤ R) (hR2 : R ≤ n) (hncap : n ≤ cap) (hcl : cur.length ≤ bs.length + i) (hnew : new.length ≤ R) :
    (∃ (i n1 cap1 : Nat) (A : Option Addr) (cur : List Nat), Value.slice (if cap = R then some a else some (a.add (R * 3))) (n - R) (cap - R) = .slice A n1 cap1 ∧ n1 = ss.length - i ∧ i ≤ ss.length ∧ Hid (SRd w4 (.slice A n1 cap1) (ss.drop i)) ∧ Hid (bs ++ rle (ss.map St.f) = cur ++ rle ((ss.drop i).map St.f)) ∧ Hid (App w w4 base v0 v' cur) ∧ cur.length ≤ bs.length + i ∧ Hid (Apart v' (.slice A n1 cap1)) ∧ Hid (∀ k, (Value.slice A n1 cap1).ownBlock = some k → k < w.heap.size)) ∧
    lenV (.slice (if cap = R then some a else some (a.add (R * 3))) (n - R) (cap - R)) < lenV (.slice (some a) n cap) := by
  have hob := own_if (cap = R) a (R * 3) (n - R) (cap - R)
  have hob2 : (Value.slice (some (a.add (R * 3))) (n - R) (cap - R)).ownBlock = some a.block := by show some (a.add (R * 3)).block = _; rw [block_add]
  have hz : w.heap.size ≤ wr.heap.size := HA.size
  have hne : (Value.slice (some (a.add (R * 3))) (n - R) (cap - R)).ownBlock = none ∨ (Value.slice (some (a.add (R * 3))) (n - R) (cap - R)).ownBlock ≠ v.ownBlock := by
    rw [hob2]
    exact HAP.ne
  have hD4 := hD.grown HX.2.1 hne
  have hD5 : SRd w4 (.slice (if cap = R then some a else some (a.add (R * 3))) (n - R) (cap - R)) (c.drop R) := by
    split
    · next h =>
      have e1 : n - R = 0 := by omega
      have e2 : c.drop R = [] := List.drop_eq_nil_of_le (by omega)
      rw [e1, e2]
      exact SRd.none _ _
    · exact hD4
  have hfar := HX.far HAP (fun k hk => Nat.lt_of_lt_of_le (HSL k hk) hz)
  refine ⟨⟨i + R, n - R, cap - R, _, cur ++ new, rfl, by omega, by omega, Lib.hid (by rw [hdr]; exact hD5), Lib.hid (by rw [hbs, hst, hdr, List.append_assoc]), Lib.hid (HA.trans HX), by rw [List.length_append]; omega, Lib.hid ?_, Lib.hid ?_⟩, by show n - R < n; omega⟩
  · intro g hg he
    rw [hob] at he
    exact hfar g hg he
  · intro k hk
    rw [hob] at hk
    exact HSL k hk

set_option maxRecDepth 100000 in
set_option maxHeartbeats 1600000 in
theorem appendFlags_any (base : Nat) (v0 sv0 : Value) (bs : List Nat) (ss : List St) (w : World) (hv : BRow w base v0 bs) (hs : SRd w sv0 ss) (hap : Apart v0 sv0) (hsl : ∀ k, sv0.ownBlock = some k → k < w.heap.size) (hbase : base ≤ w.heap.size) (hl : bs.length ≤ 100) (hl2 : ss.length ≤ 64) (hf : ∀ s ∈ ss, s.f < 8) :
    Calls Try.prog 23 #[v0, sv0] w fun e w' => ∃ v', e = .returned v' ∧ App w w' base v0 v' (bs ++ rle (ss.map St.f)) := by
  have HV := Lib.hid hv
  have HS := Lib.hid hs
  have HF := Lib.hid hf
  have HAP := Lib.hid hap
  have HSL := Lib.hid hsl
  have hsf : ∃ A n cap, sv0 = .slice A n cap := by obtain ⟨A, cap, e, _⟩ := hs; exact ⟨A, _, cap, e⟩
  have hvf : ∃ A n cap, v0 = .slice A n cap := by obtain ⟨A, cap, e⟩ := hv.form; exact ⟨A, _, cap, e⟩
  clear hv hs hap hsl hf
  obtain ⟨As, ns, caps, rfl⟩ := hsf
  obtain ⟨Av, nv, capv, rfl⟩ := hvf
  go_enter Try.func23, Try.ntmps23
  go_wp2_with fail
  go_loopw [0, 1] (fun v sv wr => ∃ (i n cap : Nat) (A : Option Addr) (cur : List Nat), sv = .slice A n cap ∧ n = ss.length - i ∧ i ≤ ss.length ∧ Hid (SRd wr (.slice A n cap) (ss.drop i)) ∧ Hid (bs ++ rle (ss.map St.f) = cur ++ rle ((ss.drop i).map St.f)) ∧ Hid (App w wr base (.slice Av nv capv) v cur) ∧ cur.length ≤ bs.length + i ∧ Hid (Apart v (.slice A n cap)) ∧ Hid (∀ k, (Value.slice A n cap).ownBlock = some k → k < w.heap.size)) (fun _ sv _ => lenV sv)
  case atStart => exact ⟨0, ns, caps, As, bs, rfl, by obtain ⟨_, _, e, _⟩ := HS.out; simp only [Value.slice.injEq] at e; omega, Nat.zero_le _, HS, Lib.hid rfl, Lib.hid (App.refl HV.out), Nat.le_refl _, HAP, HSL⟩
  case round =>
    obtain ⟨i, n, cap, A, cur, rfl, hn, hi, HSR, HEQ, HA, hcl, HAP1, HSL1⟩ := hrel
    clear HS HV HAP HSL
    have hcn := HA.out.1.form
    obtain ⟨Ac, capc, rfl⟩ := hcn
    obtain ⟨k, hk⟩ : ∃ k, cur.length = k := ⟨_, rfl⟩
    have HK := Lib.hid hk
    rw [hk] at hcl HA HAP1
    rw [hk]
    have HO := Lib.hid (HA.out.1.own hk)
    have hz : w.heap.size ≤ wr.heap.size := HA.out.size
    obtain ⟨i0, hi0, hz0, hz1, hz2⟩ := infos binfo
    clear hk
    cases hc : ss.drop i with
    | nil =>
      have hn0 : n = 0 := by have := congrArg List.length hc; rw [List.length_drop] at this; simp at this; omega
      subst hn0
      have HEQ' : Hid (bs ++ rle (ss.map St.f) = cur) := Lib.hid (by rw [HEQ.out, hc]; simp [rle, rleN])
      clear hc HEQ hn
      go_wp2
      go_ret
      exact ⟨_, rfl, by rw [HEQ'.out]; exact HA.out⟩
    | cons s t =>
      have hlen : t.length + 1 = n := by have := congrArg List.length hc; rw [List.length_drop] at this; simp at this; omega
      have hsf : s.f < 8 := HF.out s (List.mem_of_mem_drop (by rw [hc]; exact List.mem_cons_self ..))
      have HSRc := HSR.out
      rw [hc] at HSRc
      obtain ⟨R, hR⟩ : ∃ R, R = runLen s.f ((s :: t).map St.f) := ⟨_, rfl⟩
      have hR1 : 1 ≤ R := by rw [hR, List.map_cons, runLen, if_pos rfl]; omega
      have hR2 : R ≤ n := by rw [hR]; have := runLen_le s.f ((s :: t).map St.f); rw [List.length_map, List.length_cons] at this; omega
      obtain ⟨a, rfl⟩ : ∃ a, A = some a := by
        obtain ⟨A', cap', e, _, h3⟩ := HSRc
        obtain ⟨a, ha, _⟩ := h3 0 (by simp)
        injection e with e1 e2 e3
        exact ⟨a, e1.trans ha⟩
      have ha0 : wr.cell? a = some (.int .u8 s.f) ∧ n ≤ cap ∧ a.block < wr.heap.size := by
        obtain ⟨A', cap', e, hcc, h3⟩ := HSRc
        obtain ⟨a', ha, hlt, c0, _⟩ := h3 0 (by simp)
        injection e with e1 e2 e3
        subst e3
        rw [ha] at e1
        injection e1 with e1
        subst e1
        exact ⟨by simpa [Addr.add] using c0, by omega, hlt⟩
      obtain ⟨ac, hncap, halt⟩ := ha0
      have HRUN := Lib.hid (runLength_any a n cap (s :: t) s.f R wr.drew (HSRc.keep (Below.refl _ _).drew) (by simp; omega) rfl hR)
      have HD := Lib.hid (HSRc.drop R (by simp; omega))
      have hst : rle ((s :: t).map St.f) = (if 3 ≤ R then [s.f + 8, R - 1] else List.replicate R s.f) ++ rle (((s :: t).drop R).map St.f) := by
        rw [List.map_cons, rle_cons, ← List.map_cons, ← hR, List.map_drop]
      have HST := Lib.hid hst
      have HDR : Hid (ss.drop (i + R) = (s :: t).drop R) := Lib.hid (by rw [← hc, List.drop_drop])
      have HEC : Hid (bs ++ rle (ss.map St.f) = cur ++ rle ((s :: t).map St.f)) := Lib.hid (by rw [HEQ.out, hc])
      have HLE := Lib.hid hlen
      obtain ⟨f, hfe⟩ : ∃ f, s.f = f := ⟨_, rfl⟩
      rw [hfe] at hsf ac HST
      have hor := or8 f hsf
      have HNI : Hid (n = ss.length - i ∧ i ≤ ss.length) := Lib.hid ⟨hn, hi⟩
      have hk2 : k ≤ 164 := by omega
      have hn64 : n ≤ 64 := by omega
      clear hc hst hR HSRc hfe HEQ HSR hlen hi hn
      have hnb : decide ((0 : Int) < n) = true := by simp; omega
      have hnp : (0 : Int) < n := by omega
      have HAC := Lib.hid ac
      go_wp2_with fail
      go_region_held3 (fun wx => wx.cell? a = some (.int .u8 f) ∧ Below wr.heap.size wr wx)
        (first | assumption | exact ⟨ac, Below.drew (Below.refl _ _)⟩)
        (first
          | (go_at_call 33; with_reducible refine HRUN.out.mono ?_; rintro e w2 ⟨rfl, hb2⟩; replace hb2 := undrew hb2; have hS2 : w2.cell? a = some (.int .u8 f) ∧ Below wr.heap.size wr w2 := ⟨(hb2.cell halt).trans ac, hb2⟩))
      have HB2 := Lib.hid hb2
      have HO2 := Lib.hid (own_blocks HO.out (w' := w2) fun g hg => hb2.block g (HO.out.lt g hg).2)
      have HD2 : Hid (SRd w2 (.slice (some (a.add (R * 3))) (n - R) (cap - R)) ((s :: t).drop R)) := Lib.hid (HD.out.keep hb2)
      have hz2' : wr.heap.size ≤ w2.heap.size := hb2.size
      have HDA := HD
      clear hS2 hb2 HO HD HRUN ac
      obtain ⟨Q, hQ⟩ : ∃ Q : Nat, R - 1 = Q := ⟨_, rfl⟩
      obtain ⟨e8, he8⟩ : ∃ e8 : Nat, f + 8 = e8 := ⟨_, rfl⟩
      rw [he8] at hor
      have hw8 : IntKind.u8.wrap ((R : Int) - 1) = (Q : Int) := by rw [IntKind.wrap_u8]; omega
      by_cases h3 : 3 ≤ R
      · have h3' : (3 : Int) ≤ R := by omega
        have hnb2 : (w2.alloc (.cells #[.int .u8 e8, .int .u8 Q] 5)).heap[w2.heap.size]? = some (.cells #[.int .u8 e8, .int .u8 Q] 5 (0, 0)) := heap_alloc_new _ _
        have HNB := Lib.hid hnb2
        have HQ := Lib.hid hQ
        have HE8 := Lib.hid he8
        clear hnb2 hQ he8
        go_wp2_with (at_builtin; refine wpList_append_lies _ rfl _ _ _ (by rfl) base 5 i0 _ 1 1 Try.underlying34 hi0 hz0 hz1 hz2 (by rfl) (by omega) _ k _ (by rfl) (HO2.out.alloc _) ⟨w2.heap.size, 0, none⟩ 2 2 [.int .u8 e8, .int .u8 Q] (by rfl) (by rfl) (World.news_of_block HNB.out) (by simp [Value.oneCell']) (by omega) (by simp [maxLen]; omega) (by omega) (by simp; omega) (w2.heap.size + 1) (by simp) ?_; intro g cp w4 hown hgrow hat hlt)
        have HX := (App.of (new := [e8, Q]) ((Below.refl _ w2).alloc (Nat.le_refl _) _) hgrow hat (by omega) HK.out rfl hown).pre HB2.out
        refine apf_step HA.out HX HAP1.out HSL1.out HDA.out HEC.out ?_ HDR.out HLE.out HNI.out.1 HNI.out.2 hR1 hR2 hncap (by rw [HK.out]; exact hcl) (by simp; omega)
        have := HST.out
        rw [if_pos h3, HE8.out, HQ.out] at this
        exact this
      · have h3' : (R : Int) < 3 := by omega
        have h3b : decide ((3 : Int) ≤ R) = false := by simp; omega
        have hB3 : Below w2.heap.size w2 (w2.alloc (.cells #[.int .u8 f] 5)) := (Below.refl _ w2).alloc (Nat.le_refl _) _
        have HREP := Lib.hid (repeat_any f R ⟨w2.heap.size, 0, none⟩ 1 hR1 (by omega) (w2.alloc (.cells #[.int .u8 f] 5)) (by simp) (by simp))
        have HB3 := Lib.hid hB3
        clear hB3 hw8 hor hQ he8
        go_wp2_with fail
        refine HREP.out.mono ?_
        rintro e w3 ⟨gr, rfl, hcells, hgr1, hgr2, hb3⟩
        have B3 : Below w2.heap.size w2 w3 := HB3.out.trans (hb3.mono HB3.out.size)
        have HBW := Lib.hid B3
        have HO3 := Lib.hid (own_blocks HO2.out (w' := w3) fun g hg => B3.block g (HO2.out.lt g hg).2)
        have HCE := Lib.hid hcells
        have hz3 : w2.heap.size ≤ w3.heap.size := B3.size
        have hrl : (bvals (List.replicate R f)).length = R := by rw [bvals_length, List.length_replicate]
        have HRL := Lib.hid hrl
        have HON : Hid (∀ v ∈ bvals (List.replicate R f), v.oneCell' = true) := Lib.hid (by
          intro v hv
          obtain ⟨b, _, rfl⟩ := List.mem_map.1 hv
          rfl)
        obtain ⟨news, hnews⟩ : ∃ news, bvals (List.replicate R f) = news := ⟨_, rfl⟩
        rw [hnews] at HCE HRL HON
        have HNW := Lib.hid hnews
        clear hcells hb3 B3 hrl HREP hnews
        go_wp2_with (at_builtin; refine wpList_append_lies _ rfl _ _ _ (by rfl) base 5 i0 _ 1 1 Try.underlying34 hi0 hz0 hz1 hz2 (by rfl) (by omega) _ k _ (by rfl) HO3.out ⟨gr, 0, none⟩ R R news (by rfl) (by rw [HRL.out]; omega) HCE.out HON.out (by omega) (by simp [maxLen]; omega) (by omega) (by omega) w3.heap.size rfl ?_; intro g cp w4 hown hgrow hat hlt)
        have hown' : w4.ownsRow base 5 1 (.slice (some ⟨g, 0, none⟩) (k + R) cp) (k + R) (bvals cur ++ bvals (List.replicate R f)) := by rw [HNW.out]; exact hown
        have HX := ((App.of (new := List.replicate R f) (Below.refl _ w3) hgrow hat (Nat.le_refl _) HK.out (by simp) hown').pre HBW.out).pre HB2.out
        refine apf_step HA.out HX HAP1.out HSL1.out HDA.out HEC.out ?_ HDR.out HLE.out HNI.out.1 HNI.out.2 hR1 hR2 hncap (by rw [HK.out]; exact hcl) (by simp)
        have := HST.out
        rw [if_neg h3] at this
        exact this

end Go.Proofs.Ytgkhpnjfpahlgaa
