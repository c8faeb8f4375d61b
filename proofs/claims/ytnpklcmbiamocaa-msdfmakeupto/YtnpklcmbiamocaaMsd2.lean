/-
  What the program's functions of layer 12 are to do to any world, as one premise; the document's examples (no claim is made here).
-/
import Derived.Test.YtnpklcmbiamocaaMsd1
import Derived.Test.YtnpklcmbiamocaaMcor
namespace Go.Proofs.Ytnpklcmbiamocaa
open Go.RowKit

/-- P12.1 to P12.3. -/
structure MsdfOK : Prop where
  channel : ∀ (ve vl : Value) (es : List Ed) (l : List Nat) (x y p s : Int) (u v i k c : Nat) (w : World), ERd w ve es → es.length ≤ 200000 → (∀ s ∈ es, InD s) → NRd w vl l → l.length ≤ 2000000 → (∀ x ∈ l, x < 16) → checkG x y p u v s = 0 → i < u → k < v → c < 3 →
    Calls Try.prog 17 #[ve, vl, .agg #[.int .i64 x, .int .i64 y, .int .i64 p, .int .i64 u, .int .i64 v, .int .i64 s], .int .i64 i, .int .i64 k, .int .i64 c] w fun e w' => e = .returned (.int .u8 (chN es l s (midP x y p i k) c : Nat)) ∧ Below w.heap.size w w'
  make : ∀ (ve vl : Value) (es : List Ed) (l : List Nat) (x y p s : Int) (u v : Nat) (w : World), ERd w ve es → es.length ≤ 200000 → (∀ s ∈ es, InD s) → NRd w vl l → l.length ≤ 2000000 → (∀ x ∈ l, x < 16) → checkG x y p u v s = 0 →
    Calls Try.prog 14 #[ve, vl, .agg #[.int .i64 x, .int .i64 y, .int .i64 p, .int .i64 u, .int .i64 v, .int .i64 s]] w fun e w' => ∃ T0 T1 T2, e = .returned (.tuple #[.agg #[.int .i64 u, .int .i64 v, T0, .int .i64 u, .int .i64 v, T1, .int .i64 u, .int .i64 v, T2], .int .i64 0]) ∧
      BRow w' w.heap.size T0 (fldC es l x y p s u 0 (u * v)) ∧ BRow w' w.heap.size T1 (fldC es l x y p s u 1 (u * v)) ∧ BRow w' w.heap.size T2 (fldC es l x y p s u 2 (u * v)) ∧ Below w.heap.size w w'
  median : ∀ (a b c : Nat) (w : World), a < 256 → b < 256 → c < 256 → Calls Try.prog 18 #[.int .u8 a, .int .u8 b, .int .u8 c] w fun e w' => e = .returned (.int .u8 (medN a b c : Nat)) ∧ Below w.heap.size w w'
  merge : ∀ (u v : Nat) (T0 T1 T2 : Value) (a b c : List Nat) (w : World), u ≤ 24 → v ≤ 24 → BRd w T0 a → BRd w T1 b → BRd w T2 c → a.length = u * v → b.length = u * v → c.length = u * v →
    Calls Try.prog 20 #[.agg #[.int .i64 u, .int .i64 v, T0, .int .i64 u, .int .i64 v, T1, .int .i64 u, .int .i64 v, T2]] w fun e w' => ∃ T, e = .returned (.tuple #[.agg #[.int .i64 u, .int .i64 v, T], .int .i64 0]) ∧ BRow w' w.heap.size T (medL a b c) ∧ Below w.heap.size w w'
  unlike : ∀ (u0 v0 u1 v1 u2 v2 : Nat) (T0 T1 T2 : Value) (a b c : List Nat) (w : World), u0 ≤ 24 → v0 ≤ 24 → u1 ≤ 24 → v1 ≤ 24 → u2 ≤ 24 → v2 ≤ 24 → BRd w T0 a → BRd w T1 b → BRd w T2 c →
    ¬(u1 = u0 ∧ u2 = u0 ∧ v1 = v0 ∧ v2 = v0 ∧ a.length = u0 * v0 ∧ b.length = u0 * v0 ∧ c.length = u0 * v0) →
    Calls Try.prog 20 #[.agg #[.int .i64 u0, .int .i64 v0, T0, .int .i64 u1, .int .i64 v1, T1, .int .i64 u2, .int .i64 v2, T2]] w fun e w' => e = .returned (.tuple #[.agg #[.int .i64 0, .int .i64 0, .slice none 0 0], .int .i64 6]) ∧ Below w.heap.size w w'

theorem fldC_lt (es : List Ed) (l : List Nat) (x y p s : Int) (u c m : Nat) (hs : 1 ≤ s) : ∀ b ∈ fldC es l x y p s u c m, b < 256 := by
  intro b hb
  unfold fldC at hb
  obtain ⟨j, _, rfl⟩ := List.mem_map.1 hb
  have := chG_in es l s (midP x y p (j % u : Nat) (j / u : Nat)) c hs
  unfold chN
  omega
theorem tri_col : coloursL triE = [5, 6, 3] := by decide
theorem tri_med : 128 < medN (chN triE [5, 6, 3] 8 (midP (-2) (-2) 2 1 1) 0) (chN triE [5, 6, 3] 8 (midP (-2) (-2) 2 1 1) 1) (chN triE [5, 6, 3] 8 (midP (-2) (-2) 2 1 1) 2) := by decide
theorem fld_len16 (c : Nat) : (fldC triE [5, 6, 3] (-2) (-2) 2 8 4 c (4 * 4)).length = 16 := fldC_length _ _ _ _ _ _ _ _ _
theorem medL_length (a b c : List Nat) : (medL a b c).length = a.length := by simp [medL]
theorem medL_at (a b c : List Nat) (j x y z : Nat) (hx : a[j]? = some x) (hy : b[j]? = some y) (hz : c[j]? = some z) : (medL a b c)[j]? = some (medN x y z) := by
  unfold medL
  rw [List.getElem?_map, List.getElem?_range (List.getElem?_eq_some_iff.1 hx).1]
  simp [List.getD_eq_getElem?_getD, hx, hy, hz]

/-- What corner.All makes of some contours of an outline. -/
theorem cont_facts (cs : List (List Dot)) : (contE cs).flatten.length ≤ 40000 ∧ (∀ s ∈ (contE cs).flatten, InD s) ∧ ((contE cs).map coloursL).flatten.length = (contE cs).flatten.length ∧ ∀ x ∈ ((contE cs).map coloursL).flatten, x < 16 := by
  obtain ⟨h1, h2⟩ := contE_small cs
  generalize contE cs = o at *
  have hsum : ∀ r, (o.take r).flatten.length ≤ 5000 * r ∧ ((o.take r).map coloursL).flatten.length = (o.take r).flatten.length := by
    intro r
    induction r with
    | zero => simp
    | succ r ih =>
      by_cases hr : r < o.length
      · have hE := List.getElem?_eq_getElem hr
        have h5 := (h2 _ (List.getElem_mem hr)).1
        rw [take_push o r _ hE, List.map_append, List.flatten_append, List.flatten_append, List.length_append, List.length_append]
        simp only [List.map_cons, List.map_nil, List.flatten_cons, List.flatten_nil, List.append_nil, coloursL_length]
        omega
      · rw [List.take_of_length_le (by omega)] at ih ⊢
        omega
  have hs := hsum o.length
  rw [List.take_of_length_le (Nat.le_refl _)] at hs
  refine ⟨by omega, fun s hs => ?_, hs.2, fun x hx => ?_⟩
  · obtain ⟨e, he, hse⟩ := List.mem_flatten.1 hs
    exact (h2 e he).2 s hse
  · obtain ⟨e, he, hxe⟩ := List.mem_flatten.1 hx
    obtain ⟨es, _, rfl⟩ := List.mem_map.1 he
    unfold coloursL at hxe
    obtain ⟨k, _, rfl⟩ := List.mem_map.1 hxe
    by_cases h0 : (cornersL es).length = 0
    · unfold colC; rw [if_pos h0]; omega
    · have := colC_in es.length (cornersL es) k h0; omega
/-- A literal of one row of edges. -/
theorem eord_one {w : World} {g : Nat} {u : Value} {l : List Ed} (h : Blk w g 27 [u]) (hu : ERd w u l) : EORd w (.slice (some ⟨g, 0, none⟩) 1 1) [l] := by
  refine ⟨_, 1, rfl, Nat.le_refl _, fun r l' hr => ?_⟩
  obtain ⟨hlt, e⟩ := List.getElem?_eq_some_iff.1 hr
  obtain rfl : r = 0 := by simp at hlt; omega
  simp at e
  subst e
  exact ⟨_, u, rfl, h.lt, h.cell 0 rfl, hu⟩

set_option maxRecDepth 100000 in
set_option maxHeartbeats 1600000 in
theorem awake12 (H : CornOK) (K : MsdfOK) (w : World) : Calls Try.prog 9 #[] w fun e w' => e = .returned (.bool true) ∧ Below w.heap.size w w' := by
  have HA := Lib.hid (fun w v h => H.all v [triE] w h (by decide) (by intro es he; simp only [List.mem_singleton] at he; subst he; exact ⟨by decide, tri_in⟩))
  rw [show ([triE].map coloursL).flatten = [5, 6, 3] by rw [List.map_cons, tri_col]; rfl, show [triE].flatten = triE from rfl] at HA
  have HM := Lib.hid (fun w v h u k => K.make v u triE [5, 6, 3] (-2) (-2) 2 8 4 4 w h (by decide) tri_in k (by decide) (by decide) (by decide))
  have hb3 := alloc3 w (.cells #[.int .i64 0, .int .i64 0] 59) (.cells #[.int .i64 320, .int .i64 0] 59) (.cells #[.int .i64 0, .int .i64 320] 59)
  have hb4 := hb3.alloc hb3.size (.cells #[.int .i64 0, .int .i64 0, .int .i64 320, .int .i64 0, .int .i64 320, .int .i64 0, .int .i64 0, .int .i64 320, .int .i64 0, .int .i64 320, .int .i64 0, .int .i64 0] 70)
  have HB5 := Lib.hid (hb4.alloc hb4.size (.cells #[.slice (some ⟨w.heap.size + 1 + 1 + 1, 0, none⟩) 3 3] 27))
  have hE4 : ERd ((((w.alloc (.cells #[.int .i64 0, .int .i64 0] 59)).alloc (.cells #[.int .i64 320, .int .i64 0] 59)).alloc (.cells #[.int .i64 0, .int .i64 320] 59)).alloc (.cells #[.int .i64 0, .int .i64 0, .int .i64 320, .int .i64 0, .int .i64 320, .int .i64 0, .int .i64 0, .int .i64 320, .int .i64 0, .int .i64 320, .int .i64 0, .int .i64 0] 70)) (.slice (some ⟨w.heap.size + 1 + 1 + 1, 0, none⟩) 3 3) triE := erd_blk (Blk.new (((w.alloc (.cells #[.int .i64 0, .int .i64 0] 59)).alloc (.cells #[.int .i64 320, .int .i64 0] 59)).alloc (.cells #[.int .i64 0, .int .i64 320] 59)) 70 (ecells triE) (by simp)) rfl
  have HO5 : Hid (EORd (((((w.alloc (.cells #[.int .i64 0, .int .i64 0] 59)).alloc (.cells #[.int .i64 320, .int .i64 0] 59)).alloc (.cells #[.int .i64 0, .int .i64 320] 59)).alloc (.cells #[.int .i64 0, .int .i64 0, .int .i64 320, .int .i64 0, .int .i64 320, .int .i64 0, .int .i64 0, .int .i64 320, .int .i64 0, .int .i64 320, .int .i64 0, .int .i64 0] 70)).alloc (.cells #[.slice (some ⟨w.heap.size + 1 + 1 + 1, 0, none⟩) 3 3] 27)) (.slice (some ⟨w.heap.size + 1 + 1 + 1 + 1, 0, none⟩) 1 1) [triE]) := Lib.hid (eord_one (Blk.new ((((w.alloc (.cells #[.int .i64 0, .int .i64 0] 59)).alloc (.cells #[.int .i64 320, .int .i64 0] 59)).alloc (.cells #[.int .i64 0, .int .i64 320] 59)).alloc (.cells #[.int .i64 0, .int .i64 0, .int .i64 320, .int .i64 0, .int .i64 320, .int .i64 0, .int .i64 0, .int .i64 320, .int .i64 0, .int .i64 320, .int .i64 0, .int .i64 0] 70)) 27 [.slice (some ⟨w.heap.size + 1 + 1 + 1, 0, none⟩) 3 3] (by simp)) (hE4.keep ((Below.refl _ _).alloc (Nat.le_refl _) (.cells #[.slice (some ⟨w.heap.size + 1 + 1 + 1, 0, none⟩) 3 3] 27))))
  clear hb3 hb4 hE4
  go_enter Try.func9, Try.ntmps9
  go_wp2_with fail
  refine (HA.out _ _ HO5.out).mono ?_
  rintro e w1 ⟨V, U, rfl, hV, hU, hb⟩
  have HB6 := Lib.hid (below2 HB5.out hb)
  have HV := Lib.hid hV.read
  have HU := Lib.hid hU.read
  obtain ⟨Av, capv, rfl⟩ := hV.form
  obtain ⟨Au, capu, rfl⟩ := hU.form
  clear hb hV hU HB5 HO5 HA
  go_wp2_with fail
  refine (HM.out _ _ HV.out _ HU.out).mono ?_
  rintro e w2 ⟨T0, T1, T2, rfl, h0, h1, h2, hb⟩
  have HB7 := Lib.hid (below2 HB6.out hb)
  have hMG := fun w x y z hx hy hz => K.merge 4 4 x y z (fldC triE [5, 6, 3] (-2) (-2) 2 8 4 0 (4 * 4)) (fldC triE [5, 6, 3] (-2) (-2) 2 8 4 1 (4 * 4)) (fldC triE [5, 6, 3] (-2) (-2) 2 8 4 2 (4 * 4)) w (by decide) (by decide) hx hy hz (fld_len16 0) (fld_len16 1) (fld_len16 2)
  have m5 := medL_at _ _ _ 5 _ _ _ (fldC_at triE [5, 6, 3] (-2) (-2) 2 8 4 0 (4 * 4) 5 (by decide)) (fldC_at triE [5, 6, 3] (-2) (-2) 2 8 4 1 (4 * 4) 5 (by decide)) (fldC_at triE [5, 6, 3] (-2) (-2) 2 8 4 2 (4 * 4) 5 (by decide))
  have hml : (medL (fldC triE [5, 6, 3] (-2) (-2) 2 8 4 0 (4 * 4)) (fldC triE [5, 6, 3] (-2) (-2) 2 8 4 1 (4 * 4)) (fldC triE [5, 6, 3] (-2) (-2) 2 8 4 2 (4 * 4))).length = 16 := by rw [medL_length]; exact fld_len16 0
  have hmd := tri_med
  change _ = some (medN (chN triE [5, 6, 3] 8 (midP (-2) (-2) 2 1 1) 0) (chN triE [5, 6, 3] 8 (midP (-2) (-2) 2 1 1) 1) (chN triE [5, 6, 3] 8 (midP (-2) (-2) 2 1 1) 2)) at m5
  generalize medN (chN triE [5, 6, 3] 8 (midP (-2) (-2) 2 1 1) 0) (chN triE [5, 6, 3] 8 (midP (-2) (-2) 2 1 1) 1) (chN triE [5, 6, 3] 8 (midP (-2) (-2) 2 1 1) 2) = md at *
  generalize medL (fldC triE [5, 6, 3] (-2) (-2) 2 8 4 0 (4 * 4)) (fldC triE [5, 6, 3] (-2) (-2) 2 8 4 1 (4 * 4)) (fldC triE [5, 6, 3] (-2) (-2) 2 8 4 2 (4 * 4)) = ml at *
  have hd0 := h0.read (fldC_lt _ _ _ _ _ _ _ _ _ (by decide))
  have hd1 := h1.read (fldC_lt _ _ _ _ _ _ _ _ _ (by decide))
  have hd2 := h2.read (fldC_lt _ _ _ _ _ _ _ _ _ (by decide))
  have l0 := fld_len16 0
  have l1 := fld_len16 1
  have l2 := fld_len16 2
  generalize fldC triE [5, 6, 3] (-2) (-2) 2 8 4 0 (4 * 4) = f0 at *
  generalize fldC triE [5, 6, 3] (-2) (-2) 2 8 4 1 (4 * 4) = f1 at *
  generalize fldC triE [5, 6, 3] (-2) (-2) 2 8 4 2 (4 * 4) = f2 at *
  obtain ⟨A0, c0, rfl⟩ := h0.form
  obtain ⟨A1, c1, rfl⟩ := h1.form
  obtain ⟨A2, c2, rfl⟩ := h2.form
  rw [l0] at hd0 ⊢
  rw [l1] at hd1 ⊢
  rw [l2] at hd2 ⊢
  have HD0 := Lib.hid hd0
  have HD1 := Lib.hid hd1
  have HD2 := Lib.hid hd2
  have HMG := Lib.hid hMG
  have HML := Lib.hid hml
  have HM5 := Lib.hid m5
  clear hd0 hd1 hd2 l0 l1 l2 h0 h1 h2 hMG hml m5 hb HB6 HM
  go_wp2_with fail
  have hal : Below w2.heap.size w2 (w2.alloc (.cells #[.int .i64 4, .int .i64 4, .slice A0 16 c0, .int .i64 4, .int .i64 4, .slice A1 16 c1, .int .i64 4, .int .i64 4, .slice A2 16 c2] 39)) := (Below.refl _ _).alloc (Nat.le_refl _) _
  have HB8 := Lib.hid (below2 HB7.out hal)
  refine (HMG.out _ _ _ _ (HD0.out.keep hal) (HD1.out.keep hal) (HD2.out.keep hal)).mono ?_
  rintro e w3 ⟨T, rfl, hT, hb⟩
  have HB9 := Lib.hid (below2 HB8.out hb)
  obtain ⟨At, ct, rfl⟩ := hT.form
  rw [HML.out] at hT ⊢
  obtain ⟨-, a, rfl, ha, b5⟩ := hT.byte 5 HM5.out
  have HMN := Lib.hid (fun w => K.median 3 9 5 w (by decide) (by decide) (by decide))
  rw [show medN 3 9 5 = 5 by decide] at HMN
  clear hal hb HB7 HB8 HD0 HD1 HD2 HMG HML HM5 hT
  have hal : Below w3.heap.size w3 (w3.alloc (.cells #[.int .i64 4, .int .i64 4, .slice (some a) 16 ct] 38)) := (Below.refl _ _).alloc (Nat.le_refl _) _
  have HF := Lib.hid (Blk.new w3 38 [.int .i64 4, .int .i64 4, .slice (some a) 16 ct] rfl)
  have HB10 := Lib.hid (below2 HB9.out hal)
  have c5 := Go.Proofs.Ytnpklcmbiamocaa.keep hal b5
  go_wp2_with fail
  refine (HMN.out _).mono ?_
  rintro e w4 ⟨rfl, hb⟩
  have HB11 := Lib.hid (below2 HB10.out hb)
  have f2 := (HF.out.keep hb).cell 2 rfl
  have fl := (HF.out.keep hb).lt
  have d5 := Go.Proofs.Ytnpklcmbiamocaa.keep hb c5
  rw [show a.add 5 = ⟨a.block, a.off + 5, none⟩ from rfl] at d5
  have hmb : decide ((128 : Int) < md) = true := by simp; omega
  clear hb c5 b5 hal HF HB10 HB9 HMN ha
  go_wp2_with fail
  go_ret
  exact ⟨rfl, HB11.out⟩

end Go.Proofs.Ytnpklcmbiamocaa
