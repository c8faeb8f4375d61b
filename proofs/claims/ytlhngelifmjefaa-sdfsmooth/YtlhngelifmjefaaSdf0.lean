/-
  What the law's own Same and Field of layer 10 do to any world: contracts (no claim is made here).
-/
import Derived.Test.YtlhngelifmjefaaByt
import Derived.Test.YtlhngelifmjefaaSdfMath
import Derived.Test.YtlhngelifmjefaaGrd2
import Derived.Test.YtlhngelifmjefaaDst1
namespace Go.Proofs.Ytlhngelifmjefaa
open Go.RowKit

set_option maxRecDepth 100000 in
set_option maxHeartbeats 800000 in
theorem same10_any (u v : Int) (x y : Value) (bs : List Nat) (w : World) (hx : BRd w x bs) (hy : BRd w y bs) :
    Calls Try.prog 14 #[.agg #[.int .i64 u, .int .i64 v, x], .agg #[.int .i64 u, .int .i64 v, y]] w fun e w' => e = .returned (.bool true) ∧ Below w.heap.size w w' := by
  obtain ⟨S, hS⟩ : ∃ S, strOf bs = S := ⟨_, rfl⟩
  have HB0 := Lib.hid (alloc2 w (.cells #[.int .i64 u, .int .i64 v, x] 30) (.cells #[.int .i64 u, .int .i64 v, y] 30))
  have hb0 := alloc2 w (.cells #[.int .i64 u, .int .i64 v, x] 30) (.cells #[.int .i64 u, .int .i64 v, y] 30)
  have h1 := run_strOf (hx.keep hb0)
  have h2 := run_strOf (hy.keep hb0)
  rw [hS] at h1 h2
  obtain ⟨A, ca, rfl, -⟩ := hx
  obtain ⟨B, cb, rfl, -⟩ := hy
  generalize bs.length = n at *
  clear hb0 hS
  go_enter Try.func14, Try.ntmps14
  go_wp2
  go_ret
  exact ⟨rfl, HB0.out⟩

theorem mid_in (x y p c k : Int) (hx : x.natAbs ≤ 300) (hy : y.natAbs ≤ 300) (hp : 1 ≤ p ∧ p ≤ 16) (hc : 0 ≤ c ∧ c ≤ 24) (hk : 0 ≤ k ∧ k ≤ 24) : InP ⟨midG x p c, midG y p k⟩ := by
  have h1 : (c * p).natAbs ≤ 24 * 16 := by rw [Int.natAbs_mul]; exact Nat.mul_le_mul (by omega) (by omega)
  have h2 : (k * p).natAbs ≤ 24 * 16 := by rw [Int.natAbs_mul]; exact Nat.mul_le_mul (by omega) (by omega)
  unfold InP midG
  simp only []
  omega

/-- A field that grows: its block, the row of its bytes, the grid's box. -/
structure FSt (w0 w : World) (g R F : Nat) (x y p s : Int) (u v : Nat) (bs : List Nat) : Prop where
  box : Blk w g 35 [.int .i64 x, .int .i64 y, .int .i64 p, .int .i64 u, .int .i64 v, .int .i64 s]
  res : Blk w R 30 [.int .i64 0, .int .i64 0, .slice none 0 0]
  row : ∃ T, Blk w F 30 [.int .i64 u, .int .i64 v, T] ∧ BRow w (F + 1) T bs
  low : Below w0.heap.size w0 w
theorem FSt.keep {w0 w w' : World} {g R F : Nat} {x y p s : Int} {u v : Nat} {bs : List Nat} (h : FSt w0 w g R F x y p s u v bs) (hb : Below w.heap.size w w') : FSt w0 w' g R F x y p s u v bs := by
  obtain ⟨T, h1, h2⟩ := h.row
  exact ⟨h.box.keep hb, h.res.keep hb, ⟨T, h1.keep hb, h2.below hb⟩, below2 h.low hb⟩
/-- A byte more. -/
theorem FSt.push {w0 w w4 : World} {g R F : Nat} {x y p s : Int} {u v : Nat} {bs : List Nat} {T V : Value} {o : Obj} {c : Nat} (h : FSt w0 w g R F x y p s u v bs) (hT : BRow w (F + 1) T bs) (hF : Blk w F 30 [.int .i64 u, .int .i64 v, T]) (hg : g < F) (hR : R < F) (hw : w0.heap.size ≤ F)
    (hgrow : (w.alloc o).grownBy w4 T.ownBlock) (hV : BRow w4 (F + 1) V (bs ++ [c])) : FSt w0 (w4.setCell ⟨F, 2, none⟩ V) g R F x y p s u v (bs ++ [c]) := by
  have hne : ∀ k, k ≤ F → some k ≠ T.ownBlock := fun k hk e => by have := (hT.ge e.symm).1; omega
  have hFl := hF.lt
  refine ⟨((h.box.alloc o).grown hgrow (hne g (by omega))).other 2 V (by omega), ((h.res.alloc o).grown hgrow (hne R (by omega))).other 2 V (by omega), ⟨V, ((hF.alloc o).grown hgrow (hne F (by omega))).set 2 V, hV.set (Nat.lt_succ_self _) V⟩, ?_⟩
  exact ((h.low.alloc h.low.size o).grown hgrow (by have := h.low.size; simp; omega) (fun q hq => by have := (hT.ge hq).1; omega)).setCell (p := ⟨F, 2, none⟩) hw V

set_option maxRecDepth 100000 in
set_option maxHeartbeats 3200000 in
theorem field10_any (ve : Value) (es : List Ed) (x y p s : Int) (u v : Nat) (w : World) (hv : ERd w ve es) (hl : es.length ≤ 200000) (hin : ∀ s ∈ es, InD s) (hx : x.natAbs ≤ 300) (hy : y.natAbs ≤ 300) (hp : 1 ≤ p ∧ p ≤ 16) (hs : 1 ≤ s ∧ s ≤ 64) (hu : u ≤ 24) (hv2 : v ≤ 24) :
    Calls Try.prog 15 #[ve, .agg #[.int .i64 x, .int .i64 y, .int .i64 p, .int .i64 u, .int .i64 v, .int .i64 s]] w fun e w' =>
      ∃ V, e = .returned (.agg #[.int .i64 u, .int .i64 v, V]) ∧ BRow w' w.heap.size V (fldN es x y p s u (u * v)) ∧ Below w.heap.size w w' := by
  obtain ⟨Ae, cape, he, hce, -⟩ := id hv
  subst he
  have HL := Lib.hid hl
  have HI := Lib.hid hin
  obtain ⟨N, hN⟩ : ∃ N, es.length = N := ⟨_, rfl⟩
  rw [hN] at hv hl hce
  have HV := Lib.hid hv
  have HN := Lib.hid hN
  rw [hN]
  obtain ⟨i0, hi0, hz0, hz1, hz2⟩ := infos binfo
  have hB0 := alloc3 w (.cells #[.int .i64 x, .int .i64 y, .int .i64 p, .int .i64 u, .int .i64 v, .int .i64 s] 35) (.cells #[.int .i64 0, .int .i64 0, .slice none 0 0] 30) (.cells #[.int .i64 u, .int .i64 v, .slice none 0 0] 30)
  have hG0 := ((Blk.new w 35 [.int .i64 x, .int .i64 y, .int .i64 p, .int .i64 u, .int .i64 v, .int .i64 s] rfl).alloc (.cells #[.int .i64 0, .int .i64 0, .slice none 0 0] 30)).alloc (.cells #[.int .i64 u, .int .i64 v, .slice none 0 0] 30)
  have hR0 := (Blk.new (w.alloc (.cells #[.int .i64 x, .int .i64 y, .int .i64 p, .int .i64 u, .int .i64 v, .int .i64 s] 35)) 30 [.int .i64 0, .int .i64 0, .slice none 0 0] (g := w.heap.size + 1) (by simp)).alloc (.cells #[.int .i64 u, .int .i64 v, .slice none 0 0] 30)
  have hF0 := Blk.new ((w.alloc (.cells #[.int .i64 x, .int .i64 y, .int .i64 p, .int .i64 u, .int .i64 v, .int .i64 s] 35)).alloc (.cells #[.int .i64 0, .int .i64 0, .slice none 0 0] 30)) 30 [.int .i64 u, .int .i64 v, .slice none 0 0] (g := w.heap.size + 1 + 1) (by simp)
  have HF0 := Lib.hid (FSt.mk hG0 hR0 ⟨_, hF0, BRow.nil _ _⟩ hB0)
  clear hv hin hB0 hG0 hR0 hF0 hN
  go_enter Try.func15, Try.ntmps15
  go_wp2_with fail
  have hnew : w.heap.size + 1 + 1 < (((w.alloc (.cells #[.int .i64 x, .int .i64 y, .int .i64 p, .int .i64 u, .int .i64 v, .int .i64 s] 35)).alloc (.cells #[.int .i64 0, .int .i64 0, .slice none 0 0] 30)).alloc (.cells #[.int .i64 u, .int .i64 v, .slice none 0 0] 30)).heap.size := by simp
  generalize ((w.alloc (.cells #[.int .i64 x, .int .i64 y, .int .i64 p, .int .i64 u, .int .i64 v, .int .i64 s] 35)).alloc (.cells #[.int .i64 0, .int .i64 0, .slice none 0 0] 30)).alloc (.cells #[.int .i64 u, .int .i64 v, .slice none 0 0] 30) = w0 at *
  clear hnew
  go_loopw [6] (fun i wr => ∃ k : Nat, k ≤ v ∧ i = .int .i64 k ∧ Hid (FSt w wr w.heap.size (w.heap.size + 1) (w.heap.size + 1 + 1) x y p s u v (fldN es x y p s u (k * u)))) (fun i _ => v - (intOf i).toNat)
  case atStart => exact ⟨0, Nat.zero_le _, rfl, Lib.hid (by rw [Nat.zero_mul]; exact HF0.out)⟩
  case round =>
    clear HF0
    obtain ⟨k, hk, rfl, HF⟩ := hrel
    have g4 := HF.out.box.cell 4 rfl
    have gl := HF.out.box.lt
    by_cases hkv : k < v
    · have hkb : decide ((k : Int) < v) = true := by simp; omega
      have g3 := HF.out.box.cell 3 rfl
      go_wp2_with fail
      obtain ⟨wo, rfl⟩ : ∃ x, x = wr := ⟨wr, rfl⟩
      clear g3 g4 gl
      go_loopw [7] (fun i wr => ∃ c : Nat, c ≤ u ∧ i = .int .i64 c ∧ Hid (FSt w wr w.heap.size (w.heap.size + 1) (w.heap.size + 1 + 1) x y p s u v (fldN es x y p s u (k * u + c)))) (fun i _ => u - (intOf i).toNat)
      case atStart => exact ⟨0, Nat.zero_le _, rfl, HF⟩
      case round =>
        clear HF
        obtain ⟨c, hc, rfl, HF⟩ := hrel
        have g0 := HF.out.box.cell 0 rfl
        have g1 := HF.out.box.cell 1 rfl
        have g2 := HF.out.box.cell 2 rfl
        have g3 := HF.out.box.cell 3 rfl
        have g4 := HF.out.box.cell 4 rfl
        have g5 := HF.out.box.cell 5 rfl
        have gl := HF.out.box.lt
        by_cases hcu : c < u
        · have hcb : decide ((c : Int) < u) = true := by simp; omega
          have HC := Lib.hid (fun w => centre_any x y p u v s c k (by omega) (by omega) (by omega) (by omega) (by omega) w)
          go_wp2_with fail
          refine (HC.out _).mono ?_
          rintro e w1 ⟨rfl, hb⟩
          have HF1 := Lib.hid (HF.out.keep hb)
          have HP1 := Lib.hid (Blk.new w1 49 [.int .i64 (midG x p c), .int .i64 (midG y p k)] rfl)
          have hal : Below w1.heap.size w1 (w1.alloc (.cells #[.int .i64 (midG x p c), .int .i64 (midG y p k)] 49)) := (Below.refl _ _).alloc (Nat.le_refl _) _
          have HF2 := Lib.hid (HF1.out.keep hal)
          have hpm := mid_in x y p c k hx hy hp (by omega) (by omega)
          have HPM := Lib.hid (show InP ⟨midG x p c, midG y p k⟩ from hpm)
          have HTX : Hid (fldN es x y p s u (k * u + c) ++ [texN es s ⟨midG x p c, midG y p k⟩] = fldN es x y p s u (k * u + (c + 1))) := Lib.hid (fldN_next es x y p s u k c hcu).symm
          clear hb HF HF1 HC g0 g1 g2 g3 g4 g5 gl hal hpm
          by_cases hN0 : N = 0
          · subst hN0
            obtain rfl : es = [] := List.eq_nil_of_length_eq_zero HN.out
            rw [show texN [] s ⟨midG x p c, midG y p k⟩ = 1 from rfl] at HTX
            go_upto_region 12 with fail
            generalize w1.alloc (.cells #[.int .i64 (midG x p c), .int .i64 (midG y p k)] 49) = w2 at *
            generalize w1.heap.size = P at *
            obtain ⟨T, hT, hR⟩ := HF2.out.row
            have hlen : (fldN [] x y p s u (k * u + c)).length = k * u + c := fldN_length _ _ _ _ _ _ _
            have hKb : k * u + c ≤ 1000 := by have := Nat.mul_le_mul (show k ≤ 24 by omega) hu; omega
            obtain ⟨K, hK⟩ : ∃ K, k * u + c = K := ⟨_, rfl⟩
            obtain ⟨cur, hcur⟩ : ∃ l, fldN [] x y p s u (k * u + c) = l := ⟨_, rfl⟩
            rw [hcur] at HF2 hR hlen HTX
            rw [hK] at hlen hKb
            have HT := Lib.hid hT
            have HRW := Lib.hid hR
            have HOwn := Lib.hid (hR.own hlen)
            have HLN := Lib.hid hlen
            have HGE := Lib.hid (fun g (e : T.ownBlock = some g) => (hR.ge e).1)
            obtain ⟨At, capt, rfl⟩ := hR.form
            rw [hlen] at HT HRW HOwn HGE
            rw [hlen] at hT
            have t2 := hT.cell 2 rfl
            have tl := hT.lt
            have HSZ := Lib.hid HF2.out.low.size
            clear hR hlen hcur hT hK
            have HNB := Lib.hid (heap_alloc_new w2 (.cells #[.int .u8 (1 : Int)] 5))
            go_wp2_with (at_builtin; refine wpList_append_lies _ rfl _ _ _ (by rfl) (w.heap.size + 1 + 1 + 1) 5 i0 _ 1 1 Try.underlying28 hi0 hz0 hz1 hz2 (by rfl) (by omega) _ K _ (by rfl) (HOwn.out.alloc _) ⟨w2.heap.size, 0, none⟩ 1 1 [.int .u8 (1 : Int)] (by rfl) (by rfl) (World.news_of_block HNB.out) (by simp [Value.oneCell']) (by omega) (by simp [maxLen]; omega) (by omega) (by simp; omega) (w2.heap.size + 1) (by simp) ?_; intro g cp w4 hown hgrow hat hlt; have hF4 := (HT.out.alloc (.cells #[.int .u8 (1 : Int)] 5)).grown hgrow (fun e => by have := HGE.out _ e.symm; omega); have f4 := hF4.cell 2 rfl; have ff4 := hF4.frozen 2; have fl4 := hF4.lt)
            have HFN := FSt.push HF2.out HRW.out HT.out (by omega) (by omega) (by omega) hgrow (BRow.push1 (c := 1) HLN.out hown)
            rw [HTX.out] at HFN
            exact ⟨⟨c + 1, hcu, by go_num, Lib.hid HFN⟩, by simp [intOf]; omega⟩
          · have hN1 : 0 < (N : Int) := by omega
            have hes : es ≠ [] := fun e => hN0 (by have := HN.out; rw [e] at this; exact this.symm)
            have HE := Lib.hid (fun w (h : ERd w (.slice Ae N cape) es) => eight_any _ es (midG x p c) (midG y p k) w h HL.out HI.out HPM.out)
            have HS := Lib.hid (fun w (h : ERd w (.slice Ae N cape) es) => sign_any _ es (midG x p c) (midG y p k) w h HL.out HI.out HPM.out)
            have hE := (E8.is es ⟨midG x p c, midG y p k⟩).small HI.out HPM.out
            have hE0 := eight_pos (p := ⟨midG x p c, midG y p k⟩) hes
            have hG := sgS_in es ⟨midG x p c, midG y p k⟩
            have hX := texN_is es s ⟨midG x p c, midG y p k⟩ hs.1
            unfold texG at hX
            rw [if_neg hes] at hX
            have HCD := Lib.hid (fun w => code_any x y p u v s _ _ hs hG ⟨hE0, by omega⟩ w)
            rw [← hX] at HCD
            generalize eightS es ⟨midG x p c, midG y p k⟩ = E8v at *
            generalize sgS es ⟨midG x p c, midG y p k⟩ = SGv at *
            generalize texN es s ⟨midG x p c, midG y p k⟩ = TXv at *
            generalize midG x p c = mx at *
            generalize midG y p k = my at *
            have HVw := Lib.hid (HV.out.keep HF2.out.low)
            clear hE hE0 hG hX
            go_wp2_with fail
            generalize w1.alloc (.cells #[.int .i64 mx, .int .i64 my] 49) = w2 at *
            generalize w1.heap.size = P at *
            have HBX := Lib.hid (HF2.out.box.drew)
            replace HP1 := Lib.hid (HP1.out.drew)
            replace HVw := Lib.hid (HVw.out.keep (Below.refl _ w2).drew)
            have AB : Below w2.heap.size w2 w2.drew := (Below.refl _ _).drew
            refine wp_region_held_drew (S := fun wx => wx.cell? ⟨w.heap.size, 0, none⟩ = some (.int .i64 x) ∧ wx.cell? ⟨w.heap.size, 1, none⟩ = some (.int .i64 y) ∧ wx.cell? ⟨w.heap.size, 2, none⟩ = some (.int .i64 p) ∧ wx.cell? ⟨w.heap.size, 3, none⟩ = some (.int .i64 u) ∧ wx.cell? ⟨w.heap.size, 4, none⟩ = some (.int .i64 v) ∧ wx.cell? ⟨w.heap.size, 5, none⟩ = some (.int .i64 s) ∧ wx.cell? ⟨P, 0, none⟩ = some (.int .i64 mx) ∧ wx.cell? ⟨P, 1, none⟩ = some (.int .i64 my)) (by kernel_rfl) (⟨HBX.out.cell 0 rfl, HBX.out.cell 1 rfl, HBX.out.cell 2 rfl, HBX.out.cell 3 rfl, HBX.out.cell 4 rfl, HBX.out.cell 5 rfl, HP1.out.cell 0 rfl, HP1.out.cell 1 rfl⟩) (fun hHeld => ?_)
            refine wpAnyH_take (i := 0) (v := ?_) rfl (by kernel_rfl) (by kernel_rfl) (by kernel_rfl) (fun _ _ _ h => h) (Or.inl ⟨by rfl, ?_⟩) hHeld ?_
            rotate_left
            · intro w hSw
              (try dsimp only at hSw)
              (try simp only [List.getElem_toArray, List.getElem_cons_zero])
              go_simp
              all_goals with_reducible rfl
            try simp only [List.getElem_toArray, List.getElem_cons_zero, Act.put, List.setIfInBounds_toArray, List.set_cons_zero, List.set_cons_succ]
            refine wpAnyH_take (i := 1) (v := ?_) rfl (by kernel_rfl) (by kernel_rfl) (by kernel_rfl) (fun _ _ _ h => h) (Or.inl ⟨by rfl, ?_⟩) hHeld ?_
            rotate_left
            · intro w hSw
              (try dsimp only at hSw)
              (try simp only [List.getElem_toArray, List.getElem_cons_zero, List.getElem_cons_succ])
              go_simp
              all_goals with_reducible rfl
            try simp only [List.getElem_toArray, List.getElem_cons_zero, List.getElem_cons_succ, Act.put, List.setIfInBounds_toArray, List.set_cons_zero, List.set_cons_succ]
            refine wpAnyH_take (i := 2) (v := ?_) rfl (by kernel_rfl) (by kernel_rfl) (by kernel_rfl) (fun _ _ _ h => h) (Or.inl ⟨by rfl, ?_⟩) hHeld ?_
            rotate_left
            · intro w hSw
              (try dsimp only at hSw)
              (try simp only [List.getElem_toArray, List.getElem_cons_zero, List.getElem_cons_succ])
              go_simp
              all_goals with_reducible rfl
            try simp only [List.getElem_toArray, List.getElem_cons_zero, List.getElem_cons_succ, Act.put, List.setIfInBounds_toArray, List.set_cons_zero, List.set_cons_succ]
            refine wpAnyH_take (i := 4) (v := ?_) rfl (by kernel_rfl) (by kernel_rfl) (by kernel_rfl) (fun _ _ _ h => h) (Or.inl ⟨by rfl, ?_⟩) hHeld ?_
            rotate_left
            · intro w hSw
              (try dsimp only at hSw)
              (try simp only [List.getElem_toArray, List.getElem_cons_zero, List.getElem_cons_succ])
              go_simp
              all_goals with_reducible rfl
            try simp only [List.getElem_toArray, List.getElem_cons_zero, List.getElem_cons_succ, Act.put, List.setIfInBounds_toArray, List.set_cons_zero, List.set_cons_succ]
            refine wpAnyH_take (i := 5) (v := ?_) rfl (by kernel_rfl) (by kernel_rfl) (by kernel_rfl) (fun _ _ _ h => h) (Or.inl ⟨by rfl, ?_⟩) hHeld ?_
            rotate_left
            · intro w hSw
              (try dsimp only at hSw)
              (try simp only [List.getElem_toArray, List.getElem_cons_zero, List.getElem_cons_succ])
              go_simp
              all_goals with_reducible rfl
            try simp only [List.getElem_toArray, List.getElem_cons_zero, List.getElem_cons_succ, Act.put, List.setIfInBounds_toArray, List.set_cons_zero, List.set_cons_succ]
            refine wpAnyH_ready (rs := [3]) (by kernel_rfl) (by simp) ?_
            refine AllReadyH.cons rfl (fun K hK => ?_) AllReadyH.nil
            try simp only [List.getElem_toArray, List.getElem_cons_zero, List.getElem_cons_succ]
            go_simp
            refine (HS.out _ HVw.out).mono ?_
            rintro e wn ⟨rfl, hbn⟩
            have AB := AB.trans (hbn.mono (AB.size))
            replace HBX := Lib.hid (HBX.out.keep hbn)
            replace HP1 := Lib.hid (HP1.out.keep hbn)
            replace HVw := Lib.hid (HVw.out.keep hbn)
            clear hbn
            go_wp2_with fail
            refine hK.out _ _ (⟨HBX.out.cell 0 rfl, HBX.out.cell 1 rfl, HBX.out.cell 2 rfl, HBX.out.cell 3 rfl, HBX.out.cell 4 rfl, HBX.out.cell 5 rfl, HP1.out.cell 0 rfl, HP1.out.cell 1 rfl⟩) (fun hHeld => ?_)
            clear hK K
            try simp only [List.getElem_toArray, List.getElem_cons_zero, List.getElem_cons_succ, Act.put, List.setIfInBounds_toArray, List.set_cons_zero, List.set_cons_succ]
            refine wpAnyH_ready (rs := [6]) (by kernel_rfl) (by simp) ?_
            refine AllReadyH.cons rfl (fun K hK => ?_) AllReadyH.nil
            try simp only [List.getElem_toArray, List.getElem_cons_zero, List.getElem_cons_succ]
            go_simp
            refine (HE.out _ HVw.out).mono ?_
            rintro e wn ⟨rfl, hbn⟩
            have AB := AB.trans (hbn.mono (AB.size))
            replace HBX := Lib.hid (HBX.out.keep hbn)
            replace HP1 := Lib.hid (HP1.out.keep hbn)
            replace HVw := Lib.hid (HVw.out.keep hbn)
            clear hbn
            go_wp2_with fail
            refine hK.out _ _ (⟨HBX.out.cell 0 rfl, HBX.out.cell 1 rfl, HBX.out.cell 2 rfl, HBX.out.cell 3 rfl, HBX.out.cell 4 rfl, HBX.out.cell 5 rfl, HP1.out.cell 0 rfl, HP1.out.cell 1 rfl⟩) (fun hHeld => ?_)
            clear hK K
            try simp only [List.getElem_toArray, List.getElem_cons_zero, List.getElem_cons_succ, Act.put, List.setIfInBounds_toArray, List.set_cons_zero, List.set_cons_succ]
            refine wpAnyH_ready (rs := [7]) (by kernel_rfl) (by simp) ?_
            refine AllReadyH.cons rfl (fun K hK => ?_) AllReadyH.nil
            try simp only [List.getElem_toArray, List.getElem_cons_zero, List.getElem_cons_succ]
            go_simp
            refine (HCD.out _).mono ?_
            rintro e wn ⟨rfl, hbn⟩
            have AB := AB.trans (hbn.mono (AB.size))
            replace HBX := Lib.hid (HBX.out.keep hbn)
            replace HP1 := Lib.hid (HP1.out.keep hbn)
            replace HVw := Lib.hid (HVw.out.keep hbn)
            clear hbn
            go_wp2_with fail
            refine hK.out _ _ (⟨HBX.out.cell 0 rfl, HBX.out.cell 1 rfl, HBX.out.cell 2 rfl, HBX.out.cell 3 rfl, HBX.out.cell 4 rfl, HBX.out.cell 5 rfl, HP1.out.cell 0 rfl, HP1.out.cell 1 rfl⟩) (fun hHeld => ?_)
            clear hK K
            try simp only [List.getElem_toArray, List.getElem_cons_zero, List.getElem_cons_succ, Act.put, List.setIfInBounds_toArray, List.set_cons_zero, List.set_cons_succ]
            refine wpAnyH_take (i := 8) (v := ?_) rfl (by kernel_rfl) (by kernel_rfl) (by kernel_rfl) (fun _ _ _ h => h) (Or.inl ⟨by rfl, ?_⟩) hHeld ?_
            rotate_left
            · intro w hSw
              (try dsimp only at hSw)
              (try simp only [List.getElem_toArray, List.getElem_cons_zero, List.getElem_cons_succ])
              go_simp
              all_goals with_reducible rfl
            try simp only [List.getElem_toArray, List.getElem_cons_zero, List.getElem_cons_succ, Act.put, List.setIfInBounds_toArray, List.set_cons_zero, List.set_cons_succ]
            refine wpAnyH_done (by kernel_rfl) ?_ _
            replace HF2 := Lib.hid (HF2.out.keep AB)
            clear AB hHeld HBX HP1 HVw HE HS HCD
            try clear wz
            obtain ⟨T, hT, hR⟩ := HF2.out.row
            have hlen : (fldN es x y p s u (k * u + c)).length = k * u + c := fldN_length _ _ _ _ _ _ _
            have hKb : k * u + c ≤ 1000 := by have := Nat.mul_le_mul (show k ≤ 24 by omega) hu; omega
            obtain ⟨K, hK⟩ : ∃ K, k * u + c = K := ⟨_, rfl⟩
            obtain ⟨cur, hcur⟩ : ∃ l, fldN es x y p s u (k * u + c) = l := ⟨_, rfl⟩
            rw [hcur] at HF2 hR hlen HTX
            rw [hK] at hlen hKb
            have HT := Lib.hid hT
            have HRW := Lib.hid hR
            have HOwn := Lib.hid (hR.own hlen)
            have HLN := Lib.hid hlen
            have HGE := Lib.hid (fun g (e : T.ownBlock = some g) => (hR.ge e).1)
            obtain ⟨At, capt, rfl⟩ := hR.form
            rw [hlen] at HT HRW HOwn HGE
            rw [hlen] at hT
            have t2 := hT.cell 2 rfl
            have tl := hT.lt
            have HSZ := Lib.hid HF2.out.low.size
            clear hR hlen hcur hT hK
            have HNB := Lib.hid (heap_alloc_new wn (.cells #[.int .u8 (TXv : Int)] 5))
            go_wp2_with (at_builtin; refine wpList_append_lies _ rfl _ _ _ (by rfl) (w.heap.size + 1 + 1 + 1) 5 i0 _ 1 1 Try.underlying28 hi0 hz0 hz1 hz2 (by rfl) (by omega) _ K _ (by rfl) (HOwn.out.alloc _) ⟨wn.heap.size, 0, none⟩ 1 1 [.int .u8 (TXv : Int)] (by rfl) (by rfl) (World.news_of_block HNB.out) (by simp [Value.oneCell']) (by omega) (by simp [maxLen]; omega) (by omega) (by simp; omega) (wn.heap.size + 1) (by simp) ?_; intro g cp w4 hown hgrow hat hlt; have hF4 := (HT.out.alloc (.cells #[.int .u8 (TXv : Int)] 5)).grown hgrow (fun e => by have := HGE.out _ e.symm; omega); have f4 := hF4.cell 2 rfl; have ff4 := hF4.frozen 2; have fl4 := hF4.lt)
            have HFN := FSt.push HF2.out HRW.out HT.out (by omega) (by omega) (by omega) hgrow (BRow.push1 HLN.out hown)
            rw [HTX.out] at HFN
            exact ⟨⟨c + 1, hcu, by go_num, Lib.hid HFN⟩, by simp [intOf]; omega⟩
        · obtain rfl : c = u := by omega
          go_wp2_with fail
          exact ⟨⟨k + 1, hkv, by simp, by rw [Nat.add_mul, Nat.one_mul]; exact HF⟩, by simp [intOf]; omega⟩
    · obtain rfl : k = v := by omega
      obtain ⟨T, HT, HW⟩ := HF.out.row
      have HW2 := Lib.hid HW
      have t0 := HT.cell 0 rfl
      have t1 := HT.cell 1 rfl
      have t2 := HT.cell 2 rfl
      have tl := HT.lt
      have HRS := Lib.hid HF.out.res
      have rl := HRS.out.lt
      have rf := HRS.out.frozen
      have r0 := HRS.out.cell 0 rfl
      have r1 := HRS.out.cell 1 rfl
      have r2 := HRS.out.cell 2 rfl
      obtain ⟨At, capt, rfl⟩ := HW.form
      obtain ⟨L, hL⟩ : ∃ L, (fldN es x y p s u (k * u)).length = L := ⟨_, rfl⟩
      rw [hL] at HW2 t2
      have HF5 := Lib.hid (((HRS.out.set 0 (.int .i64 u)).set 1 (.int .i64 k)).set 2 (.slice At L capt))
      have HWW := Lib.hid (((HW2.out.set (p := ⟨w.heap.size + 1, 0, none⟩) (by simp) (.int .i64 u)).set (p := ⟨w.heap.size + 1, 1, none⟩) (by simp) (.int .i64 k)).set (p := ⟨w.heap.size + 1, 2, none⟩) (by simp) (.slice At L capt))
      have HBB := Lib.hid (((HF.out.low.setCell (p := ⟨w.heap.size + 1, 0, none⟩) (by simp) (.int .i64 u)).setCell (p := ⟨w.heap.size + 1, 1, none⟩) (by simp) (.int .i64 k)).setCell (p := ⟨w.heap.size + 1, 2, none⟩) (by simp) (.slice At L capt))
      clear HT HW hL
      go_wp2_with fail
      have q0 := HF5.out.cell 0 rfl
      have q1 := HF5.out.cell 1 rfl
      have q2 := HF5.out.cell 2 rfl
      rw [Nat.mul_comm u k]
      exact bodyPost_ret (v := .agg #[.int .i64 u, .int .i64 k, .slice At L capt]) (by simp [results, Try.results15, go_sem, q0, q1, q2]) rfl ⟨_, rfl, HWW.out.mono (by omega), HBB.out⟩

end Go.Proofs.Ytlhngelifmjefaa
