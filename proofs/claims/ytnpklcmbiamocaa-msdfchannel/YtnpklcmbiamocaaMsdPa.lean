/-
  What the program's areWhite, belongs and Channel of layer 12 do to any world: contracts (no claim is made here).
-/
import Derived.Test.YtnpklcmbiamocaaMsd0
import Derived.Test.YtnpklcmbiamocaaMsdq
namespace Go.Proofs.Ytnpklcmbiamocaa
open Go.RowKit

set_option maxRecDepth 100000 in
theorem pwhite_any (vl : Value) (l : List Nat) (w : World) (hv : NRd w vl l) (hl : l.length ≤ 2000000) :
    Calls Try.prog 41 #[vl] w fun e w' => e = .returned (.bool (l.all (fun x => x == 7))) ∧ Below w.heap.size w w' := by
  have HL := Lib.hid hv
  obtain ⟨Al, capl, rfl, hcl, -⟩ := hv
  obtain ⟨N, hN⟩ : ∃ N, l.length = N := ⟨_, rfl⟩
  have HN := Lib.hid hN
  rw [hN] at HL hl hcl
  rw [hN]
  clear hN
  go_enter Try.func41, Try.ntmps41
  go_wp2_with fail
  go_loopw [7] (fun i wr => ∃ r : Nat, r ≤ N ∧ i = .int .i64 r ∧ Hid ((l.take r).all (fun x => x == 7) = true) ∧ wr = w) (fun i _ => N - (intOf i).toNat)
  case atStart => exact ⟨0, Nat.zero_le _, rfl, Lib.hid (by simp), rfl⟩
  case round =>
    obtain ⟨r, hr, rfl, HT, hw⟩ := hrel
    subst hw
    by_cases hrn : r < N
    · have hrb : decide ((r : Int) < N) = true := by simp; omega
      obtain ⟨c0, hc0⟩ : ∃ c, l[r]? = some c := ⟨_, List.getElem?_eq_getElem (by rw [HN.out]; exact hrn)⟩
      obtain ⟨a, rfl, hal, a0⟩ := HL.out.at r c0 hc0
      have HST := Lib.hid (show (l.take (r + 1)).all (fun x => x == 7) = ((l.take r).all (fun x => x == 7) && (c0 == 7)) by rw [take_next hc0, List.all_append]; simp)
      by_cases h7 : c0 = 7
      · have h7b : ((c0 : Int) == 7) = true := by simp; omega
        have HT2 : Hid ((l.take (r + 1)).all (fun x => x == 7) = true) := Lib.hid (by rw [HST.out, HT.out, h7]; rfl)
        clear hc0 HST h7
        go_wp2_with fail
        exact ⟨⟨r + 1, hrn, by go_num, HT2, trivial⟩, by simp [intOf]; omega⟩
      · have h7b : ((c0 : Int) == 7) = false := by simp; omega
        have HF : Hid (l.all (fun x => x == 7) = false) := Lib.hid (by
          rw [List.all_eq_false]
          exact ⟨c0, List.mem_of_getElem? hc0, by simpa using h7⟩)
        clear hc0 HST h7
        go_wp2_with fail
        go_ret
        exact ⟨by rw [HF.out]; rfl, Below.refl _ _⟩
    · have hre : r = N := by omega
      subst hre
      have hfull : l.take r = l := List.take_of_length_le (by rw [HN.out]; exact Nat.le_refl _)
      have hT := HT.out
      rw [hfull] at hT
      have HT3 := Lib.hid hT
      clear hT hfull
      go_wp2_with fail
      go_ret
      exact ⟨by rw [HT3.out]; rfl, Below.refl _ _⟩

set_option maxRecDepth 100000 in
theorem pbelongs_any (vl : Value) (l : List Nat) (k c : Nat) (w : World) (hv : NRd w vl l) (hlb : ∀ x ∈ l, x < 16) (hc : c < 3) :
    Calls Try.prog 43 #[vl, .int .i64 k, .int .i64 c] w fun e w' => e = .returned (.bool (inC l c k)) ∧ Below w.heap.size w w' := by
  have HL := Lib.hid hv
  obtain ⟨Al, capl, rfl, hcl, -⟩ := hv
  by_cases hk : k < l.length
  · obtain ⟨x0, hx0⟩ : ∃ c, l[k]? = some c := ⟨_, List.getElem?_eq_getElem hk⟩
    obtain ⟨al, rfl, _, x1⟩ := HL.out.at k x0 hx0
    have hx16 := hlb x0 (List.mem_of_getElem? hx0)
    have hin : inC l c k = x0.testBit c := by unfold inC; rw [decide_eq_true hk, Bool.true_and, List.getD_eq_getElem?_getD, hx0]; rfl
    have hbit := and_bit ⟨x0, hx16⟩ ⟨c, hc⟩
    simp only [] at hbit
    rw [← hin] at hbit
    obtain ⟨d, hd⟩ : ∃ d : Nat, 2 ^ c = d := ⟨_, rfl⟩
    have hdw := (pow_w c hc).1
    rw [hd] at hdw
    rw [hd] at hbit
    generalize inC l c k = b at *
    have hkb : decide ((k : Int) < l.length) = true := by simp; omega
    generalize l.length = N at *
    clear hin hd hx0
    go_enter Try.func43, Try.ntmps43
    go_wp2_with fail
    go_ret
    exact ⟨rfl, Below.refl _ _⟩
  · have hkb : decide ((k : Int) < l.length) = false := by simp; omega
    have hf : inC l c k = false := by unfold inC; rw [decide_eq_false hk, Bool.false_and]
    rw [hf]
    generalize l.length = N at *
    go_enter Try.func43, Try.ntmps43
    go_wp2_with fail
    go_ret
    exact ⟨rfl, Below.refl _ _⟩

set_option maxRecDepth 100000 in
theorem pin_any (vl : Value) (l : List Nat) (k c gl gc : Nat) (w : World) (hv : NRd w vl l) (hlb : ∀ x ∈ l, x < 16) (hc : c < 3) (h1 : w.cell? ⟨gl, 0, none⟩ = some vl) (h2 : w.cell? ⟨gc, 0, none⟩ = some (.int .i64 c)) :
    Calls Try.prog 42 #[.int .i64 k, .pointer (some ⟨gl, 0, none⟩), .pointer (some ⟨gc, 0, none⟩)] w fun e w' => e = .returned (.bool (inC l c k)) ∧ Below w.heap.size w w' := by
  have HC := Lib.hid (pbelongs_any vl l k c w hv hlb hc)
  obtain ⟨Al, capl, rfl, hcl, -⟩ := hv
  go_enter Try.func42, Try.ntmps42
  go_wp2_with fail
  refine HC.out.mono ?_
  rintro e w1 ⟨rfl, hb⟩
  go_wp2_with fail
  go_ret
  exact ⟨rfl, hb⟩

/-- dist.Some with the program's closure. -/
theorem psome_any (v vl : Value) (es : List Ed) (l : List Nat) (x y : Int) (c gl gc : Nat) (w : World) (hv : ERd w v es) (hl : es.length ≤ 200000) (hin : ∀ s ∈ es, InD s) (hp : InP ⟨x, y⟩) (hvl : NRd w vl l) (hlb : ∀ x ∈ l, x < 16) (hc : c < 3) (h1 : w.cell? ⟨gl, 0, none⟩ = some vl) (h2 : w.cell? ⟨gc, 0, none⟩ = some (.int .i64 c)) :
    Calls Try.prog 24 #[v, .agg #[.int .i64 x, .int .i64 y], .func (.func 42) #[] #[.pointer (some ⟨gl, 0, none⟩), .pointer (some ⟨gc, 0, none⟩)]] w
      fun e w' => ∃ n d, e = .returned (.tuple #[.agg #[.int .i64 n, .int .i64 d], .int .i64 (bestI es ⟨x, y⟩ (inC l c) es.length)]) ∧ Below w.heap.size w w' := by
  have k1 := World.block_lt_of_cell? w _ h1
  have k2 := World.block_lt_of_cell? w _ h2
  have key := some_any v es x y 42 #[.pointer (some ⟨gl, 0, none⟩), .pointer (some ⟨gc, 0, none⟩)] (inC l c)
    (fun _ w1 => Below w.heap.size w w1) (fun _ => False) w hv hl hin hp (fun args w => by kernel_rfl) ?_ (fun _ _ _ h hb => h.trans hb) (Below.refl _ _) (fun g hg => hg.elim)
  · refine key.mono ?_
    rintro e w' ⟨n, d, k, rfl, hb, h4, _⟩
    exact ⟨n, d, by rw [hb.at.1], h4⟩
  · intro k w1 _ hw g
    refine (pin_any vl l k c gl gc w1 (hvl.keep g) hlb hc ((g.cell k1).trans h1) ((g.cell k2).trans h2)).mono ?_
    rintro e w' ⟨rfl, hb⟩
    exact ⟨rfl, below2 g hb, But.of hb⟩

set_option maxRecDepth 100000 in
set_option maxHeartbeats 1600000 in
theorem pchannel_any (ve vl : Value) (es : List Ed) (l : List Nat) (x y p s : Int) (u v i k c : Nat) (w : World) (hv : ERd w ve es) (hl : es.length ≤ 200000) (hin : ∀ s ∈ es, InD s) (hvl : NRd w vl l) (hll : l.length ≤ 2000000) (hlb : ∀ x ∈ l, x < 16) (hg : checkG x y p u v s = 0) (hi : i < u) (hk : k < v) (hc : c < 3) :
    Calls Try.prog 17 #[ve, vl, .agg #[.int .i64 x, .int .i64 y, .int .i64 p, .int .i64 u, .int .i64 v, .int .i64 s], .int .i64 i, .int .i64 k, .int .i64 c] w fun e w' => e = .returned (.int .u8 (chN es l s (midP x y p i k) c : Nat)) ∧ Below w.heap.size w w' := by
  obtain ⟨hx, hp, hs, hu, hv2⟩ := checkG_zero hg
  have HWC := Lib.hid (fun w h => pwhite_any vl l w h hll)
  have HV := Lib.hid hv
  have HL := Lib.hid hvl
  have HI := Lib.hid hin
  have HLB := Lib.hid hlb
  obtain ⟨Ae, cape, rfl, hce, -⟩ := id hv
  obtain ⟨Al, capl, rfl, hcl, -⟩ := id hvl
  have HC := Lib.hid (fun w => centre_any x y p u v s i k (by omega) (by omega) (by omega) (by omega) (by omega) w)
  have HPM := Lib.hid (show InP (midP x y p i k) from mid_in x y p i k hx.1 hx.2 hp (by omega) (by omega))
  have HTX := Lib.hid (fun w h => ptexel_any (.slice Ae es.length cape) es x y p s u v i k w h hl hin hg hi hk)
  have HSM := Lib.hid (fun w q1 q2 h1 h2 h3 => psome_any (.slice Ae es.length cape) (.slice Al l.length capl) es l (midP x y p i k).x (midP x y p i k).y c q1 q2 w h1 hl hin HPM.out h2 hlb hc h3)
  obtain ⟨N, hN⟩ : ∃ N, es.length = N := ⟨_, rfl⟩
  obtain ⟨NL, hNL⟩ : ∃ N, l.length = N := ⟨_, rfl⟩
  have HN := Lib.hid hN
  rw [hN] at HV HTX HSM hl hce
  rw [hNL] at HL HSM HWC hll hcl
  rw [hN, hNL]
  have hB0 := alloc3 w (.cells #[.slice Al NL capl] 28) (.cells #[.int .i64 x, .int .i64 y, .int .i64 p, .int .i64 u, .int .i64 v, .int .i64 s] 35) (.cells #[.int .i64 c] 3)
  have HL0 := Lib.hid (((Blk.new w 28 [.slice Al NL capl] rfl).alloc (.cells #[.int .i64 x, .int .i64 y, .int .i64 p, .int .i64 u, .int .i64 v, .int .i64 s] 35)).alloc (.cells #[.int .i64 c] 3))
  have HG0 := Lib.hid ((Blk.new (w.alloc (.cells #[.slice Al NL capl] 28)) 35 [.int .i64 x, .int .i64 y, .int .i64 p, .int .i64 u, .int .i64 v, .int .i64 s] (g := w.heap.size + 1) (by simp)).alloc (.cells #[.int .i64 c] 3))
  have HC0 := Lib.hid (Blk.new ((w.alloc (.cells #[.slice Al NL capl] 28)).alloc (.cells #[.int .i64 x, .int .i64 y, .int .i64 p, .int .i64 u, .int .i64 v, .int .i64 s] 35)) 3 [.int .i64 c] (g := w.heap.size + 1 + 1) (by simp))
  have HB0 := Lib.hid hB0
  have HM : Hid ((midP x y p i k) = ⟨midG x p i, midG y p k⟩) := Lib.hid rfl
  obtain ⟨X, hX⟩ : ∃ X, midG x p i = X := ⟨_, rfl⟩
  obtain ⟨Y, hY⟩ : ∃ X, midG y p k = X := ⟨_, rfl⟩
  rw [hX, hY] at HM HC
  rw [HM.out] at HPM HTX HSM ⊢
  simp only [] at HSM
  have HWN := Lib.hid (fun (h : ∀ x ∈ l, x = 7) => chN_white es l s ⟨X, Y⟩ c h)
  have HNN := Lib.hid (fun h => chN_none es l s ⟨X, Y⟩ c h)
  have HSO := Lib.hid (fun hw (j : Nat) E h (hE : es[j]? = some E) => chG_some (s := s) (p := ⟨X, Y⟩) (c := c) (l := l) hw h hE)
  have HIS := Lib.hid (chN_is es l s ⟨X, Y⟩ c hs.1)
  have hbi := bestI_in es ⟨X, Y⟩ (inC l c) es.length
  rw [hN] at HNN hbi
  try rw [hN] at HSO
  obtain ⟨B, hB⟩ : ∃ B, bestI es ⟨X, Y⟩ (inC l c) N = B := ⟨_, rfl⟩
  rw [hB] at hbi HNN HSO HSM
  clear hN hNL hX hY hv hvl hin hlb hB0 hB hg
  go_enter Try.func17, Try.ntmps17
  go_wp2_with fail
  refine (HWC.out _ (HL.out.keep HB0.out)).mono ?_
  rintro e w1 ⟨rfl, hb⟩
  have HB1 := Lib.hid (below2 HB0.out hb)
  have HL1 := Lib.hid (HL0.out.keep hb)
  have HG1 := Lib.hid (HG0.out.keep hb)
  have HC1 := Lib.hid (HC0.out.keep hb)
  clear hb HB0 HL0 HG0 HC0 HWC
  have g0 := HG1.out.cell 0 rfl
  have g1 := HG1.out.cell 1 rfl
  have g2 := HG1.out.cell 2 rfl
  have g3 := HG1.out.cell 3 rfl
  have g4 := HG1.out.cell 4 rfl
  have g5 := HG1.out.cell 5 rfl
  have gl := HG1.out.lt
  obtain ⟨W, hW⟩ : ∃ W, l.all (fun x => x == 7) = W := ⟨_, rfl⟩
  rw [hW]
  cases W
  case true =>
    have hall : ∀ x ∈ l, x = 7 := fun x hx => by
      have := List.all_eq_true.1 hW x hx
      simpa using this
    have HTX1 := Lib.hid (HTX.out _ (HV.out.keep HB1.out))
    have HR := Lib.hid (HWN.out hall)
    clear hW HSM HSO HNN HWN HIS HTX
    go_wp2_with fail
    refine HTX1.out.mono ?_
    rintro e w8 ⟨rfl, hb8⟩
    have HB8 := Lib.hid (below2 HB1.out hb8)
    clear hb8
    go_wp2_with fail
    go_ret
    exact ⟨by rw [HR.out]; rfl, HB8.out⟩
  case false =>
    have hnw : Hid (¬∀ x ∈ l, x = 7) := Lib.hid (by
      intro h
      rw [List.all_eq_true.2 (fun x hx => by rw [h x hx]; rfl)] at hW
      cases hW)
    clear hW HWN
    go_wp2_with fail
    refine (HC.out _).mono ?_
    rintro e w2 ⟨rfl, hb⟩
    have HB2 := Lib.hid (below2 HB1.out hb)
    have HL2 := Lib.hid (HL1.out.keep hb)
    have HG2 := Lib.hid (HG1.out.keep hb)
    have HC2 := Lib.hid (HC1.out.keep hb)
    clear hb HB1 HL1 HG1 HC1 HC g0 g1 g2 g3 g4 g5 gl
    go_wp2_with fail
    have hal : Below w2.heap.size w2 (w2.alloc (.cells #[.int .i64 X, .int .i64 Y] 59)) := (Below.refl _ _).alloc (Nat.le_refl _) _
    have HP3 := Lib.hid (Blk.new w2 59 [.int .i64 X, .int .i64 Y] rfl)
    have HB3 := Lib.hid (below2 HB2.out hal)
    have HG3 := Lib.hid (HG2.out.keep hal)
    refine (HSM.out _ _ _ (HV.out.keep HB3.out) (HL.out.keep HB3.out) ((HL2.out.keep hal).cell 0 rfl) ((HC2.out.keep hal).cell 0 rfl)).mono ?_
    rintro e w4 ⟨fn, fd, rfl, hb⟩
    have hal4 : Below w4.heap.size w4 (w4.alloc (.cells #[.int .i64 fn, .int .i64 fd] 62)) := (Below.refl _ _).alloc (Nat.le_refl _) _
    have HB4 := Lib.hid (below2 (below2 HB3.out hb) hal4)
    have HG4 := Lib.hid ((HG3.out.keep hb).keep hal4)
    have HP4 := Lib.hid ((HP3.out.keep hb).keep hal4)
    have HV4 := Lib.hid (HV.out.keep HB4.out)
    clear hb hal hal4 HB3 HG3 HP3 HB2 HG2 HL2 HC2 HSM
    generalize w2.heap.size = P at *
    by_cases hB0 : B < 0
    · have hBb : decide (B < 0) = true := by simp; omega
      have g0 := HG4.out.cell 0 rfl
      have g1 := HG4.out.cell 1 rfl
      have g2 := HG4.out.cell 2 rfl
      have g3 := HG4.out.cell 3 rfl
      have g4 := HG4.out.cell 4 rfl
      have g5 := HG4.out.cell 5 rfl
      have gl := HG4.out.lt
      go_wp2_with fail
      refine (HTX.out _ HV4.out).mono ?_
      rintro e w8 ⟨rfl, hb8⟩
      have HB8 := Lib.hid (below2 HB4.out hb8)
      clear hb8
      go_wp2_with fail
      go_ret
      exact ⟨by rw [HNN.out hB0]; rfl, HB8.out⟩
    · have hBb : decide (B < 0) = false := by simp; omega
      obtain ⟨bj, rfl⟩ : ∃ n : Nat, B = n := ⟨B.toNat, by omega⟩
      obtain ⟨Ej, hEj0⟩ : ∃ c, es[bj]? = some c := ⟨_, List.getElem?_eq_getElem (by rw [HN.out]; omega)⟩
      have hch := HSO.out hnw.out bj Ej rfl hEj0
      rw [← HIS.out] at hch
      have hIJ := HI.out Ej (List.mem_of_getElem? hEj0)
      obtain ⟨a, rfl, hal, e0, e1, e2, e3⟩ := HV4.out.at bj Ej hEj0
      have HSD := Lib.hid (fun w => side_any Ej.a.x Ej.a.y Ej.b.x Ej.b.y X Y ⟨hIJ.1, hIJ.2, HPM.out⟩ w)
      have HLN := Lib.hid (fun w => line_any Ej.a.x Ej.a.y Ej.b.x Ej.b.y X Y ⟨hIJ.1, hIJ.2, HPM.out⟩ w)
      change Hid (∀ w, Calls _ _ _ _ fun e w' => e = .returned (.int .i64 (sdE Ej ⟨X, Y⟩)) ∧ _) at HSD
      change Hid (∀ w, Calls _ _ _ _ fun e w' => e = .returned (.agg #[.int .i64 (lnF Ej ⟨X, Y⟩).1, .int .i64 (lnF Ej ⟨X, Y⟩).2]) ∧ _) at HLN
      have q1 := ln_small Ej ⟨X, Y⟩ hIJ HPM.out
      have HSC := Lib.hid (fun w => scaled_e8 (lnF Ej ⟨X, Y⟩).1 (lnF Ej ⟨X, Y⟩).2 (by omega) (by omega) q1.2.2 w)
      have q8 := e8_ln_small Ej ⟨X, Y⟩ hIJ HPM.out
      have qd := sdE_in Ej ⟨X, Y⟩
      have HCD := Lib.hid (fun w => code_any x y p u v s (sdE Ej ⟨X, Y⟩) (e8 (lnF Ej ⟨X, Y⟩)) hs qd q8 w)
      rw [← hch] at HCD
      have hpair : ((lnF Ej ⟨X, Y⟩).1, (lnF Ej ⟨X, Y⟩).2) = lnF Ej ⟨X, Y⟩ := rfl
      rw [hpair] at HSC
      generalize e8 (lnF Ej ⟨X, Y⟩) = e8v at *
      generalize (lnF Ej ⟨X, Y⟩).1 = n1 at *
      generalize (lnF Ej ⟨X, Y⟩).2 = d1 at *
      generalize sdE Ej ⟨X, Y⟩ = sd at *
      clear hch q1 q8 qd hpair hIJ HSO HNN HIS hEj0 HTX
      go_wp2_with fail
      clear e0 e1 e2 e3 HV4 HV
      have hal5 : Below (w4.alloc (.cells #[.int .i64 fn, .int .i64 fd] 62)).heap.size (w4.alloc (.cells #[.int .i64 fn, .int .i64 fd] 62)) ((w4.alloc (.cells #[.int .i64 fn, .int .i64 fd] 62)).alloc (.cells #[.int .i64 Ej.a.x, .int .i64 Ej.a.y, .int .i64 Ej.b.x, .int .i64 Ej.b.y] 70)) := (Below.refl _ _).alloc (Nat.le_refl _) _
      have HE4 := Lib.hid ((Blk.new (w4.alloc (.cells #[.int .i64 fn, .int .i64 fd] 62)) 70 [.int .i64 Ej.a.x, .int .i64 Ej.a.y, .int .i64 Ej.b.x, .int .i64 Ej.b.y] (g := w4.heap.size + 1) (by simp)).drew)
      replace HG4 := Lib.hid ((HG4.out.keep hal5).drew)
      replace HP4 := Lib.hid ((HP4.out.keep hal5).drew)
      have AB := (below2 HB4.out hal5).drew
      clear hal5 HB4
      generalize ((w4.alloc (.cells #[.int .i64 fn, .int .i64 fd] 62))).alloc (.cells #[.int .i64 Ej.a.x, .int .i64 Ej.a.y, .int .i64 Ej.b.x, .int .i64 Ej.b.y] 70) = w6 at *
      generalize w4.heap.size + 1 = Q at *
      refine wp_region_held_drew (S := fun wx => wx.cell? ⟨w.heap.size + 1, 0, none⟩ = some (.int .i64 x) ∧ wx.cell? ⟨w.heap.size + 1, 1, none⟩ = some (.int .i64 y) ∧ wx.cell? ⟨w.heap.size + 1, 2, none⟩ = some (.int .i64 p) ∧ wx.cell? ⟨w.heap.size + 1, 3, none⟩ = some (.int .i64 u) ∧ wx.cell? ⟨w.heap.size + 1, 4, none⟩ = some (.int .i64 v) ∧ wx.cell? ⟨w.heap.size + 1, 5, none⟩ = some (.int .i64 s) ∧ wx.cell? ⟨P, 0, none⟩ = some (.int .i64 X) ∧ wx.cell? ⟨P, 1, none⟩ = some (.int .i64 Y) ∧ wx.cell? ⟨Q, 0, none⟩ = some (.int .i64 Ej.a.x) ∧ wx.cell? ⟨Q, 1, none⟩ = some (.int .i64 Ej.a.y) ∧ wx.cell? ⟨Q, 2, none⟩ = some (.int .i64 Ej.b.x) ∧ wx.cell? ⟨Q, 3, none⟩ = some (.int .i64 Ej.b.y)) (by kernel_rfl) (⟨HG4.out.cell 0 rfl, HG4.out.cell 1 rfl, HG4.out.cell 2 rfl, HG4.out.cell 3 rfl, HG4.out.cell 4 rfl, HG4.out.cell 5 rfl, HP4.out.cell 0 rfl, HP4.out.cell 1 rfl, HE4.out.cell 0 rfl, HE4.out.cell 1 rfl, HE4.out.cell 2 rfl, HE4.out.cell 3 rfl⟩) (fun hHeld => ?_)
      refine wpAnyH_take (i := 0) (v := ?_) rfl (by kernel_rfl) (by kernel_rfl) (by kernel_rfl) (fun _ _ _ h => h) (Or.inl ⟨by rfl, ?_⟩) hHeld ?_
      rotate_left
      · intro w hSw
        (try dsimp only at hSw)
        (try simp only [List.getElem_toArray, List.getElem_cons_zero])
        go_simp
        all_goals with_reducible rfl
      try simp only [List.getElem_toArray, List.getElem_cons_zero, Act.put, List.setIfInBounds_toArray, List.set_cons_zero, List.set_cons_succ]
      refine wpAnyH_take (i := 1) (v := ?_) rfl (by kernel_rfl) (by kernel_rfl) (by kernel_rfl) (fun _ _ _ h => h) (Or.inl ⟨by rfl, ?_⟩) hHeld ?_
      rotate_left
      · intro w hSw
        (try dsimp only at hSw)
        (try simp only [List.getElem_toArray, List.getElem_cons_zero, List.getElem_cons_succ])
        go_simp
        all_goals with_reducible rfl
      try simp only [List.getElem_toArray, List.getElem_cons_zero, List.getElem_cons_succ, Act.put, List.setIfInBounds_toArray, List.set_cons_zero, List.set_cons_succ]
      refine wpAnyH_take (i := 2) (v := ?_) rfl (by kernel_rfl) (by kernel_rfl) (by kernel_rfl) (fun _ _ _ h => h) (Or.inl ⟨by rfl, ?_⟩) hHeld ?_
      rotate_left
      · intro w hSw
        (try dsimp only at hSw)
        (try simp only [List.getElem_toArray, List.getElem_cons_zero, List.getElem_cons_succ])
        go_simp
        all_goals with_reducible rfl
      try simp only [List.getElem_toArray, List.getElem_cons_zero, List.getElem_cons_succ, Act.put, List.setIfInBounds_toArray, List.set_cons_zero, List.set_cons_succ]
      refine wpAnyH_take (i := 4) (v := ?_) rfl (by kernel_rfl) (by kernel_rfl) (by kernel_rfl) (fun _ _ _ h => h) (Or.inl ⟨by rfl, ?_⟩) hHeld ?_
      rotate_left
      · intro w hSw
        (try dsimp only at hSw)
        (try simp only [List.getElem_toArray, List.getElem_cons_zero, List.getElem_cons_succ])
        go_simp
        all_goals with_reducible rfl
      try simp only [List.getElem_toArray, List.getElem_cons_zero, List.getElem_cons_succ, Act.put, List.setIfInBounds_toArray, List.set_cons_zero, List.set_cons_succ]
      refine wpAnyH_take (i := 5) (v := ?_) rfl (by kernel_rfl) (by kernel_rfl) (by kernel_rfl) (fun _ _ _ h => h) (Or.inl ⟨by rfl, ?_⟩) hHeld ?_
      rotate_left
      · intro w hSw
        (try dsimp only at hSw)
        (try simp only [List.getElem_toArray, List.getElem_cons_zero, List.getElem_cons_succ])
        go_simp
        all_goals with_reducible rfl
      try simp only [List.getElem_toArray, List.getElem_cons_zero, List.getElem_cons_succ, Act.put, List.setIfInBounds_toArray, List.set_cons_zero, List.set_cons_succ]
      refine wpAnyH_ready (rs := [3]) (by kernel_rfl) (by simp) ?_
      refine AllReadyH.cons rfl (fun K hK => ?_) AllReadyH.nil
      try simp only [List.getElem_toArray, List.getElem_cons_zero, List.getElem_cons_succ]
      go_simp
      refine (HSD.out _).mono ?_
      rintro e wn ⟨rfl, hbn⟩
      have AB := AB.trans (hbn.mono (AB.size))
      replace HG4 := Lib.hid (HG4.out.keep hbn)
      replace HP4 := Lib.hid (HP4.out.keep hbn)
      replace HE4 := Lib.hid (HE4.out.keep hbn)
      clear hbn
      go_wp2_with fail
      refine hK.out _ _ (⟨HG4.out.cell 0 rfl, HG4.out.cell 1 rfl, HG4.out.cell 2 rfl, HG4.out.cell 3 rfl, HG4.out.cell 4 rfl, HG4.out.cell 5 rfl, HP4.out.cell 0 rfl, HP4.out.cell 1 rfl, HE4.out.cell 0 rfl, HE4.out.cell 1 rfl, HE4.out.cell 2 rfl, HE4.out.cell 3 rfl⟩) (fun hHeld => ?_)
      clear hK K
      try simp only [List.getElem_toArray, List.getElem_cons_zero, List.getElem_cons_succ, Act.put, List.setIfInBounds_toArray, List.set_cons_zero, List.set_cons_succ]
      refine wpAnyH_ready (rs := [6]) (by kernel_rfl) (by simp) ?_
      refine AllReadyH.cons rfl (fun K hK => ?_) AllReadyH.nil
      try simp only [List.getElem_toArray, List.getElem_cons_zero, List.getElem_cons_succ]
      go_simp
      refine (HLN.out _).mono ?_
      rintro e wn ⟨rfl, hbn⟩
      have AB := AB.trans (hbn.mono (AB.size))
      replace HG4 := Lib.hid (HG4.out.keep hbn)
      replace HP4 := Lib.hid (HP4.out.keep hbn)
      replace HE4 := Lib.hid (HE4.out.keep hbn)
      clear hbn
      go_wp2_with fail
      refine hK.out _ _ (⟨HG4.out.cell 0 rfl, HG4.out.cell 1 rfl, HG4.out.cell 2 rfl, HG4.out.cell 3 rfl, HG4.out.cell 4 rfl, HG4.out.cell 5 rfl, HP4.out.cell 0 rfl, HP4.out.cell 1 rfl, HE4.out.cell 0 rfl, HE4.out.cell 1 rfl, HE4.out.cell 2 rfl, HE4.out.cell 3 rfl⟩) (fun hHeld => ?_)
      clear hK K
      try simp only [List.getElem_toArray, List.getElem_cons_zero, List.getElem_cons_succ, Act.put, List.setIfInBounds_toArray, List.set_cons_zero, List.set_cons_succ]
      refine wpAnyH_ready (rs := [7]) (by kernel_rfl) (by simp) ?_
      refine AllReadyH.cons rfl (fun K hK => ?_) AllReadyH.nil
      try simp only [List.getElem_toArray, List.getElem_cons_zero, List.getElem_cons_succ]
      go_simp
      refine (HSC.out _).mono ?_
      rintro e wn ⟨rfl, hbn⟩
      have AB := AB.trans (hbn.mono (AB.size))
      replace HG4 := Lib.hid (HG4.out.keep hbn)
      replace HP4 := Lib.hid (HP4.out.keep hbn)
      replace HE4 := Lib.hid (HE4.out.keep hbn)
      clear hbn
      go_wp2_with fail
      refine hK.out _ _ (⟨HG4.out.cell 0 rfl, HG4.out.cell 1 rfl, HG4.out.cell 2 rfl, HG4.out.cell 3 rfl, HG4.out.cell 4 rfl, HG4.out.cell 5 rfl, HP4.out.cell 0 rfl, HP4.out.cell 1 rfl, HE4.out.cell 0 rfl, HE4.out.cell 1 rfl, HE4.out.cell 2 rfl, HE4.out.cell 3 rfl⟩) (fun hHeld => ?_)
      clear hK K
      try simp only [List.getElem_toArray, List.getElem_cons_zero, List.getElem_cons_succ, Act.put, List.setIfInBounds_toArray, List.set_cons_zero, List.set_cons_succ]
      refine wpAnyH_ready (rs := [8]) (by kernel_rfl) (by simp) ?_
      refine AllReadyH.cons rfl (fun K hK => ?_) AllReadyH.nil
      try simp only [List.getElem_toArray, List.getElem_cons_zero, List.getElem_cons_succ]
      go_simp
      refine (HCD.out _).mono ?_
      rintro e wn ⟨rfl, hbn⟩
      have AB := AB.trans (hbn.mono (AB.size))
      replace HG4 := Lib.hid (HG4.out.keep hbn)
      replace HP4 := Lib.hid (HP4.out.keep hbn)
      replace HE4 := Lib.hid (HE4.out.keep hbn)
      clear hbn
      go_wp2_with fail
      refine hK.out _ _ (⟨HG4.out.cell 0 rfl, HG4.out.cell 1 rfl, HG4.out.cell 2 rfl, HG4.out.cell 3 rfl, HG4.out.cell 4 rfl, HG4.out.cell 5 rfl, HP4.out.cell 0 rfl, HP4.out.cell 1 rfl, HE4.out.cell 0 rfl, HE4.out.cell 1 rfl, HE4.out.cell 2 rfl, HE4.out.cell 3 rfl⟩) (fun hHeld => ?_)
      clear hK K
      try simp only [List.getElem_toArray, List.getElem_cons_zero, List.getElem_cons_succ, Act.put, List.setIfInBounds_toArray, List.set_cons_zero, List.set_cons_succ]
      refine wpAnyH_take (i := 9) (v := ?_) rfl (by kernel_rfl) (by kernel_rfl) (by kernel_rfl) (fun _ _ _ h => h) (Or.inl ⟨by rfl, ?_⟩) hHeld ?_
      rotate_left
      · intro w hSw
        (try dsimp only at hSw)
        (try simp only [List.getElem_toArray, List.getElem_cons_zero, List.getElem_cons_succ])
        go_simp
        all_goals with_reducible rfl
      try simp only [List.getElem_toArray, List.getElem_cons_zero, List.getElem_cons_succ, Act.put, List.setIfInBounds_toArray, List.set_cons_zero, List.set_cons_succ]
      refine wpAnyH_done (by kernel_rfl) ?_ _
      go_wp2_with fail
      go_ret
      exact ⟨rfl, AB⟩

end Go.Proofs.Ytnpklcmbiamocaa
