/-
  What the program's flags of layer 4 does to any world (no claim is made here).
-/
import Derived.Test.YtgkhpnjfpahlgaaPCnt
import Derived.Test.YtgkhpnjfpahlgaaPApp
import Derived.Laws.BitsAllLaws
import Derived.WalkMore
namespace Go.Proofs.Ytgkhpnjfpahlgaa
open Go.RowKit

theorem and_pow (f i : Nat) (h : f < 256) (hi : i < 8) : bits .and .u8 (f : Int) ((2 ^ i : Nat) : Int) = if f / 2 ^ i % 2 = 1 then ((2 ^ i : Nat) : Int) else 0 := by
  rw [u8_and_nat f (2 ^ i) h (Nat.lt_of_lt_of_le (Nat.pow_lt_pow_right (by omega) hi) (by decide))]
  have e : f &&& 2 ^ i = if f / 2 ^ i % 2 = 1 then 2 ^ i else 0 := by
    apply Nat.eq_of_testBit_eq
    intro j
    rw [Nat.testBit_and, Nat.testBit_two_pow]
    have ht : f.testBit i = decide (f / 2 ^ i % 2 = 1) := Nat.testBit_eq_decide_div_mod_eq
    by_cases hij : i = j
    · subst hij
      rw [ht]
      split
      · next h => simp [h]
      · next h => simp [h]
    · split
      · rw [Nat.testBit_two_pow]; simp [hij]
      · simp [hij]
  rw [e]
  split <;> rfl
/-- What the flags that were read tell, beside those that are still to be read. -/
theorem flags_after (n c : Nat) (f : Nat) (hc : c < n) : (flagsS n c [] = .error 1) ∧ (f / 8 % 2 = 1 → flagsS n c [f] = .error 1) := by
  refine ⟨flagsS_nil n c hc, fun h => ?_⟩
  rw [flagsS, if_neg (by omega), if_pos h]
theorem flags_rep (n c f t : Nat) (r : List Nat) (hc : c < n) (h : f / 8 % 2 = 1) : flagsS n c (f :: t :: r) = if 15 < f ∨ n < c + (t + 1) then .error 2 else (flagsS n (c + (t + 1)) r).map fun p => (List.replicate (t + 1) (f % 8) ++ p.1, p.2) := by
  rw [flagsS, if_neg (by omega), if_pos h]
theorem flags_one (n c f : Nat) (r : List Nat) (hc : c < n) (h : ¬ f / 8 % 2 = 1) : flagsS n c (f :: r) = if 15 < f ∨ n < c + 1 then .error 2 else (flagsS n (c + 1) r).map fun p => (f % 8 :: p.1, p.2) := by
  cases r with
  | nil => conv => lhs; rw [flagsS, if_neg (show ¬ n ≤ c by omega), if_neg h]
  | cons t r => rw [flagsS, if_neg (by omega), if_neg h]
theorem exMap_map {α β γ : Type} (e : Except Nat α) (f : α → β) (g : β → γ) : (e.map f).map g = e.map (fun x => g (f x)) := by cases e <;> rfl

theorem grown_nigh {w a b : World} {g : Nat} (h : w.grownBy a (some g)) (k : Nigh g a b) : w.grownBy b (some g) := ⟨k.os.trans h.os, k.tape.trans h.tape, k.output.trans h.output, by rw [k.size]; exact h.size, fun q hq hne => (k.block q (fun e => hne (by rw [e]))).trans (h.block q hq hne)⟩
theorem grown_below {w a b : World} {g : Nat} (h : w.grownBy a (some g)) (k : Below w.heap.size a b) : w.grownBy b (some g) := ⟨k.os.trans h.os, k.tape.trans h.tape, k.output.trans h.output, Nat.le_trans h.size k.size, fun q hq hne => (k.block q hq).trans (h.block q hq hne)⟩

set_option maxRecDepth 100000 in
set_option maxHeartbeats 1600000 in
theorem flags_any (g B n : Nat) (bs : List Nat) (w : World) (hB : B ≤ g) (hn : n ≤ 64) (h : Rdr w g B bs false) :
    Calls Try.prog 27 #[.pointer (some ⟨g, 0, none⟩), .int .i64 n] w fun e w' => ∃ (fv : Value) (er : Nat), e = .returned (.tuple #[fv, .int .i64 er]) ∧ w.grownBy w' (some g) ∧
      ((er ≠ 0 ∧ flagsS n 0 bs = .error er) ∨ (er = 0 ∧ ∃ fs r, flagsS n 0 bs = .ok (fs.map (· % 8), r) ∧ (∀ f ∈ fs, f < 16) ∧ fs.length = n ∧ BRow w' w.heap.size fv fs ∧ Rdr w' g B r false)) := by
  have HR0 := Lib.hid h
  have hgz := h.lt
  clear h
  go_enter Try.func27, Try.ntmps27
  go_wp2_with fail
  go_step3
  go_wp2_with fail
  go_step3
  go_wp2_with fail
  go_loopw [6, 7] (fun fv er wr => ∃ (cur r : List Nat), er = .int .i64 0 ∧ cur.length ≤ n ∧ Hid (flagsS n 0 bs = (flagsS n cur.length r).map (fun p => (cur.map (· % 8) ++ p.1, p.2))) ∧ Hid (∀ f ∈ cur, f < 16) ∧ Hid (BRow wr w.heap.size fv cur) ∧ Hid (Rdr wr g B r false) ∧ Hid (w.grownBy wr (some g))) (fun fv _ _ => n - lenV fv)
  case atStart => exact ⟨[], bs, rfl, Nat.zero_le _, Lib.hid (by cases flagsS n 0 bs <;> rfl), Lib.hid (fun _ h => nomatch h), Lib.hid (BRow.nil _ _), HR0, Lib.hid ⟨rfl, rfl, rfl, Nat.le_refl _, fun _ _ _ => rfl⟩⟩
  case round =>
    clear HR0
    obtain ⟨cur, r, rfl, hcl, HF, H16, HFV, HR, HBW⟩ := hrel
    obtain ⟨c, hc⟩ : ∃ c, cur.length = c := ⟨_, rfl⟩
    have HC := Lib.hid hc
    have huf := own_form (HFV.out.own hc)
    obtain ⟨Af, capf, rfl⟩ := huf
    have HFO := Lib.hid (HFV.out.own hc)
    rw [hc] at hcl HF
    clear hc
    by_cases hcn : c < n
    · have hcb : decide ((c : Int) < n) = true := by simp; omega
      have HN := Lib.hid (next_any g B r false wr HR.out)
      have hf := headD_lt HR.out.bytes
      have hgz1 := HR.out.lt
      have hzw : w.heap.size ≤ wr.heap.size := HBW.out.size
      cases r with
      | nil =>
        have HE : Hid (flagsS n 0 bs = .error 1) := Lib.hid (by rw [HF.out, flagsS_nil n c hcn]; rfl)
        simp only [List.headD_nil, List.tail_nil, List.isEmpty_nil, Bool.or_true] at HN
        clear HF
        go_wp2_with fail
        refine HN.out.mono ?_
        rintro e w1 ⟨rfl, hR1, hN1⟩
        have HB1 := Lib.hid (grown_nigh HBW.out hN1)
        obtain ⟨sv, ⟨t0, t1, g0, g1⟩, -, -⟩ := hR1
        have gz : g < w1.heap.size := by rw [hN1.size]; exact hgz1
        have o1 : bits BinOp.and IntKind.u8 0 8 = 0 := by rfl
        go_wp2
        rw [Exit.noGoto_ret]
        go_ret2
        exact ⟨_, 1, rfl, HB1.out, .inl ⟨by omega, HE.out⟩⟩
      | cons f r =>
        simp only [List.headD_cons, List.tail_cons, List.isEmpty_cons, Bool.or_false] at HN hf
        have hand := and_pow f 3 hf (by omega)
        by_cases h8 : f / 8 % 2 = 1
        · have hand' : bits BinOp.and IntKind.u8 (f : Int) 8 = 8 := by have := hand; rw [if_pos h8] at this; exact this
          clear hand
          go_wp2_with fail
          refine HN.out.mono ?_
          rintro e w1 ⟨rfl, hR1, hN1⟩
          have HB1 := Lib.hid (grown_nigh HBW.out hN1)
          have HN2 := Lib.hid (next_any g B r false w1 hR1)
          have hgz2 := hR1.lt
          have ht := headD_lt hR1.bytes
          have HN1 := Lib.hid hN1
          cases r with
          | nil =>
            have HE : Hid (flagsS n 0 bs = .error 1) := Lib.hid (by rw [HF.out, (flags_after n c f hcn).2 h8]; rfl)
            simp only [List.headD_nil, List.tail_nil, List.isEmpty_nil, Bool.or_true] at HN2
            clear HF hR1 hN1
            go_wp2_with fail
            refine HN2.out.mono ?_
            rintro e w2 ⟨rfl, hR2, hN2⟩
            have HB2 := Lib.hid (grown_nigh HB1.out hN2)
            obtain ⟨sv, ⟨t0, t1, g0, g1⟩, -, -⟩ := hR2
            have gz : g < w2.heap.size := by rw [hN2.size]; exact hgz2
            go_wp2
            rw [Exit.noGoto_ret]
            go_ret2
            exact ⟨_, 1, rfl, HB2.out, .inl ⟨by omega, HE.out⟩⟩
          | cons t r =>
            simp only [List.headD_cons, List.tail_cons, List.isEmpty_cons, Bool.or_false] at HN2 ht
            have hst := flags_rep n c f t r hcn h8
            have hwt : IntKind.i64.wrap (t : Int) = t := by rw [IntKind.wrap_i64]; omega
            have HST := Lib.hid hst
            clear hst hR1 hN1
            go_wp2_with fail
            refine HN2.out.mono ?_
            rintro e w2 ⟨rfl, hR2, hN2⟩
            have HB2 := Lib.hid (grown_nigh HB1.out hN2)
            have HR2 := Lib.hid hR2
            obtain ⟨sv, ⟨t0, t1, g0, g1⟩, -, -⟩ := hR2
            have gz : g < w2.heap.size := by rw [hN2.size]; exact hgz2
            have HN2' := Lib.hid (HN1.out.trans hN2)
            have hzw1 : w.heap.size ≤ w2.heap.size := HB2.out.size
            clear hN2
            by_cases hbad : 15 < f ∨ n < c + (t + 1)
            · have HE : Hid (flagsS n 0 bs = .error 2) := Lib.hid (by rw [HF.out, HST.out, if_pos hbad]; rfl)
              clear HF HST
              by_cases h16 : 15 < f
              · have h16' : (16 : Int) ≤ f := by omega
                clear hbad
                go_wp2
                rw [Exit.noGoto_ret]
                go_ret2
                exact ⟨_, 2, rfl, HB2.out, .inl ⟨by omega, HE.out⟩⟩
              · have h16' : (f : Int) < 16 := by omega
                have hover : (n : Int) < (c : Int) + (1 + (t : Int)) := by omega
                clear hbad
                go_wp2
                rw [Exit.noGoto_ret]
                go_ret2
                exact ⟨_, 2, rfl, HB2.out, .inl ⟨by omega, HE.out⟩⟩
            · have h16' : (f : Int) < 16 := by omega
              have hover : (c : Int) + (1 + (t : Int)) ≤ n := by omega
              have hfit : c + (t + 1) ≤ n := by omega
              have hf16 : f < 16 := by omega
              have HST' := Lib.hid (HST.out.trans (if_neg hbad))
              obtain ⟨R, hR⟩ : ∃ R : Nat, t + 1 = R := ⟨_, rfl⟩
              rw [hR] at hfit HST'
              have hRI : (1 : Int) + (t : Int) = R := by omega
              have hR1 : 1 ≤ R := by omega
              have HREP := Lib.hid (repeat_any f R ⟨w2.heap.size, 0, none⟩ 1 hR1 (by omega) (w2.alloc (.cells #[.int .u8 f] 5)) (by simp) (by simp))
              have HB3 := Lib.hid ((Below.refl w2.heap.size w2).alloc (Nat.le_refl _) (.cells #[.int .u8 f] 5))
              have HFO2 := Lib.hid (HN2'.out.own HFO.out (fun e => by have := (HFO.out.lt _ e).1; omega))
              obtain ⟨i0, hi0, hz0, hz1, hz2⟩ := infos binfo
              clear hbad HST hR
              go_wp2_with fail
              refine HREP.out.mono ?_
              rintro e w3 ⟨gr, rfl, hcells, hgr1, hgr2, hb3⟩
              have B3 : Below w2.heap.size w2 w3 := HB3.out.trans (hb3.mono HB3.out.size)
              have HB3' := Lib.hid B3
              have HFO3 := Lib.hid (own_blocks HFO2.out (w' := w3) fun q hq => B3.block q (HFO2.out.lt q hq).2)
              have HCE := Lib.hid hcells
              have hz3 : w2.heap.size ≤ w3.heap.size := B3.size
              have HRL : Hid ((bvals (List.replicate R f)).length = R) := Lib.hid (by rw [bvals_length, List.length_replicate])
              have HON : Hid (∀ v ∈ bvals (List.replicate R f), v.oneCell' = true) := Lib.hid (by
                intro v hv
                obtain ⟨b, _, rfl⟩ := List.mem_map.1 hv
                rfl)
              obtain ⟨news, hnews⟩ : ∃ news, bvals (List.replicate R f) = news := ⟨_, rfl⟩
              rw [hnews] at HCE HRL HON
              have HNW := Lib.hid hnews
              clear hcells hb3 B3 HREP hnews
              go_wp2_with (at_builtin; refine wpList_append_lies _ rfl _ _ _ (by rfl) w.heap.size 5 i0 _ 1 1 Try.underlying34 hi0 hz0 hz1 hz2 (by rfl) (by omega) _ c _ (by rfl) HFO3.out ⟨gr, 0, none⟩ R R news (by rfl) (by have := HRL.out; omega) HCE.out HON.out (by omega) (by simp [maxLen]; omega) (by omega) (by omega) w3.heap.size rfl ?_; intro gq cp w4 hown hgrow hat hlt)
              have UN : BRow w4 w.heap.size (.slice (some ⟨gq, 0, none⟩) (c + R) cp) (cur ++ List.replicate R f) := by
                unfold BRow
                rw [bvals_append, List.length_append, HC.out, List.length_replicate, HNW.out]
                exact hown
              have B4 : Below w.heap.size w2 w4 := (HB3'.out.mono (by omega)).grown hgrow (by omega) (fun q hq => by have := (HFO3.out.lt q hq).1; omega)
              have HF' : flagsS n 0 bs = (flagsS n (c + R) r).map (fun p => ((cur ++ List.replicate R f).map (· % 8) ++ p.1, p.2)) := by
                rw [HF.out, HST'.out, exMap_map]
                congr 1
                funext p
                simp
              exact ⟨⟨cur ++ List.replicate R f, r, rfl, by rw [List.length_append, HC.out, List.length_replicate]; omega, Lib.hid (by rw [List.length_append, HC.out, List.length_replicate]; exact HF'), Lib.hid (fun x hx => (List.mem_append.1 hx).elim (H16.out x) (fun h => by rw [List.eq_of_mem_replicate h]; exact hf16)), Lib.hid UN, Lib.hid (HR2.out.keep hB (B4.mono (by omega))), Lib.hid (grown_below HB2.out B4)⟩, by show n - (c + R) < n - c; omega⟩
        · have hand' : bits BinOp.and IntKind.u8 (f : Int) 8 = 0 := by have := hand; rw [if_neg h8] at this; exact this
          clear hand
          have hst := flags_one n c f r hcn h8
          have HST := Lib.hid hst
          clear hst
          go_wp2_with fail
          refine HN.out.mono ?_
          rintro e w1 ⟨rfl, hR1, hN1⟩
          have HB1 := Lib.hid (grown_nigh HBW.out hN1)
          have HR1 := Lib.hid hR1
          obtain ⟨sv, ⟨t0, t1, g0, g1⟩, -, -⟩ := hR1
          have gz : g < w1.heap.size := HR1.out.lt
          have hzw1 : w.heap.size ≤ w1.heap.size := HB1.out.size
          have HN2' := Lib.hid hN1
          clear hN1
          by_cases hbad : 15 < f ∨ n < c + 1
          · have HE : Hid (flagsS n 0 bs = .error 2) := Lib.hid (by rw [HF.out, HST.out, if_pos hbad]; rfl)
            clear HF HST
            have h16' : (16 : Int) ≤ f := by omega
            clear hbad
            go_wp2
            rw [Exit.noGoto_ret]
            go_ret2
            exact ⟨_, 2, rfl, HB1.out, .inl ⟨by omega, HE.out⟩⟩
          · have h16' : (f : Int) < 16 := by omega
            have hover : (c : Int) + 1 ≤ n := by omega
            have hfit : c + 1 ≤ n := by omega
            have hf16 : f < 16 := by omega
            have HST' := Lib.hid (HST.out.trans (if_neg hbad))
            have HREP := Lib.hid (repeat_any f 1 ⟨w1.heap.size, 0, none⟩ 1 (Nat.le_refl _) (by omega) (w1.alloc (.cells #[.int .u8 f] 5)) (by simp) (by simp))
            have HB3 := Lib.hid ((Below.refl w1.heap.size w1).alloc (Nat.le_refl _) (.cells #[.int .u8 f] 5))
            have HFO2 := Lib.hid (HN2'.out.own HFO.out (fun e => by have := (HFO.out.lt _ e).1; omega))
            obtain ⟨i0, hi0, hz0, hz1, hz2⟩ := infos binfo
            clear hbad HST
            go_wp2_with fail
            refine HREP.out.mono ?_
            rintro e w3 ⟨gr, rfl, hcells, hgr1, hgr2, hb3⟩
            have B3 : Below w1.heap.size w1 w3 := HB3.out.trans (hb3.mono HB3.out.size)
            have HB3' := Lib.hid B3
            have HFO3 := Lib.hid (own_blocks HFO2.out (w' := w3) fun q hq => B3.block q (HFO2.out.lt q hq).2)
            have HCE := Lib.hid hcells
            have hz3 : w1.heap.size ≤ w3.heap.size := B3.size
            have HRL : Hid ((bvals (List.replicate 1 f)).length = 1) := Lib.hid (by rw [bvals_length, List.length_replicate])
            have HON : Hid (∀ v ∈ bvals (List.replicate 1 f), v.oneCell' = true) := Lib.hid (by
              intro v hv
              obtain ⟨b, _, rfl⟩ := List.mem_map.1 hv
              rfl)
            obtain ⟨news, hnews⟩ : ∃ news, bvals (List.replicate 1 f) = news := ⟨_, rfl⟩
            rw [hnews] at HCE HRL HON
            have HNW := Lib.hid hnews
            clear hcells hb3 B3 HREP hnews
            go_wp2_with (at_builtin; refine wpList_append_lies _ rfl _ _ _ (by rfl) w.heap.size 5 i0 _ 1 1 Try.underlying34 hi0 hz0 hz1 hz2 (by rfl) (by omega) _ c _ (by rfl) HFO3.out ⟨gr, 0, none⟩ 1 1 news (by rfl) (by have := HRL.out; omega) HCE.out HON.out (by omega) (by simp [maxLen]; omega) (by omega) (by omega) w3.heap.size rfl ?_; intro gq cp w4 hown hgrow hat hlt)
            have UN : BRow w4 w.heap.size (.slice (some ⟨gq, 0, none⟩) (c + 1) cp) (cur ++ List.replicate 1 f) := by
              unfold BRow
              rw [bvals_append, List.length_append, HC.out, List.length_replicate, HNW.out]
              exact hown
            have B4 : Below w.heap.size w1 w4 := (HB3'.out.mono (by omega)).grown hgrow (by omega) (fun q hq => by have := (HFO3.out.lt q hq).1; omega)
            have HF' : flagsS n 0 bs = (flagsS n (c + 1) r).map (fun p => ((cur ++ List.replicate 1 f).map (· % 8) ++ p.1, p.2)) := by
              rw [HF.out, HST'.out, exMap_map]
              congr 1
              funext p
              simp
            exact ⟨⟨cur ++ List.replicate 1 f, r, rfl, by rw [List.length_append, HC.out, List.length_replicate]; omega, Lib.hid (by rw [List.length_append, HC.out, List.length_replicate]; exact HF'), Lib.hid (fun x hx => (List.mem_append.1 hx).elim (H16.out x) (fun h => by rw [List.eq_of_mem_replicate h]; exact hf16)), Lib.hid UN, Lib.hid (HR1.out.keep hB (B4.mono (by omega))), Lib.hid (grown_below HB1.out B4)⟩, by show n - (c + 1) < n - c; omega⟩
    · obtain rfl : c = n := by omega
      have HE : Hid (flagsS c 0 bs = .ok (cur.map (· % 8), r)) := Lib.hid (by rw [HF.out, flagsS_done c c (Nat.le_refl _)]; simp [Except.map])
      clear HF
      go_wp2
      rw [Exit.noGoto_ret]
      go_ret2
      exact ⟨_, 0, rfl, HBW.out, .inr ⟨rfl, cur, r, HE.out, H16.out, HC.out, HFV.out, HR.out⟩⟩

end Go.Proofs.Ytgkhpnjfpahlgaa
