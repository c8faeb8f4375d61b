/-
  What the program's Fit of layer 14 does to any world: a contract (no claim is made here).
-/
import Derived.Test.YtklajpadnbeplaaSkyPd
namespace Go.Proofs.Ytklajpadnbeplaa
open Go.RowKit

/-- P14.2, step by step, whatever is asked for. -/
def fitA (l : List Nat) (H : Nat) (m n : Int) (ps : List (Nat × Nat)) : Option (Nat × Nat) := if m < 1 ∨ n < 1 then none else fitS l H m.toNat n.toNat ps
theorem fitA_no {l : List Nat} {H : Nat} {m n : Int} {ps : List (Nat × Nat)} {p : Nat × Nat} (h : ¬(1 ≤ m ∧ (p.1 : Int) + m ≤ l.length ∧ 1 ≤ n ∧ ((overL l p.1 m.toNat : Nat) : Int) + n ≤ H ∧ ∀ q, fitA l H m n ps = some q → overL l p.1 m.toNat < q.2)) : fitA l H m n (ps ++ [p]) = fitA l H m n ps := by
  unfold fitA at h ⊢
  by_cases hc : m < 1 ∨ n < 1
  · rw [if_pos hc, if_pos hc]
  · rw [if_neg hc] at h ⊢
    rw [if_neg hc, fitS_next]
    refine fitB_no (fun hh => h ?_)
    obtain ⟨a, b, c⟩ := hh
    exact ⟨by omega, by omega, by omega, by omega, c⟩
theorem fitA_yes {l : List Nat} {H : Nat} {m n : Int} {ps : List (Nat × Nat)} {p : Nat × Nat} (h1 : 1 ≤ m) (h2 : (p.1 : Int) + m ≤ l.length) (h3 : 1 ≤ n) (h4 : ((overL l p.1 m.toNat : Nat) : Int) + n ≤ H) (h5 : ∀ q, fitA l H m n ps = some q → overL l p.1 m.toNat < q.2) : fitA l H m n (ps ++ [p]) = some (p.1, overL l p.1 m.toNat) := by
  unfold fitA at h5 ⊢
  rw [if_neg (by omega)] at h5 ⊢
  rw [fitS_next]
  exact fitB_yes (by omega) (by omega) h5
/-- Its cells. -/
def bestA (c : Option (Nat × Nat)) (m n : Int) : List Value := match c with
  | some q => [.int .i64 q.1, .int .i64 q.2, .int .i64 m, .int .i64 n]
  | none => [.int .i64 0, .int .i64 0, .int .i64 0, .int .i64 0]

set_option maxRecDepth 100000 in
set_option maxHeartbeats 3200000 in
theorem pfit_any (ks : Nat → Prop) (v : Value) (l : List Nat) (H : Nat) (m n : Int) (w : World) (h : Rsky w ks v l H) (hm : m.natAbs ≤ 40000) : Calls Try.prog 12 #[v, .int .i64 m, .int .i64 n] w fun e w' => e = .returned (.tuple #[rcV (fitV l H m n).1, .bool (fitV l H m n).2]) ∧ Below w.heap.size w w' := by
  have HST := Lib.hid (fun w h => psteps14_any ks v l H w h)
  have HA := Lib.hid (fun X w h hb => pacross_any ks v l H X 0 m n w h hb)
  have HG := Lib.hid (fun X W w h h1 h2 => pgreatest_any ks v l H X W 0 n w h h1 h2)
  have HU := Lib.hid (fun X Y w h hb => pupright_any ks v l H X Y m n w h hb)
  have hl64 : l.length ≤ 64 := by obtain ⟨p, g, _, _, _, _, _, h1, _⟩ := h; exact h1
  have hl' : H ≤ 64 ∧ ∀ y ∈ l, y ≤ H := by obtain ⟨p, g, _, _, _, _, _, _, h2, h3⟩ := h; exact ⟨h2, h3⟩
  have HLE := Lib.hid hl'
  have hH := hl'.1
  obtain ⟨pa, rfl⟩ : ∃ p, v = .pointer (some p) := by obtain ⟨p, g, e, _⟩ := h; exact ⟨_, e⟩
  have HS0 := Lib.hid h
  have HLT := Lib.hid (fun q hq => h.lt q hq)
  have HB0 := Lib.hid (alloc2 w (.cells #[.int .i64 0, .int .i64 0, .int .i64 0, .int .i64 0] 31) (.cells #[.int .i64 0, .int .i64 0, .int .i64 0, .int .i64 0] 31))
  have HR0 := Lib.hid ((Blk.new w 31 [.int .i64 0, .int .i64 0, .int .i64 0, .int .i64 0] rfl).alloc (.cells #[.int .i64 0, .int .i64 0, .int .i64 0, .int .i64 0] 31))
  have HX0 := Lib.hid (Blk.new (w.alloc (.cells #[.int .i64 0, .int .i64 0, .int .i64 0, .int .i64 0] 31)) 31 [.int .i64 0, .int .i64 0, .int .i64 0, .int .i64 0] (g := w.heap.size + 1) (by simp))
  simp only [rcV] at HA HG HU
  have HFL : Hid (fitL l H m n = fitA l H m n (stepsL l)) := Lib.hid rfl
  clear h hl'
  go_enter Try.func12, Try.ntmps12
  go_wp2_with fail
  refine (HST.out _ (HS0.out.keep HB0.out)).mono ?_
  rintro e w1 ⟨V, rfl, hV, hb⟩
  have HB1 := Lib.hid (below2 HB0.out hb)
  have HS1 := Lib.hid ((HS0.out.keep HB0.out).keep hb)
  have HR1 := Lib.hid (HR0.out.keep hb)
  have HX1 := Lib.hid (HX0.out.keep hb)
  have HP1 := Lib.hid hV
  obtain ⟨Ap, capp, rfl⟩ := hV.form
  have hpl : (stepsL l).length ≤ 64 := by have := stepsTo_len l l.length; unfold stepsL; omega
  obtain ⟨ps, hps⟩ : ∃ ps, stepsL l = ps := ⟨_, rfl⟩
  have HPM : Hid (∀ p ∈ ps, p.1 < l.length) := Lib.hid (fun p hp => by rw [← hps] at hp; exact (mem_stepsTo.1 hp).1)
  rw [hps] at HFL HP1 hpl ⊢
  obtain ⟨M, hM⟩ : ∃ M, ps.length = M := ⟨_, rfl⟩
  have HM := Lib.hid hM
  rw [hM] at HP1 hpl ⊢
  clear hb hV hM hps HB0 HR0 HX0 HST HS0
  go_wp2_with fail
  go_loopw [17, 9] (fun i o wr => ∃ (r : Nat) (c : Option (Nat × Nat)), r ≤ M ∧ i = .int .i64 r ∧ o = .bool c.isSome ∧ Hid (fitA l H m n (ps.take r) = c) ∧ Hid (Blk wr (w.heap.size + 1) 31 (bestA c m n)) ∧ Hid (But (fun g => g = w.heap.size + 1) w1 wr)) (fun i _ _ => M - (intOf i).toNat)
  case atStart => exact ⟨0, none, Nat.zero_le _, rfl, rfl, Lib.hid (by unfold fitA; split <;> rfl), HX1, Lib.hid (But.of (Below.refl _ _))⟩
  case round =>
    clear HX1
    obtain ⟨r, c, hr, rfl, rfl, HC, HX, HW⟩ := hrel
    have hsz1 := HR1.out.lt
    have HBr := Lib.hid (HB1.out.trans (HW.out.below (B := w.heap.size) (fun k hk => by omega) (by omega)))
    have HSr := Lib.hid (HS1.out.keep0 HW.out.size (fun q hq => HW.out.block q (HS1.out.lt q hq) (by have := HLT.out q hq; omega)))
    by_cases hrn : r < M
    · have hrb : decide ((r : Int) < M) = true := by simp; omega
      obtain ⟨⟨p1, p2⟩, hp⟩ : ∃ p, ps[r]? = some p := ⟨_, List.getElem?_eq_getElem (by rw [HM.out]; exact hrn)⟩
      have hpl1 : p1 < l.length := HPM.out _ (List.mem_of_getElem? hp)
      have hp64 : p1 < 64 := by omega
      have HNX : Hid (fitA l H m n (ps.take (r + 1)) = fitA l H m n (ps.take r ++ [(p1, p2)])) := Lib.hid (by rw [stake_next hp])
      have HPr := HP1.out.but HW.out (fun g hg => by simp at hg ⊢; omega)
      obtain ⟨ap, rfl, hap, x0, x1⟩ := HPr.read.at r _ hp
      simp only [] at x0 x1
      have hal := Lib.hid (alloc2 wr (.cells #[.int .i64 p1, .int .i64 p2] 44) (.cells #[.int .i64 p1, .int .i64 0, .int .i64 m, .int .i64 n] 31))
      have HQ := Lib.hid (Blk.new (wr.alloc (.cells #[.int .i64 p1, .int .i64 p2] 44)) 31 [.int .i64 p1, .int .i64 0, .int .i64 m, .int .i64 n] (g := wr.heap.size + 1) (by simp))
      have HAc := HA.out (p1 : Int) _ (HSr.out.keep hal.out) (by omega)
      have hne : wr.heap.size + 1 ≠ w.heap.size + 1 := by have := HX.out.lt; omega
      have hq0 := HQ.out.cell 0 rfl
      have hq1 := HQ.out.cell 1 rfl
      have hq2 := HQ.out.cell 2 rfl
      have hq3 := HQ.out.cell 3 rfl
      have hql := HQ.out.lt
      clear hp HPr
      by_cases qa : 1 ≤ m ∧ 0 ≤ (p1 : Int) ∧ (p1 : Int) + m ≤ ((l.length : Nat) : Int)
      · rw [decide_eq_true qa] at HAc
        replace HAc := Lib.hid HAc
        obtain ⟨W, rfl⟩ : ∃ W : Nat, m = W := ⟨m.toNat, by omega⟩
        have HGc := Lib.hid (fun w h => HG.out p1 W w h (by omega) (by omega))
        have hyb : overL l p1 W ≤ 64 := over_le (fun k _ _ => by have := hgt_le HLE.out.2 k; omega)
        have HYes := Lib.hid (fun h3 h4 h5 => fitA_yes (l := l) (H := H) (m := (W : Int)) (n := n) (ps := ps.take r) (p := (p1, p2)) (by omega) (by simp only []; omega) h3 h4 h5)
        have HNo := Lib.hid (fun h => fitA_no (l := l) (H := H) (m := (W : Int)) (n := n) (ps := ps.take r) (p := (p1, p2)) h)
        rw [HC.out, ← HNX.out, Int.toNat_natCast] at HYes
        rw [HC.out, ← HNX.out, Int.toNat_natCast] at HNo
        have HUc := Lib.hid (fun w h => HU.out (p1 : Int) ((overL l p1 W : Nat) : Int) w h (by omega))
        clear qa HA HG HU HNX
        generalize overL l p1 W = y at *
        go_wp2_with fail
        refine HAc.out.mono ?_
        rintro e w2 ⟨rfl, hb⟩
        have AB2 := Lib.hid (below2 hal.out hb)
        have HQ2 := Lib.hid (HQ.out.keep hb)
        clear hb hal HQ hq0 hq1 hq2 hq3 hql x0 x1 HAc
        have q0 := HQ2.out.cell 0 rfl
        have q1 := HQ2.out.cell 1 rfl
        have q2 := HQ2.out.cell 2 rfl
        have q3 := HQ2.out.cell 3 rfl
        have ql := HQ2.out.lt
        have HGd := Lib.hid (HGc.out w2 (HSr.out.keep AB2.out))
        go_wp2_with fail
        refine HGd.out.mono ?_
        rintro e w3 ⟨rfl, hb⟩
        have AB3 := Lib.hid (below2 AB2.out hb)
        have HQ3 := Lib.hid (HQ2.out.keep hb)
        clear hb AB2 HQ2 q0 q1 q2 q3 ql HGd HGc
        have q1 := HQ3.out.cell 1 rfl
        have qf := HQ3.out.frozen
        have ql := HQ3.out.lt
        have HQ4 : Hid (Blk (w3.setCell ⟨wr.heap.size + 1, 1, none⟩ (.int .i64 (y : Int))) (wr.heap.size + 1) 31 [.int .i64 p1, .int .i64 y, .int .i64 W, .int .i64 n]) := Lib.hid (HQ3.out.set 1 (.int .i64 (y : Int)))
        have AB4 := Lib.hid (AB3.out.setCell (p := ⟨wr.heap.size + 1, 1, none⟩) (Nat.le_succ _) (.int .i64 (y : Int)))
        have q0 := HQ4.out.cell 0 rfl
        have q2 := HQ4.out.cell 2 rfl
        have q3 := HQ4.out.cell 3 rfl
        have z1 := HQ4.out.cell 1 rfl
        have HUd := HUc.out _ (HSr.out.keep AB4.out)
        clear HQ3 AB3 HUc
        by_cases qu : 1 ≤ n ∧ 0 ≤ (y : Int) ∧ (y : Int) + n ≤ ((H : Nat) : Int)
        · rw [decide_eq_true qu] at HUd
          replace HUd := Lib.hid HUd
          have HYes2 := Lib.hid (fun h5 => HYes.out qu.1 qu.2.2 h5)
          clear qu HYes
          go_wp2_with fail
          refine HUd.out.mono ?_
          rintro e w5 ⟨rfl, hb⟩
          have AB5 := Lib.hid (below2 AB4.out hb)
          have HQ5 := Lib.hid (HQ4.out.keep hb)
          have HX5 := Lib.hid (HX.out.keep AB5.out)
          have HW5 := Lib.hid (HW.out.trans (But.of AB5.out))
          clear hb AB4 HQ4 q0 q1 q2 q3 z1 qf ql HUd HX HW AB5 HSr HBr
          have q0 := HQ5.out.cell 0 rfl
          have q1 := HQ5.out.cell 1 rfl
          have q2 := HQ5.out.cell 2 rfl
          have q3 := HQ5.out.cell 3 rfl
          have ql := HQ5.out.lt
          have xl := HX5.out.lt
          have xf := HX5.out.frozen
          cases c with
          | none =>
            have HX6 : Hid (Blk w5 (w.heap.size + 1) 31 [.int .i64 0, .int .i64 0, .int .i64 0, .int .i64 0]) := HX5
            have x0 := HX6.out.cell 0 rfl
            have x1 := HX6.out.cell 1 rfl
            have x2 := HX6.out.cell 2 rfl
            have x3 := HX6.out.cell 3 rfl
            have HN7 := Lib.hid (HYes2.out (fun q hq => by cases hq))
            clear HYes2 HNo
            have HX7 := Lib.hid ((((HX6.out.set 0 (.int .i64 (p1 : Int))).set 1 (.int .i64 (y : Int))).set 2 (.int .i64 (W : Int))).set 3 (.int .i64 n))
            have HW7 := Lib.hid ((((HW5.out.set ⟨w.heap.size + 1, 0, none⟩ rfl (.int .i64 (p1 : Int))).set ⟨w.heap.size + 1, 1, none⟩ rfl (.int .i64 (y : Int))).set ⟨w.heap.size + 1, 2, none⟩ rfl (.int .i64 (W : Int))).set ⟨w.heap.size + 1, 3, none⟩ rfl (.int .i64 n))
            go_wp2_with fail
            exact ⟨⟨r + 1, some (p1, y), hrn, by go_num, rfl, HN7, HX7, HW7⟩, by simp [intOf]; omega⟩
          | some q =>
            obtain ⟨c1, c2⟩ := q
            have HX6 : Hid (Blk w5 (w.heap.size + 1) 31 [.int .i64 c1, .int .i64 c2, .int .i64 W, .int .i64 n]) := HX5
            have x0 := HX6.out.cell 0 rfl
            have x1 := HX6.out.cell 1 rfl
            have x2 := HX6.out.cell 2 rfl
            have x3 := HX6.out.cell 3 rfl
            by_cases hyc : y < c2
            · have hyd : decide ((y : Int) < c2) = true := by simp; omega
              have HN7 := Lib.hid (HYes2.out (fun q hq => by obtain rfl := Option.some.inj hq; exact hyc))
              clear HYes2 HNo
              have HX7 := Lib.hid ((((HX6.out.set 0 (.int .i64 (p1 : Int))).set 1 (.int .i64 (y : Int))).set 2 (.int .i64 (W : Int))).set 3 (.int .i64 n))
              have HW7 := Lib.hid ((((HW5.out.set ⟨w.heap.size + 1, 0, none⟩ rfl (.int .i64 (p1 : Int))).set ⟨w.heap.size + 1, 1, none⟩ rfl (.int .i64 (y : Int))).set ⟨w.heap.size + 1, 2, none⟩ rfl (.int .i64 (W : Int))).set ⟨w.heap.size + 1, 3, none⟩ rfl (.int .i64 n))
              go_wp2_with fail
              exact ⟨⟨r + 1, some (p1, y), hrn, by go_num, rfl, HN7, HX7, HW7⟩, by simp [intOf]; omega⟩
            · have hyd : decide ((y : Int) < c2) = false := by simp; omega
              have HN7 := Lib.hid (HNo.out (fun h => hyc (h.2.2.2.2 _ rfl)))
              clear HYes2 HNo
              go_wp2_with fail
              exact ⟨⟨r + 1, some (c1, c2), hrn, by go_num, rfl, HN7, HX6, HW5⟩, by simp [intOf]; omega⟩
        · rw [decide_eq_false qu] at HUd
          replace HUd := Lib.hid HUd
          have HN7 := Lib.hid (HNo.out (fun h => qu ⟨h.2.2.1, by omega, h.2.2.2.1⟩))
          clear qu HYes HNo
          go_wp2_with fail
          refine HUd.out.mono ?_
          rintro e w5 ⟨rfl, hb⟩
          have AB5 := Lib.hid (below2 AB4.out hb)
          have HX5 := Lib.hid (HX.out.keep AB5.out)
          have HW5 := Lib.hid (HW.out.trans (But.of AB5.out))
          clear hb AB4 HQ4 q0 q1 q2 q3 z1 qf ql HUd HX HW AB5 HSr HBr
          go_wp2_with fail
          exact ⟨⟨r + 1, c, hrn, by go_num, rfl, HN7, HX5, HW5⟩, by simp [intOf]; omega⟩
      · rw [decide_eq_false qa] at HAc
        replace HAc := Lib.hid HAc
        have hN := fitA_no (l := l) (H := H) (m := m) (n := n) (ps := ps.take r) (p := (p1, p2)) (fun h => qa (by have h1 := h.1; have h2 := h.2.1; simp only [] at h2; omega))
        rw [← HNX.out, HC.out] at hN
        have HN2 := Lib.hid hN
        clear qa hN HNX HA HG HU
        go_wp2_with fail
        refine HAc.out.mono ?_
        rintro e w2 ⟨rfl, hb⟩
        have AB := Lib.hid (below2 hal.out hb)
        have HX2 := Lib.hid (HX.out.keep AB.out)
        have HW2 := Lib.hid (HW.out.trans (But.of AB.out))
        clear hb hal HX HW HQ HAc HBr HSr x0 x1 hq0 hq1 hq2 hq3 hql
        go_wp2_with fail
        exact ⟨⟨r + 1, c, hrn, by go_num, rfl, HN2, HX2, HW2⟩, by simp [intOf]; omega⟩
    · obtain rfl : r = M := by omega
      have hfull : ps.take r = ps := List.take_of_length_le (by rw [HM.out]; exact Nat.le_refl _)
      have hc := HC.out
      rw [hfull, ← HFL.out] at hc
      have HRr := Lib.hid (HR1.out.heap (HW.out.block _ HR1.out.lt (by simp)))
      have r0 := HRr.out.cell 0 rfl
      have r1 := HRr.out.cell 1 rfl
      have r2 := HRr.out.cell 2 rfl
      have r3 := HRr.out.cell 3 rfl
      have rf := HRr.out.frozen
      have rl := HRr.out.lt
      have xl := HX.out.lt
      have hnr : w.heap.size ≠ w.heap.size + 1 := by omega
      cases c with
      | none =>
        have HFV : Hid (fitV l H m n = ((0, 0, 0, 0), false)) := Lib.hid (by unfold fitV; rw [hc])
        have HX3 : Hid (Blk wr (w.heap.size + 1) 31 [.int .i64 0, .int .i64 0, .int .i64 0, .int .i64 0]) := HX
        have x0 := HX3.out.cell 0 rfl
        have x1 := HX3.out.cell 1 rfl
        have x2 := HX3.out.cell 2 rfl
        have x3 := HX3.out.cell 3 rfl
        have HQ := Lib.hid ((((HRr.out.set 0 (.int .i64 0)).set 1 (.int .i64 0)).set 2 (.int .i64 0)).set 3 (.int .i64 0))
        have HBQ := Lib.hid ((((HBr.out.setCell (p := ⟨w.heap.size, 0, none⟩) (Nat.le_refl _) (.int .i64 0)).setCell (p := ⟨w.heap.size, 1, none⟩) (Nat.le_refl _) (.int .i64 0)).setCell (p := ⟨w.heap.size, 2, none⟩) (Nat.le_refl _) (.int .i64 0)).setCell (p := ⟨w.heap.size, 3, none⟩) (Nat.le_refl _) (.int .i64 0))
        clear hc HX HX3 HRr HBr HW HR1 HB1 HP1 HC HA HG HU HS1 HSr HLT HFL
        go_wp2_with fail
        have p0 := HQ.out.cell 0 rfl
        have p1 := HQ.out.cell 1 rfl
        have p2 := HQ.out.cell 2 rfl
        have p3 := HQ.out.cell 3 rfl
        exact bodyPost_ret (v := .tuple #[.agg #[.int .i64 0, .int .i64 0, .int .i64 0, .int .i64 0], .bool false]) (by simp [results, Try.results12, go_sem, p0, p1, p2, p3]) rfl ⟨by rw [HFV.out], HBQ.out⟩
      | some q =>
        obtain ⟨q1, q2⟩ := q
        have HFV : Hid (fitV l H m n = (((q1 : Int), (q2 : Int), m, n), true)) := Lib.hid (by unfold fitV; rw [hc])
        have HX3 : Hid (Blk wr (w.heap.size + 1) 31 [.int .i64 (q1 : Int), .int .i64 (q2 : Int), .int .i64 m, .int .i64 n]) := HX
        have x0 := HX3.out.cell 0 rfl
        have x1 := HX3.out.cell 1 rfl
        have x2 := HX3.out.cell 2 rfl
        have x3 := HX3.out.cell 3 rfl
        have HQ := Lib.hid ((((HRr.out.set 0 (.int .i64 (q1 : Int))).set 1 (.int .i64 (q2 : Int))).set 2 (.int .i64 m)).set 3 (.int .i64 n))
        have HBQ := Lib.hid ((((HBr.out.setCell (p := ⟨w.heap.size, 0, none⟩) (Nat.le_refl _) (.int .i64 (q1 : Int))).setCell (p := ⟨w.heap.size, 1, none⟩) (Nat.le_refl _) (.int .i64 (q2 : Int))).setCell (p := ⟨w.heap.size, 2, none⟩) (Nat.le_refl _) (.int .i64 m)).setCell (p := ⟨w.heap.size, 3, none⟩) (Nat.le_refl _) (.int .i64 n))
        clear hc HX HX3 HRr HBr HW HR1 HB1 HP1 HC HA HG HU HS1 HSr HLT HFL
        go_wp2_with fail
        have p0 := HQ.out.cell 0 rfl
        have p1 := HQ.out.cell 1 rfl
        have p2 := HQ.out.cell 2 rfl
        have p3 := HQ.out.cell 3 rfl
        exact bodyPost_ret (v := .tuple #[.agg #[.int .i64 (q1 : Int), .int .i64 (q2 : Int), .int .i64 m, .int .i64 n], .bool true]) (by simp [results, Try.results12, go_sem, p0, p1, p2, p3]) rfl ⟨by rw [HFV.out], HBQ.out⟩

end Go.Proofs.Ytklajpadnbeplaa
