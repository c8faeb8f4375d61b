/-
  What the program is to do in layer 14; what the law's fit and shows do to any world: contracts (no claim is made here).
-/
import Derived.Test.YtklajpadnbeplaaSky1
namespace Go.Proofs.Ytklajpadnbeplaa
open Go.RowKit

def highL (l : List Nat) (x : Int) : Int := if 0 ≤ x ∧ x < l.length then hgt l x.toNat else -1
/-- P14.2: a rectangle that is chosen, or none. -/
def fitV (l : List Nat) (H : Nat) (w h : Int) : Rc × Bool := match fitL l H w h with
  | some q => (((q.1 : Int), (q.2 : Int), w, h), true)
  | none => ((0, 0, 0, 0), false)
abbrev rcV (r : Rc) : Value := .agg #[.int .i64 r.1, .int .i64 r.2.1, .int .i64 r.2.2.1, .int .i64 r.2.2.2]
/-- A row of rectangles that is read. -/
def RRd (w : World) (v : Value) (l : List Rc) : Prop :=
  ∃ A cap, v = .slice A l.length cap ∧ l.length ≤ cap ∧ ∀ i (h : i < l.length), ∃ a, A = some a ∧ a.block < w.heap.size ∧ w.cell? (a.add (i * 4)) = some (.int .i64 (l[i]).1) ∧ w.cell? (a.add (i * 4 + 1)) = some (.int .i64 (l[i]).2.1) ∧ w.cell? (a.add (i * 4 + 2)) = some (.int .i64 (l[i]).2.2.1) ∧ w.cell? (a.add (i * 4 + 3)) = some (.int .i64 (l[i]).2.2.2)
/-- A rectangle's numbers, within the document's bounds. -/
def InR (r : Rc) : Prop := (r.1.natAbs ≤ 1048576 ∧ r.2.1.natAbs ≤ 1048576) ∧ r.2.2.1.natAbs ≤ 1048576 ∧ r.2.2.2.natAbs ≤ 1048576

/-- P14.1 to P14.3, of whatever a skyline is in memory: R w ks v l H: v is a skyline with the heights l on a page of height H, and lies in the blocks ks. -/
structure SkyOK (R : World → (Nat → Prop) → Value → List Nat → Nat → Prop) : Prop where
  keep : ∀ {w w' : World} {ks : Nat → Prop} {v : Value} {l : List Nat} {H : Nat}, R w ks v l H → w.heap.size ≤ w'.heap.size → (∀ g, ks g → w'.heap[g]? = w.heap[g]?) → R w' ks v l H
  lt : ∀ {w : World} {ks : Nat → Prop} {v : Value} {l : List Nat} {H : Nat}, R w ks v l H → ∀ g, ks g → g < w.heap.size
  ptr : ∀ {w : World} {ks : Nat → Prop} {v : Value} {l : List Nat} {H : Nat}, R w ks v l H → ∃ a, v = .pointer (some a)
  of : ∀ (m n : Int) (w : World), m.natAbs ≤ 1000 → n.natAbs ≤ 1000 → Calls Try.prog 11 #[.int .i64 m, .int .i64 n] w fun e w' => ∃ ks v, e = .returned v ∧ R w' ks v (List.replicate (side m) 0) (side n) ∧ (∀ g, ks g → w.heap.size ≤ g) ∧ Below w.heap.size w w'
  high : ∀ (ks : Nat → Prop) (v : Value) (l : List Nat) (H : Nat) (x : Int) (w : World), R w ks v l H → x.natAbs ≤ 1000 → Calls Try.prog 19 #[v, .int .i64 x] w fun e w' => e = .returned (.int .i64 (highL l x)) ∧ Below w.heap.size w w'
  fit : ∀ (ks : Nat → Prop) (v : Value) (l : List Nat) (H : Nat) (m n : Int) (w : World), R w ks v l H → m.natAbs ≤ 40000 → n.natAbs ≤ 40000 → Calls Try.prog 12 #[v, .int .i64 m, .int .i64 n] w fun e w' => e = .returned (.tuple #[rcV (fitV l H m n).1, .bool (fitV l H m n).2]) ∧ Below w.heap.size w w'
  put : ∀ (ks : Nat → Prop) (v : Value) (l : List Nat) (H : Nat) (r : Rc) (w : World), R w ks v l H → InR r → Calls Try.prog 15 #[v, rcV r] w fun e w' => e = .returned (.bool (mayL l H r.1 r.2.1 r.2.2.1 r.2.2.2)) ∧
    ∃ ks', R w' ks' v (laidL l H r.1 r.2.1 r.2.2.1 r.2.2.2) H ∧ (∀ g, ks' g → ks g ∨ w.heap.size ≤ g) ∧ But ks w w'
  steps : ∀ (ks : Nat → Prop) (v : Value) (l : List Nat) (H : Nat) (w : World), R w ks v l H → Calls Try.prog 18 #[v] w fun e w' => ∃ V, e = .returned V ∧ PRd w' V (stepsL l) ∧ Below w.heap.size w w'
  rebuild : ∀ (m n : Int) (vr : Value) (rs : List Rc) (w : World), m.natAbs ≤ 1000 → n.natAbs ≤ 1000 → RRd w vr rs → rs.length ≤ 1000 → (∀ r ∈ rs, InR r) → Calls Try.prog 17 #[.int .i64 m, .int .i64 n, vr] w fun e w' => ∃ ks v, e = .returned v ∧ R w' ks v (rebL (side m) (side n) rs) (side n) ∧ (∀ g, ks g → w.heap.size ≤ g) ∧ Below w.heap.size w w'

theorem SkyOK.below {R : World → (Nat → Prop) → Value → List Nat → Nat → Prop} (K : SkyOK R) {w w' : World} {ks : Nat → Prop} {v : Value} {l : List Nat} {H : Nat} (h : R w ks v l H) (hb : Below w.heap.size w w') : R w' ks v l H := K.keep h hb.size (fun g hg => hb.block g (K.lt h g hg))
def bestV (c : Option (Nat × Nat)) (wd hg : Nat) : List Value := match c with
  | some q => [.int .i64 q.1, .int .i64 q.2, .int .i64 wd, .int .i64 hg]
  | none => [.int .i64 0, .int .i64 0, .int .i64 0, .int .i64 0]
theorem PRow.but {w w' : World} {ks : Nat → Prop} {base : Nat} {u : Value} {l : List (Nat × Nat)} (h : PRow w base u l) (hb : But ks w w') (hk : ∀ g, base ≤ g → ¬ ks g) : PRow w' base u l :=
  own_blocks h fun g hg => hb.block g (World.ownsRow.lt h g hg).2 (hk g (World.ownsRow.lt h g hg).1)
theorem stake_next {α : Type} {l : List α} {r : Nat} {p : α} (h : l[r]? = some p) : l.take (r + 1) = l.take r ++ [p] := by
  rw [List.take_add_one, h]; rfl
theorem fitB_yes {l : List Nat} {H w h : Nat} {b : Option (Nat × Nat)} {p : Nat × Nat} (h1 : p.1 + w ≤ l.length) (h2 : overL l p.1 w + h ≤ H) (h3 : ∀ q, b = some q → overL l p.1 w < q.2) : fitB l H w h b p = some (p.1, overL l p.1 w) := by
  unfold fitB
  rw [if_pos ⟨h1, h2, by cases b with | none => rfl | some q => simpa using h3 q rfl⟩]
theorem fitB_no {l : List Nat} {H w h : Nat} {b : Option (Nat × Nat)} {p : Nat × Nat} (h1 : ¬(p.1 + w ≤ l.length ∧ overL l p.1 w + h ≤ H ∧ ∀ q, b = some q → overL l p.1 w < q.2)) : fitB l H w h b p = b := by
  unfold fitB
  rw [if_neg]
  rintro ⟨a, c, d⟩
  exact h1 ⟨a, c, fun q hq => by subst hq; simpa using d⟩

set_option maxRecDepth 100000 in
set_option maxHeartbeats 1600000 in
theorem lfit_any (vl : Value) (l : List Nat) (H wd hg : Nat) (w : World) (hv : NRd w vl l) (hl : l.length ≤ 64) (hH : H ≤ 64) (hwd : wd ≤ 100) (hhg : hg ≤ 100) (hh : ∀ y ∈ l, y ≤ 64) :
    Calls Try.prog 13 #[vl, .int .i64 H, .int .i64 wd, .int .i64 hg] w fun e w' => e = .returned (.tuple #[rcV (fitV l H wd hg).1, .bool (fitV l H wd hg).2]) ∧ Below w.heap.size w w' := by
  have HL := Lib.hid hv
  have HST := Lib.hid (fun w h => lsteps_any vl l w h (by omega))
  have HOV := Lib.hid (fun w x h hx => lover_any vl l x wd w h hx (by omega) (fun y hy => by have := hh y hy; omega))
  obtain ⟨Al, capl, rfl, hcl, -⟩ := id hv
  obtain ⟨N, hN⟩ : ∃ N, l.length = N := ⟨_, rfl⟩
  have HN := Lib.hid hN
  rw [hN] at HL hl hcl HST HOV
  rw [hN]
  clear hN hv
  by_cases hg0 : wd < 1 ∨ hg < 1 ∨ N < wd ∨ H < hg
  · have hf : fitV l H wd hg = ((0, 0, 0, 0), false) := by unfold fitV; rw [fitL_none (by rw [HN.out]; omega)]
    rw [hf]
    clear hf HST HOV
    have HB0 := Lib.hid (alloc2 w (.cells #[.int .i64 0, .int .i64 0, .int .i64 0, .int .i64 0] 31) (.cells #[.int .i64 0, .int .i64 0, .int .i64 0, .int .i64 0] 31))
    go_enter Try.func13, Try.ntmps13
    go_wp2_with fail
    all_goals first
      | exact bodyPost_ret (v := .tuple #[.agg #[.int .i64 0, .int .i64 0, .int .i64 0, .int .i64 0], .bool false]) (by simp [results, Try.results13, go_sem]) rfl ⟨rfl, HB0.out⟩
      | (exfalso; omega)
      | (exfalso; simp at *; omega)
  · have b1 : decide ((wd : Int) < 1) = false := by simp; omega
    have b2 : decide ((hg : Int) < 1) = false := by simp; omega
    have b3 : decide (N < wd) = false := by simp; omega
    have b4 : decide (H < hg) = false := by simp; omega
    have HB0 := Lib.hid (alloc2 w (.cells #[.int .i64 0, .int .i64 0, .int .i64 0, .int .i64 0] 31) (.cells #[.int .i64 0, .int .i64 0, .int .i64 0, .int .i64 0] 31))
    have HR0 := Lib.hid ((Blk.new w 31 [.int .i64 0, .int .i64 0, .int .i64 0, .int .i64 0] rfl).alloc (.cells #[.int .i64 0, .int .i64 0, .int .i64 0, .int .i64 0] 31))
    have HX0 := Lib.hid (Blk.new (w.alloc (.cells #[.int .i64 0, .int .i64 0, .int .i64 0, .int .i64 0] 31)) 31 [.int .i64 0, .int .i64 0, .int .i64 0, .int .i64 0] (g := w.heap.size + 1) (by simp))
    have HFL : Hid (fitL l H wd hg = fitS l H wd hg (stepsL l)) := Lib.hid (by unfold fitL; rw [if_neg (by omega), Int.toNat_natCast, Int.toNat_natCast])
    go_enter Try.func13, Try.ntmps13
    go_wp2_with fail
    refine (HST.out _ (HL.out.keep HB0.out)).mono ?_
    rintro e w1 ⟨V, rfl, hV, hb⟩
    have HB1 := Lib.hid (below2 HB0.out hb)
    have HR1 := Lib.hid (HR0.out.keep hb)
    have HX1 := Lib.hid (HX0.out.keep hb)
    have HP1 := Lib.hid hV
    obtain ⟨Ap, capp, rfl⟩ := hV.form
    have hpl : (stepsL l).length ≤ 64 := by have := stepsTo_len l l.length; unfold stepsL; have := HN.out; omega
    obtain ⟨ps, hps⟩ : ∃ ps, stepsL l = ps := ⟨_, rfl⟩
    rw [hps] at HFL HP1 hpl ⊢
    obtain ⟨M, hM⟩ : ∃ M, ps.length = M := ⟨_, rfl⟩
    have HM := Lib.hid hM
    have HPS := Lib.hid hps
    rw [hM] at HP1 hpl ⊢
    clear hb hV hM hps HB0 HR0 HX0 HST b1 b2 b3 b4
    go_wp2_with fail
    go_loopw [37, 11] (fun i o wr => ∃ (r : Nat) (c : Option (Nat × Nat)), r ≤ M ∧ i = .int .i64 r ∧ Hid (fitS l H wd hg (ps.take r) = c) ∧ o = .bool c.isSome ∧ Hid (Blk wr (w.heap.size + 1) 31 (bestV c wd hg)) ∧ Hid (But (fun g => g = w.heap.size + 1) w1 wr)) (fun i _ _ => M - (intOf i).toNat)
    case atStart => exact ⟨0, none, Nat.zero_le _, rfl, Lib.hid rfl, rfl, HX1, Lib.hid (But.of (Below.refl _ _))⟩
    case round =>
      clear HX1
      obtain ⟨r, c, hr, rfl, HC, rfl, HX, HW⟩ := hrel
      have hsz1 := HR1.out.lt
      have HBr := Lib.hid (HB1.out.trans (HW.out.below (B := w.heap.size) (fun k hk => by omega) (by omega)))
      by_cases hrn : r < M
      · have hrb : decide ((r : Int) < M) = true := by simp; omega
        obtain ⟨⟨p1, p2⟩, hp⟩ : ∃ p, ps[r]? = some p := ⟨_, List.getElem?_eq_getElem (by rw [HM.out]; exact hrn)⟩
        have hpm := List.mem_of_getElem? hp
        rw [← HPS.out] at hpm
        have hpl1 : p1 < N := by have := (mem_stepsTo.1 hpm).1; simp only [] at this; rw [HN.out] at this; exact this
        have HNX : Hid (fitS l H wd hg (ps.take (r + 1)) = fitB l H wd hg c (p1, p2)) := Lib.hid (by rw [stake_next hp, fitS_next, HC.out])
        have HPr := HP1.out.but HW.out (fun g hg => by simp at hg ⊢; omega)
        obtain ⟨ap, rfl, hap, x0, x1⟩ := HPr.read.at r _ hp
        simp only [] at x0 x1
        have hal : Below wr.heap.size wr (wr.alloc (.cells #[.int .i64 p1, .int .i64 p2] 44)) := (Below.refl _ _).alloc (Nat.le_refl _) _
        have HO := Lib.hid (HOV.out _ p1 ((HL.out.keep HBr.out).keep hal) (by omega))
        have hyb : overL l p1 wd ≤ 64 := over_le (fun k _ _ => by
          by_cases hk : k < l.length
          · exact hh _ (List.mem_of_getElem? (at_hgt hk))
          · rw [hgt_out (by omega)]; omega)
        have HYes := Lib.hid (fun h1 h2 h3 => fitB_yes (l := l) (H := H) (w := wd) (h := hg) (b := c) (p := (p1, p2)) h1 h2 h3)
        have HNo := Lib.hid (fun h1 => fitB_no (l := l) (H := H) (w := wd) (h := hg) (b := c) (p := (p1, p2)) h1)
        simp only [HN.out] at HYes HNo
        have HXa := Lib.hid (HX.out.keep hal)
        have HWa := Lib.hid (HW.out.trans (But.of hal))
        clear hpm hp HPr hal
        have HQ := Lib.hid (Blk.new wr 44 [.int .i64 (p1 : Int), .int .i64 (p2 : Int)] rfl)
        generalize overL l p1 wd = y at *
        go_wp2_with fail
        refine HO.out.mono ?_
        rintro e w2 ⟨rfl, hb⟩
        have HX2 := Lib.hid (HXa.out.keep hb)
        have HW2 := Lib.hid (HWa.out.trans (But.of hb))
        have HQ2 := Lib.hid (HQ.out.keep hb)
        have z0 := HQ2.out.cell 0 rfl
        have zl := HQ2.out.lt
        have xl := HX2.out.lt
        have xf := HX2.out.frozen
        have hne : wr.heap.size ≠ w.heap.size + 1 := by have := HX.out.lt; omega
        clear hb HX HXa HW HWa HQ HO HBr x0 x1
        generalize wr.heap.size = Pp at *
        cases c with
        | none =>
          have HX3 : Hid (Blk w2 (w.heap.size + 1) 31 [.int .i64 0, .int .i64 0, .int .i64 0, .int .i64 0]) := HX2
          have x0 := HX3.out.cell 0 rfl
          have x1 := HX3.out.cell 1 rfl
          have x2 := HX3.out.cell 2 rfl
          have x3 := HX3.out.cell 3 rfl
          have HX4 := Lib.hid ((((HX3.out.set 0 (.int .i64 p1)).set 1 (.int .i64 y)).set 2 (.int .i64 wd)).set 3 (.int .i64 hg))
          have HW4 := Lib.hid ((((HW2.out.set ⟨w.heap.size + 1, 0, none⟩ rfl (.int .i64 p1)).set ⟨w.heap.size + 1, 1, none⟩ rfl (.int .i64 y)).set ⟨w.heap.size + 1, 2, none⟩ rfl (.int .i64 wd)).set ⟨w.heap.size + 1, 3, none⟩ rfl (.int .i64 hg))
          go_wp2_with fail
          all_goals first
            | (have hy := HYes.out (by omega) (by omega) (fun q hq => by cases hq)
               exact ⟨⟨r + 1, some (p1, y), hrn, by go_num, Lib.hid (HNX.out.trans hy), rfl, HX4, HW4⟩, by simp [intOf]; omega⟩)
            | (have hy := HNo.out (by rintro ⟨a1, a2, _⟩; omega)
               exact ⟨⟨r + 1, none, hrn, by go_num, Lib.hid (HNX.out.trans hy), rfl, HX3, HW2⟩, by simp [intOf]; omega⟩)
        | some q =>
          obtain ⟨q1, q2⟩ := q
          have HX3 : Hid (Blk w2 (w.heap.size + 1) 31 [.int .i64 q1, .int .i64 q2, .int .i64 wd, .int .i64 hg]) := HX2
          have x0 := HX3.out.cell 0 rfl
          have x1 := HX3.out.cell 1 rfl
          have x2 := HX3.out.cell 2 rfl
          have x3 := HX3.out.cell 3 rfl
          have HX4 := Lib.hid ((((HX3.out.set 0 (.int .i64 p1)).set 1 (.int .i64 y)).set 2 (.int .i64 wd)).set 3 (.int .i64 hg))
          have HW4 := Lib.hid ((((HW2.out.set ⟨w.heap.size + 1, 0, none⟩ rfl (.int .i64 p1)).set ⟨w.heap.size + 1, 1, none⟩ rfl (.int .i64 y)).set ⟨w.heap.size + 1, 2, none⟩ rfl (.int .i64 wd)).set ⟨w.heap.size + 1, 3, none⟩ rfl (.int .i64 hg))
          go_wp2_with fail
          all_goals first
            | (have hy := HYes.out (by omega) (by omega) (fun q hq => by obtain rfl := Option.some.inj hq; show y < q2; omega)
               exact ⟨⟨r + 1, some (p1, y), hrn, by go_num, Lib.hid (HNX.out.trans hy), rfl, HX4, HW4⟩, by simp [intOf]; omega⟩)
            | (have hy := HNo.out (by rintro ⟨a1, a2, a3⟩; have a4 := a3 _ rfl; (try simp only [] at a4); omega)
               exact ⟨⟨r + 1, some (q1, q2), hrn, by go_num, Lib.hid (HNX.out.trans hy), rfl, HX3, HW2⟩, by simp [intOf]; omega⟩)
      · obtain rfl : r = M := by omega
        have hfull : ps.take r = ps := List.take_of_length_le (by rw [HM.out]; exact Nat.le_refl _)
        have hc := HC.out
        rw [hfull, ← HFL.out] at hc
        have HRr := Lib.hid (HR1.out.heap (HW.out.block _ HR1.out.lt (by simp)))
        have r0 := HRr.out.cell 0 rfl
        have r1 := HRr.out.cell 1 rfl
        have r2 := HRr.out.cell 2 rfl
        have r3 := HRr.out.cell 3 rfl
        have rf := HRr.out.frozen
        have rl := HRr.out.lt
        have xl := HX.out.lt
        cases c with
        | none =>
          have HFV : Hid (fitV l H wd hg = ((0, 0, 0, 0), false)) := Lib.hid (by unfold fitV; rw [hc])
          have HX3 : Hid (Blk wr (w.heap.size + 1) 31 [.int .i64 0, .int .i64 0, .int .i64 0, .int .i64 0]) := HX
          have x0 := HX3.out.cell 0 rfl
          have x1 := HX3.out.cell 1 rfl
          have x2 := HX3.out.cell 2 rfl
          have x3 := HX3.out.cell 3 rfl
          have HQ := Lib.hid ((((HRr.out.set 0 (.int .i64 0)).set 1 (.int .i64 0)).set 2 (.int .i64 0)).set 3 (.int .i64 0))
          have HBQ := Lib.hid ((((HBr.out.setCell (p := ⟨w.heap.size, 0, none⟩) (Nat.le_refl _) (.int .i64 0)).setCell (p := ⟨w.heap.size, 1, none⟩) (Nat.le_refl _) (.int .i64 0)).setCell (p := ⟨w.heap.size, 2, none⟩) (Nat.le_refl _) (.int .i64 0)).setCell (p := ⟨w.heap.size, 3, none⟩) (Nat.le_refl _) (.int .i64 0))
          clear hc HX HX3 HRr HBr HW HR1 HB1 HP1 HC
          go_wp2_with fail
          have p0 := HQ.out.cell 0 rfl
          have p1 := HQ.out.cell 1 rfl
          have p2 := HQ.out.cell 2 rfl
          have p3 := HQ.out.cell 3 rfl
          exact bodyPost_ret (v := .tuple #[.agg #[.int .i64 0, .int .i64 0, .int .i64 0, .int .i64 0], .bool false]) (by simp [results, Try.results13, go_sem, p0, p1, p2, p3]) rfl ⟨by rw [HFV.out], HBQ.out⟩
        | some q =>
          obtain ⟨q1, q2⟩ := q
          have HFV : Hid (fitV l H wd hg = (((q1 : Int), (q2 : Int), (wd : Int), (hg : Int)), true)) := Lib.hid (by unfold fitV; rw [hc])
          have HX3 : Hid (Blk wr (w.heap.size + 1) 31 [.int .i64 q1, .int .i64 q2, .int .i64 wd, .int .i64 hg]) := HX
          have x0 := HX3.out.cell 0 rfl
          have x1 := HX3.out.cell 1 rfl
          have x2 := HX3.out.cell 2 rfl
          have x3 := HX3.out.cell 3 rfl
          have HQ := Lib.hid ((((HRr.out.set 0 (.int .i64 q1)).set 1 (.int .i64 q2)).set 2 (.int .i64 wd)).set 3 (.int .i64 hg))
          have HBQ := Lib.hid ((((HBr.out.setCell (p := ⟨w.heap.size, 0, none⟩) (Nat.le_refl _) (.int .i64 q1)).setCell (p := ⟨w.heap.size, 1, none⟩) (Nat.le_refl _) (.int .i64 q2)).setCell (p := ⟨w.heap.size, 2, none⟩) (Nat.le_refl _) (.int .i64 wd)).setCell (p := ⟨w.heap.size, 3, none⟩) (Nat.le_refl _) (.int .i64 hg))
          clear hc HX HX3 HRr HBr HW HR1 HB1 HP1 HC
          go_wp2_with fail
          have p0 := HQ.out.cell 0 rfl
          have p1 := HQ.out.cell 1 rfl
          have p2 := HQ.out.cell 2 rfl
          have p3 := HQ.out.cell 3 rfl
          exact bodyPost_ret (v := .tuple #[.agg #[.int .i64 q1, .int .i64 q2, .int .i64 wd, .int .i64 hg], .bool true]) (by simp [results, Try.results13, go_sem, p0, p1, p2, p3]) rfl ⟨by rw [HFV.out], HBQ.out⟩

end Go.Proofs.Ytklajpadnbeplaa
