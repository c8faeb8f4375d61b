/-
  What plane.Side, Line and Square do to any world, over what they call: contracts (no claim is made here).
-/
import Derived.Test.YtglmgenifjaakaaPlane1
import Derived.Deep.RegionHeld3
namespace Go.Proofs.Ytglmgenifjaakaa
open Go.RowKit

/-- A block of four cells. -/
def Four (w : World) (g : Nat) (u v x y : Value) : Prop := w.cell? ⟨g, 0, none⟩ = some u ∧ w.cell? ⟨g, 1, none⟩ = some v ∧ w.cell? ⟨g, 2, none⟩ = some x ∧ w.cell? ⟨g, 3, none⟩ = some y
theorem Four.lt {w : World} {g : Nat} {u v x y : Value} (h : Four w g u v x y) : g < w.heap.size := World.block_lt_of_cell? w _ h.1
theorem Four.keep {W w : World} {g : Nat} {u v x y : Value} (h : Four W g u v x y) (hb : Below W.heap.size W w) : Four w g u v x y :=
  ⟨Go.Proofs.Ytglmgenifjaakaa.keep hb h.1, Go.Proofs.Ytglmgenifjaakaa.keep hb h.2.1, Go.Proofs.Ytglmgenifjaakaa.keep hb h.2.2.1, Go.Proofs.Ytglmgenifjaakaa.keep hb h.2.2.2⟩
theorem Four.alloc {W : World} {g : Nat} {u v x y : Value} (h : Four W g u v x y) (o : Obj) : Four (W.alloc o) g u v x y := h.keep ((Below.refl _ W).alloc (Nat.le_refl _) o)
theorem Four.new {W : World} {g : Nat} (u v x y : Value) (t : TypeId) (h : g = W.heap.size) : Four (W.alloc (.cells #[u, v, x, y] t)) g u v x y := by
  subst h; exact ⟨by simp, by simp, by simp, by simp⟩
theorem undrew {W w' : World} (h : Below W.drew.heap.size W.drew w') : Below W.heap.size W w' := ⟨h.os, h.tape, h.output, h.size, h.block⟩

/-- Three pairs of cells of ws, and that nothing of ws has turned. -/
theorem six_of {ws W : World} {g h k : Nat} {a b c d e f : Value} (x0 : ws.cell? ⟨g, 0, none⟩ = some a) (x1 : ws.cell? ⟨g, 1, none⟩ = some b) (y0 : ws.cell? ⟨h, 0, none⟩ = some c) (y1 : ws.cell? ⟨h, 1, none⟩ = some d)
    (z0 : ws.cell? ⟨k, 0, none⟩ = some e) (z1 : ws.cell? ⟨k, 1, none⟩ = some f) (hb : Below ws.heap.size ws W) :
    W.cell? ⟨g, 0, none⟩ = some a ∧ W.cell? ⟨g, 1, none⟩ = some b ∧ W.cell? ⟨h, 0, none⟩ = some c ∧ W.cell? ⟨h, 1, none⟩ = some d ∧ W.cell? ⟨k, 0, none⟩ = some e ∧ W.cell? ⟨k, 1, none⟩ = some f ∧ Below ws.heap.size ws W :=
  ⟨keep hb x0, keep hb x1, keep hb y0, keep hb y1, keep hb z0, keep hb z1, hb⟩

theorem sixE_of {ws W : World} {h k : Nat} {c d e f g i : Value} (y0 : ws.cell? ⟨h, 0, none⟩ = some c) (y1 : ws.cell? ⟨h, 1, none⟩ = some d)
    (z0 : ws.cell? ⟨k, 0, none⟩ = some e) (z1 : ws.cell? ⟨k, 1, none⟩ = some f) (z2 : ws.cell? ⟨k, 2, none⟩ = some g) (z3 : ws.cell? ⟨k, 3, none⟩ = some i) (hb : Below ws.heap.size ws W) :
    W.cell? ⟨h, 0, none⟩ = some c ∧ W.cell? ⟨h, 1, none⟩ = some d ∧ W.cell? ⟨k, 0, none⟩ = some e ∧ W.cell? ⟨k, 1, none⟩ = some f ∧ W.cell? ⟨k, 2, none⟩ = some g ∧ W.cell? ⟨k, 3, none⟩ = some i ∧ Below ws.heap.size ws W :=
  ⟨keep hb y0, keep hb y1, keep hb z0, keep hb z1, keep hb z2, keep hb z3, hb⟩

set_option maxHeartbeats 800000 in
theorem square_raw (a0 a1 b0 b1 p0 p1 u0 u1 v0 v1 f L p q : Int)
    (HS : Hid (∀ w, Calls Try.prog 29 #[.agg #[.int .i64 b0, .int .i64 b1], .agg #[.int .i64 a0, .int .i64 a1]] w fun e w' => e = .returned (.agg #[.int .i64 u0, .int .i64 u1]) ∧ Below w.heap.size w w'))
    (HT : Hid (∀ w, Calls Try.prog 29 #[.agg #[.int .i64 p0, .int .i64 p1], .agg #[.int .i64 a0, .int .i64 a1]] w fun e w' => e = .returned (.agg #[.int .i64 v0, .int .i64 v1]) ∧ Below w.heap.size w w'))
    (HD : Hid (∀ w, Calls Try.prog 30 #[.agg #[.int .i64 u0, .int .i64 u1], .agg #[.int .i64 v0, .int .i64 v1]] w fun e w' => e = .returned (.int .i64 f) ∧ Below w.heap.size w w'))
    (HL : Hid (∀ w, Calls Try.prog 30 #[.agg #[.int .i64 u0, .int .i64 u1], .agg #[.int .i64 u0, .int .i64 u1]] w fun e w' => e = .returned (.int .i64 L) ∧ Below w.heap.size w w'))
    (HA : f ≤ 0 → Hid (∀ w, Calls Try.prog 31 #[.agg #[.int .i64 a0, .int .i64 a1], .agg #[.int .i64 p0, .int .i64 p1]] w fun e w' => e = .returned (.agg #[.int .i64 p, .int .i64 q]) ∧ Below w.heap.size w w'))
    (HB : 0 < f → L ≤ f → Hid (∀ w, Calls Try.prog 31 #[.agg #[.int .i64 b0, .int .i64 b1], .agg #[.int .i64 p0, .int .i64 p1]] w fun e w' => e = .returned (.agg #[.int .i64 p, .int .i64 q]) ∧ Below w.heap.size w w'))
    (HN : 0 < f → f < L → Hid (∀ w, Calls Try.prog 32 #[.agg #[.int .i64 a0, .int .i64 a1, .int .i64 b0, .int .i64 b1], .agg #[.int .i64 p0, .int .i64 p1]] w fun e w' => e = .returned (.agg #[.int .i64 p, .int .i64 q]) ∧ Below w.heap.size w w')) (w : World) :
    Calls Try.prog 24 #[.agg #[.int .i64 a0, .int .i64 a1, .int .i64 b0, .int .i64 b1], .agg #[.int .i64 p0, .int .i64 p1]] w fun e w' => e = .returned (.agg #[.int .i64 p, .int .i64 q]) ∧ Below w.heap.size w w' := by
  go_enter Try.func24, Try.ntmps24
  go_wp2_with fail
  refine (HS.out _).mono ?_
  rintro e w1 ⟨rfl, hb1⟩
  have TR1 : Two w1 (w.heap.size + 1 + 1) _ _ := (Two.new _ _ _ (by simp)).keep hb1
  have TP1 : Two w1 (w.heap.size + 1) _ _ := ((Two.new _ _ _ (by simp)).alloc _).keep hb1
  have TE1 : Four w1 w.heap.size _ _ _ _ := (((Four.new _ _ _ _ _ rfl).alloc _).alloc _).keep hb1
  have B1 := below2 (alloc3 w _ _ _) hb1
  clear hb1
  go_wp2_with fail
  have TR := TR1.alloc (.cells #[.int .i64 u0, .int .i64 u1] 31)
  have TP := TP1.alloc (.cells #[.int .i64 u0, .int .i64 u1] 31)
  have TE := TE1.alloc (.cells #[.int .i64 u0, .int .i64 u1] 31)
  have TU : Two (w1.alloc (.cells #[.int .i64 u0, .int .i64 u1] 31)) w1.heap.size _ _ := Two.new _ _ _ rfl
  have BS := B1.alloc B1.size (.cells #[.int .i64 u0, .int .i64 u1] 31)
  clear TR1 TP1 TE1 B1
  generalize w1.alloc (.cells #[.int .i64 u0, .int .i64 u1] 31) = ws at *
  generalize w1.heap.size = gu at *
  generalize hgr : w.heap.size + 1 + 1 = gr at *
  generalize hgp : w.heap.size + 1 = gp at *
  generalize hge : w.heap.size = ge at *
  have hlt : ge ≤ gr := by omega
  clear hgr hgp
  obtain ⟨u0c, u1c, -, -⟩ := id TU
  obtain ⟨p0c, p1c, -, -⟩ := id TP
  obtain ⟨a0c, a1c, -, -⟩ := id TE
  go_region_held3 (fun wx => wx.cell? ⟨gu, 0, none⟩ = some (.int .i64 u0) ∧ wx.cell? ⟨gu, 1, none⟩ = some (.int .i64 u1) ∧ wx.cell? ⟨gp, 0, none⟩ = some (.int .i64 p0) ∧ wx.cell? ⟨gp, 1, none⟩ = some (.int .i64 p1) ∧ wx.cell? ⟨ge, 0, none⟩ = some (.int .i64 a0) ∧ wx.cell? ⟨ge, 1, none⟩ = some (.int .i64 a1) ∧ Below ws.heap.size ws wx)
    (first | assumption | exact six_of u0c u1c p0c p1c a0c a1c (Below.drew (Below.refl _ _)))
    (first
      | (go_at_call 29; with_reducible refine (HT.out _).mono ?_; rintro e w2 ⟨rfl, hb2⟩; replace hb2 := undrew hb2; have hS2 := six_of u0c u1c p0c p1c a0c a1c hb2)
      | (go_at_call 30; with_reducible refine (HD.out _).mono ?_; rintro e w3 ⟨rfl, hb3⟩; have A3 := below2 hb2 hb3; have hS3 := six_of u0c u1c p0c p1c a0c a1c A3))
  have TR3 := TR.keep A3
  have TP3 := TP.keep A3
  have TE3 := TE.keep A3
  have TU3 := TU.keep A3
  subst hge
  have B3 := below2 BS A3
  clear hS2 hS3 hb2 hb3 A3 TR TP TE TU BS
  try clear u0c u1c
  clear p0c p1c a0c a1c
  by_cases hf : f ≤ 0
  · replace HA := HA hf
    clear HB HN
    obtain ⟨p0c, p1c, -, -⟩ := id TP3
    obtain ⟨a0c, a1c, -, -⟩ := id TE3
    go_wp2_with fail
    refine (HA.out _).mono ?_
    rintro e w4 ⟨rfl, hb4⟩
    have T4 := TR3.keep hb4
    have B4 := Lib.hid (below2 B3 hb4)
    clear hb4 TR3 B3 TP3 TE3 TU3
    obtain ⟨c0, c1, f0, f1⟩ := id T4
    have z := T4.lt
    go_wp2_with fail
    obtain ⟨q0, q1, q2⟩ := T4.ret (.int .i64 p) (.int .i64 q) B4.out hlt
    exact bodyPost_ret (v := .agg #[.int .i64 p, .int .i64 q]) (by simp [results, Try.results24, go_sem, q0, q1]) rfl ⟨rfl, q2⟩
  · clear HA
    obtain ⟨u0c, u1c, -, -⟩ := id TU3
    go_wp2_with fail
    refine (HL.out _).mono ?_
    rintro e w4 ⟨rfl, hb4⟩
    have TR4 := TR3.keep hb4
    have TP4 := TP3.keep hb4
    have TE4 := TE3.keep hb4
    have B4 := below2 B3 hb4
    clear hb4 TR3 TP3 TE3 B3 TU3
    by_cases hL : L ≤ f
    · replace HB := HB (by omega) hL
      clear HN
      obtain ⟨p0c, p1c, -, -⟩ := id TP4
      obtain ⟨-, -, b0c, b1c⟩ := id TE4
      go_wp2_with fail
      refine (HB.out _).mono ?_
      rintro e w5 ⟨rfl, hb5⟩
      have T5 := TR4.keep hb5
      have B5 := Lib.hid (below2 B4 hb5)
      clear hb5 TR4 B4 TP4 TE4
      obtain ⟨c0, c1, f0, f1⟩ := id T5
      have z := T5.lt
      go_wp2_with fail
      obtain ⟨q0, q1, q2⟩ := T5.ret (.int .i64 p) (.int .i64 q) B5.out hlt
      exact bodyPost_ret (v := .agg #[.int .i64 p, .int .i64 q]) (by simp [results, Try.results24, go_sem, q0, q1]) rfl ⟨rfl, q2⟩
    · replace HN := HN (by omega) (by omega)
      clear HB
      obtain ⟨p0c, p1c, -, -⟩ := id TP4
      obtain ⟨a0c, a1c, b0c, b1c⟩ := id TE4
      go_wp2_with fail
      refine (HN.out _).mono ?_
      rintro e w5 ⟨rfl, hb5⟩
      have T5 := TR4.keep hb5
      have B5 := Lib.hid (below2 B4 hb5)
      clear hb5 TR4 B4 TP4 TE4
      obtain ⟨c0, c1, f0, f1⟩ := id T5
      have z := T5.lt
      go_wp2_with fail
      obtain ⟨q0, q1, q2⟩ := T5.ret (.int .i64 p) (.int .i64 q) B5.out hlt
      exact bodyPost_ret (v := .agg #[.int .i64 p, .int .i64 q]) (by simp [results, Try.results24, go_sem, q0, q1]) rfl ⟨rfl, q2⟩

set_option maxHeartbeats 800000 in
theorem line_same (a0 a1 p0 p1 p q : Int)
    (HA : Hid (∀ w, Calls Try.prog 31 #[.agg #[.int .i64 a0, .int .i64 a1], .agg #[.int .i64 p0, .int .i64 p1]] w fun e w' => e = .returned (.agg #[.int .i64 p, .int .i64 q]) ∧ Below w.heap.size w w')) (w : World) :
    Calls Try.prog 32 #[.agg #[.int .i64 a0, .int .i64 a1, .int .i64 a0, .int .i64 a1], .agg #[.int .i64 p0, .int .i64 p1]] w fun e w' => e = .returned (.agg #[.int .i64 p, .int .i64 q]) ∧ Below w.heap.size w w' := by
  go_enter Try.func32, Try.ntmps32
  go_wp2_with fail
  refine (HA.out _).mono ?_
  rintro e w1 ⟨rfl, hb1⟩
  have T : Two w1 (w.heap.size + 1 + 1) _ _ := (Two.new _ _ _ (by simp)).keep hb1
  have B := Lib.hid (below2 (alloc3 w _ _ _) hb1)
  clear hb1
  obtain ⟨c0, c1, f0, f1⟩ := id T
  have z := T.lt
  go_wp2_with fail
  obtain ⟨q0, q1, q2⟩ := T.ret (.int .i64 p) (.int .i64 q) B.out (by omega)
  exact bodyPost_ret (v := .agg #[.int .i64 p, .int .i64 q]) (by simp [results, Try.results32, go_sem, q0, q1]) rfl ⟨rfl, q2⟩

set_option maxHeartbeats 800000 in
theorem line_raw (a0 a1 b0 b1 p0 p1 u0 u1 v0 v1 c cc L p q : Int) (hab : ¬ a0 = b0 ∨ (a0 = b0 ∧ ¬ a1 = b1)) (ec : IntKind.i64.wrap (c * c) = cc)
    (HS : Hid (∀ w, Calls Try.prog 29 #[.agg #[.int .i64 b0, .int .i64 b1], .agg #[.int .i64 a0, .int .i64 a1]] w fun e w' => e = .returned (.agg #[.int .i64 u0, .int .i64 u1]) ∧ Below w.heap.size w w'))
    (HT : Hid (∀ w, Calls Try.prog 29 #[.agg #[.int .i64 p0, .int .i64 p1], .agg #[.int .i64 a0, .int .i64 a1]] w fun e w' => e = .returned (.agg #[.int .i64 v0, .int .i64 v1]) ∧ Below w.heap.size w w'))
    (HD : Hid (∀ w, Calls Try.prog 25 #[.agg #[.int .i64 u0, .int .i64 u1], .agg #[.int .i64 v0, .int .i64 v1]] w fun e w' => e = .returned (.int .i64 c) ∧ Below w.heap.size w w'))
    (HL : Hid (∀ w, Calls Try.prog 30 #[.agg #[.int .i64 u0, .int .i64 u1], .agg #[.int .i64 u0, .int .i64 u1]] w fun e w' => e = .returned (.int .i64 L) ∧ Below w.heap.size w w'))
    (HF : Hid (∀ w, Calls Try.prog 40 #[.int .i64 cc, .int .i64 L] w fun e w' => e = .returned (.agg #[.int .i64 p, .int .i64 q]) ∧ Below w.heap.size w w')) (w : World) :
    Calls Try.prog 32 #[.agg #[.int .i64 a0, .int .i64 a1, .int .i64 b0, .int .i64 b1], .agg #[.int .i64 p0, .int .i64 p1]] w fun e w' => e = .returned (.agg #[.int .i64 p, .int .i64 q]) ∧ Below w.heap.size w w' := by
  go_enter Try.func32, Try.ntmps32
  rcases hab with h0 | ⟨rfl, h0⟩
  all_goals
    go_wp2_with fail
    refine (HS.out _).mono ?_
    rintro e w1 ⟨rfl, hb1⟩
    have TR1 : Two w1 (w.heap.size + 1 + 1) _ _ := (Two.new _ _ _ (by simp)).keep hb1
    have TP1 : Two w1 (w.heap.size + 1) _ _ := ((Two.new _ _ _ (by simp)).alloc _).keep hb1
    have TE1 : Four w1 w.heap.size _ _ _ _ := (((Four.new _ _ _ _ _ rfl).alloc _).alloc _).keep hb1
    have B1 := below2 (alloc3 w _ _ _) hb1
    clear hb1
    go_wp2_with fail
    have TR := TR1.alloc (.cells #[.int .i64 u0, .int .i64 u1] 31)
    have TP := TP1.alloc (.cells #[.int .i64 u0, .int .i64 u1] 31)
    have TE := TE1.alloc (.cells #[.int .i64 u0, .int .i64 u1] 31)
    have TU : Two (w1.alloc (.cells #[.int .i64 u0, .int .i64 u1] 31)) w1.heap.size _ _ := Two.new _ _ _ rfl
    have BS := B1.alloc B1.size (.cells #[.int .i64 u0, .int .i64 u1] 31)
    clear TR1 TP1 TE1 B1
    generalize w1.alloc (.cells #[.int .i64 u0, .int .i64 u1] 31) = ws at *
    generalize w1.heap.size = gu at *
    generalize hgr : w.heap.size + 1 + 1 = gr at *
    generalize hgp : w.heap.size + 1 = gp at *
    generalize hge : w.heap.size = ge at *
    have hlt : ge ≤ gr := by omega
    clear hgr hgp
    obtain ⟨u0c, u1c, -, -⟩ := id TU
    obtain ⟨p0c, p1c, -, -⟩ := id TP
    obtain ⟨a0c, a1c, -, -⟩ := id TE
    go_region_held3 (fun wx => wx.cell? ⟨gu, 0, none⟩ = some (.int .i64 u0) ∧ wx.cell? ⟨gu, 1, none⟩ = some (.int .i64 u1) ∧ wx.cell? ⟨gp, 0, none⟩ = some (.int .i64 p0) ∧ wx.cell? ⟨gp, 1, none⟩ = some (.int .i64 p1) ∧ wx.cell? ⟨ge, 0, none⟩ = some (.int .i64 a0) ∧ wx.cell? ⟨ge, 1, none⟩ = some (.int .i64 a1) ∧ Below ws.heap.size ws wx)
      (first | assumption | exact six_of u0c u1c p0c p1c a0c a1c (Below.drew (Below.refl _ _)))
      (first
        | (go_at_call 29; with_reducible refine (HT.out _).mono ?_; rintro e w2 ⟨rfl, hb2⟩; replace hb2 := undrew hb2; have hS2 := six_of u0c u1c p0c p1c a0c a1c hb2)
        | (go_at_call 25; with_reducible refine (HD.out _).mono ?_; rintro e w3 ⟨rfl, hb3⟩; have A3 := below2 hb2 hb3; have hS3 := six_of u0c u1c p0c p1c a0c a1c A3))
    have TR3 := TR.keep A3
    have TU3 := TU.keep A3
    subst hge
    have B3 := below2 BS A3
    clear hS2 hS3 hb2 hb3 A3 TR TP TE TU BS
    try clear u0c u1c
    clear p0c p1c a0c a1c
    obtain ⟨u0c, u1c, -, -⟩ := id TU3
    go_wp2_with fail
    refine (HL.out _).mono ?_
    rintro e w4 ⟨rfl, hb4⟩
    have TR4 := TR3.keep hb4
    have B4 := below2 B3 hb4
    clear hb4 TR3 B3 TU3
    go_wp2_with fail
    refine (HF.out _).mono ?_
    rintro e w5 ⟨rfl, hb5⟩
    have T5 := TR4.keep hb5
    have B5 := Lib.hid (below2 B4 hb5)
    clear hb5 TR4 B4
    obtain ⟨c0, c1, f0, f1⟩ := id T5
    have z := T5.lt
    go_wp2_with fail
    obtain ⟨q0, q1, q2⟩ := T5.ret (.int .i64 p) (.int .i64 q) B5.out hlt
    exact bodyPost_ret (v := .agg #[.int .i64 p, .int .i64 q]) (by simp [results, Try.results32, go_sem, q0, q1]) rfl ⟨rfl, q2⟩

set_option maxHeartbeats 800000 in
theorem side_raw (a0 a1 b0 b1 p0 p1 u0 u1 v0 v1 c r : Int) (hr : (0 < c ∧ r = 1) ∨ (¬ 0 < c ∧ c < 0 ∧ r = -1) ∨ (¬ 0 < c ∧ ¬ c < 0 ∧ r = 0))
    (HS : Hid (∀ w, Calls Try.prog 29 #[.agg #[.int .i64 b0, .int .i64 b1], .agg #[.int .i64 a0, .int .i64 a1]] w fun e w' => e = .returned (.agg #[.int .i64 u0, .int .i64 u1]) ∧ Below w.heap.size w w'))
    (HT : Hid (∀ w, Calls Try.prog 29 #[.agg #[.int .i64 p0, .int .i64 p1], .agg #[.int .i64 a0, .int .i64 a1]] w fun e w' => e = .returned (.agg #[.int .i64 v0, .int .i64 v1]) ∧ Below w.heap.size w w'))
    (HD : Hid (∀ w, Calls Try.prog 25 #[.agg #[.int .i64 u0, .int .i64 u1], .agg #[.int .i64 v0, .int .i64 v1]] w fun e w' => e = .returned (.int .i64 c) ∧ Below w.heap.size w w')) (w : World) :
    Calls Try.prog 28 #[.agg #[.int .i64 a0, .int .i64 a1, .int .i64 b0, .int .i64 b1], .agg #[.int .i64 p0, .int .i64 p1]] w fun e w' => e = .returned (.int .i64 r) ∧ Below w.heap.size w w' := by
  go_enter Try.func28, Try.ntmps28
  go_wp2_with fail
  have TP : Two ((w.alloc (.cells #[.int .i64 a0, .int .i64 a1, .int .i64 b0, .int .i64 b1] 37)).alloc (.cells #[.int .i64 p0, .int .i64 p1] 31)) (w.heap.size + 1) _ _ := Two.new _ _ _ (by simp)
  have TE : Four ((w.alloc (.cells #[.int .i64 a0, .int .i64 a1, .int .i64 b0, .int .i64 b1] 37)).alloc (.cells #[.int .i64 p0, .int .i64 p1] 31)) w.heap.size _ _ _ _ := (Four.new _ _ _ _ _ rfl).alloc _
  have BS := Lib.hid (alloc2 w (.cells #[.int .i64 a0, .int .i64 a1, .int .i64 b0, .int .i64 b1] 37) (.cells #[.int .i64 p0, .int .i64 p1] 31))
  generalize (w.alloc (.cells #[.int .i64 a0, .int .i64 a1, .int .i64 b0, .int .i64 b1] 37)).alloc (.cells #[.int .i64 p0, .int .i64 p1] 31) = ws at *
  generalize w.heap.size + 1 = gp at *
  generalize hge : w.heap.size = ge at *
  obtain ⟨p0c, p1c, -, -⟩ := TP
  obtain ⟨a0c, a1c, b0c, b1c⟩ := TE
  go_region_held3 (fun wx => wx.cell? ⟨gp, 0, none⟩ = some (.int .i64 p0) ∧ wx.cell? ⟨gp, 1, none⟩ = some (.int .i64 p1) ∧ wx.cell? ⟨ge, 0, none⟩ = some (.int .i64 a0) ∧ wx.cell? ⟨ge, 1, none⟩ = some (.int .i64 a1) ∧ wx.cell? ⟨ge, 2, none⟩ = some (.int .i64 b0) ∧ wx.cell? ⟨ge, 3, none⟩ = some (.int .i64 b1) ∧ Below ws.heap.size ws wx)
    (first | assumption | exact sixE_of p0c p1c a0c a1c b0c b1c (Below.drew (Below.refl _ _)))
    (first
      | (go_at_call 29; with_reducible refine (HS.out _).mono ?_; rintro e w2 ⟨rfl, hb2⟩; replace hb2 := undrew hb2; have hS2 := sixE_of p0c p1c a0c a1c b0c b1c hb2)
      | (go_at_call 29; with_reducible refine (HT.out _).mono ?_; rintro e w3 ⟨rfl, hb3⟩; have A3 := below2 hb2 hb3; have hS3 := sixE_of p0c p1c a0c a1c b0c b1c A3)
      | (go_at_call 25; with_reducible refine (HD.out _).mono ?_; rintro e w4 ⟨rfl, hb4⟩; have A4 := below2 A3 hb4; have hS4 := sixE_of p0c p1c a0c a1c b0c b1c A4))
  subst hge
  have BF := Lib.hid (below2 BS.out A4)
  clear hS2 hS3 hS4 hb2 hb3 hb4 A3 A4
  rcases hr with ⟨h1, rfl⟩ | ⟨h1, h2, rfl⟩ | ⟨h1, h2, rfl⟩
  all_goals
    go_wp2_with fail
    go_ret
    exact ⟨rfl, BF.out⟩

end Go.Proofs.Ytglmgenifjaakaa
