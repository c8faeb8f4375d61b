/-
  The walk of the law PlaneTurn (no claim is made here: the row is PlaneTurn).
-/
import Derived.Test.YtdbmbppmgeabkaaAwake3
import Derived.OpenShut
namespace Go.Proofs.Ytdbmbppmgeabkaa
open Go.RowKit

theorem S6_call {w W W' : World} {k0 k1 k2 : Nat} {v0 v1 v2 v3 v4 v5 : Value} (hb : Below W.heap.size W W') (hh : W.cell? ⟨k0, 0, none⟩ = some v0 ∧ W.cell? ⟨k0, 1, none⟩ = some v1 ∧ W.cell? ⟨k1, 0, none⟩ = some v2 ∧ W.cell? ⟨k1, 1, none⟩ = some v3 ∧ W.cell? ⟨k2, 0, none⟩ = some v4 ∧ W.cell? ⟨k2, 1, none⟩ = some v5 ∧ Below w.heap.size w W) :
    W'.cell? ⟨k0, 0, none⟩ = some v0 ∧ W'.cell? ⟨k0, 1, none⟩ = some v1 ∧ W'.cell? ⟨k1, 0, none⟩ = some v2 ∧ W'.cell? ⟨k1, 1, none⟩ = some v3 ∧ W'.cell? ⟨k2, 0, none⟩ = some v4 ∧ W'.cell? ⟨k2, 1, none⟩ = some v5 ∧ Below w.heap.size w W' :=
  ⟨keep hb hh.1, keep hb hh.2.1, keep hb hh.2.2.1, keep hb hh.2.2.2.1, keep hb hh.2.2.2.2.1, keep hb hh.2.2.2.2.2.1, below2 hh.2.2.2.2.2.2 hb⟩
theorem S6_alloc {w W : World} {k0 k1 k2 : Nat} {v0 v1 v2 v3 v4 v5 : Value} (o : Obj) (hh : W.cell? ⟨k0, 0, none⟩ = some v0 ∧ W.cell? ⟨k0, 1, none⟩ = some v1 ∧ W.cell? ⟨k1, 0, none⟩ = some v2 ∧ W.cell? ⟨k1, 1, none⟩ = some v3 ∧ W.cell? ⟨k2, 0, none⟩ = some v4 ∧ W.cell? ⟨k2, 1, none⟩ = some v5 ∧ Below w.heap.size w W) :
    (W.alloc o).cell? ⟨k0, 0, none⟩ = some v0 ∧ (W.alloc o).cell? ⟨k0, 1, none⟩ = some v1 ∧ (W.alloc o).cell? ⟨k1, 0, none⟩ = some v2 ∧ (W.alloc o).cell? ⟨k1, 1, none⟩ = some v3 ∧ (W.alloc o).cell? ⟨k2, 0, none⟩ = some v4 ∧ (W.alloc o).cell? ⟨k2, 1, none⟩ = some v5 ∧ Below w.heap.size w (W.alloc o) :=
  S6_call ((Below.refl _ W).alloc (Nat.le_refl _) o) hh
theorem S6_drew {w W : World} {k0 k1 k2 : Nat} {v0 v1 v2 v3 v4 v5 : Value} (hh : W.cell? ⟨k0, 0, none⟩ = some v0 ∧ W.cell? ⟨k0, 1, none⟩ = some v1 ∧ W.cell? ⟨k1, 0, none⟩ = some v2 ∧ W.cell? ⟨k1, 1, none⟩ = some v3 ∧ W.cell? ⟨k2, 0, none⟩ = some v4 ∧ W.cell? ⟨k2, 1, none⟩ = some v5 ∧ Below w.heap.size w W) :
    W.drew.cell? ⟨k0, 0, none⟩ = some v0 ∧ W.drew.cell? ⟨k0, 1, none⟩ = some v1 ∧ W.drew.cell? ⟨k1, 0, none⟩ = some v2 ∧ W.drew.cell? ⟨k1, 1, none⟩ = some v3 ∧ W.drew.cell? ⟨k2, 0, none⟩ = some v4 ∧ W.drew.cell? ⟨k2, 1, none⟩ = some v5 ∧ Below w.heap.size w W.drew :=
  ⟨hh.1, hh.2.1, hh.2.2.1, hh.2.2.2.1, hh.2.2.2.2.1, hh.2.2.2.2.2.1, hh.2.2.2.2.2.2.drew⟩
theorem S6_set {w W : World} {k0 k1 k2 r i : Nat} {v0 v1 v2 v3 v4 v5 : Value} (v : Value) (n0 : ¬ k0 = r) (n1 : ¬ k1 = r) (n2 : ¬ k2 = r) (hg : w.heap.size ≤ r) (hh : W.cell? ⟨k0, 0, none⟩ = some v0 ∧ W.cell? ⟨k0, 1, none⟩ = some v1 ∧ W.cell? ⟨k1, 0, none⟩ = some v2 ∧ W.cell? ⟨k1, 1, none⟩ = some v3 ∧ W.cell? ⟨k2, 0, none⟩ = some v4 ∧ W.cell? ⟨k2, 1, none⟩ = some v5 ∧ Below w.heap.size w W) :
    (W.setCell ⟨r, i, none⟩ v).cell? ⟨k0, 0, none⟩ = some v0 ∧ (W.setCell ⟨r, i, none⟩ v).cell? ⟨k0, 1, none⟩ = some v1 ∧ (W.setCell ⟨r, i, none⟩ v).cell? ⟨k1, 0, none⟩ = some v2 ∧ (W.setCell ⟨r, i, none⟩ v).cell? ⟨k1, 1, none⟩ = some v3 ∧ (W.setCell ⟨r, i, none⟩ v).cell? ⟨k2, 0, none⟩ = some v4 ∧ (W.setCell ⟨r, i, none⟩ v).cell? ⟨k2, 1, none⟩ = some v5 ∧ Below w.heap.size w (W.setCell ⟨r, i, none⟩ v) := by
  have o : ∀ x j, ¬ x = r → (W.setCell ⟨r, i, none⟩ v).cell? ⟨x, j, none⟩ = W.cell? ⟨x, j, none⟩ := fun x j hx => World.cell?_setCell_other _ _ _ _ (by intro h; simp only [Addr.mk.injEq] at h; omega)
  rw [o _ _ n0, o _ _ n0, o _ _ n1, o _ _ n1, o _ _ n2, o _ _ n2]
  exact ⟨hh.1, hh.2.1, hh.2.2.1, hh.2.2.2.1, hh.2.2.2.2.1, hh.2.2.2.2.2.1, hh.2.2.2.2.2.2.setCell hg _⟩
theorem S8_call {w W W' : World} {k0 k1 k2 k3 : Nat} {v0 v1 v2 v3 v4 v5 v6 v7 : Value} (hb : Below W.heap.size W W') (hh : W.cell? ⟨k0, 0, none⟩ = some v0 ∧ W.cell? ⟨k0, 1, none⟩ = some v1 ∧ W.cell? ⟨k1, 0, none⟩ = some v2 ∧ W.cell? ⟨k1, 1, none⟩ = some v3 ∧ W.cell? ⟨k2, 0, none⟩ = some v4 ∧ W.cell? ⟨k2, 1, none⟩ = some v5 ∧ W.cell? ⟨k3, 0, none⟩ = some v6 ∧ W.cell? ⟨k3, 1, none⟩ = some v7 ∧ Below w.heap.size w W) :
    W'.cell? ⟨k0, 0, none⟩ = some v0 ∧ W'.cell? ⟨k0, 1, none⟩ = some v1 ∧ W'.cell? ⟨k1, 0, none⟩ = some v2 ∧ W'.cell? ⟨k1, 1, none⟩ = some v3 ∧ W'.cell? ⟨k2, 0, none⟩ = some v4 ∧ W'.cell? ⟨k2, 1, none⟩ = some v5 ∧ W'.cell? ⟨k3, 0, none⟩ = some v6 ∧ W'.cell? ⟨k3, 1, none⟩ = some v7 ∧ Below w.heap.size w W' :=
  ⟨keep hb hh.1, keep hb hh.2.1, keep hb hh.2.2.1, keep hb hh.2.2.2.1, keep hb hh.2.2.2.2.1, keep hb hh.2.2.2.2.2.1, keep hb hh.2.2.2.2.2.2.1, keep hb hh.2.2.2.2.2.2.2.1, below2 hh.2.2.2.2.2.2.2.2 hb⟩
theorem S8_alloc {w W : World} {k0 k1 k2 k3 : Nat} {v0 v1 v2 v3 v4 v5 v6 v7 : Value} (o : Obj) (hh : W.cell? ⟨k0, 0, none⟩ = some v0 ∧ W.cell? ⟨k0, 1, none⟩ = some v1 ∧ W.cell? ⟨k1, 0, none⟩ = some v2 ∧ W.cell? ⟨k1, 1, none⟩ = some v3 ∧ W.cell? ⟨k2, 0, none⟩ = some v4 ∧ W.cell? ⟨k2, 1, none⟩ = some v5 ∧ W.cell? ⟨k3, 0, none⟩ = some v6 ∧ W.cell? ⟨k3, 1, none⟩ = some v7 ∧ Below w.heap.size w W) :
    (W.alloc o).cell? ⟨k0, 0, none⟩ = some v0 ∧ (W.alloc o).cell? ⟨k0, 1, none⟩ = some v1 ∧ (W.alloc o).cell? ⟨k1, 0, none⟩ = some v2 ∧ (W.alloc o).cell? ⟨k1, 1, none⟩ = some v3 ∧ (W.alloc o).cell? ⟨k2, 0, none⟩ = some v4 ∧ (W.alloc o).cell? ⟨k2, 1, none⟩ = some v5 ∧ (W.alloc o).cell? ⟨k3, 0, none⟩ = some v6 ∧ (W.alloc o).cell? ⟨k3, 1, none⟩ = some v7 ∧ Below w.heap.size w (W.alloc o) :=
  S8_call ((Below.refl _ W).alloc (Nat.le_refl _) o) hh
theorem S8_drew {w W : World} {k0 k1 k2 k3 : Nat} {v0 v1 v2 v3 v4 v5 v6 v7 : Value} (hh : W.cell? ⟨k0, 0, none⟩ = some v0 ∧ W.cell? ⟨k0, 1, none⟩ = some v1 ∧ W.cell? ⟨k1, 0, none⟩ = some v2 ∧ W.cell? ⟨k1, 1, none⟩ = some v3 ∧ W.cell? ⟨k2, 0, none⟩ = some v4 ∧ W.cell? ⟨k2, 1, none⟩ = some v5 ∧ W.cell? ⟨k3, 0, none⟩ = some v6 ∧ W.cell? ⟨k3, 1, none⟩ = some v7 ∧ Below w.heap.size w W) :
    W.drew.cell? ⟨k0, 0, none⟩ = some v0 ∧ W.drew.cell? ⟨k0, 1, none⟩ = some v1 ∧ W.drew.cell? ⟨k1, 0, none⟩ = some v2 ∧ W.drew.cell? ⟨k1, 1, none⟩ = some v3 ∧ W.drew.cell? ⟨k2, 0, none⟩ = some v4 ∧ W.drew.cell? ⟨k2, 1, none⟩ = some v5 ∧ W.drew.cell? ⟨k3, 0, none⟩ = some v6 ∧ W.drew.cell? ⟨k3, 1, none⟩ = some v7 ∧ Below w.heap.size w W.drew :=
  ⟨hh.1, hh.2.1, hh.2.2.1, hh.2.2.2.1, hh.2.2.2.2.1, hh.2.2.2.2.2.1, hh.2.2.2.2.2.2.1, hh.2.2.2.2.2.2.2.1, hh.2.2.2.2.2.2.2.2.drew⟩

set_option maxHeartbeats 8000000 in
set_option maxRecDepth 100000 in
theorem planeTurn_core (a0 a1 b0 b1 p0 p1 x0 x1 y0 y1 s0 s1 t0 t1 q0 q1 n d : Int) (w : World)
    (HE1 : Hid (∀ w, Calls Try.prog 9 #[.agg #[.int .i16 a0, .int .i16 a1], .agg #[.int .i16 b0, .int .i16 b1]] w fun e w' => e = .returned (.agg #[.int .i64 x0, .int .i64 x1, .int .i64 y0, .int .i64 y1]) ∧ Below w.heap.size w w'))
    (HE2 : Hid (∀ w, Calls Try.prog 9 #[.agg #[.int .i16 b0, .int .i16 b1], .agg #[.int .i16 a0, .int .i16 a1]] w fun e w' => e = .returned (.agg #[.int .i64 y0, .int .i64 y1, .int .i64 x0, .int .i64 x1]) ∧ Below w.heap.size w w'))
    (HP : Hid (∀ w, Calls Try.prog 10 #[.agg #[.int .i16 p0, .int .i16 p1]] w fun e w' => e = .returned (.agg #[.int .i64 p0, .int .i64 p1]) ∧ Below w.heap.size w w'))
    (HQ1 : Hid (∀ w, Calls Try.prog 8 #[.agg #[.int .i64 x0, .int .i64 x1, .int .i64 y0, .int .i64 y1], .agg #[.int .i64 p0, .int .i64 p1]] w fun e w' => e = .returned (.agg #[.int .i64 n, .int .i64 d]) ∧ Below w.heap.size w w'))
    (HQ2 : Hid (∀ w, Calls Try.prog 8 #[.agg #[.int .i64 y0, .int .i64 y1, .int .i64 x0, .int .i64 x1], .agg #[.int .i64 p0, .int .i64 p1]] w fun e w' => e = .returned (.agg #[.int .i64 n, .int .i64 d]) ∧ Below w.heap.size w w'))
    (HA : Hid (∀ w, Calls Try.prog 11 #[.agg #[.int .i16 a0, .int .i16 a1]] w fun e w' => e = .returned (.agg #[.int .i64 x0, .int .i64 x1]) ∧ Below w.heap.size w w'))
    (HB : Hid (∀ w, Calls Try.prog 11 #[.agg #[.int .i16 b0, .int .i16 b1]] w fun e w' => e = .returned (.agg #[.int .i64 y0, .int .i64 y1]) ∧ Below w.heap.size w w'))
    (HqA : Hid (∀ w, Calls Try.prog 7 #[.agg #[.int .i64 x0, .int .i64 x1]] w fun e w' => e = .returned (.agg #[.int .i64 s0, .int .i64 s1]) ∧ Below w.heap.size w w'))
    (HqB : Hid (∀ w, Calls Try.prog 7 #[.agg #[.int .i64 y0, .int .i64 y1]] w fun e w' => e = .returned (.agg #[.int .i64 t0, .int .i64 t1]) ∧ Below w.heap.size w w'))
    (HqP : Hid (∀ w, Calls Try.prog 7 #[.agg #[.int .i64 p0, .int .i64 p1]] w fun e w' => e = .returned (.agg #[.int .i64 q0, .int .i64 q1]) ∧ Below w.heap.size w w'))
    (HQ3 : Hid (∀ w, Calls Try.prog 8 #[.agg #[.int .i64 s0, .int .i64 s1, .int .i64 t0, .int .i64 t1], .agg #[.int .i64 q0, .int .i64 q1]] w fun e w' => e = .returned (.agg #[.int .i64 n, .int .i64 d]) ∧ Below w.heap.size w w')) :
    Calls Try.prog 3 #[.agg #[.int .i16 a0, .int .i16 a1], .agg #[.int .i16 b0, .int .i16 b1], .agg #[.int .i16 p0, .int .i16 p1]] w fun e w' => e = .returned (.bool true) ∧ Below w.heap.size w w' := by
  go_enter Try.func3, Try.ntmps3
  go_wp2_with fail
  refine (awake_any _).mono ?_
  rintro e w1 ⟨rfl, hb1⟩
  have TA : Two w1 w.heap.size _ _ := (((Two.new _ _ _ rfl).alloc _).alloc _).keep hb1
  have TB : Two w1 (w.heap.size + 1) _ _ := ((Two.new _ _ _ (by simp)).alloc _).keep hb1
  have TP : Two w1 (w.heap.size + 1 + 1) _ _ := (Two.new _ _ _ (by simp)).keep hb1
  have B1 := below2 (alloc3 w _ _ _) hb1
  clear hb1
  go_upto_region 4 with fail
  generalize w.heap.size + 1 + 1 = gp at *
  generalize w.heap.size + 1 = gb at *
  generalize hga : w.heap.size = ga at TA ⊢
  have zA := TA.lt
  have zB := TB.lt
  have zP := TP.lt
  have hD : w1.cell? ⟨ga, 0, none⟩ = some (.int .i16 a0) ∧ w1.cell? ⟨ga, 1, none⟩ = some (.int .i16 a1) ∧ w1.cell? ⟨gb, 0, none⟩ = some (.int .i16 b0) ∧ w1.cell? ⟨gb, 1, none⟩ = some (.int .i16 b1) ∧ w1.cell? ⟨gp, 0, none⟩ = some (.int .i16 p0) ∧ w1.cell? ⟨gp, 1, none⟩ = some (.int .i16 p1) ∧ Below w.heap.size w w1 := ⟨TA.1, TA.2.1, TB.1, TB.2.1, TP.1, TP.2.1, B1⟩
  obtain ⟨ws, rfl⟩ : ∃ ws, ws = w1 := ⟨_, rfl⟩
  have hw : w.heap.size ≤ ws.heap.size := B1.size
  clear TA TB TP B1
  go_cut [8] (fun s8 wx => ∃ gf : Nat, s8 = .pointer (some ⟨gf, 0, none⟩) ∧ Pair2 wx gf (.int .i64 n) (.int .i64 d) ∧ (wx.cell? ⟨ga, 0, none⟩ = some (.int .i16 a0) ∧ wx.cell? ⟨ga, 1, none⟩ = some (.int .i16 a1) ∧ wx.cell? ⟨gb, 0, none⟩ = some (.int .i16 b0) ∧ wx.cell? ⟨gb, 1, none⟩ = some (.int .i16 b1) ∧ wx.cell? ⟨gp, 0, none⟩ = some (.int .i16 p0) ∧ wx.cell? ⟨gp, 1, none⟩ = some (.int .i16 p1) ∧ Below w.heap.size w wx))
  case first =>
    go_region_held3 (fun wx => wx.cell? ⟨ga, 0, none⟩ = some (.int .i16 a0) ∧ wx.cell? ⟨ga, 1, none⟩ = some (.int .i16 a1) ∧ wx.cell? ⟨gb, 0, none⟩ = some (.int .i16 b0) ∧ wx.cell? ⟨gb, 1, none⟩ = some (.int .i16 b1) ∧ wx.cell? ⟨gp, 0, none⟩ = some (.int .i16 p0) ∧ wx.cell? ⟨gp, 1, none⟩ = some (.int .i16 p1) ∧ Below w.heap.size w wx)
      ((repeat (first | with_reducible assumption | with_reducible refine S6_alloc _ ?_ | with_reducible refine S6_drew ?_ | with_reducible refine S6_set _ (by omega) (by omega) (by omega) (by omega) ?_)))
      (first
        | (go_at_call 9; (with_reducible refine (HE1.out _).mono ?_); rintro e w2 ⟨rfl, hb⟩; replace hb := undrew hb; have hS2 : w2.cell? ⟨ga, 0, none⟩ = some (.int .i16 a0) ∧ w2.cell? ⟨ga, 1, none⟩ = some (.int .i16 a1) ∧ w2.cell? ⟨gb, 0, none⟩ = some (.int .i16 b0) ∧ w2.cell? ⟨gb, 1, none⟩ = some (.int .i16 b1) ∧ w2.cell? ⟨gp, 0, none⟩ = some (.int .i16 p0) ∧ w2.cell? ⟨gp, 1, none⟩ = some (.int .i16 p1) ∧ Below w.heap.size w w2 := S6_call hb (by (repeat (first | with_reducible assumption | with_reducible refine S6_alloc _ ?_ | with_reducible refine S6_drew ?_))); have hz2 : ws.heap.size ≤ w2.heap.size := (by have := hb.size; (try simp at this); omega); (first | (have T := T.keep hb; have Tc0 := T.1; have Tc1 := T.2.1; have Tf0 := T.2.2.1; have Tf1 := T.2.2.2; have Tz := T.lt) | (have T : Two w2 ws.heap.size (.int .i64 0) (.int .i64 0) := (Two.new _ _ _ rfl).keep hb; have Tc0 := T.1; have Tc1 := T.2.1; have Tf0 := T.2.2.1; have Tf1 := T.2.2.2; have Tz := T.lt) | skip))
        | (go_at_call 10; (with_reducible refine (HP.out _).mono ?_); rintro e w3 ⟨rfl, hb⟩; have hS3 : w3.cell? ⟨ga, 0, none⟩ = some (.int .i16 a0) ∧ w3.cell? ⟨ga, 1, none⟩ = some (.int .i16 a1) ∧ w3.cell? ⟨gb, 0, none⟩ = some (.int .i16 b0) ∧ w3.cell? ⟨gb, 1, none⟩ = some (.int .i16 b1) ∧ w3.cell? ⟨gp, 0, none⟩ = some (.int .i16 p0) ∧ w3.cell? ⟨gp, 1, none⟩ = some (.int .i16 p1) ∧ Below w.heap.size w w3 := S6_call hb (by (repeat (first | with_reducible assumption | with_reducible refine S6_alloc _ ?_ | with_reducible refine S6_drew ?_))); have hz3 : w2.heap.size ≤ w3.heap.size := (by have := hb.size; (try simp at this); omega); (first | (have T := T.keep hb; have Tc0 := T.1; have Tc1 := T.2.1; have Tf0 := T.2.2.1; have Tf1 := T.2.2.2; have Tz := T.lt) | (have T : Two w3 w2.heap.size (.int .i64 0) (.int .i64 0) := (Two.new _ _ _ rfl).keep hb; have Tc0 := T.1; have Tc1 := T.2.1; have Tf0 := T.2.2.1; have Tf1 := T.2.2.2; have Tz := T.lt) | skip))
        | (go_at_call 8; (with_reducible refine (HQ1.out _).mono ?_); rintro e w4 ⟨rfl, hb⟩; have hS4 : w4.cell? ⟨ga, 0, none⟩ = some (.int .i16 a0) ∧ w4.cell? ⟨ga, 1, none⟩ = some (.int .i16 a1) ∧ w4.cell? ⟨gb, 0, none⟩ = some (.int .i16 b0) ∧ w4.cell? ⟨gb, 1, none⟩ = some (.int .i16 b1) ∧ w4.cell? ⟨gp, 0, none⟩ = some (.int .i16 p0) ∧ w4.cell? ⟨gp, 1, none⟩ = some (.int .i16 p1) ∧ Below w.heap.size w w4 := S6_call hb (by (repeat (first | with_reducible assumption | with_reducible refine S6_alloc _ ?_ | with_reducible refine S6_drew ?_))); have hz4 : w3.heap.size ≤ w4.heap.size := (by have := hb.size; (try simp at this); omega); (first | (have T := T.keep hb; have Tc0 := T.1; have Tc1 := T.2.1; have Tf0 := T.2.2.1; have Tf1 := T.2.2.2; have Tz := T.lt) | (have T : Two w4 w3.heap.size (.int .i64 0) (.int .i64 0) := (Two.new _ _ _ rfl).keep hb; have Tc0 := T.1; have Tc1 := T.2.1; have Tf0 := T.2.2.1; have Tf1 := T.2.2.2; have Tz := T.lt) | skip)))
    all_goals
      go_wp2_with fail
      go_meet
      first
        | with_reducible exact ⟨_, rfl, pnew _ _ _ rfl, by assumption⟩
        | with_reducible exact ⟨_, rfl, pset _ _ (pmk (by assumption) (by assumption)), by assumption⟩
  case rest =>
    obtain ⟨gf, rfl, ⟨f0, f1⟩, hS⟩ := hcut
    have hD2 : wc.drew.cell? ⟨ga, 0, none⟩ = some (.int .i16 a0) ∧ wc.drew.cell? ⟨ga, 1, none⟩ = some (.int .i16 a1) ∧ wc.drew.cell? ⟨gb, 0, none⟩ = some (.int .i16 b0) ∧ wc.drew.cell? ⟨gb, 1, none⟩ = some (.int .i16 b1) ∧ wc.drew.cell? ⟨gp, 0, none⟩ = some (.int .i16 p0) ∧ wc.drew.cell? ⟨gp, 1, none⟩ = some (.int .i16 p1) ∧ wc.drew.cell? ⟨gf, 0, none⟩ = some (.int .i64 n) ∧ wc.drew.cell? ⟨gf, 1, none⟩ = some (.int .i64 d) ∧ Below w.heap.size w wc.drew := ⟨hS.1, hS.2.1, hS.2.2.1, hS.2.2.2.1, hS.2.2.2.2.1, hS.2.2.2.2.2.1, f0, f1, hS.2.2.2.2.2.2.drew⟩
    clear hS hD f0 f1
    go_wp2_with fail
    go_region_held3 (fun wx => wx.cell? ⟨ga, 0, none⟩ = some (.int .i16 a0) ∧ wx.cell? ⟨ga, 1, none⟩ = some (.int .i16 a1) ∧ wx.cell? ⟨gb, 0, none⟩ = some (.int .i16 b0) ∧ wx.cell? ⟨gb, 1, none⟩ = some (.int .i16 b1) ∧ wx.cell? ⟨gp, 0, none⟩ = some (.int .i16 p0) ∧ wx.cell? ⟨gp, 1, none⟩ = some (.int .i16 p1) ∧ wx.cell? ⟨gf, 0, none⟩ = some (.int .i64 n) ∧ wx.cell? ⟨gf, 1, none⟩ = some (.int .i64 d) ∧ Below w.heap.size w wx)
      (with_reducible assumption)
      (first
        | (go_at_call 9; (with_reducible refine (HE2.out _).mono ?_); rintro e wn ⟨rfl, hb⟩; have hS : wn.cell? ⟨ga, 0, none⟩ = some (.int .i16 a0) ∧ wn.cell? ⟨ga, 1, none⟩ = some (.int .i16 a1) ∧ wn.cell? ⟨gb, 0, none⟩ = some (.int .i16 b0) ∧ wn.cell? ⟨gb, 1, none⟩ = some (.int .i16 b1) ∧ wn.cell? ⟨gp, 0, none⟩ = some (.int .i16 p0) ∧ wn.cell? ⟨gp, 1, none⟩ = some (.int .i16 p1) ∧ wn.cell? ⟨gf, 0, none⟩ = some (.int .i64 n) ∧ wn.cell? ⟨gf, 1, none⟩ = some (.int .i64 d) ∧ Below w.heap.size w wn := S8_call hb (by with_reducible assumption))
        | (go_at_call 10; (with_reducible refine (HP.out _).mono ?_); rintro e wn ⟨rfl, hb⟩; have hS : wn.cell? ⟨ga, 0, none⟩ = some (.int .i16 a0) ∧ wn.cell? ⟨ga, 1, none⟩ = some (.int .i16 a1) ∧ wn.cell? ⟨gb, 0, none⟩ = some (.int .i16 b0) ∧ wn.cell? ⟨gb, 1, none⟩ = some (.int .i16 b1) ∧ wn.cell? ⟨gp, 0, none⟩ = some (.int .i16 p0) ∧ wn.cell? ⟨gp, 1, none⟩ = some (.int .i16 p1) ∧ wn.cell? ⟨gf, 0, none⟩ = some (.int .i64 n) ∧ wn.cell? ⟨gf, 1, none⟩ = some (.int .i64 d) ∧ Below w.heap.size w wn := S8_call hb (by with_reducible assumption))
        | (go_at_call 8; (with_reducible refine (HQ2.out _).mono ?_); rintro e wn ⟨rfl, hb⟩; have hS : wn.cell? ⟨ga, 0, none⟩ = some (.int .i16 a0) ∧ wn.cell? ⟨ga, 1, none⟩ = some (.int .i16 a1) ∧ wn.cell? ⟨gb, 0, none⟩ = some (.int .i16 b0) ∧ wn.cell? ⟨gb, 1, none⟩ = some (.int .i16 b1) ∧ wn.cell? ⟨gp, 0, none⟩ = some (.int .i16 p0) ∧ wn.cell? ⟨gp, 1, none⟩ = some (.int .i16 p1) ∧ wn.cell? ⟨gf, 0, none⟩ = some (.int .i64 n) ∧ wn.cell? ⟨gf, 1, none⟩ = some (.int .i64 d) ∧ Below w.heap.size w wn := S8_call hb (by with_reducible assumption))
        | (go_at_call 11; (with_reducible refine (HA.out _).mono ?_); rintro e wn ⟨rfl, hb⟩; have hS : wn.cell? ⟨ga, 0, none⟩ = some (.int .i16 a0) ∧ wn.cell? ⟨ga, 1, none⟩ = some (.int .i16 a1) ∧ wn.cell? ⟨gb, 0, none⟩ = some (.int .i16 b0) ∧ wn.cell? ⟨gb, 1, none⟩ = some (.int .i16 b1) ∧ wn.cell? ⟨gp, 0, none⟩ = some (.int .i16 p0) ∧ wn.cell? ⟨gp, 1, none⟩ = some (.int .i16 p1) ∧ wn.cell? ⟨gf, 0, none⟩ = some (.int .i64 n) ∧ wn.cell? ⟨gf, 1, none⟩ = some (.int .i64 d) ∧ Below w.heap.size w wn := S8_call hb (by with_reducible assumption))
        | (go_at_call 11; (with_reducible refine (HB.out _).mono ?_); rintro e wn ⟨rfl, hb⟩; have hS : wn.cell? ⟨ga, 0, none⟩ = some (.int .i16 a0) ∧ wn.cell? ⟨ga, 1, none⟩ = some (.int .i16 a1) ∧ wn.cell? ⟨gb, 0, none⟩ = some (.int .i16 b0) ∧ wn.cell? ⟨gb, 1, none⟩ = some (.int .i16 b1) ∧ wn.cell? ⟨gp, 0, none⟩ = some (.int .i16 p0) ∧ wn.cell? ⟨gp, 1, none⟩ = some (.int .i16 p1) ∧ wn.cell? ⟨gf, 0, none⟩ = some (.int .i64 n) ∧ wn.cell? ⟨gf, 1, none⟩ = some (.int .i64 d) ∧ Below w.heap.size w wn := S8_call hb (by with_reducible assumption))
        | (go_at_call 7; (with_reducible refine (HqA.out _).mono ?_); rintro e wn ⟨rfl, hb⟩; have hS : wn.cell? ⟨ga, 0, none⟩ = some (.int .i16 a0) ∧ wn.cell? ⟨ga, 1, none⟩ = some (.int .i16 a1) ∧ wn.cell? ⟨gb, 0, none⟩ = some (.int .i16 b0) ∧ wn.cell? ⟨gb, 1, none⟩ = some (.int .i16 b1) ∧ wn.cell? ⟨gp, 0, none⟩ = some (.int .i16 p0) ∧ wn.cell? ⟨gp, 1, none⟩ = some (.int .i16 p1) ∧ wn.cell? ⟨gf, 0, none⟩ = some (.int .i64 n) ∧ wn.cell? ⟨gf, 1, none⟩ = some (.int .i64 d) ∧ Below w.heap.size w wn := S8_call hb (by with_reducible assumption))
        | (go_at_call 7; (with_reducible refine (HqB.out _).mono ?_); rintro e wn ⟨rfl, hb⟩; have hS : wn.cell? ⟨ga, 0, none⟩ = some (.int .i16 a0) ∧ wn.cell? ⟨ga, 1, none⟩ = some (.int .i16 a1) ∧ wn.cell? ⟨gb, 0, none⟩ = some (.int .i16 b0) ∧ wn.cell? ⟨gb, 1, none⟩ = some (.int .i16 b1) ∧ wn.cell? ⟨gp, 0, none⟩ = some (.int .i16 p0) ∧ wn.cell? ⟨gp, 1, none⟩ = some (.int .i16 p1) ∧ wn.cell? ⟨gf, 0, none⟩ = some (.int .i64 n) ∧ wn.cell? ⟨gf, 1, none⟩ = some (.int .i64 d) ∧ Below w.heap.size w wn := S8_call hb (by with_reducible assumption))
        | (go_at_call 7; (with_reducible refine (HqP.out _).mono ?_); rintro e wn ⟨rfl, hb⟩; have hS : wn.cell? ⟨ga, 0, none⟩ = some (.int .i16 a0) ∧ wn.cell? ⟨ga, 1, none⟩ = some (.int .i16 a1) ∧ wn.cell? ⟨gb, 0, none⟩ = some (.int .i16 b0) ∧ wn.cell? ⟨gb, 1, none⟩ = some (.int .i16 b1) ∧ wn.cell? ⟨gp, 0, none⟩ = some (.int .i16 p0) ∧ wn.cell? ⟨gp, 1, none⟩ = some (.int .i16 p1) ∧ wn.cell? ⟨gf, 0, none⟩ = some (.int .i64 n) ∧ wn.cell? ⟨gf, 1, none⟩ = some (.int .i64 d) ∧ Below w.heap.size w wn := S8_call hb (by with_reducible assumption))
        | (go_at_call 8; (with_reducible refine (HQ3.out _).mono ?_); rintro e wn ⟨rfl, hb⟩; have hS : wn.cell? ⟨ga, 0, none⟩ = some (.int .i16 a0) ∧ wn.cell? ⟨ga, 1, none⟩ = some (.int .i16 a1) ∧ wn.cell? ⟨gb, 0, none⟩ = some (.int .i16 b0) ∧ wn.cell? ⟨gb, 1, none⟩ = some (.int .i16 b1) ∧ wn.cell? ⟨gp, 0, none⟩ = some (.int .i16 p0) ∧ wn.cell? ⟨gp, 1, none⟩ = some (.int .i16 p1) ∧ wn.cell? ⟨gf, 0, none⟩ = some (.int .i64 n) ∧ wn.cell? ⟨gf, 1, none⟩ = some (.int .i64 d) ∧ Below w.heap.size w wn := S8_call hb (by with_reducible assumption)))
    have BF := Lib.hid hS.2.2.2.2.2.2.2.2
    go_wp2_with fail
    go_ret
    exact ⟨rfl, BF.out⟩

theorem small_in (x : Int) : (x.tmod 8193).natAbs ≤ 8192 := by
  have h1 := Int.natAbs_tmod x 8193
  have h2 := Nat.mod_lt x.natAbs (show 0 < (8193 : Int).natAbs by decide)
  rw [h1]
  have : (8193 : Int).natAbs = 8193 := rfl
  omega

set_option maxHeartbeats 2000000 in
theorem planeTurn_walk (a0 a1 b0 b1 p0 p1 : Int) (w0 : (Lit.int .i16 a0).wf = true) (w1 : (Lit.int .i16 a1).wf = true) (w2 : (Lit.int .i16 b0).wf = true) (w3 : (Lit.int .i16 b1).wf = true) (w4 : (Lit.int .i16 p0).wf = true) (w5 : (Lit.int .i16 p1).wf = true) (w : World) :
    Calls Try.prog 3 #[.agg #[.int .i16 a0, .int .i16 a1], .agg #[.int .i16 b0, .int .i16 b1], .agg #[.int .i16 p0, .int .i16 p1]] w fun e w' => e = .returned (.bool true) ∧ Below w.heap.size w w' := by
  have g0 := bounds_i16 w0
  have g1 := bounds_i16 w1
  have g2 := bounds_i16 w2
  have g3 := bounds_i16 w3
  have g4 := bounds_i16 w4
  have g5 := bounds_i16 w5
  have HE1 := fun w => edge_any a0 a1 b0 b1 ⟨by omega, by omega⟩ ⟨by omega, by omega⟩ w
  have HE2 := fun w => edge_any b0 b1 a0 a1 ⟨by omega, by omega⟩ ⟨by omega, by omega⟩ w
  have HA := fun w => small_any a0 a1 (by omega) (by omega) w
  have HB := fun w => small_any b0 b1 (by omega) (by omega) w
  have s0 := small_in a0
  have s1 := small_in a1
  have s2 := small_in b0
  have s3 := small_in b1
  clear g0 g1 g2 g3
  generalize a0.tmod 8193 = x0 at *
  generalize a1.tmod 8193 = x1 at *
  generalize b0.tmod 8193 = y0 at *
  generalize b1.tmod 8193 = y1 at *
  have q0 : p0.natAbs ≤ 32768 := by omega
  have q1 : p1.natAbs ≤ 32768 := by omega
  clear g4 g5
  have HQ1 := fun w => square_any x0 x1 y0 y1 p0 p1 ⟨⟨s0, s1⟩, ⟨s2, s3⟩, ⟨q0, q1⟩⟩ w
  have HQ2 := fun w => square_any y0 y1 x0 x1 p0 p1 ⟨⟨s2, s3⟩, ⟨s0, s1⟩, ⟨q0, q1⟩⟩ w
  have HQ3 := fun w => square_any (-x1) x0 (-y1) y0 (-p1) p0 ⟨⟨by omega, s0⟩, ⟨by omega, s2⟩, ⟨by omega, q0⟩⟩ w
  rw [show x0 - y0 = -(y0 - x0) by omega, show x1 - y1 = -(y1 - x1) by omega, show p0 - y0 = p0 - x0 - (y0 - x0) by omega, show p1 - y1 = p1 - x1 - (y1 - x1) by omega, squareV_back] at HQ2
  rw [show -y1 - -x1 = -(y1 - x1) by omega, show -p1 - -x1 = -(p1 - x1) by omega, squareV_turn] at HQ3
  exact planeTurn_core a0 a1 b0 b1 p0 p1 x0 x1 y0 y1 (-x1) x0 (-y1) y0 (-p1) p0 _ _ w (Lib.hid HE1) (Lib.hid HE2) (Lib.hid fun w => point_any p0 p1 q0 q1 w) (Lib.hid HQ1) (Lib.hid HQ2) (Lib.hid HA) (Lib.hid HB)
    (Lib.hid fun w => quarter_any x0 x1 (by omega) w) (Lib.hid fun w => quarter_any y0 y1 (by omega) w) (Lib.hid fun w => quarter_any p0 p1 q1 w) (Lib.hid HQ3)

end Go.Proofs.Ytdbmbppmgeabkaa
