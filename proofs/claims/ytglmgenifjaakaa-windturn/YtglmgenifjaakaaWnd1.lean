/-
  What wind.turn does to any world (no claim is made here).
-/
import Derived.Test.YtglmgenifjaakaaPlane3
import Derived.Test.YtglmgenifjaakaaWindMath
import Derived.Test.YtglmgenifjaakaaEdg
import Derived.Test.YtglmgenifjaakaaPth3
namespace Go.Proofs.Ytglmgenifjaakaa
open Go.RowKit

set_option maxHeartbeats 800000 in
theorem turn_raw (a0 a1 b0 b1 p0 p1 s r : Int)
    (HS : Hid (∀ w, Calls Try.prog 28 #[.agg #[.int .i64 a0, .int .i64 a1, .int .i64 b0, .int .i64 b1], .agg #[.int .i64 p0, .int .i64 p1]] w fun e w' => e = .returned (.int .i64 s) ∧ Below w.heap.size w w'))
    (hr : Hid (r = if a1 ≤ p1 ∧ p1 < b1 ∧ s = 1 then 1 else if p1 < a1 ∧ b1 ≤ p1 ∧ s = -1 then -1 else 0)) (w : World) :
    Calls Try.prog 23 #[.agg #[.int .i64 a0, .int .i64 a1, .int .i64 b0, .int .i64 b1], .agg #[.int .i64 p0, .int .i64 p1]] w fun e w' => e = .returned (.int .i64 r) ∧ Below w.heap.size w w' := by
  by_cases h1 : p1 < a1 <;> by_cases h2 : p1 < b1
  · obtain rfl : r = 0 := by rw [hr.out, if_neg (by omega), if_neg (by omega)]
    clear hr HS
    go_enter Try.func23, Try.ntmps23
    go_wp2_with fail
    go_region
    go_wp2
    go_ret
    exact ⟨rfl, (alloc2 _ _ _).drew⟩
  · have d2 : decide (p1 < b1) = false := by simp; omega
    go_enter Try.func23, Try.ntmps23
    go_wp2_with fail
    go_region
    go_wp2_with fail
    refine (HS.out _).mono ?_
    rintro e w1 ⟨rfl, hb1⟩
    have HB := Lib.hid (below2 (alloc2 _ _ _) (undrew hb1))
    clear hb1
    by_cases h3 : s = -1
    · obtain rfl : r = -1 := by rw [hr.out, if_neg (by omega), if_pos (by omega)]
      subst h3
      clear hr HS
      go_wp2
      all_goals
        go_ret
        exact ⟨rfl, HB.out⟩
    · obtain rfl : r = 0 := by rw [hr.out, if_neg (by omega), if_neg (by omega)]
      have d4 : (s == -1) = false := by simp; omega
      clear hr HS
      go_wp2
      all_goals
        go_ret
        exact ⟨rfl, HB.out⟩
  · go_enter Try.func23, Try.ntmps23
    go_wp2_with fail
    go_region
    go_wp2_with fail
    refine (HS.out _).mono ?_
    rintro e w1 ⟨rfl, hb1⟩
    have HB := Lib.hid (below2 (alloc2 _ _ _) (undrew hb1))
    clear hb1
    have d1 : decide (p1 < a1) = false := by simp; omega
    have d2 : decide (p1 < b1) = true := by simp; omega
    by_cases h3 : s = 1
    · obtain rfl : r = 1 := by rw [hr.out, if_pos (by omega)]
      subst h3
      clear hr HS
      go_wp2
      all_goals
        go_ret
        exact ⟨rfl, HB.out⟩
    · obtain rfl : r = 0 := by rw [hr.out, if_neg (by omega), if_neg (by omega)]
      have d3 : (s == 1) = false := by simp; omega
      have d4 : ¬ (1 : Int) = s := by omega
      clear hr HS
      go_wp2
      all_goals
        go_ret
        exact ⟨rfl, HB.out⟩
  · obtain rfl : r = 0 := by rw [hr.out, if_neg (by omega), if_neg (by omega)]
    clear hr HS
    go_enter Try.func23, Try.ntmps23
    go_wp2_with fail
    go_region
    go_wp2
    go_ret
    exact ⟨rfl, (alloc2 _ _ _).drew⟩

theorem side_is (e : Ed) (p : Pt) : numE e p = if e.a.y ≤ p.y ∧ p.y < e.b.y ∧ sideV (e.b.x - e.a.x) (e.b.y - e.a.y) (p.x - e.a.x) (p.y - e.a.y) = 1 then 1 else if p.y < e.a.y ∧ e.b.y ≤ p.y ∧ sideV (e.b.x - e.a.x) (e.b.y - e.a.y) (p.x - e.a.x) (p.y - e.a.y) = -1 then -1 else 0 := by
  unfold numE upE downE
  have e1 : (sideV (e.b.x - e.a.x) (e.b.y - e.a.y) (p.x - e.a.x) (p.y - e.a.y) = 1 ↔ 0 < crE e p) ∧ (sideV (e.b.x - e.a.x) (e.b.y - e.a.y) (p.x - e.a.x) (p.y - e.a.y) = -1 ↔ crE e p < 0) := by
    unfold sideV crE
    split
    · omega
    · split <;> omega
  simp only [e1.1, e1.2]
  generalize crE e p = c
  split <;> split <;> (try split) <;> omega

/-- The bounds of layer 3, of edges and a point. -/
def InP (p : Pt) : Prop := p.x.natAbs ≤ 32768 ∧ p.y.natAbs ≤ 32768
def InD (e : Ed) : Prop := (e.a.x.natAbs ≤ 8192 ∧ e.a.y.natAbs ≤ 8192) ∧ (e.b.x.natAbs ≤ 8192 ∧ e.b.y.natAbs ≤ 8192)

theorem turn_any (a0 a1 b0 b1 p0 p1 : Int) (h : InE a0 a1 b0 b1 p0 p1) (w : World) :
    Calls Try.prog 23 #[.agg #[.int .i64 a0, .int .i64 a1, .int .i64 b0, .int .i64 b1], .agg #[.int .i64 p0, .int .i64 p1]] w fun e w' => e = .returned (.int .i64 (numE ⟨⟨a0, a1⟩, ⟨b0, b1⟩⟩ ⟨p0, p1⟩)) ∧ Below w.heap.size w w' :=
  turn_raw a0 a1 b0 b1 p0 p1 _ _ (Lib.hid fun w => side_any a0 a1 b0 b1 p0 p1 h w) (Lib.hid (side_is ⟨⟨a0, a1⟩, ⟨b0, b1⟩⟩ ⟨p0, p1⟩)) w

end Go.Proofs.Ytglmgenifjaakaa
