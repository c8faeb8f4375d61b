/-
  What plane.Sub, Dot, Cross, fraction and squareBetween do to any world: contracts (no claim is made here).
-/
import Derived.Test.YtglmgenifjaakaaFrac1
namespace Go.Proofs.Ytglmgenifjaakaa
open Go.RowKit

theorem alloc2 (w : World) (a b : Obj) : Below w.heap.size w ((w.alloc a).alloc b) := ((Below.refl _ w).alloc (Nat.le_refl _) _).alloc (by simp) _
theorem alloc3 (w : World) (a b c : Obj) : Below w.heap.size w (((w.alloc a).alloc b).alloc c) := (alloc2 w a b).alloc (alloc2 w a b).size _

set_option maxHeartbeats 400000 in
theorem sub_raw (a0 a1 b0 b1 x y : Int) (ex : IntKind.i64.wrap (a0 - b0) = x) (ey : IntKind.i64.wrap (a1 - b1) = y) (w : World) :
    Calls Try.prog 29 #[.agg #[.int .i64 a0, .int .i64 a1], .agg #[.int .i64 b0, .int .i64 b1]] w fun e w' => e = .returned (.agg #[.int .i64 x, .int .i64 y]) ∧ Below w.heap.size w w' := by
  go_enter Try.func29, Try.ntmps29
  go_wp2
  exact bodyPost_ret (v := .agg #[.int .i64 x, .int .i64 y]) (by simp [results, Try.results29, go_sem]) rfl ⟨rfl, alloc3 _ _ _ _⟩

set_option maxHeartbeats 400000 in
theorem dot_raw (a0 a1 b0 b1 x y z : Int) (ex : IntKind.i64.wrap (a0 * b0) = x) (ey : IntKind.i64.wrap (a1 * b1) = y) (ez : IntKind.i64.wrap (x + y) = z) (w : World) :
    Calls Try.prog 30 #[.agg #[.int .i64 a0, .int .i64 a1], .agg #[.int .i64 b0, .int .i64 b1]] w fun e w' => e = .returned (.int .i64 z) ∧ Below w.heap.size w w' := by
  go_enter Try.func30, Try.ntmps30
  go_wp2
  go_ret
  exact ⟨rfl, alloc2 _ _ _⟩

set_option maxHeartbeats 400000 in
theorem cross_raw (a0 a1 b0 b1 x y z : Int) (ex : IntKind.i64.wrap (a0 * b1) = x) (ey : IntKind.i64.wrap (a1 * b0) = y) (ez : IntKind.i64.wrap (x - y) = z) (w : World) :
    Calls Try.prog 25 #[.agg #[.int .i64 a0, .int .i64 a1], .agg #[.int .i64 b0, .int .i64 b1]] w fun e w' => e = .returned (.int .i64 z) ∧ Below w.heap.size w w' := by
  go_enter Try.func25, Try.ntmps25
  go_wp2
  go_ret
  exact ⟨rfl, alloc2 _ _ _⟩

/-- A block of two cells that may be written. -/
def Two (w : World) (g : Nat) (u v : Value) : Prop := w.cell? ⟨g, 0, none⟩ = some u ∧ w.cell? ⟨g, 1, none⟩ = some v ∧ w.frozen? ⟨g, 0, none⟩ = false ∧ w.frozen? ⟨g, 1, none⟩ = false
theorem Two.lt {w : World} {g : Nat} {u v : Value} (h : Two w g u v) : g < w.heap.size := World.block_lt_of_cell? w _ h.1
theorem Two.keep {W w : World} {g : Nat} {u v : Value} (h : Two W g u v) (hb : Below W.heap.size W w) : Two w g u v :=
  ⟨Go.Proofs.Ytglmgenifjaakaa.keep hb h.1, Go.Proofs.Ytglmgenifjaakaa.keep hb h.2.1, (hb.frozen (p := ⟨g, 0, none⟩) h.lt).trans h.2.2.1, (hb.frozen (p := ⟨g, 1, none⟩) h.lt).trans h.2.2.2⟩
theorem Two.alloc {W : World} {g : Nat} {u v : Value} (h : Two W g u v) (o : Obj) : Two (W.alloc o) g u v := h.keep ((Below.refl _ W).alloc (Nat.le_refl _) o)
theorem Two.new {W : World} {g : Nat} (u v : Value) (t : TypeId) (h : g = W.heap.size) : Two (W.alloc (.cells #[u, v] t)) g u v := by
  subst h; exact ⟨by simp, by simp, by simp, by simp⟩
/-- A result of two cells, stored into a block that is new, behind which a call may end. -/
theorem Two.ret {w W : World} {g : Nat} {u v : Value} (h : Two W g u v) (s0 s1 : Value) (hb : Below w.heap.size w W) (hg : w.heap.size ≤ g) :
    ((W.setCell ⟨g, 0, none⟩ s0).setCell ⟨g, 1, none⟩ s1).cell? ⟨g, 0, none⟩ = some s0 ∧ ((W.setCell ⟨g, 0, none⟩ s0).setCell ⟨g, 1, none⟩ s1).cell? ⟨g, 1, none⟩ = some s1 ∧ Below w.heap.size w ((W.setCell ⟨g, 0, none⟩ s0).setCell ⟨g, 1, none⟩ s1) :=
  pair_stored s0 s1 hb hg h.1 h.2.1

set_option maxHeartbeats 400000 in
theorem fraction_raw (n d p q e : Int)
    (HO : Hid (∀ w, Calls Try.prog 44 #[.int .i64 n, .int .i64 d] w fun e' w' => e' = .returned (.tuple #[.agg #[.int .i64 p, .int .i64 q], .int .i64 e]) ∧ Below w.heap.size w w')) (w : World) :
    Calls Try.prog 40 #[.int .i64 n, .int .i64 d] w fun e w' => e = .returned (.agg #[.int .i64 p, .int .i64 q]) ∧ Below w.heap.size w w' := by
  go_enter Try.func40, Try.ntmps40
  go_wp2_with fail
  refine (HO.out _).mono ?_
  rintro e w1 ⟨rfl, hb1⟩
  have B1 := Lib.hid (below2 ((Below.refl _ w).alloc (Nat.le_refl _) _) hb1)
  have T := (Two.new _ _ _ rfl).keep hb1
  have z1 := T.lt
  obtain ⟨c0, c1, f0, f1⟩ := id T
  clear hb1
  go_wp2_with fail
  obtain ⟨q0, q1, q2⟩ := T.ret (.int .i64 p) (.int .i64 q) B1.out (Nat.le_refl _)
  have k0 := keepAlloc (.cells #[.int .i64 p, .int .i64 q] 56) q0
  have k1 := keepAlloc (.cells #[.int .i64 p, .int .i64 q] 56) q1
  exact bodyPost_ret (v := .agg #[.int .i64 p, .int .i64 q]) (by simp [results, Try.results40, go_sem, k0, k1]) rfl ⟨rfl, q2.alloc q2.size _⟩

set_option maxHeartbeats 400000 in
theorem between_raw (a0 a1 p0 p1 u0 u1 n p q : Int)
    (HS : Hid (∀ w, Calls Try.prog 29 #[.agg #[.int .i64 p0, .int .i64 p1], .agg #[.int .i64 a0, .int .i64 a1]] w fun e w' => e = .returned (.agg #[.int .i64 u0, .int .i64 u1]) ∧ Below w.heap.size w w'))
    (HD : Hid (∀ w, Calls Try.prog 30 #[.agg #[.int .i64 u0, .int .i64 u1], .agg #[.int .i64 u0, .int .i64 u1]] w fun e w' => e = .returned (.int .i64 n) ∧ Below w.heap.size w w'))
    (HF : Hid (∀ w, Calls Try.prog 40 #[.int .i64 n, .int .i64 1] w fun e w' => e = .returned (.agg #[.int .i64 p, .int .i64 q]) ∧ Below w.heap.size w w')) (w : World) :
    Calls Try.prog 31 #[.agg #[.int .i64 a0, .int .i64 a1], .agg #[.int .i64 p0, .int .i64 p1]] w fun e w' => e = .returned (.agg #[.int .i64 p, .int .i64 q]) ∧ Below w.heap.size w w' := by
  go_enter Try.func31, Try.ntmps31
  go_wp2_with fail
  refine (HS.out _).mono ?_
  rintro e w1 ⟨rfl, hb1⟩
  have T1 : Two w1 (w.heap.size + 1 + 1) _ _ := (Two.new _ _ _ (by simp)).keep hb1
  have B1 := below2 (alloc3 w _ _ _) hb1
  clear hb1
  go_wp2_with fail
  refine (HD.out _).mono ?_
  rintro e w2 ⟨rfl, hb2⟩
  have T2 := (T1.alloc _).keep hb2
  have B2 := below2 (B1.alloc B1.size _) hb2
  clear hb2 T1 B1
  go_wp2_with fail
  refine (HF.out _).mono ?_
  rintro e w3 ⟨rfl, hb3⟩
  have T3 := T2.keep hb3
  have B3 := Lib.hid (below2 B2 hb3)
  clear hb3 T2 B2
  obtain ⟨c0, c1, f0, f1⟩ := id T3
  have z := T3.lt
  go_wp2_with fail
  obtain ⟨q0, q1, q2⟩ := T3.ret (.int .i64 p) (.int .i64 q) B3.out (by omega)
  exact bodyPost_ret (v := .agg #[.int .i64 p, .int .i64 q]) (by simp [results, Try.results31, go_sem, q0, q1]) rfl ⟨rfl, q2⟩

end Go.Proofs.Ytglmgenifjaakaa
