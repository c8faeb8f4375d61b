/-
  What the helpers of layer 3's laws do to any world: contracts (no claim is made here).
-/
import Derived.Test.YtglmgenifjaakaaPlane3
namespace Go.Proofs.Ytglmgenifjaakaa
open Go.RowKit

set_option maxHeartbeats 400000 in
theorem point_any (x y : Int) (hx : x.natAbs ≤ 32768) (hy : y.natAbs ≤ 32768) (w : World) :
    Calls Try.prog 22 #[.agg #[.int .i16 x, .int .i16 y]] w fun e w' => e = .returned (.agg #[.int .i64 x, .int .i64 y]) ∧ Below w.heap.size w w' := by
  go_enter Try.func22, Try.ntmps22
  go_wp2
  exact bodyPost_ret (v := .agg #[.int .i64 x, .int .i64 y]) (by simp [results, Try.results22, go_sem]) rfl ⟨rfl, alloc2 _ _ _⟩

theorem four_of {w ws W : World} {ga gb : Nat} {a0 a1 b0 b1 : Value} (x0 : ws.cell? ⟨ga, 0, none⟩ = some a0) (x1 : ws.cell? ⟨ga, 1, none⟩ = some a1) (y0 : ws.cell? ⟨gb, 0, none⟩ = some b0) (y1 : ws.cell? ⟨gb, 1, none⟩ = some b1) (h : Below w.heap.size w ws) (hb : Below ws.heap.size ws W) :
    W.cell? ⟨ga, 0, none⟩ = some a0 ∧ W.cell? ⟨ga, 1, none⟩ = some a1 ∧ W.cell? ⟨gb, 0, none⟩ = some b0 ∧ W.cell? ⟨gb, 1, none⟩ = some b1 ∧ Below w.heap.size w W :=
  ⟨keep hb x0, keep hb x1, keep hb y0, keep hb y1, below2 h hb⟩
theorem four_set {w W : World} {ga gb gr : Nat} {a0 a1 b0 b1 : Value} (s0 s1 s2 s3 : Value) (ha : ¬ ga = gr) (hb : ¬ gb = gr) (hg : w.heap.size ≤ gr)
    (h : W.cell? ⟨ga, 0, none⟩ = some a0 ∧ W.cell? ⟨ga, 1, none⟩ = some a1 ∧ W.cell? ⟨gb, 0, none⟩ = some b0 ∧ W.cell? ⟨gb, 1, none⟩ = some b1 ∧ Below w.heap.size w W) :
    ((((W.setCell ⟨gr, 0, none⟩ s0).setCell ⟨gr, 1, none⟩ s1).setCell ⟨gr, 2, none⟩ s2).setCell ⟨gr, 3, none⟩ s3).cell? ⟨ga, 0, none⟩ = some a0 ∧ ((((W.setCell ⟨gr, 0, none⟩ s0).setCell ⟨gr, 1, none⟩ s1).setCell ⟨gr, 2, none⟩ s2).setCell ⟨gr, 3, none⟩ s3).cell? ⟨ga, 1, none⟩ = some a1 ∧
    ((((W.setCell ⟨gr, 0, none⟩ s0).setCell ⟨gr, 1, none⟩ s1).setCell ⟨gr, 2, none⟩ s2).setCell ⟨gr, 3, none⟩ s3).cell? ⟨gb, 0, none⟩ = some b0 ∧ ((((W.setCell ⟨gr, 0, none⟩ s0).setCell ⟨gr, 1, none⟩ s1).setCell ⟨gr, 2, none⟩ s2).setCell ⟨gr, 3, none⟩ s3).cell? ⟨gb, 1, none⟩ = some b1 ∧
    Below w.heap.size w ((((W.setCell ⟨gr, 0, none⟩ s0).setCell ⟨gr, 1, none⟩ s1).setCell ⟨gr, 2, none⟩ s2).setCell ⟨gr, 3, none⟩ s3) := by
  have o : ∀ (W : World) (g i j : Nat) (s : Value), ¬ g = gr → (W.setCell ⟨gr, i, none⟩ s).cell? ⟨g, j, none⟩ = W.cell? ⟨g, j, none⟩ := fun W g i j s hij => World.cell?_setCell_other _ _ _ _ (by intro h; simp only [Addr.mk.injEq] at h; omega)
  refine ⟨?_, ?_, ?_, ?_, (((h.2.2.2.2.setCell hg _).setCell hg _).setCell hg _).setCell hg _⟩
  · rw [o _ _ _ _ _ ha, o _ _ _ _ _ ha, o _ _ _ _ _ ha, o _ _ _ _ _ ha]; exact h.1
  · rw [o _ _ _ _ _ ha, o _ _ _ _ _ ha, o _ _ _ _ _ ha, o _ _ _ _ _ ha]; exact h.2.1
  · rw [o _ _ _ _ _ hb, o _ _ _ _ _ hb, o _ _ _ _ _ hb, o _ _ _ _ _ hb]; exact h.2.2.1
  · rw [o _ _ _ _ _ hb, o _ _ _ _ _ hb, o _ _ _ _ _ hb, o _ _ _ _ _ hb]; exact h.2.2.2.1

/-- A block of four cells that may be written. -/
def FourW (w : World) (g : Nat) (u v x y : Value) : Prop := Four w g u v x y ∧ w.frozen? ⟨g, 0, none⟩ = false ∧ w.frozen? ⟨g, 1, none⟩ = false ∧ w.frozen? ⟨g, 2, none⟩ = false ∧ w.frozen? ⟨g, 3, none⟩ = false
theorem FourW.keep {W w : World} {g : Nat} {u v x y : Value} (h : FourW W g u v x y) (hb : Below W.heap.size W w) : FourW w g u v x y :=
  ⟨h.1.keep hb, (hb.frozen (p := ⟨g, 0, none⟩) h.1.lt).trans h.2.1, (hb.frozen (p := ⟨g, 1, none⟩) h.1.lt).trans h.2.2.1, (hb.frozen (p := ⟨g, 2, none⟩) h.1.lt).trans h.2.2.2.1, (hb.frozen (p := ⟨g, 3, none⟩) h.1.lt).trans h.2.2.2.2⟩
theorem FourW.alloc {W : World} {g : Nat} {u v x y : Value} (h : FourW W g u v x y) (o : Obj) : FourW (W.alloc o) g u v x y := h.keep ((Below.refl _ W).alloc (Nat.le_refl _) o)
theorem FourW.new {W : World} {g : Nat} (u v x y : Value) (t : TypeId) (h : g = W.heap.size) : FourW (W.alloc (.cells #[u, v, x, y] t)) g u v x y := by
  subst h; exact ⟨Four.new _ _ _ _ _ rfl, by simp, by simp, by simp, by simp⟩
theorem FourW.ret {w W : World} {g : Nat} {u v x y : Value} (h : FourW W g u v x y) (s0 s1 s2 s3 : Value) (hb : Below w.heap.size w W) (hg : w.heap.size ≤ g) :
    Four ((((W.setCell ⟨g, 0, none⟩ s0).setCell ⟨g, 1, none⟩ s1).setCell ⟨g, 2, none⟩ s2).setCell ⟨g, 3, none⟩ s3) g s0 s1 s2 s3 ∧ Below w.heap.size w ((((W.setCell ⟨g, 0, none⟩ s0).setCell ⟨g, 1, none⟩ s1).setCell ⟨g, 2, none⟩ s2).setCell ⟨g, 3, none⟩ s3) := by
  obtain ⟨⟨h0, h1, h2, h3⟩, -⟩ := h
  have o : ∀ (W : World) (i j : Nat) (s : Value), i ≠ j → (W.setCell ⟨g, i, none⟩ s).cell? ⟨g, j, none⟩ = W.cell? ⟨g, j, none⟩ := fun W i j s hij => World.cell?_setCell_other _ _ _ _ (by intro h; simp only [Addr.mk.injEq] at h; omega)
  refine ⟨⟨?_, ?_, ?_, ?_⟩, (((hb.setCell hg _).setCell hg _).setCell hg _).setCell hg _⟩
  · rw [o _ 3 0 _ (by omega), o _ 2 0 _ (by omega), o _ 1 0 _ (by omega)]; exact World.cell?_setCell_same _ _ _ h0
  · rw [o _ 3 1 _ (by omega), o _ 2 1 _ (by omega)]; exact World.cell?_setCell_same _ _ _ (by rw [o _ 0 1 _ (by omega)]; exact h1)
  · rw [o _ 3 2 _ (by omega)]; exact World.cell?_setCell_same _ _ _ (by rw [o _ 1 2 _ (by omega), o _ 0 2 _ (by omega)]; exact h2)
  · exact World.cell?_setCell_same _ _ _ (by rw [o _ 2 3 _ (by omega), o _ 1 3 _ (by omega), o _ 0 3 _ (by omega)]; exact h3)

end Go.Proofs.Ytglmgenifjaakaa
