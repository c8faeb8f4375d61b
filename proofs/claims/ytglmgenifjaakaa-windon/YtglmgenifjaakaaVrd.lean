/-
  Outlines in memory that are read (no claim is made here).
-/
import Derived.Test.YtglmgenifjaakaaDots1
import Derived.BigQuiet
namespace Go.Proofs.Ytglmgenifjaakaa
open Go.RowKit

/-- A contour in memory, nil let in; an outline. -/
def VRd (w : World) (v : Value) (c : List Vtx) : Prop :=
  ∃ A cap, v = .slice A c.length cap ∧ c.length ≤ cap ∧ ∀ i (h : i < c.length), ∃ a, A = some a ∧ a.block < w.heap.size ∧ w.cell? (a.add (i * 3)) = some (.int .i64 (c[i]).x) ∧ w.cell? (a.add (i * 3 + 1)) = some (.int .i64 (c[i]).y) ∧ w.cell? (a.add (i * 3 + 2)) = some (.bool (c[i]).on)
def ORd (w : World) (v : Value) (o : List (List Vtx)) : Prop :=
  ∃ A cap, v = .slice A o.length cap ∧ o.length ≤ cap ∧ ∀ r (h : r < o.length), ∃ a u, A = some a ∧ a.block < w.heap.size ∧ w.cell? (a.add r) = some u ∧ VRd w u (o[r])
theorem VRd.keep {w w' : World} {v : Value} {c : List Vtx} (h : VRd w v c) (hb : Below w.heap.size w w') : VRd w' v c := by
  obtain ⟨A, cap, e, h1, h3⟩ := h
  refine ⟨A, cap, e, h1, fun i hi => ?_⟩
  obtain ⟨a, ha, hlt, c0, c1, c2⟩ := h3 i hi
  exact ⟨a, ha, Nat.lt_of_lt_of_le hlt hb.size, by rw [hb.cell (by rw [block_add]; exact hlt)]; exact c0, by rw [hb.cell (by rw [block_add]; exact hlt)]; exact c1, by rw [hb.cell (by rw [block_add]; exact hlt)]; exact c2⟩
theorem ORd.keep {w w' : World} {v : Value} {o : List (List Vtx)} (h : ORd w v o) (hb : Below w.heap.size w w') : ORd w' v o := by
  obtain ⟨A, cap, e, h1, h3⟩ := h
  refine ⟨A, cap, e, h1, fun r hr => ?_⟩
  obtain ⟨a, u, ha, hlt, c, d⟩ := h3 r hr
  exact ⟨a, u, ha, Nat.lt_of_lt_of_le hlt hb.size, by rw [hb.cell (by rw [block_add]; exact hlt)]; exact c, d.keep hb⟩

theorem vcells_at : ∀ (c : List Vtx) (i : Nat) (h : i < c.length), (vcells c)[i * 3]? = some (.int .i64 (c[i]).x) ∧ (vcells c)[i * 3 + 1]? = some (.int .i64 (c[i]).y) ∧ (vcells c)[i * 3 + 2]? = some (.bool (c[i]).on)
  | v :: c, 0, _ => ⟨rfl, rfl, rfl⟩
  | v :: c, i + 1, h => by
    obtain ⟨a, b, d⟩ := vcells_at c i (by simpa using h)
    have e : vcells (v :: c) = .int .i64 v.x :: .int .i64 v.y :: .bool v.on :: vcells c := by simp [vcells]
    rw [e, show (i + 1) * 3 = i * 3 + 1 + 1 + 1 by omega]
    exact ⟨a, b, d⟩
theorem VRow.read {w : World} {base : Nat} {u : Value} {c : List Vtx} (h : VRow w base u c) : VRd w u c := by
  rcases h.2 with ⟨rfl, h0⟩ | ⟨g, cap, cur, rfl, _, hg, hl, _, _, _⟩
  · have : c = [] := List.eq_nil_of_length_eq_zero h0
    subst this
    exact ⟨none, 0, rfl, Nat.le_refl _, fun i hi => absurd hi (Nat.not_lt_zero _)⟩
  · refine ⟨_, cap, rfl, hl, fun i hi => ⟨_, rfl, (World.ownsRow.lt h g rfl).2, ?_⟩⟩
    obtain ⟨a, b, d⟩ := vcells_at c i hi
    exact ⟨World.ownsRow.cells h rfl _ _ a, World.ownsRow.cells h rfl _ _ b, World.ownsRow.cells h rfl _ _ d⟩
theorem Outl.read {w : World} {base : Nat} {v : Value} {o : List (List Vtx)} (h : Outl w base v o) : ORd w v o := by
  obtain ⟨vs, e, h1, h2, _⟩ := h
  have h1' := h1
  rcases h1.2 with ⟨rfl, h0⟩ | ⟨g, cap, cur, rfl, _, hg, hl, _, _, _⟩
  · have : o = [] := List.eq_nil_of_length_eq_zero h0
    subst this
    exact ⟨none, 0, rfl, Nat.le_refl _, fun i hi => absurd hi (Nat.not_lt_zero _)⟩
  · refine ⟨_, cap, rfl, hl, fun r hr => ⟨_, vs[r], rfl, (h1'.lt g rfl).2, ?_, (h2 r hr (by omega)).1.read⟩⟩
    exact h1'.cells rfl r _ (List.getElem?_eq_getElem (by omega))

theorem any_push (c : List Vtx) (i : Nat) (v : Vtx) (h : c[i]? = some v) (h0 : (c.take i).any badV = false) (hv : badV v = false) : (c.take (i + 1)).any badV = false := by
  rw [take_push c i v h, List.any_append, h0]
  simp [hv]
theorem any_bad (c : List Vtx) (i : Nat) (v : Vtx) (h : c[i]? = some v) (hv : badV v = true) : c.any badV = true := by
  obtain ⟨hi, rfl⟩ := List.getElem?_eq_some_iff.1 h
  exact List.any_eq_true.2 ⟨_, List.getElem_mem hi, hv⟩

theorem ne_of_at {α : Type} {a b : List α} {i : Nat} {x y : α} (hx : a[i]? = some x) (hy : b[i]? = some y) (h : x ≠ y) : a ≠ b := fun e => by
  subst e; rw [hx] at hy; injection hy with hy; exact h hy
theorem take_eq_push {α : Type} {a b : List α} {i : Nat} {x : α} (h : a.take i = b.take i) (hx : a[i]? = some x) (hy : b[i]? = some x) : a.take (i + 1) = b.take (i + 1) := by
  rw [take_push a i x hx, take_push b i x hy, h]

theorem keepc {W w' : World} (hb : Below W.heap.size W w') {a : Addr} {v : Value} (h : W.cell? a = some v) : w'.cell? a = some v := by rw [hb.cell (World.block_lt_of_cell? W a h)]; exact h
theorem belowDN {B : Nat} {a w : World} (h : Below B a w) (k : Nat) : Below B a (w.drewN k) := ⟨h.os, h.tape, h.output, h.size, h.block⟩
theorem One.drewN {w : World} {g : Nat} {v : Value} (h : One w g v) (k : Nat) : One (w.drewN k) g v := ⟨h.1, h.2⟩

end Go.Proofs.Ytglmgenifjaakaa
