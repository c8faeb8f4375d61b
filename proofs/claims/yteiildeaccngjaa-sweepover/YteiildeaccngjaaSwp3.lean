/-
  What the program is to do in layer 13, and rows of whole numbers that are read (no claim is made here).
-/
import Derived.Test.YteiildeaccngjaaSwp1
namespace Go.Proofs.Yteiildeaccngjaa
open Go.RowKit

/-- A row of whole numbers, read. -/
def IRd (w : World) (v : Value) (l : List Int) : Prop :=
  ∃ A cap, v = .slice A l.length cap ∧ l.length ≤ cap ∧ ∀ i, i < l.length → ∃ a, A = some a ∧ a.block < w.heap.size ∧ w.cell? (a.add i) = some (.int .i64 (knS l i))
theorem IRd.keep {w w' : World} {v : Value} {l : List Int} (h : IRd w v l) (hb : Below w.heap.size w w') : IRd w' v l := by
  obtain ⟨A, cap, e, hc, h⟩ := h
  refine ⟨A, cap, e, hc, fun i hi => ?_⟩
  obtain ⟨a, ea, hl, hx⟩ := h i hi
  exact ⟨a, ea, Nat.lt_of_lt_of_le hl hb.size, (cell_eqb (p := a.add i) (hb.block (a.add i).block (by first | exact hl | simpa [Addr.add] using hl | (unfold Addr.add; split <;> exact hl)))).trans hx⟩
theorem NRw.ird {w : World} {gm n : Nat} {l : List Int} (h : NRw w gm n (ivals l)) : IRd w (.slice (some ⟨gm, 0, none⟩) n n) l := by
  have hl : l.length = n := by have := h.1; unfold ivals at this; rwa [List.length_map] at this
  refine ⟨some ⟨gm, 0, none⟩, n, by rw [hl], by omega, fun i hi => ⟨_, rfl, h.lt, ?_⟩⟩
  have := (h.val i (by omega)).1
  by_cases h0 : i = 0
  · subst h0; simpa [Addr.add] using this
  · simpa [Addr.add, h0] using this

structure SwpOK : Prop where
  known : ∀ (ve : Value) (es : List Ed) (x y p s : Int) (u v : Nat) (w : World), ERd w ve es → es.length ≤ 200000 → (∀ s ∈ es, InD s) → checkG x y p u v s = 0 →
    Calls Try.prog 12 #[ve, .agg #[.int .i64 x, .int .i64 y, .int .i64 p, .int .i64 u, .int .i64 v, .int .i64 s]] w fun e w' => ∃ V, e = .returned V ∧ IRd w' V (knownL es x y p u v) ∧ Below w.heap.size w w'
  make : ∀ (ve : Value) (es : List Ed) (x y p s : Int) (u v : Nat) (w : World), ERd w ve es → es.length ≤ 200000 → (∀ s ∈ es, InD s) → checkG x y p u v s = 0 →
    Calls Try.prog 14 #[ve, .agg #[.int .i64 x, .int .i64 y, .int .i64 p, .int .i64 u, .int .i64 v, .int .i64 s]] w fun e w' => ∃ V, e = .returned (.tuple #[.agg #[.int .i64 u, .int .i64 v, V], .int .i64 0]) ∧ BRow w' w.heap.size V (fldS es x y p s u v) ∧ Below w.heap.size w w'
  wrong : ∀ (ve : Value) (es : List Ed) (x y p u v s : Int) (w : World), ERd w ve es → checkG x y p u v s ≠ 0 →
    Calls Try.prog 14 #[ve, .agg #[.int .i64 x, .int .i64 y, .int .i64 p, .int .i64 u, .int .i64 v, .int .i64 s]] w fun e w' => e = .returned (.tuple #[.agg #[.int .i64 0, .int .i64 0, .slice none 0 0], .int .i64 (checkG x y p u v s)]) ∧ Below w.heap.size w w'

end Go.Proofs.Yteiildeaccngjaa
