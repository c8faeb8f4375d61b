/-
  Outlines that the laws make: small numbers, few points; an outline's contour that is read (no claim is made here).
-/
import Derived.Test.YtglmgenifjaakaaPth1
namespace Go.Proofs.Ytglmgenifjaakaa
open Go.RowKit

theorem outline_small (cs : List (List Dot)) : (outlineS cs).length ≤ 8 ∧ ∀ c ∈ outlineS cs, c.length ≤ 1000 ∧ ∀ v ∈ c, smallV v := by
  obtain ⟨h1, h2, _, h4⟩ := checkS_zero (outlineS_check cs)
  refine ⟨h1, fun c hc => ⟨?_, fun v hv => ?_⟩⟩
  · have := le_flatten _ c hc; omega
  · have := h4 v (List.mem_flatten.2 ⟨c, hc, hv⟩)
    unfold inV at this
    unfold smallV
    omega
theorem ORd.at {w : World} {A : Option Addr} {n cap : Nat} {o : List (List Vtx)} (h : ORd w (.slice A n cap) o) (r : Nat) (c : List Vtx) (hc : o[r]? = some c) : ∃ a u, A = some a ∧ a.block < w.heap.size ∧ w.cell? (a.add r) = some u ∧ VRd w u c := by
  obtain ⟨A', cap', e, _, h3⟩ := h
  simp only [Value.slice.injEq] at e
  obtain ⟨rfl, -, -⟩ := e
  obtain ⟨hi, rfl⟩ := List.getElem?_eq_some_iff.1 hc
  exact h3 r hi

/-- An outline's contours, taken out of it. -/
theorem run_contours (v : Value) (hv : v.oneCell' = true) (w : World) : Sem.run Try.prog (Instr.field 51 (.agg #[v]) 0) w = .ok v w := by
  cases v <;> simp [Value.oneCell'] at hv <;> simp [Instr.field, run_underlying Try.underlying51, part, asAgg]

end Go.Proofs.Ytglmgenifjaakaa
