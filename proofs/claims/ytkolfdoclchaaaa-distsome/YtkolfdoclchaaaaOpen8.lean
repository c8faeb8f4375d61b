/-
  A row of bools that comes in as an argument, opened: for the frames of layer 8's laws (no claim is made here).
-/
import Derived.Test.YtkolfdoclchaaaaOpen3
namespace Go.Proofs.Ytkolfdoclchaaaa
open Go.ChangeShapes Go.WideShapes Go.Deep Go.RowKit

/-- A row of bools that is read. -/
def BoRd (w : World) (v : Value) (l : List Bool) : Prop :=
  ∃ A cap, v = .slice A l.length cap ∧ l.length ≤ cap ∧ ∀ i (h : i < l.length), ∃ a, A = some a ∧ w.cell? (a.add i) = some (.bool l[i])
theorem BoRd.keep {w w' : World} {v : Value} {l : List Bool} (h : BoRd w v l) (hb : Below w.heap.size w w') : BoRd w' v l := by
  obtain ⟨A, cap, e, h1, h3⟩ := h
  refine ⟨A, cap, e, h1, fun i hi => ?_⟩
  obtain ⟨a, ha, hc⟩ := h3 i hi
  have hl := World.block_lt_of_cell? w _ hc
  exact ⟨a, ha, (hb.cell hl).trans hc⟩

section
variable {H : Type} {enc : TypeId × Value → H} {w : World} {base : Nat} {held : Bool}

theorem open_bools {fuel : Nat} {v : Value} {x : DataW H × List MemPlace} (h : DataW.trod enc Try.prog w base (fun _ => true) held fuel 42 [v] = some x) : ∃ l : List Bool, BoRd w v l ∧ ∃ A n cap, v = .slice A n cap ∧ cap ≤ maxLen := by
  rcases open_slice Try.underlying42 h with ⟨hv, _⟩ | ⟨a, len, cap, m, n, D, Pl, hv, hb, hl, hm, hmm, _, hx⟩
  · simp at hv
    subst hv
    exact ⟨[], ⟨none, 0, rfl, Nat.le_refl _, fun i hi => absurd hi (Nat.not_lt_zero _)⟩, none, 0, 0, rfl, Nat.zero_le _⟩
  · simp only [if_true] at hmm
    subst hmm
    simp at hv
    subst hv
    have each : ∀ i, i < len → ∃ s : Bool, w.cell? (a.add i) = some (.bool s) := by
      intro i hi
      obtain ⟨cs', h1, h2⟩ := hx i (by omega)
      rw [show Try.prog.cellsOf 4 = 1 by kernel_rfl] at h1
      obtain ⟨_, _, hcell⟩ := World.cells?_some h1
      obtain ⟨s, e, _⟩ := DataW.trod_bool Try.underlying4 h2
      subst e
      have := hcell 0 (by omega)
      rw [add_add] at this
      exact ⟨s, by simpa using this⟩
    obtain ⟨f, hf⟩ := choose_lt each
    refine ⟨(List.range len).map f, ⟨some a, m, by simp, by simp; exact hl, fun i hi => ⟨a, rfl, ?_⟩⟩, some a, len, m, rfl, hm⟩
    have hi' : i < len := by simpa using hi
    have ei : ((List.range len).map f)[i] = f i := by simp
    rw [ei]
    exact hf i hi'
end

end Go.Proofs.Ytkolfdoclchaaaa
