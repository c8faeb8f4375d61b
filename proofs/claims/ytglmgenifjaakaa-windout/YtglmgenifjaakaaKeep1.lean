/-
  Old cells behind calls that make memory: small lemmas (no claim is made here).
-/
import Derived.Test.YtglmgenifjaakaaCmp1
namespace Go.Proofs.Ytglmgenifjaakaa
open Go.RowKit

/-- What a call that makes memory leaves: old cells, old marks, old blocks, as rules for a walk. -/
theorem bcell {W w1 : World} (hb : Below W.heap.size W w1) : (∀ b o, b < W.heap.size → w1.cell? ⟨b, o, none⟩ = W.cell? ⟨b, o, none⟩) ∧ (∀ b o, b < W.heap.size → w1.frozen? ⟨b, o, none⟩ = W.frozen? ⟨b, o, none⟩) ∧ (∀ k, k < W.heap.size → k < w1.heap.size) :=
  ⟨fun b o h => hb.cell (p := ⟨b, o, none⟩) h, fun b o h => hb.frozen (p := ⟨b, o, none⟩) h, fun _ h => Nat.lt_of_lt_of_le h hb.size⟩
theorem below2 {w a b : World} (h : Below w.heap.size w a) (k : Below a.heap.size a b) : Below w.heap.size w b := h.trans (k.mono h.size)

/-- A cell that was there is there. -/
theorem keep {W w' : World} (hb : Below W.heap.size W w') {a : Addr} {v : Value} (h : W.cell? a = some v) : w'.cell? a = some v := by
  rw [hb.cell (World.block_lt_of_cell? W a h)]; exact h
theorem keepAlloc {W : World} (o : Obj) {a : Addr} {v : Value} (h : W.cell? a = some v) : (W.alloc o).cell? a = some v :=
  keep ((Below.refl _ W).alloc (Nat.le_refl _) o) h

/-- Two cells stored, one behind the other, into a block that is new. -/
theorem pair_stored {w w3 : World} {g : Nat} {u v : Value} (s1 s0 : Value) (hb : Below w.heap.size w w3) (hg : w.heap.size ≤ g) (h0 : w3.cell? ⟨g, 0, none⟩ = some u) (h1 : w3.cell? ⟨g, 1, none⟩ = some v) :
    ((w3.setCell ⟨g, 0, none⟩ s1).setCell ⟨g, 1, none⟩ s0).cell? ⟨g, 0, none⟩ = some s1 ∧ ((w3.setCell ⟨g, 0, none⟩ s1).setCell ⟨g, 1, none⟩ s0).cell? ⟨g, 1, none⟩ = some s0 ∧ Below w.heap.size w ((w3.setCell ⟨g, 0, none⟩ s1).setCell ⟨g, 1, none⟩ s0) := by
  have e1 : (w3.setCell ⟨g, 0, none⟩ s1).cell? ⟨g, 1, none⟩ = some v := by rw [World.cell?_setCell_other _ _ _ _ (by simp)]; exact h1
  refine ⟨?_, World.cell?_setCell_same _ _ _ e1, (hb.setCell hg _).setCell hg _⟩
  rw [World.cell?_setCell_other _ _ _ _ (by simp)]
  exact World.cell?_setCell_same _ _ _ h0

end Go.Proofs.Ytglmgenifjaakaa
