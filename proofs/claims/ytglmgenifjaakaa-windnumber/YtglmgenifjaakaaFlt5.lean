/-
  Layer 6's examples (no claim is made here).
-/
import Derived.Test.YtglmgenifjaakaaFlt3
import Derived.Test.YtglmgenifjaakaaFlt4
namespace Go.Proofs.Ytglmgenifjaakaa
open Go.RowKit

theorem srd_blk {w : World} {g : Nat} {t : TypeId} {l : List Sg} {n : Nat} (h : Blk w g t (scells l)) (hn : l.length = n) : SRd w (.slice (some ⟨g, 0, none⟩) n n) l := by
  subst hn
  refine ⟨_, _, rfl, Nat.le_refl _, fun i hi => ⟨_, rfl, h.lt, ?_⟩⟩
  have k : ∀ j, (⟨g, 0, none⟩ : Addr).add j = ⟨g, j, none⟩ := fun j => by unfold Addr.add; by_cases h0 : j = 0 <;> simp [h0]
  unfold SAt
  rw [k, k, k, k, k, k, k]
  exact ⟨h.cell _ (scells_at l i 0 hi (by omega)), h.cell _ (scells_at l i 1 hi (by omega)), h.cell _ (scells_at l i 2 hi (by omega)), h.cell _ (scells_at l i 3 hi (by omega)), h.cell _ (scells_at l i 4 hi (by omega)), h.cell _ (scells_at l i 5 hi (by omega)), h.cell _ (scells_at l i 6 hi (by omega))⟩
def exS : Sg := ⟨⟨0, 0⟩, ⟨2, 4⟩, ⟨4, 0⟩, true⟩
def exT : Sg := ⟨⟨4, 0⟩, ⟨4, 0⟩, ⟨0, 0⟩, false⟩
theorem ex_edges : edgesS [exS, exT] = [⟨⟨0, 0⟩, ⟨16, 24⟩⟩, ⟨⟨16, 24⟩, ⟨32, 32⟩⟩, ⟨⟨32, 32⟩, ⟨48, 24⟩⟩, ⟨⟨48, 24⟩, ⟨64, 0⟩⟩, ⟨⟨64, 0⟩, ⟨0, 0⟩⟩] := by decide
theorem ex_box : boxS [⟨⟨0, 0⟩, ⟨16, 24⟩⟩, ⟨⟨16, 24⟩, ⟨32, 32⟩⟩, ⟨⟨32, 32⟩, ⟨48, 24⟩⟩, ⟨⟨48, 24⟩, ⟨64, 0⟩⟩, ⟨⟨64, 0⟩, ⟨0, 0⟩⟩] = (⟨0, 0⟩, ⟨64, 32⟩) := by decide

theorem exS_in : inS exS := by unfold inS inX exS; simp
theorem exT_in : inS exT := by unfold inS inX exT; simp

end Go.Proofs.Ytglmgenifjaakaa
