/-
  A row of bytes that comes in as an argument, opened, and its length against its bulk (no claim is made here).
-/
import Derived.Test.YtnpklcmbiamocaaByt
import Derived.Deep.Slices
import Derived.OpenShut
import Derived.Lib.SmallJoins
namespace Go.Proofs.Ytnpklcmbiamocaa
open Go.ChangeShapes Go.WideShapes Go.Deep Go.RowKit

section
variable {H : Type} {enc : TypeId × Value → H} {w : World} {base : Nat} {held : Bool}
theorem open_raw {fuel : Nat} {A : Option Addr} {n cap : Nat} {x : DataW H × List MemPlace} (h : DataW.trod enc Try.prog w base (fun _ => true) held fuel 25 [.slice A n cap] = some x) :
    ∃ bs : List Nat, BRd w (.slice A n cap) bs ∧ bs.length = n := by
  rcases open_slice1 Try.underlying25 (by kernel_rfl) h with ⟨hv, _⟩ | ⟨a, len, cap', m, n', V, D, Pl, hv, hb, hl, hm, hmm, _, hx⟩
  · simp at hv
    obtain ⟨rfl, rfl, rfl⟩ := hv
    exact ⟨[], BRd.none _ _ (by simp [maxLen]), rfl⟩
  · simp only [if_true] at hmm
    subst hmm
    simp at hv
    obtain ⟨rfl, rfl, rfl⟩ := hv
    have each : ∀ i, i < n → ∃ b : Nat, b < 256 ∧ w.cell? (a.add i) = some (.int .u8 (b : Int)) := by
      intro i hi
      obtain ⟨p0, p1⟩ := hx i (by omega)
      obtain ⟨q, e, _, wf⟩ := DataW.trod_int Try.underlying5 p1
      simp at e
      have hbd := bounds_u8 wf
      exact ⟨q.toNat, by omega, by rw [p0, e, Int.toNat_of_nonneg hbd.1]⟩
    obtain ⟨f, hf⟩ := choose_lt each
    refine ⟨(List.range n).map f, ⟨some a, cap, by simp, by simp; exact hl, hm, fun b hb => ?_, fun i hi => ?_⟩, by simp⟩
    · obtain ⟨i, hi, rfl⟩ := List.mem_map.1 hb
      exact (hf i (List.mem_range.1 hi)).1
    · have hi' : i < n := by simpa using hi
      have hc := (hf i hi').2
      have hlt := World.block_lt_of_cell? w _ hc
      rw [block_add] at hlt
      have ei : ((List.range n).map f)[i] = f i := by simp
      rw [ei]
      exact ⟨a, rfl, hlt, hc⟩
end

end Go.Proofs.Ytnpklcmbiamocaa
