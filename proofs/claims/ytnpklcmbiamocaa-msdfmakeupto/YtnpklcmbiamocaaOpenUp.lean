/-
  The length of a row of bytes that comes in against the bulk of what is read: for an '..UptoSaid' (no claim is made here).
-/
import Derived.Test.YtnpklcmbiamocaaOpen12
namespace Go.Proofs.Ytnpklcmbiamocaa
open Go.ChangeShapes Go.WideShapes Go.Deep Go.RowKit

theorem bulk_one {H : Type} (d : DataW H) : 1 ≤ Rows.uptoBulk d := by
  cases d with
  | lit l => cases l <;> simp [Rows.uptoBulk]
  | nil => simp [Rows.uptoBulk]
  | ptr d => simp [Rows.uptoBulk]
  | slice elems spare => simp [Rows.uptoBulk]
  | agg parts => simp [Rows.uptoBulk]
  | iface t d => simp [Rows.uptoBulk]
  | map entries => simp [Rows.uptoBulk]
  | held h => simp [Rows.uptoBulk]
theorem bulk_len {H : Type} (l : List (DataW H)) : l.length ≤ Rows.uptoBulkAll l := by
  induction l with
  | nil => simp [Rows.uptoBulkAll]
  | cons x r ih => have := bulk_one x; simp only [Rows.uptoBulkAll, List.length_cons]; omega

section
variable {H : Type} {enc : TypeId × Value → H} {w : World} {base : Nat} {held : Bool}
theorem raw_bulk {fuel : Nat} {A : Option Addr} {n cap : Nat} {x : DataW H × List MemPlace} (h : DataW.trod enc Try.prog w base (fun _ => true) held fuel 25 [.slice A n cap] = some x) : n ≤ Rows.uptoBulk x.1 := by
  rcases open_slice Try.underlying25 h with ⟨hv, _⟩ | ⟨a, len, cap', m, k, D, Pl, hv, hb, hl, hm, hmm, hx, _⟩
  · simp at hv
    obtain ⟨rfl, rfl, rfl⟩ := hv
    exact Nat.zero_le _
  · simp at hv
    obtain ⟨rfl, rfl, rfl⟩ := hv
    subst hx
    simp only [Rows.uptoBulk]
    have := bulk_len ((List.range n).map D)
    rw [List.length_map, List.length_range] at this
    omega
end

end Go.Proofs.Ytnpklcmbiamocaa
