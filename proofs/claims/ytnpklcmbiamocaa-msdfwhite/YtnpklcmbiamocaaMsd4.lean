/-
  A row of ints of ours that is written, an element; rows of bytes of ours beside (no claim is made here).
-/
import Derived.Test.YtnpklcmbiamocaaMsd2
import Derived.Laws.OwnMore
namespace Go.Proofs.Ytnpklcmbiamocaa
open Go.RowKit

theorem nvals_set (l : List Nat) (k c : Nat) : (nvals l).set k (.int .i64 (c : Int)) = nvals (l.set k c) := by unfold nvals; rw [List.map_set]
/-- An element of a row of ours, written. -/
theorem NRow.put {w : World} {base : Nat} {A : Option Addr} {n cap : Nat} {l : List Nat} (h : NRow w base (.slice A n cap) l) (hn : l.length = n) (k : Nat) (hk : k < n) :
    ∃ g, A = some ⟨g, 0, none⟩ ∧ base ≤ g ∧ g < w.heap.size ∧ (∃ x, w.cell? ⟨g, k, none⟩ = some x) ∧ w.frozen? ⟨g, k, none⟩ = false ∧ ∀ c : Nat, NRow (w.setCell ⟨g, k, none⟩ (.int .i64 c)) base (.slice A n cap) (l.set k c) := by
  subst hn
  rcases h.2 with ⟨e, h0⟩ | ⟨g, cap', cur, e, hb, hg, h1, h2, h3, h4⟩
  · omega
  · simp only [Value.slice.injEq] at e
    obtain ⟨rfl, -, rfl⟩ := e
    have hlt := (World.ownsRow.lt h g rfl).2
    refine ⟨g, rfl, hb, hlt, ⟨_, by rw [World.ownsRow.cellAt h k (by omega)]; exact List.getElem?_eq_getElem (by rw [nvals_length]; exact hk)⟩, World.ownsRow.frozenAt h k, fun c => ?_⟩
    have hs := (World.ownsRow.stored h k (.int .i64 (c : Int))).1
    unfold NRow
    rw [List.length_set, ← nvals_set]
    exact hs
/-- Rows of other types stay. -/
theorem ERow.aside {w : World} {b1 b2 g k n cap : Nat} {u : Value} {es : List Ed} {l : List Nat} (h : ERow w b1 u es) (hl : NRow w b2 (.slice (some ⟨g, 0, none⟩) n cap) l) (x : Value) : ERow (w.setCell ⟨g, k, none⟩ x) b1 u es := by
  refine own_blocks h fun q hq => heap_set w _ x q fun e => ?_
  rcases h.2 with ⟨rfl, _⟩ | ⟨g', cap', cur, rfl, _, hg, _⟩
  · cases hq
  · rcases hl.2 with ⟨e2, _⟩ | ⟨g2, cap2, cur2, e2, _, hg2, _⟩
    · cases e2
    · simp only [Value.slice.injEq, Option.some.injEq, Addr.mk.injEq] at e2
      obtain ⟨⟨rfl, -, -⟩, -, -⟩ := e2
      have : g' = q := by simpa [Value.ownBlock] using hq
      subst this
      have e' : g' = g := e
      subst e'
      rw [hg] at hg2
      injection hg2 with k1
      injection k1 with _ k2
      exact absurd k2 (by decide)
def whitesL (l : List Nat) (r : Nat) : List Nat := List.replicate r 7 ++ l.drop r
theorem whites_len (l : List Nat) (r : Nat) (h : r ≤ l.length) : (whitesL l r).length = l.length := by unfold whitesL; simp; omega
theorem whites_set (l : List Nat) (r : Nat) (h : r < l.length) : (whitesL l r).set r 7 = whitesL l (r + 1) := by
  unfold whitesL
  rw [List.set_append_right _ _ (by simp), List.length_replicate, Nat.sub_self, List.drop_eq_getElem_cons h, List.set_cons_zero, List.replicate_succ', List.append_assoc]
  rfl
theorem whites_zero (l : List Nat) : whitesL l 0 = l := by unfold whitesL; simp
theorem whites_full (l : List Nat) : whitesL l l.length = List.replicate l.length 7 := by unfold whitesL; simp

end Go.Proofs.Ytnpklcmbiamocaa
