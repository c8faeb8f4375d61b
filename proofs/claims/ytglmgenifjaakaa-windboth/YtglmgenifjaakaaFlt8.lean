/-
  What the law's edges does to any world (no claim is made here).
-/
import Derived.Test.YtglmgenifjaakaaFlt6
import Derived.Deep.AppendLies
import Derived.Deep.RegionLawGrows
namespace Go.Proofs.Ytglmgenifjaakaa
open Go.RowKit

theorem heap_at8 {w : World} {k : Nat} (h : w.heap.size = k) (o : Obj) : (w.drew.alloc o).heap[k]? = some o := by subst h; exact heap_alloc_new w.drew o
theorem size_at8 {w : World} {k b : Nat} (hb : b ≤ k) (h : w.heap.size = k) (o : Obj) : b ≤ (w.drew.alloc o).heap.size := by subst h; rw [World.size_alloc]; exact Nat.le_succ_of_le hb
theorem ERow.push8 {w : World} {base n : Nat} {u : Value} {l : List Ed} {p0 p1 q0 q1 : Int} (hn : l.length = n) (h : w.ownsRow base 37 4 u (n + 1) (ecells l ++ [.int .i64 p0, .int .i64 p1, .int .i64 q0, .int .i64 q1])) : ERow w base u (l ++ [⟨⟨p0, p1⟩, ⟨q0, q1⟩⟩]) := by
  unfold ERow
  rw [List.length_append, hn, ecells_push]
  exact h
theorem chain_len : ∀ l : List Pt, (chain l).length ≤ l.length
  | [] => by simp [chain]
  | [_] => by simp [chain]
  | p :: q :: l => by have h1 := edge_len p q; have h2 := chain_len (q :: l); rw [chain, List.length_append, List.length_cons]; omega
def pcell (p : Pt) : List Value := [.int .i64 p.x, .int .i64 p.y]
def pcells (l : List Pt) : List Value := l.flatMap pcell
theorem pcells_at : ∀ (l : List Pt) (i j : Nat) (p : Pt), l[i]? = some p → j < 2 → (pcells l)[i * 2 + j]? = (pcell p)[j]?
  | [], i, j, p, h, hj => by cases h
  | q :: l, 0, j, p, h, hj => by
    have : q = p := by simpa using h
    subst this
    have e : pcells (q :: l) = pcell q ++ pcells l := by simp [pcells]
    rw [e, Nat.zero_mul, Nat.zero_add, List.getElem?_append_left (by simp [pcell]; omega)]
  | q :: l, i + 1, j, p, h, hj => by
    have e : pcells (q :: l) = pcell q ++ pcells l := by simp [pcells]
    rw [e, List.getElem?_append_right (by simp [pcell]; omega)]
    have := pcells_at l i j p (by simpa using h) hj
    rw [show (i + 1) * 2 + j - (pcell q).length = i * 2 + j by simp [pcell]; omega, this]
theorem chain_take : ∀ (l : List Pt) (k : Nat) (p q : Pt), l[k]? = some p → l[k + 1]? = some q → chain (l.take (k + 2)) = chain (l.take (k + 1)) ++ edge p q
  | a :: b :: l, 0, p, q, h1, h2 => by
    have e1 : a = p := by simpa using h1
    have e2 : b = q := by simpa using h2
    subst e1 e2
    simp [chain]
  | a :: b :: l, k + 1, p, q, h1, h2 => by
    have h := chain_take (b :: l) k p q (by simpa using h1) (by simpa using h2)
    rw [List.take_succ_cons] at h
    rw [List.take_succ_cons, List.take_succ_cons, chain, h]
    rw [List.take_succ_cons (i := k + 1), List.take_succ_cons, chain]
    rw [List.append_assoc]
  | [a], k, p, q, h1, h2 => by simp at h2
  | [], k, p, q, h1, h2 => by simp at h2

end Go.Proofs.Ytglmgenifjaakaa
