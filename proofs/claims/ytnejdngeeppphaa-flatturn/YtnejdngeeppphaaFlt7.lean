/-
  A curve from its other end, as lists of numbers; plane.Dot (no claim is made here).
-/
import Derived.Test.YtnejdngeeppphaaFlt6
import Derived.Test.YtnejdngeeppphaaRootSq
namespace Go.Proofs.Ytnejdngeeppphaa
open Go.RowKit

def turnS (s : Sg) : Sg := ⟨s.c, s.b, s.a, s.curve⟩
def swapE (e : Ed) : Ed := ⟨e.b, e.a⟩
theorem turn_on (s : Sg) (k j : Nat) (h : k + j = 4) : onV (turnS s) k = onV s j := by
  obtain ⟨rfl, rfl⟩ | ⟨rfl, rfl⟩ | ⟨rfl, rfl⟩ | ⟨rfl, rfl⟩ | ⟨rfl, rfl⟩ : (k = 0 ∧ j = 4) ∨ (k = 1 ∧ j = 3) ∨ (k = 2 ∧ j = 2) ∨ (k = 3 ∧ j = 1) ∨ (k = 4 ∧ j = 0) := by omega
  all_goals
    simp only [onV, turnS, onX, Pt.mk.injEq]
    try omega
theorem edge_rev (p q : Pt) : ((edge p q).map swapE).reverse = edge q p := by
  unfold edge
  by_cases h : p = q
  · rw [if_pos h, if_pos h.symm]; rfl
  · rw [if_neg h, if_neg (fun e => h e.symm)]; rfl
theorem turn_edges (s : Sg) : edgesOf (turnS s) = ((edgesOf s).map swapE).reverse := by
  have hc : (turnS s).curve = s.curve := rfl
  unfold edgesOf ptsOf
  rw [hc]
  split
  · simp only [chain, turn_on s 0 4 rfl, turn_on s 1 3 rfl, turn_on s 2 2 rfl, turn_on s 3 1 rfl, turn_on s 4 0 rfl, List.append_nil, List.map_append, List.reverse_append, edge_rev, List.append_assoc]
  · simp only [chain, turn_on s 0 4 rfl, turn_on s 4 0 rfl, List.append_nil, edge_rev]
theorem turn_len (s : Sg) : (edgesOf (turnS s)).length = (edgesOf s).length := by rw [turn_edges]; simp
theorem turn_at (s : Sg) (i j : Nat) (e : Ed) (he : (edgesOf s)[i]? = some e) (hj : i + j + 1 = (edgesOf s).length) : (edgesOf (turnS s))[j]? = some (swapE e) := by
  rw [turn_edges, List.getElem?_reverse (by simp; omega), List.getElem?_map, List.length_map]
  rw [show (edgesOf s).length - 1 - j = i by omega, he]
  rfl
theorem edgesS_one (s : Sg) : edgesS [s] = edgesOf s := by simp [edgesS]
theorem edges_one (s : Sg) (hin : inS s) (g : Nat) (t : TypeId) (W : World) (h : Blk W g t (scell s)) :
    Calls Try.prog 13 #[.slice (some ⟨g, 0, none⟩) 1 1] W fun e w' => ∃ u, e = .returned u ∧ ERow w' W.heap.size u (edgesOf s) ∧ Below W.heap.size W w' := by
  have H := edges_any (.slice (some ⟨g, 0, none⟩) 1 1) [s] W (srd_blk (l := [s]) (by simpa [scells] using h) rfl) (by simp) (by intro s' hs; simp at hs; subst hs; exact hin)
  rwa [edgesS_one] at H
set_option maxHeartbeats 400000 in
theorem dot_one (w : World) : Calls Try.prog 20 #[.agg #[.int .i64 1, .int .i64 0], .agg #[.int .i64 1, .int .i64 0]] w fun e w' => e = .returned (.int .i64 1) ∧ Below w.heap.size w w' := by
  go_enter Try.func20, Try.ntmps20
  go_wp2
  go_ret
  exact ⟨rfl, below_a2 _ _ _⟩
theorem isqrt_one : isqrt 1 = 1 := isqrt_unique 1 1 (by omega) (by omega) (by omega)
theorem sqrt_one (w : World) : Calls Try.prog 21 #[.int .i64 1] w fun e w' => e = .returned (.int .i64 1) ∧ Below w.heap.size w w' := by
  refine (sqrt_any 1 (by omega) w).mono ?_
  rintro e w' ⟨rfl, rfl⟩
  rw [isqrt_one]
  exact ⟨rfl, Below.refl _ _⟩

end Go.Proofs.Ytnejdngeeppphaa
