/-
  What On, the program's and the law's, does to any world (no claim is made here).
-/
import Derived.Test.YtglmgenifjaakaaEdg
import Derived.Test.YtglmgenifjaakaaPth1
namespace Go.Proofs.Ytglmgenifjaakaa
open Go.RowKit

/-- A piece whose numbers are small. -/
def inX (x : Int) : Prop := -4000 ≤ x ∧ x ≤ 4000
def inS (s : Sg) : Prop := inX s.a.x ∧ inX s.a.y ∧ inX s.b.x ∧ inX s.b.y ∧ inX s.c.x ∧ inX s.c.y
def segV (s : Sg) : Value := .agg #[.int .i64 s.a.x, .int .i64 s.a.y, .int .i64 s.b.x, .int .i64 s.b.y, .int .i64 s.c.x, .int .i64 s.c.y, .bool s.curve]
def ptA (p : Pt) : Value := .agg #[.int .i64 p.x, .int .i64 p.y]

theorem below_a2 (w : World) (a b : Obj) : Below w.heap.size w ((w.alloc a).alloc b) := ((Below.refl _ w).alloc (Nat.le_refl _) _).alloc (by simp) _

set_option maxHeartbeats 1600000 in
theorem pon_any (ax ay bx by' cx cy : Int) (cv : Bool) (k : Nat) (hk : k ≤ 4) (h : inS ⟨⟨ax, ay⟩, ⟨bx, by'⟩, ⟨cx, cy⟩, cv⟩) (w : World) :
    Calls Try.prog 34 #[.agg #[.int .i64 ax, .int .i64 ay, .int .i64 bx, .int .i64 by', .int .i64 cx, .int .i64 cy, .bool cv], .int .i64 k] w fun e w' => e = .returned (.agg #[.int .i64 (onX k ax bx cx), .int .i64 (onX k ay by' cy)]) ∧ Below w.heap.size w w' := by
  obtain ⟨⟨a1, a2⟩, ⟨a3, a4⟩, ⟨b1, b2⟩, ⟨b3, b4⟩, ⟨c1, c2⟩, c3, c4⟩ := h
  simp only [] at a1 a2 a3 a4 b1 b2 b3 b4 c1 c2 c3 c4
  obtain rfl | rfl | rfl | rfl | rfl : k = 0 ∨ k = 1 ∨ k = 2 ∨ k = 3 ∨ k = 4 := by omega
  all_goals
    go_enter Try.func34, Try.ntmps34
    go_wp2
  · exact bodyPost_ret (v := .agg #[.int .i64 (onX 0 ax bx cx), .int .i64 (onX 0 ay by' cy)]) (by simp [results, Try.results34, go_sem, onX]) rfl ⟨rfl, below_a2 _ _ _⟩
  · exact bodyPost_ret (v := .agg #[.int .i64 (onX 1 ax bx cx), .int .i64 (onX 1 ay by' cy)]) (by simp [results, Try.results34, go_sem, onX]) rfl ⟨rfl, below_a2 _ _ _⟩
  · exact bodyPost_ret (v := .agg #[.int .i64 (onX 2 ax bx cx), .int .i64 (onX 2 ay by' cy)]) (by simp [results, Try.results34, go_sem, onX]) rfl ⟨rfl, below_a2 _ _ _⟩
  · exact bodyPost_ret (v := .agg #[.int .i64 (onX 3 ax bx cx), .int .i64 (onX 3 ay by' cy)]) (by simp [results, Try.results34, go_sem, onX]) rfl ⟨rfl, below_a2 _ _ _⟩
  · exact bodyPost_ret (v := .agg #[.int .i64 (onX 4 ax bx cx), .int .i64 (onX 4 ay by' cy)]) (by simp [results, Try.results34, go_sem, onX]) rfl ⟨rfl, below_a2 _ _ _⟩

end Go.Proofs.Ytglmgenifjaakaa
