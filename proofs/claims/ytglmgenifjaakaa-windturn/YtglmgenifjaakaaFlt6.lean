/-
  A piece whose numbers a law cuts (no claim is made here).
-/
import Derived.Test.YtglmgenifjaakaaFlt5
namespace Go.Proofs.Ytglmgenifjaakaa
open Go.RowKit

theorem pon_at (ax ay bx by' cx cy : Int) (cv : Bool) (j : Int) (k : Nat) (hj : (k : Int) = j) (hk : k ≤ 4) (h : inS ⟨⟨ax, ay⟩, ⟨bx, by'⟩, ⟨cx, cy⟩, cv⟩) (X Y : Int) (hX : onX k ax bx cx = X) (hY : onX k ay by' cy = Y) (w : World) :
    Calls Try.prog 34 #[.agg #[.int .i64 ax, .int .i64 ay, .int .i64 bx, .int .i64 by', .int .i64 cx, .int .i64 cy, .bool cv], .int .i64 j] w fun e w' => e = .returned (.agg #[.int .i64 X, .int .i64 Y]) ∧ Below w.heap.size w w' := by
  subst hj hX hY
  exact pon_any ax ay bx by' cx cy cv k hk h w
def cutX (x : Int) : Int := x.tmod 511
theorem cutX_in (x : Int) : -510 ≤ cutX x ∧ cutX x ≤ 510 := by
  unfold cutX
  have h := Int.tmod_lt_of_pos x (show (0 : Int) < 511 by omega)
  have h2 := Int.lt_tmod_of_pos x (show (0 : Int) < 511 by omega)
  omega
def cutS (s : Sg) : Sg := ⟨⟨cutX s.a.x, cutX s.a.y⟩, ⟨cutX s.b.x, cutX s.b.y⟩, ⟨cutX s.c.x, cutX s.c.y⟩, s.curve⟩
theorem cutS_in (s : Sg) : inS (cutS s) := by
  have h : ∀ x, inX (cutX x) := fun x => by have := cutX_in x; unfold inX; omega
  exact ⟨h _, h _, h _, h _, h _, h _⟩
/-- A piece's cells, some of its points cut. -/
def cutR (s : Sg) (r : Nat) : List Value := (if 0 < r then [.int .i64 (cutX s.a.x), .int .i64 (cutX s.a.y)] else [.int .i64 s.a.x, .int .i64 s.a.y]) ++ (if 1 < r then [.int .i64 (cutX s.b.x), .int .i64 (cutX s.b.y)] else [.int .i64 s.b.x, .int .i64 s.b.y]) ++ (if 2 < r then [.int .i64 (cutX s.c.x), .int .i64 (cutX s.c.y)] else [.int .i64 s.c.x, .int .i64 s.c.y]) ++ [.bool s.curve]
theorem cutR_three (s : Sg) : cutR s 3 = scell (cutS s) := rfl
theorem cutR_zero (s : Sg) : cutR s 0 = scell s := rfl
end Go.Proofs.Ytglmgenifjaakaa
