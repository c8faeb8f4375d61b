/-
  Flt1 Flt2 Flt3 Flt4 Flt5 Flt6 Flt8 Flt9 Flt10 Flt12 Flt14 in one text (no claim is made here).
-/
import Derived.Test.YteiildeaccngjaaMdot
import Derived.Test.YteiildeaccngjaaMpth
import Derived.Deep.AppendLies
import Derived.Deep.RegionLawGrows
import Derived.BigQuiet
import Derived.Test.YteiildeaccngjaaMth
namespace Go.Proofs.Yteiildeaccngjaa
open Go.RowKit

/-- A piece whose numbers are small. -/
def inX (x : Int) : Prop := -4000 ≤ x ∧ x ≤ 4000
def inS (s : Sg) : Prop := inX s.a.x ∧ inX s.a.y ∧ inX s.b.x ∧ inX s.b.y ∧ inX s.c.x ∧ inX s.c.y
def segV (s : Sg) : Value := .agg #[.int .i64 s.a.x, .int .i64 s.a.y, .int .i64 s.b.x, .int .i64 s.b.y, .int .i64 s.c.x, .int .i64 s.c.y, .bool s.curve]
def ptA (p : Pt) : Value := .agg #[.int .i64 p.x, .int .i64 p.y]

theorem below_a2 (w : World) (a b : Obj) : Below w.heap.size w ((w.alloc a).alloc b) := ((Below.refl _ w).alloc (Nat.le_refl _) _).alloc (by simp) _

set_option maxHeartbeats 1600000 in
set_option maxRecDepth 100000 in
theorem pon_any (ax ay bx by' cx cy : Int) (cv : Bool) (k : Nat) (hk : k ≤ 4) (h : inS ⟨⟨ax, ay⟩, ⟨bx, by'⟩, ⟨cx, cy⟩, cv⟩) (w : World) :
    Calls Try.prog 63 #[.agg #[.int .i64 ax, .int .i64 ay, .int .i64 bx, .int .i64 by', .int .i64 cx, .int .i64 cy, .bool cv], .int .i64 k] w fun e w' => e = .returned (.agg #[.int .i64 (onX k ax bx cx), .int .i64 (onX k ay by' cy)]) ∧ Below w.heap.size w w' := by
  obtain ⟨⟨a1, a2⟩, ⟨a3, a4⟩, ⟨b1, b2⟩, ⟨b3, b4⟩, ⟨c1, c2⟩, c3, c4⟩ := h
  simp only [] at a1 a2 a3 a4 b1 b2 b3 b4 c1 c2 c3 c4
  obtain rfl | rfl | rfl | rfl | rfl : k = 0 ∨ k = 1 ∨ k = 2 ∨ k = 3 ∨ k = 4 := by omega
  all_goals
    go_enter Try.func63, Try.ntmps63
    go_wp2
  · exact bodyPost_ret (v := .agg #[.int .i64 (onX 0 ax bx cx), .int .i64 (onX 0 ay by' cy)]) (by simp [results, Try.results63, go_sem, onX]) rfl ⟨rfl, below_a2 _ _ _⟩
  · exact bodyPost_ret (v := .agg #[.int .i64 (onX 1 ax bx cx), .int .i64 (onX 1 ay by' cy)]) (by simp [results, Try.results63, go_sem, onX]) rfl ⟨rfl, below_a2 _ _ _⟩
  · exact bodyPost_ret (v := .agg #[.int .i64 (onX 2 ax bx cx), .int .i64 (onX 2 ay by' cy)]) (by simp [results, Try.results63, go_sem, onX]) rfl ⟨rfl, below_a2 _ _ _⟩
  · exact bodyPost_ret (v := .agg #[.int .i64 (onX 3 ax bx cx), .int .i64 (onX 3 ay by' cy)]) (by simp [results, Try.results63, go_sem, onX]) rfl ⟨rfl, below_a2 _ _ _⟩
  · exact bodyPost_ret (v := .agg #[.int .i64 (onX 4 ax bx cx), .int .i64 (onX 4 ay by' cy)]) (by simp [results, Try.results63, go_sem, onX]) rfl ⟨rfl, below_a2 _ _ _⟩

end Go.Proofs.Yteiildeaccngjaa

namespace Go.Proofs.Yteiildeaccngjaa
open Go.RowKit

theorem S7_call {w W W' : World} {k : Nat} {v0 v1 v2 v3 v4 v5 v6 : Value} (hb : Below W.heap.size W W') (hh : W.cell? ⟨k, 0, none⟩ = some v0 ∧ W.cell? ⟨k, 1, none⟩ = some v1 ∧ W.cell? ⟨k, 2, none⟩ = some v2 ∧ W.cell? ⟨k, 3, none⟩ = some v3 ∧ W.cell? ⟨k, 4, none⟩ = some v4 ∧ W.cell? ⟨k, 5, none⟩ = some v5 ∧ W.cell? ⟨k, 6, none⟩ = some v6 ∧ Below w.heap.size w W) : W'.cell? ⟨k, 0, none⟩ = some v0 ∧ W'.cell? ⟨k, 1, none⟩ = some v1 ∧ W'.cell? ⟨k, 2, none⟩ = some v2 ∧ W'.cell? ⟨k, 3, none⟩ = some v3 ∧ W'.cell? ⟨k, 4, none⟩ = some v4 ∧ W'.cell? ⟨k, 5, none⟩ = some v5 ∧ W'.cell? ⟨k, 6, none⟩ = some v6 ∧ Below w.heap.size w W' := by
  obtain ⟨h0, h1, h2, h3, h4, h5, h6, hB⟩ := hh
  exact ⟨keepc hb h0, keepc hb h1, keepc hb h2, keepc hb h3, keepc hb h4, keepc hb h5, keepc hb h6, hB.trans (hb.mono hB.size)⟩
theorem S7_alloc {w W : World} {k : Nat} {v0 v1 v2 v3 v4 v5 v6 : Value} (o : Obj) (hh : W.cell? ⟨k, 0, none⟩ = some v0 ∧ W.cell? ⟨k, 1, none⟩ = some v1 ∧ W.cell? ⟨k, 2, none⟩ = some v2 ∧ W.cell? ⟨k, 3, none⟩ = some v3 ∧ W.cell? ⟨k, 4, none⟩ = some v4 ∧ W.cell? ⟨k, 5, none⟩ = some v5 ∧ W.cell? ⟨k, 6, none⟩ = some v6 ∧ Below w.heap.size w W) : (W.alloc o).cell? ⟨k, 0, none⟩ = some v0 ∧ (W.alloc o).cell? ⟨k, 1, none⟩ = some v1 ∧ (W.alloc o).cell? ⟨k, 2, none⟩ = some v2 ∧ (W.alloc o).cell? ⟨k, 3, none⟩ = some v3 ∧ (W.alloc o).cell? ⟨k, 4, none⟩ = some v4 ∧ (W.alloc o).cell? ⟨k, 5, none⟩ = some v5 ∧ (W.alloc o).cell? ⟨k, 6, none⟩ = some v6 ∧ Below w.heap.size w (W.alloc o) := S7_call ((Below.refl _ W).alloc (Nat.le_refl _) o) hh
theorem S7_drew {w W : World} {k : Nat} {v0 v1 v2 v3 v4 v5 v6 : Value} (hh : W.cell? ⟨k, 0, none⟩ = some v0 ∧ W.cell? ⟨k, 1, none⟩ = some v1 ∧ W.cell? ⟨k, 2, none⟩ = some v2 ∧ W.cell? ⟨k, 3, none⟩ = some v3 ∧ W.cell? ⟨k, 4, none⟩ = some v4 ∧ W.cell? ⟨k, 5, none⟩ = some v5 ∧ W.cell? ⟨k, 6, none⟩ = some v6 ∧ Below w.heap.size w W) : W.drew.cell? ⟨k, 0, none⟩ = some v0 ∧ W.drew.cell? ⟨k, 1, none⟩ = some v1 ∧ W.drew.cell? ⟨k, 2, none⟩ = some v2 ∧ W.drew.cell? ⟨k, 3, none⟩ = some v3 ∧ W.drew.cell? ⟨k, 4, none⟩ = some v4 ∧ W.drew.cell? ⟨k, 5, none⟩ = some v5 ∧ W.drew.cell? ⟨k, 6, none⟩ = some v6 ∧ Below w.heap.size w W.drew := by
  obtain ⟨h0, h1, h2, h3, h4, h5, h6, hB⟩ := hh
  exact ⟨h0, h1, h2, h3, h4, h5, h6, hB.drew⟩
theorem S7_set {w W : World} {k r i : Nat} {v0 v1 v2 v3 v4 v5 v6 : Value} (v : Value) (n0 : ¬ k = r) (hg : w.heap.size ≤ r) (hh : W.cell? ⟨k, 0, none⟩ = some v0 ∧ W.cell? ⟨k, 1, none⟩ = some v1 ∧ W.cell? ⟨k, 2, none⟩ = some v2 ∧ W.cell? ⟨k, 3, none⟩ = some v3 ∧ W.cell? ⟨k, 4, none⟩ = some v4 ∧ W.cell? ⟨k, 5, none⟩ = some v5 ∧ W.cell? ⟨k, 6, none⟩ = some v6 ∧ Below w.heap.size w W) : (W.setCell ⟨r, i, none⟩ v).cell? ⟨k, 0, none⟩ = some v0 ∧ (W.setCell ⟨r, i, none⟩ v).cell? ⟨k, 1, none⟩ = some v1 ∧ (W.setCell ⟨r, i, none⟩ v).cell? ⟨k, 2, none⟩ = some v2 ∧ (W.setCell ⟨r, i, none⟩ v).cell? ⟨k, 3, none⟩ = some v3 ∧ (W.setCell ⟨r, i, none⟩ v).cell? ⟨k, 4, none⟩ = some v4 ∧ (W.setCell ⟨r, i, none⟩ v).cell? ⟨k, 5, none⟩ = some v5 ∧ (W.setCell ⟨r, i, none⟩ v).cell? ⟨k, 6, none⟩ = some v6 ∧ Below w.heap.size w (W.setCell ⟨r, i, none⟩ v) := by
  obtain ⟨h0, h1, h2, h3, h4, h5, h6, hB⟩ := hh
  have e : ∀ j, (W.setCell ⟨r, i, none⟩ v).cell? ⟨k, j, none⟩ = W.cell? ⟨k, j, none⟩ := fun j => World.cell?_setCell_other _ _ _ _ (by intro h; simp only [Addr.mk.injEq] at h; omega)
  exact ⟨(e 0).trans h0, (e 1).trans h1, (e 2).trans h2, (e 3).trans h3, (e 4).trans h4, (e 5).trans h5, (e 6).trans h6, hB.setCell hg v⟩
theorem S7_blk {W : World} {k : Nat} {t : TypeId} {v0 v1 v2 v3 v4 v5 v6 : Value} (h : Blk W k t [v0, v1, v2, v3, v4, v5, v6]) : W.cell? ⟨k, 0, none⟩ = some v0 ∧ W.cell? ⟨k, 1, none⟩ = some v1 ∧ W.cell? ⟨k, 2, none⟩ = some v2 ∧ W.cell? ⟨k, 3, none⟩ = some v3 ∧ W.cell? ⟨k, 4, none⟩ = some v4 ∧ W.cell? ⟨k, 5, none⟩ = some v5 ∧ W.cell? ⟨k, 6, none⟩ = some v6 := ⟨h.cell 0 rfl, h.cell 1 rfl, h.cell 2 rfl, h.cell 3 rfl, h.cell 4 rfl, h.cell 5 rfl, h.cell 6 rfl⟩

theorem enew4 {W : World} {g : Nat} {a b c d : Value} {t : TypeId} (h : g = W.heap.size) : Blk (W.alloc (.cells #[a, b, c, d] t)) g t [a, b, c, d] := Blk.new W t [a, b, c, d] h
theorem eset4 {W : World} {g : Nat} {x y z u a b c d : Value} {t : TypeId} (h : Blk W g t [x, y, z, u]) : Blk ((((W.setCell ⟨g, 0, none⟩ a).setCell ⟨g, 1, none⟩ b).setCell ⟨g, 2, none⟩ c).setCell ⟨g, 3, none⟩ d) g t [a, b, c, d] := (((h.set 0 a).set 1 b).set 2 c).set 3 d

/-- What the closure leaves. -/
def Lead (w : World) (gs base : Nat) (v : Value) (l : List Ed) (p q : Pt) (e : Ending) (w' : World) : Prop :=
  e = .returned (.tuple #[]) ∧ (∃ v', Blk w' gs 26 [v'] ∧ ERow w' base v' (l ++ edge p q)) ∧ But (fun k => k = gs ∨ v.ownBlock = some k) w w'

set_option maxHeartbeats 1600000 in
set_option maxRecDepth 100000 in
theorem lead_any (ax ay bx by' cx cy : Int) (cv : Bool) (i j : Nat) (hi : i ≤ 4) (hj : j ≤ 4) (hin : inS ⟨⟨ax, ay⟩, ⟨bx, by'⟩, ⟨cx, cy⟩, cv⟩) (gs base : Nat) (v : Value) (l : List Ed) (w : World) (hs : Blk w gs 26 [v]) (hv : ERow w base v l)
    (h2 : gs < base) (hl : l.length ≤ 20000) (hbase : base ≤ w.heap.size) :
    Calls Try.prog 62 #[.agg #[.int .i64 ax, .int .i64 ay, .int .i64 bx, .int .i64 by', .int .i64 cx, .int .i64 cy, .bool cv], .int .i64 i, .int .i64 j, .pointer (some ⟨gs, 0, none⟩)] w (Lead w gs base v l (onV ⟨⟨ax, ay⟩, ⟨bx, by'⟩, ⟨cx, cy⟩, cv⟩ i) (onV ⟨⟨ax, ay⟩, ⟨bx, by'⟩, ⟨cx, cy⟩, cv⟩ j)) := by
  have HS := Lib.hid hs
  have HV := Lib.hid hv
  have HP := Lib.hid (fun w => pon_any ax ay bx by' cx cy cv i hi hin w)
  have HQ := Lib.hid (fun w => pon_any ax ay bx by' cx cy cv j hj hin w)
  have hP : onV ⟨⟨ax, ay⟩, ⟨bx, by'⟩, ⟨cx, cy⟩, cv⟩ i = ⟨onX i ax bx cx, onX i ay by' cy⟩ := rfl
  have hQ : onV ⟨⟨ax, ay⟩, ⟨bx, by'⟩, ⟨cx, cy⟩, cv⟩ j = ⟨onX j ax bx cx, onX j ay by' cy⟩ := rfl
  rw [hP, hQ]
  clear hP hQ
  generalize onX i ax bx cx = px at *
  generalize onX i ay by' cy = py at *
  generalize onX j ax bx cx = qx at *
  generalize onX j ay by' cy = qy at *
  have HB1 := Lib.hid (Blk.new w 119 [.int .i64 ax, .int .i64 ay, .int .i64 bx, .int .i64 by', .int .i64 cx, .int .i64 cy, .bool cv] rfl)
  have hS0 := S7_blk HB1.out
  have s0 := hs.lt
  clear hs hv hin
  go_enter Try.func62, Try.ntmps62
  go_wp2_with fail
  obtain ⟨ws, hws⟩ : ∃ ws, ws = w.alloc (.cells #[.int .i64 ax, .int .i64 ay, .int .i64 bx, .int .i64 by', .int .i64 cx, .int .i64 cy, .bool cv] 119) := ⟨_, rfl⟩
  have hsz : w.heap.size < ws.heap.size := by rw [hws]; simp
  have B0 : Below w.heap.size w ws := by rw [hws]; exact (Below.refl _ w).alloc (Nat.le_refl _) _
  rw [← hws] at HB1 hS0 ⊢
  have HWS := Lib.hid hws
  clear hws
  have hD : ws.drew.cell? ⟨w.heap.size, 0, none⟩ = some (.int .i64 ax) ∧ ws.drew.cell? ⟨w.heap.size, 1, none⟩ = some (.int .i64 ay) ∧ ws.drew.cell? ⟨w.heap.size, 2, none⟩ = some (.int .i64 bx) ∧ ws.drew.cell? ⟨w.heap.size, 3, none⟩ = some (.int .i64 by') ∧ ws.drew.cell? ⟨w.heap.size, 4, none⟩ = some (.int .i64 cx) ∧ ws.drew.cell? ⟨w.heap.size, 5, none⟩ = some (.int .i64 cy) ∧ ws.drew.cell? ⟨w.heap.size, 6, none⟩ = some (.bool cv) ∧ Below ws.heap.size ws ws.drew := ⟨hS0.1, hS0.2.1, hS0.2.2.1, hS0.2.2.2.1, hS0.2.2.2.2.1, hS0.2.2.2.2.2.1, hS0.2.2.2.2.2.2, (Below.refl _ _).drew⟩
  have hE : ws.cell? ⟨w.heap.size, 0, none⟩ = some (.int .i64 ax) ∧ ws.cell? ⟨w.heap.size, 1, none⟩ = some (.int .i64 ay) ∧ ws.cell? ⟨w.heap.size, 2, none⟩ = some (.int .i64 bx) ∧ ws.cell? ⟨w.heap.size, 3, none⟩ = some (.int .i64 by') ∧ ws.cell? ⟨w.heap.size, 4, none⟩ = some (.int .i64 cx) ∧ ws.cell? ⟨w.heap.size, 5, none⟩ = some (.int .i64 cy) ∧ ws.cell? ⟨w.heap.size, 6, none⟩ = some (.bool cv) ∧ Below ws.heap.size ws ws := ⟨hS0.1, hS0.2.1, hS0.2.2.1, hS0.2.2.2.1, hS0.2.2.2.2.1, hS0.2.2.2.2.2.1, hS0.2.2.2.2.2.2, Below.refl _ _⟩
  go_cut [7] (fun s7 wx => ∃ g : Nat, s7 = .pointer (some ⟨g, 0, none⟩) ∧ Hid (Blk wx g 50 [.int .i64 px, .int .i64 py, .int .i64 qx, .int .i64 qy]) ∧ (wx.cell? ⟨w.heap.size, 0, none⟩ = some (.int .i64 ax) ∧ wx.cell? ⟨w.heap.size, 1, none⟩ = some (.int .i64 ay) ∧ wx.cell? ⟨w.heap.size, 2, none⟩ = some (.int .i64 bx) ∧ wx.cell? ⟨w.heap.size, 3, none⟩ = some (.int .i64 by') ∧ wx.cell? ⟨w.heap.size, 4, none⟩ = some (.int .i64 cx) ∧ wx.cell? ⟨w.heap.size, 5, none⟩ = some (.int .i64 cy) ∧ wx.cell? ⟨w.heap.size, 6, none⟩ = some (.bool cv) ∧ Below ws.heap.size ws wx))
  case first =>
    go_region_held3 (fun wx => wx.cell? ⟨w.heap.size, 0, none⟩ = some (.int .i64 ax) ∧ wx.cell? ⟨w.heap.size, 1, none⟩ = some (.int .i64 ay) ∧ wx.cell? ⟨w.heap.size, 2, none⟩ = some (.int .i64 bx) ∧ wx.cell? ⟨w.heap.size, 3, none⟩ = some (.int .i64 by') ∧ wx.cell? ⟨w.heap.size, 4, none⟩ = some (.int .i64 cx) ∧ wx.cell? ⟨w.heap.size, 5, none⟩ = some (.int .i64 cy) ∧ wx.cell? ⟨w.heap.size, 6, none⟩ = some (.bool cv) ∧ Below ws.heap.size ws wx)
      ((repeat (first | with_reducible assumption | with_reducible refine S7_alloc _ ?_ | with_reducible refine S7_drew ?_ | with_reducible refine S7_set _ (by omega) (by omega) ?_)))
      (first
        | (go_at_call 63; (with_reducible refine (HP.out _).mono ?_); rintro e w2 ⟨rfl, hb⟩; have hS2 : w2.cell? ⟨w.heap.size, 0, none⟩ = some (.int .i64 ax) ∧ w2.cell? ⟨w.heap.size, 1, none⟩ = some (.int .i64 ay) ∧ w2.cell? ⟨w.heap.size, 2, none⟩ = some (.int .i64 bx) ∧ w2.cell? ⟨w.heap.size, 3, none⟩ = some (.int .i64 by') ∧ w2.cell? ⟨w.heap.size, 4, none⟩ = some (.int .i64 cx) ∧ w2.cell? ⟨w.heap.size, 5, none⟩ = some (.int .i64 cy) ∧ w2.cell? ⟨w.heap.size, 6, none⟩ = some (.bool cv) ∧ Below ws.heap.size ws w2 := S7_call hb (by (repeat (first | with_reducible assumption | with_reducible refine S7_alloc _ ?_ | with_reducible refine S7_drew ?_))); have hz2 := hS2.2.2.2.2.2.2.2.size; (first | (have T : Blk w2 ws.heap.size 50 [.int .i64 0, .int .i64 0, .int .i64 0, .int .i64 0] := (by first | exact (Blk.new _ _ _ rfl).keep hb | exact (Blk.new _ _ _ rfl).drew.keep hb); have Tc0 := T.cell 0 rfl; have Tc1 := T.cell 1 rfl; have Tc2 := T.cell 2 rfl; have Tc3 := T.cell 3 rfl; have Tf0 := T.frozen 0; have Tf1 := T.frozen 1; have Tf2 := T.frozen 2; have Tf3 := T.frozen 3; have Tz := T.lt) | skip))
        | (go_at_call 63; (with_reducible refine (HQ.out _).mono ?_); rintro e w3 ⟨rfl, hb⟩; have hS3 : w3.cell? ⟨w.heap.size, 0, none⟩ = some (.int .i64 ax) ∧ w3.cell? ⟨w.heap.size, 1, none⟩ = some (.int .i64 ay) ∧ w3.cell? ⟨w.heap.size, 2, none⟩ = some (.int .i64 bx) ∧ w3.cell? ⟨w.heap.size, 3, none⟩ = some (.int .i64 by') ∧ w3.cell? ⟨w.heap.size, 4, none⟩ = some (.int .i64 cx) ∧ w3.cell? ⟨w.heap.size, 5, none⟩ = some (.int .i64 cy) ∧ w3.cell? ⟨w.heap.size, 6, none⟩ = some (.bool cv) ∧ Below ws.heap.size ws w3 := S7_call hb (by (repeat (first | with_reducible assumption | with_reducible refine S7_alloc _ ?_ | with_reducible refine S7_drew ?_))); have hz3 := hS3.2.2.2.2.2.2.2.size; (first | (have T := T.keep hb; have Tc0 := T.cell 0 rfl; have Tc1 := T.cell 1 rfl; have Tc2 := T.cell 2 rfl; have Tc3 := T.cell 3 rfl; have Tf0 := T.frozen 0; have Tf1 := T.frozen 1; have Tf2 := T.frozen 2; have Tf3 := T.frozen 3; have Tz := T.lt) | (have T : Blk w3 w2.heap.size 50 [.int .i64 0, .int .i64 0, .int .i64 0, .int .i64 0] := (Blk.new _ _ _ rfl).keep hb; have Tc0 := T.cell 0 rfl; have Tc1 := T.cell 1 rfl; have Tc2 := T.cell 2 rfl; have Tc3 := T.cell 3 rfl; have Tf0 := T.frozen 0; have Tf1 := T.frozen 1; have Tf2 := T.frozen 2; have Tf3 := T.frozen 3; have Tz := T.lt) | skip)))
    all_goals
      go_wp2_with fail
      go_meet
    all_goals
      first
        | with_reducible exact ⟨_, rfl, Lib.hid (enew4 rfl), by assumption⟩
        | with_reducible exact ⟨_, rfl, Lib.hid (eset4 (by assumption)), by assumption⟩
  case rest =>
    obtain ⟨g, rfl, HG, hSS⟩ := hcut
    have HBW := Lib.hid hSS.2.2.2.2.2.2.2
    clear hSS
    have g0 := HG.out.cell 0 rfl
    have g1 := HG.out.cell 1 rfl
    have g2 := HG.out.cell 2 rfl
    have g3 := HG.out.cell 3 rfl
    have BW : Below w.heap.size w wc := B0.trans (HBW.out.mono B0.size)
    have K1 := HS.out.keep BW
    have K2 := HV.out.below BW
    have HK1 := Lib.hid K1
    have HK2 := Lib.hid K2
    have HBB := Lib.hid BW
    have hbase2 : base ≤ wc.heap.size := Nat.le_trans hbase BW.size
    have e0 := K1.cell 0 rfl
    have e1 := K1.frozen 0
    have e2 := K1.lt
    obtain ⟨n, hn⟩ : ∃ n, l.length = n := ⟨_, rfl⟩
    rw [hn] at hl
    obtain ⟨A, cap, rfl⟩ := K2.form
    rw [hn] at e0 HK1 HK2
    have HN := Lib.hid hn
    clear K1 K2 BW hS0 hD hE HBW HB1 HWS B0 hsz s0
    by_cases hpq : px = qx ∧ py = qy
    · obtain ⟨rfl, rfl⟩ := hpq
      have hE0 : edge ⟨px, py⟩ ⟨px, py⟩ = [] := by unfold edge; rw [if_pos rfl]
      have HE0 := Lib.hid hE0
      clear hn hE0
      go_wp2_with fail
      exact bodyPost_ret (v := .tuple #[]) (by simp [results, Try.results62, go_sem]) rfl ⟨rfl, ⟨_, HK1.out, by rw [HE0.out, List.append_nil]; exact HK2.out⟩, But.of HBB.out⟩
    · have hE0 : edge ⟨px, py⟩ ⟨qx, qy⟩ = [⟨⟨px, py⟩, ⟨qx, qy⟩⟩] := by unfold edge; rw [if_neg (by intro h; injection h with h1 h2; exact hpq ⟨h1, h2⟩)]
      have HE0 := Lib.hid hE0
      obtain ⟨i0, hi0, hz0, hz1, hz2⟩ := infos einfo
      have HT2 := Lib.hid (HK1.out.alloc (.cells #[.int .i64 px, .int .i64 py, .int .i64 qx, .int .i64 qy] 50))
      have HT4 := Lib.hid (own_blocks (show wc.ownsRow base 50 4 (.slice A n cap) n (ecells l) from ERow.own HK2.out HN.out) fun g hg => ((Below.refl _ wc).alloc (Nat.le_refl _) (.cells #[.int .i64 px, .int .i64 py, .int .i64 qx, .int .i64 qy] 50)).block g (World.ownsRow.lt HK2.out g hg).2)
      have HT5 := Lib.hid (Blk.new wc 50 [.int .i64 px, .int .i64 py, .int .i64 qx, .int .i64 qy] rfl)
      have HT6 : Hid (But (fun k => k = gs ∨ (Value.slice A n cap).ownBlock = some k) w (wc.alloc (.cells #[.int .i64 px, .int .i64 py, .int .i64 qx, .int .i64 qy] 50))) := Lib.hid (But.of (HBB.out.alloc HBB.out.size _))
      have HR1 := Lib.hid (show some gs ≠ Value.ownBlock (.slice A n cap) from fun e => by have := (World.ownsRow.lt HK2.out gs e.symm).1; omega)
      have hcase : px ≠ qx ∨ (px = qx ∧ py ≠ qy) := by omega
      clear hn hpq hE0
      rcases hcase with h | ⟨rfl, h⟩
      · have hb1 : (px == qx) = false := by simpa using h
        go_wp2_with (at_builtin; refine wpList_append_lies _ rfl _ _ _ (by rfl) base 50 i0 _ 4 32 Try.underlying26 hi0 hz0 hz1 hz2 (by rfl) (by omega) _ n _ (by rfl) HT4.out ⟨wc.heap.size, 0, none⟩ 1 1 [.int .i64 px, .int .i64 py, .int .i64 qx, .int .i64 qy] (by rfl) (by rfl) (World.news_of_block HT5.out) (by simp [Value.oneCell']) (by omega) (by simp [maxLen]; omega) (by omega) (by simp; omega) (wc.heap.size + 1) (by simp) ?_; intro g' cp w1 hown hgrow hat hlt; have G2 := HT2.out.grown hgrow HR1.out; have q0 := G2.cell 0 rfl; have q1 := G2.frozen 0; have q2 := G2.lt)
        have VN : ERow w1 base (.slice (some ⟨g', 0, none⟩) (n + 1) cp) (l ++ [⟨⟨px, py⟩, ⟨qx, qy⟩⟩]) := by
          unfold ERow
          rw [List.length_append, HN.out, ecells_push]
          exact hown
        have R1 := G2.set 0 (.slice (some ⟨g', 0, none⟩) (n + 1) cp)
        have R2 := VN.set (p := ⟨gs, 0, none⟩) h2 (.slice (some ⟨g', 0, none⟩) (n + 1) cp)
        have R3 := ((HT6.out.grown hgrow (fun q hq _ => .inr hq)).set ⟨gs, 0, none⟩ (.inl rfl) (.slice (some ⟨g', 0, none⟩) (n + 1) cp))
        rw [HN.out]
        exact bodyPost_ret (v := .tuple #[]) (by simp [results, Try.results62, go_sem]) rfl ⟨rfl, ⟨_, R1, by rw [HE0.out]; exact R2⟩, R3⟩
      · have hb1 : (py == qy) = false := by simpa using h
        go_wp2_with (at_builtin; refine wpList_append_lies _ rfl _ _ _ (by rfl) base 50 i0 _ 4 32 Try.underlying26 hi0 hz0 hz1 hz2 (by rfl) (by omega) _ n _ (by rfl) HT4.out ⟨wc.heap.size, 0, none⟩ 1 1 [.int .i64 px, .int .i64 py, .int .i64 px, .int .i64 qy] (by rfl) (by rfl) (World.news_of_block HT5.out) (by simp [Value.oneCell']) (by omega) (by simp [maxLen]; omega) (by omega) (by simp; omega) (wc.heap.size + 1) (by simp) ?_; intro g' cp w1 hown hgrow hat hlt; have G2 := HT2.out.grown hgrow HR1.out; have q0 := G2.cell 0 rfl; have q1 := G2.frozen 0; have q2 := G2.lt)
        have VN : ERow w1 base (.slice (some ⟨g', 0, none⟩) (n + 1) cp) (l ++ [⟨⟨px, py⟩, ⟨px, qy⟩⟩]) := by
          unfold ERow
          rw [List.length_append, HN.out, ecells_push]
          exact hown
        have R1 := G2.set 0 (.slice (some ⟨g', 0, none⟩) (n + 1) cp)
        have R2 := VN.set (p := ⟨gs, 0, none⟩) h2 (.slice (some ⟨g', 0, none⟩) (n + 1) cp)
        have R3 := ((HT6.out.grown hgrow (fun q hq _ => .inr hq)).set ⟨gs, 0, none⟩ (.inl rfl) (.slice (some ⟨g', 0, none⟩) (n + 1) cp))
        rw [HN.out]
        exact bodyPost_ret (v := .tuple #[]) (by simp [results, Try.results62, go_sem]) rfl ⟨rfl, ⟨_, R1, by rw [HE0.out]; exact R2⟩, R3⟩

end Go.Proofs.Yteiildeaccngjaa

namespace Go.Proofs.Yteiildeaccngjaa
open Go.RowKit

theorem ERow.apart {w : World} {base g : Nat} {u : Value} {l : List Ed} {t : TypeId} {vs : List Value} (h : ERow w base u l) (k : Blk w g t vs) (ht : t ≠ 50) : u.ownBlock ≠ some g := by
  intro e
  rcases h.2 with ⟨rfl, _⟩ | ⟨g', cap, cur, rfl, _, hg, _⟩
  · cases e
  · have : g' = g := by simpa [Value.ownBlock] using e
    subst this
    unfold Blk at k
    rw [hg] at k
    injection k with k
    injection k with _ k
    exact ht k.symm
/-- The edges so far, in the variable gs. -/
def ESt (w0 wr : World) (gs : Nat) (acc : List Ed) : Prop := (∃ u, Blk wr gs 26 [u] ∧ ERow wr (gs + 1) u acc) ∧ Below w0.heap.size w0 wr
theorem ESt.alloc {w0 wr : World} {gs : Nat} {acc : List Ed} (h : ESt w0 wr gs acc) (o : Obj) : ESt w0 (wr.alloc o) gs acc := by
  obtain ⟨⟨u, h1, h2⟩, h3⟩ := h
  exact ⟨⟨u, h1.alloc o, h2.alloc o⟩, h3.alloc h3.size o⟩
theorem lead_step (s0 s1 s2 s3 s4 s5 : Int) (s6 : Bool) (s : Sg) (hs : s = ⟨⟨s0, s1⟩, ⟨s2, s3⟩, ⟨s4, s5⟩, s6⟩) (i j : Nat) (hi : i ≤ 4) (hj : j ≤ 4) (hin : inS s) (gs g : Nat) (acc : List Ed) (w0 w : World) (h : ESt w0 w gs acc) (hg : w0.heap.size ≤ gs) (hl : acc.length ≤ 20000) (hB : Blk w g 119 (scell s)) :
    Calls Try.prog 62 #[.agg #[.int .i64 s0, .int .i64 s1, .int .i64 s2, .int .i64 s3, .int .i64 s4, .int .i64 s5, .bool s6], .int .i64 i, .int .i64 j, .pointer (some ⟨gs, 0, none⟩)] w fun e w' => e = .returned (.tuple #[]) ∧ ESt w0 w' gs (acc ++ edge (onV s i) (onV s j)) ∧ Blk w' g 119 (scell s) := by
  obtain ⟨⟨u, h1, h2⟩, h3⟩ := h
  subst hs
  refine (lead_any s0 s1 s2 s3 s4 s5 s6 i j hi hj hin gs (gs + 1) u acc w h1 h2 (Nat.lt_succ_self _) hl h1.lt).mono ?_
  rintro e w' ⟨rfl, ⟨u', k1, k2⟩, k3⟩
  refine ⟨rfl, ⟨⟨u', k1, k2⟩, ?_⟩, ?_⟩
  · refine h3.trans (k3.below ?_ h3.size)
    rintro k (rfl | hk)
    · exact hg
    · have := (World.ownsRow.lt h2 k hk).1
      omega
  · refine hB.heap (k3.block g hB.lt ?_)
    rintro (rfl | hk)
    · unfold Blk at h1 hB
      rw [h1] at hB
      simp at hB
    · exact ERow.apart h2 hB (by decide) hk
theorem take_next {α : Type} {l : List α} {r : Nat} {s : α} (h : l[r]? = some s) : l.take (r + 1) = l.take r ++ [s] := by
  obtain ⟨hi, rfl⟩ := List.getElem?_eq_some_iff.1 h
  rw [List.take_succ_eq_append_getElem hi]
theorem edgesOf_line {s : Sg} (h : s.curve = false) : edgesOf s = edge (onV s 0) (onV s 4) := by unfold edgesOf ptsOf; rw [if_neg (by simp [h])]; simp [chain]
/-- A curve's edges, some of them. -/
def curveE (s : Sg) : Nat → List Ed
  | 0 => []
  | k + 1 => curveE s k ++ edge (onV s k) (onV s (k + 1))
theorem edgesOf_curve {s : Sg} (h : s.curve = true) : edgesOf s = curveE s 4 := by unfold edgesOf ptsOf; rw [if_pos h]; simp [chain, curveE]
theorem curveE_len (s : Sg) : ∀ k, (curveE s k).length ≤ k
  | 0 => Nat.le_refl _
  | k + 1 => by have := curveE_len s k; have := edge_len (onV s k) (onV s (k + 1)); simp only [curveE, List.length_append]; omega

set_option maxHeartbeats 1600000 in
set_option maxRecDepth 100000 in
theorem edges_any (v : Value) (l : List Sg) (w : World) (hv : SRd w v l) (hl : l.length ≤ 4000) (hin : ∀ s ∈ l, inS s) :
    Calls Try.prog 50 #[v] w fun e w' => ∃ u, e = .returned u ∧ ERow w' w.heap.size u (edgesS l) ∧ Below w.heap.size w w' := by
  have HV := Lib.hid hv
  have HI := Lib.hid hin
  obtain ⟨A, cap, rfl, hc, -⟩ := hv
  obtain ⟨n, hn⟩ : ∃ n : Nat, l.length = n := ⟨_, rfl⟩
  rw [hn] at HV hl hc
  rw [hn]
  have HN := Lib.hid hn
  have E0 : ESt w (w.alloc (.cells #[.slice none 0 0] 26)) w.heap.size [] := ⟨⟨_, Blk.new w 26 [.slice none 0 0] rfl, ERow.nil _ _⟩, (Below.refl _ w).alloc (Nat.le_refl _) _⟩
  have HE0 := Lib.hid E0
  clear hn hin E0
  go_enter Try.func50, Try.ntmps50
  go_wp2_with fail
  go_loopw [11] (fun i wr => ∃ r : Nat, r ≤ n ∧ i = .int .i64 r ∧ Hid (ESt w wr w.heap.size (edgesS (l.take r)))) (fun i _ => n - (intOf i).toNat)
  case atStart => exact ⟨0, Nat.zero_le _, rfl, HE0⟩
  case round =>
    obtain ⟨r, hr, rfl, HW⟩ := hrel
    by_cases hrn : r < n
    · have hrb : decide ((r : Int) < n) = true := by simp; omega
      obtain ⟨s, hs⟩ : ∃ s, l[r]? = some s := ⟨_, List.getElem?_eq_getElem (by rw [HN.out]; exact hrn)⟩
      obtain ⟨a, rfl, ha, x0, x1, x2, x3, x4, x5, x6⟩ := (HV.out.keep HW.out.2).at r s hs
      have HIS := Lib.hid (HI.out s (List.mem_of_getElem? hs))
      have HT := Lib.hid (take_next hs)
      have hlen := edgesS_len (l.take r)
      have hlen2 : (l.take r).length ≤ n := by rw [List.length_take, HN.out]; omega
      have HL := Lib.hid (show (edgesS (l.take r)).length ≤ 16000 by omega)
      obtain ⟨⟨s0, s1⟩, ⟨s2, s3⟩, ⟨s4, s5⟩, s6⟩ := s
      simp only [] at x0 x1 x2 x3 x4 x5 x6
      have HW1 := Lib.hid (HW.out.alloc (.cells #[.int .i64 s0, .int .i64 s1, .int .i64 s2, .int .i64 s3, .int .i64 s4, .int .i64 s5, .bool s6] 119))
      have HB1 : Hid (Blk (wr.alloc (.cells #[.int .i64 s0, .int .i64 s1, .int .i64 s2, .int .i64 s3, .int .i64 s4, .int .i64 s5, .bool s6] 119)) wr.heap.size 119 (scell ⟨⟨s0, s1⟩, ⟨s2, s3⟩, ⟨s4, s5⟩, s6⟩)) := Lib.hid (Blk.new wr 119 [.int .i64 s0, .int .i64 s1, .int .i64 s2, .int .i64 s3, .int .i64 s4, .int .i64 s5, .bool s6] rfl)
      clear hs hlen hlen2
      cases s6 with
      | false =>
        have HC := Lib.hid (lead_step s0 s1 s2 s3 s4 s5 false _ rfl 0 4 (by omega) (by omega) HIS.out w.heap.size wr.heap.size _ w _ HW1.out (Nat.le_refl _) (by have := HL.out; omega) HB1.out)
        go_wp2_with fail
        refine HC.out.mono ?_
        rintro e w2 ⟨rfl, h2, h3⟩
        have HW2 : Hid (ESt w w2 w.heap.size (edgesS (l.take (r + 1)))) := Lib.hid (by rw [HT.out, edgesS_push, edgesOf_line rfl]; exact h2)
        clear h2 h3
        go_wp2_with fail
        exact ⟨⟨r + 1, by omega, by go_num, HW2⟩, by simp [intOf]; omega⟩
      | true =>
        go_wp2_with fail
        obtain ⟨wo, rfl⟩ : ∃ x, x = wr := ⟨wr, rfl⟩
        go_loopw [21] (fun i wr => ∃ m : Nat, m ≤ 4 ∧ i = .int .i64 m ∧ Hid (ESt w wr w.heap.size (edgesS (l.take r) ++ curveE ⟨⟨s0, s1⟩, ⟨s2, s3⟩, ⟨s4, s5⟩, true⟩ m)) ∧ Hid (Blk wr wo.heap.size 119 (scell ⟨⟨s0, s1⟩, ⟨s2, s3⟩, ⟨s4, s5⟩, true⟩))) (fun i _ => 4 - (intOf i).toNat)
        case atStart => exact ⟨0, by omega, rfl, Lib.hid (by rw [curveE, List.append_nil]; exact HW1.out), HB1⟩
        case round =>
          obtain ⟨m, hm, rfl, HWk, HBk⟩ := hrel
          by_cases hm4 : m < 4
          · have hmb : decide ((m : Int) < 4) = true := by simp; omega
            have hcl := curveE_len ⟨⟨s0, s1⟩, ⟨s2, s3⟩, ⟨s4, s5⟩, true⟩ m
            have C := lead_step s0 s1 s2 s3 s4 s5 true _ rfl m (m + 1) (by omega) (by omega) HIS.out w.heap.size wo.heap.size _ w wr HWk.out (Nat.le_refl _) (by have := HL.out; rw [List.length_append]; omega) HBk.out
            rw [Int.natCast_add] at C
            have HC := Lib.hid C
            have y0 := HBk.out.cell 0 rfl
            have y1 := HBk.out.cell 1 rfl
            have y2 := HBk.out.cell 2 rfl
            have y3 := HBk.out.cell 3 rfl
            have y4 := HBk.out.cell 4 rfl
            have y5 := HBk.out.cell 5 rfl
            have y6 := HBk.out.cell 6 rfl
            clear C hcl x0 x1 x2 x3 x4 x5 x6
            go_wp2_with fail
            refine HC.out.mono ?_
            rintro e w2 ⟨rfl, h2, h3⟩
            have HW2 : Hid (ESt w w2 w.heap.size (edgesS (l.take r) ++ curveE ⟨⟨s0, s1⟩, ⟨s2, s3⟩, ⟨s4, s5⟩, true⟩ (m + 1))) := Lib.hid (by rw [curveE, ← List.append_assoc]; exact h2)
            have HB2 := Lib.hid h3
            clear h2 h3 y0 y1 y2 y3 y4 y5 y6
            go_wp2_with fail
            exact ⟨⟨m + 1, by omega, by go_num, HW2, HB2⟩, by simp [intOf]; omega⟩
          · obtain rfl : m = 4 := by omega
            have HW2 : Hid (ESt w wr w.heap.size (edgesS (l.take (r + 1)))) := Lib.hid (by rw [HT.out, edgesS_push, edgesOf_curve rfl]; exact HWk.out)
            clear HWk HBk x0 x1 x2 x3 x4 x5 x6
            go_wp2_with fail
            exact ⟨⟨r + 1, by omega, by go_num, HW2⟩, by simp [intOf]; omega⟩
    · obtain rfl : r = n := by omega
      have HF : Hid (ESt w wr w.heap.size (edgesS l)) := Lib.hid (by have h := HW.out; rwa [List.take_of_length_le (by rw [HN.out]; exact Nat.le_refl _)] at h)
      obtain ⟨⟨u, f1, f2⟩, f3⟩ := HF.out
      have f4 := f1.cell 0 rfl
      have H2 := Lib.hid f2
      have H3 := Lib.hid f3
      clear f1 f2 f3 HF HW
      go_wp2_with fail
      go_ret
      exact ⟨_, rfl, H2.out.mono (Nat.le_succ _), H3.out⟩

end Go.Proofs.Yteiildeaccngjaa

namespace Go.Proofs.Yteiildeaccngjaa
open Go.RowKit

/-- The least, the greatest of three, as the program's builtin finds them. -/
def mn3 (a b c : Int) : Int := if c < (if b < a then b else a) then c else if b < a then b else a
def mx3 (a b c : Int) : Int := if (if a < b then b else a) < c then c else if a < b then b else a
theorem mn3_is (a b c : Int) : mn3 a b c = min (min a b) c := by unfold mn3; simp only [Int.min_def]; split <;> split <;> split <;> omega
theorem mx3_is (a b c : Int) : mx3 a b c = max (max a b) c := by unfold mx3; simp only [Int.max_def]; split <;> split <;> split <;> omega
theorem run_mn {P : Program} (ats : Array TypeId) (ty : TypeId) (a b c : Int) (w : World) : Sem.run P (Builtin.min_ ats ty #[.int .i64 a, .int .i64 b, .int .i64 c]) w = .ok (.int .i64 (mn3 a b c)) w := by
  simp [Builtin.min_, Builtin.min2, mn3]
theorem run_mx {P : Program} (ats : Array TypeId) (ty : TypeId) (a b c : Int) (w : World) : Sem.run P (Builtin.max_ ats ty #[.int .i64 a, .int .i64 b, .int .i64 c]) w = .ok (.int .i64 (mx3 a b c)) w := by
  simp [Builtin.max_, Builtin.max2, mx3]
def boxAt (e : Ed) (l : List Ed) : Pt × Pt := l.foldl boxF (e.a, e.a)
theorem boxAt_push (e : Ed) (l : List Ed) (d : Ed) : boxAt e (l ++ [d]) = boxF (boxAt e l) d := by simp [boxAt]
theorem boxF_is (b : Pt × Pt) (e : Ed) : boxF b e = (⟨mn3 b.1.x e.a.x e.b.x, mn3 b.1.y e.a.y e.b.y⟩, ⟨mx3 b.2.x e.a.x e.b.x, mx3 b.2.y e.a.y e.b.y⟩) := by simp only [boxF, mn3_is, mx3_is]

theorem twoB (w : World) (t : TypeId) (x y : Value) : Blk ((w.alloc (.cells #[x, y] t)).alloc (.cells #[x, y] t)).drew w.heap.size t [x, y] ∧ Blk ((w.alloc (.cells #[x, y] t)).alloc (.cells #[x, y] t)).drew (w.heap.size + 1) t [x, y] :=
  ⟨((Blk.new w t [x, y] rfl).alloc _).drew, (Blk.new (w.alloc (.cells #[x, y] t)) t [x, y] (by simp)).drew⟩
theorem take_next4 {α : Type} {l : List α} {r : Nat} {s : α} (h : l[r]? = some s) : l.take (r + 1) = l.take r ++ [s] := by
  obtain ⟨hi, rfl⟩ := List.getElem?_eq_some_iff.1 h
  rw [List.take_succ_eq_append_getElem hi]
/-- The place so far. -/
def BSt (w wr : World) (g h : Nat) (b : Pt × Pt) : Prop := Blk wr g 41 [.int .i64 b.1.x, .int .i64 b.1.y] ∧ Blk wr h 41 [.int .i64 b.2.x, .int .i64 b.2.y] ∧ Blk wr w.heap.size 41 [.int .i64 0, .int .i64 0] ∧ Blk wr (w.heap.size + 1) 41 [.int .i64 0, .int .i64 0] ∧ Below w.heap.size w wr

theorem BSt.step {w wr : World} {g h : Nat} {b : Pt × Pt} (k : BSt w wr g h b) (hgh : g ≠ h) (hg1 : ¬ g = w.heap.size) (hg2 : ¬ g = w.heap.size + 1) (hh1 : ¬ h = w.heap.size) (hh2 : ¬ h = w.heap.size + 1) (hgw : w.heap.size ≤ g) (hhw : w.heap.size ≤ h) (x y z u : Int) (o : Obj) :
    BSt w (((((wr.setCell ⟨g, 0, none⟩ (.int .i64 x)).setCell ⟨g, 1, none⟩ (.int .i64 y)).setCell ⟨h, 0, none⟩ (.int .i64 z)).setCell ⟨h, 1, none⟩ (.int .i64 u)).alloc o) g h (⟨x, y⟩, ⟨z, u⟩) := by
  obtain ⟨k1, k2, k3, k4, k5⟩ := k
  have B := (((k5.setCell (p := ⟨g, 0, none⟩) hgw (.int .i64 x)).setCell (p := ⟨g, 1, none⟩) hgw (.int .i64 y)).setCell (p := ⟨h, 0, none⟩) hhw (.int .i64 z)).setCell (p := ⟨h, 1, none⟩) hhw (.int .i64 u)
  have f : ∀ {q : Nat} {t : TypeId} {vs : List Value}, Blk wr q t vs → ¬ g = q → ¬ h = q → Blk (((((wr.setCell ⟨g, 0, none⟩ (.int .i64 x)).setCell ⟨g, 1, none⟩ (.int .i64 y)).setCell ⟨h, 0, none⟩ (.int .i64 z)).setCell ⟨h, 1, none⟩ (.int .i64 u)).alloc o) q t vs :=
    fun kq e1 e2 => ((((kq.other 0 _ (fun e => e1 e.symm)).other 1 _ (fun e => e1 e.symm)).other 0 _ (fun e => e2 e.symm)).other 1 _ (fun e => e2 e.symm)).alloc o
  exact ⟨((((k1.set 0 (.int .i64 x)).set 1 (.int .i64 y)).other (k := h) 0 _ hgh).other (k := h) 1 _ hgh).alloc o, ((((k2.other (k := g) 0 _ (fun e => hgh e.symm)).other (k := g) 1 _ (fun e => hgh e.symm)).set 0 (.int .i64 z)).set 1 (.int .i64 u)).alloc o, f k3 hg1 hh1, f k4 hg2 hh2, B.alloc B.size o⟩

end Go.Proofs.Yteiildeaccngjaa

namespace Go.Proofs.Yteiildeaccngjaa
open Go.RowKit

theorem srd_blk {w : World} {g : Nat} {t : TypeId} {l : List Sg} {n : Nat} (h : Blk w g t (scells l)) (hn : l.length = n) : SRd w (.slice (some ⟨g, 0, none⟩) n n) l := by
  subst hn
  refine ⟨_, _, rfl, Nat.le_refl _, fun i hi => ⟨_, rfl, h.lt, ?_⟩⟩
  have k : ∀ j, (⟨g, 0, none⟩ : Addr).add j = ⟨g, j, none⟩ := fun j => by unfold Addr.add; by_cases h0 : j = 0 <;> simp [h0]
  unfold SAt
  rw [k, k, k, k, k, k, k]
  exact ⟨h.cell _ (scells_at l i 0 hi (by omega)), h.cell _ (scells_at l i 1 hi (by omega)), h.cell _ (scells_at l i 2 hi (by omega)), h.cell _ (scells_at l i 3 hi (by omega)), h.cell _ (scells_at l i 4 hi (by omega)), h.cell _ (scells_at l i 5 hi (by omega)), h.cell _ (scells_at l i 6 hi (by omega))⟩
def exS : Sg := ⟨⟨0, 0⟩, ⟨2, 4⟩, ⟨4, 0⟩, true⟩
def exT : Sg := ⟨⟨4, 0⟩, ⟨4, 0⟩, ⟨0, 0⟩, false⟩
theorem ex_edges : edgesS [exS, exT] = [⟨⟨0, 0⟩, ⟨16, 24⟩⟩, ⟨⟨16, 24⟩, ⟨32, 32⟩⟩, ⟨⟨32, 32⟩, ⟨48, 24⟩⟩, ⟨⟨48, 24⟩, ⟨64, 0⟩⟩, ⟨⟨64, 0⟩, ⟨0, 0⟩⟩] := by decide
theorem ex_box : boxS [⟨⟨0, 0⟩, ⟨16, 24⟩⟩, ⟨⟨16, 24⟩, ⟨32, 32⟩⟩, ⟨⟨32, 32⟩, ⟨48, 24⟩⟩, ⟨⟨48, 24⟩, ⟨64, 0⟩⟩, ⟨⟨64, 0⟩, ⟨0, 0⟩⟩] = (⟨0, 0⟩, ⟨64, 32⟩) := by decide

theorem exS_in : inS exS := by unfold inS inX exS; simp
theorem exT_in : inS exT := by unfold inS inX exT; simp

end Go.Proofs.Yteiildeaccngjaa

namespace Go.Proofs.Yteiildeaccngjaa
open Go.RowKit

theorem pon_at (ax ay bx by' cx cy : Int) (cv : Bool) (j : Int) (k : Nat) (hj : (k : Int) = j) (hk : k ≤ 4) (h : inS ⟨⟨ax, ay⟩, ⟨bx, by'⟩, ⟨cx, cy⟩, cv⟩) (X Y : Int) (hX : onX k ax bx cx = X) (hY : onX k ay by' cy = Y) (w : World) :
    Calls Try.prog 63 #[.agg #[.int .i64 ax, .int .i64 ay, .int .i64 bx, .int .i64 by', .int .i64 cx, .int .i64 cy, .bool cv], .int .i64 j] w fun e w' => e = .returned (.agg #[.int .i64 X, .int .i64 Y]) ∧ Below w.heap.size w w' := by
  subst hj hX hY
  exact pon_any ax ay bx by' cx cy cv k hk h w
def cutX (x : Int) : Int := x.tmod 511
theorem cutX_in (x : Int) : -510 ≤ cutX x ∧ cutX x ≤ 510 := by
  unfold cutX
  have h := Int.tmod_lt_of_pos x (show (0 : Int) < 511 by omega)
  have h2 := Int.lt_tmod_of_pos x (show (0 : Int) < 511 by omega)
  omega
def cutS (s : Sg) : Sg := ⟨⟨cutX s.a.x, cutX s.a.y⟩, ⟨cutX s.b.x, cutX s.b.y⟩, ⟨cutX s.c.x, cutX s.c.y⟩, s.curve⟩
theorem cutS_in (s : Sg) : inS (cutS s) := by
  have h : ∀ x, inX (cutX x) := fun x => by have := cutX_in x; unfold inX; omega
  exact ⟨h _, h _, h _, h _, h _, h _⟩
/-- A piece's cells, some of its points cut. -/
def cutR (s : Sg) (r : Nat) : List Value := (if 0 < r then [.int .i64 (cutX s.a.x), .int .i64 (cutX s.a.y)] else [.int .i64 s.a.x, .int .i64 s.a.y]) ++ (if 1 < r then [.int .i64 (cutX s.b.x), .int .i64 (cutX s.b.y)] else [.int .i64 s.b.x, .int .i64 s.b.y]) ++ (if 2 < r then [.int .i64 (cutX s.c.x), .int .i64 (cutX s.c.y)] else [.int .i64 s.c.x, .int .i64 s.c.y]) ++ [.bool s.curve]
theorem cutR_three (s : Sg) : cutR s 3 = scell (cutS s) := rfl
theorem cutR_zero (s : Sg) : cutR s 0 = scell s := rfl
end Go.Proofs.Yteiildeaccngjaa

namespace Go.Proofs.Yteiildeaccngjaa
open Go.RowKit

theorem heap_at8 {w : World} {k : Nat} (h : w.heap.size = k) (o : Obj) : (w.drew.alloc o).heap[k]? = some o := by subst h; exact heap_alloc_new w.drew o
theorem size_at8 {w : World} {k b : Nat} (hb : b ≤ k) (h : w.heap.size = k) (o : Obj) : b ≤ (w.drew.alloc o).heap.size := by subst h; rw [World.size_alloc]; exact Nat.le_succ_of_le hb
theorem ERow.push8 {w : World} {base n : Nat} {u : Value} {l : List Ed} {p0 p1 q0 q1 : Int} (hn : l.length = n) (h : w.ownsRow base 50 4 u (n + 1) (ecells l ++ [.int .i64 p0, .int .i64 p1, .int .i64 q0, .int .i64 q1])) : ERow w base u (l ++ [⟨⟨p0, p1⟩, ⟨q0, q1⟩⟩]) := by
  unfold ERow
  rw [List.length_append, hn, ecells_push]
  exact h
theorem chain_len : ∀ l : List Pt, (chain l).length ≤ l.length
  | [] => by simp [chain]
  | [_] => by simp [chain]
  | p :: q :: l => by have h1 := edge_len p q; have h2 := chain_len (q :: l); rw [chain, List.length_append, List.length_cons]; omega
def pcell (p : Pt) : List Value := [.int .i64 p.x, .int .i64 p.y]
def pcells (l : List Pt) : List Value := l.flatMap pcell
theorem pcells_at : ∀ (l : List Pt) (i j : Nat) (p : Pt), l[i]? = some p → j < 2 → (pcells l)[i * 2 + j]? = (pcell p)[j]?
  | [], i, j, p, h, hj => by cases h
  | q :: l, 0, j, p, h, hj => by
    have : q = p := by simpa using h
    subst this
    have e : pcells (q :: l) = pcell q ++ pcells l := by simp [pcells]
    rw [e, Nat.zero_mul, Nat.zero_add, List.getElem?_append_left (by simp [pcell]; omega)]
  | q :: l, i + 1, j, p, h, hj => by
    have e : pcells (q :: l) = pcell q ++ pcells l := by simp [pcells]
    rw [e, List.getElem?_append_right (by simp [pcell]; omega)]
    have := pcells_at l i j p (by simpa using h) hj
    rw [show (i + 1) * 2 + j - (pcell q).length = i * 2 + j by simp [pcell]; omega, this]
theorem chain_take : ∀ (l : List Pt) (k : Nat) (p q : Pt), l[k]? = some p → l[k + 1]? = some q → chain (l.take (k + 2)) = chain (l.take (k + 1)) ++ edge p q
  | a :: b :: l, 0, p, q, h1, h2 => by
    have e1 : a = p := by simpa using h1
    have e2 : b = q := by simpa using h2
    subst e1 e2
    simp [chain]
  | a :: b :: l, k + 1, p, q, h1, h2 => by
    have h := chain_take (b :: l) k p q (by simpa using h1) (by simpa using h2)
    rw [List.take_succ_cons] at h
    rw [List.take_succ_cons, List.take_succ_cons, chain, h]
    rw [List.take_succ_cons (i := k + 1), List.take_succ_cons, chain]
    rw [List.append_assoc]
  | [a], k, p, q, h1, h2 => by simp at h2
  | [], k, p, q, h1, h2 => by simp at h2

end Go.Proofs.Yteiildeaccngjaa

namespace Go.Proofs.Yteiildeaccngjaa
open Go.RowKit

theorem flat_push {l : List (List Sg)} {r : Nat} {c : List Sg} (h : l[r]? = some c) : (l.take (r + 1)).flatMap edgesS = (l.take r).flatMap edgesS ++ edgesS c := by
  rw [take_next h, List.flatMap_append]
  simp
theorem flat_len : ∀ (l : List (List Sg)) (M : Nat), (∀ c ∈ l, c.length ≤ M) → (l.flatMap edgesS).length ≤ l.length * (4 * M)
  | [], M, h => by simp
  | c :: l, M, h => by
    have h1 := flat_len l M (fun d hd => h d (List.mem_cons_of_mem _ hd))
    have h2 := edgesS_len c
    have h3 := h c List.mem_cons_self
    rw [List.flatMap_cons, List.length_append, List.length_cons, Nat.add_mul]
    omega
theorem SORd.at {w : World} {A : Option Addr} {n cap : Nat} {o : List (List Sg)} (h : SORd w (.slice A n cap) o) (r : Nat) (c : List Sg) (hc : o[r]? = some c) : ∃ a u, A = some a ∧ a.block < w.heap.size ∧ w.cell? (a.add r) = some u ∧ SRd w u c := by
  obtain ⟨A', cap', e, _, h3⟩ := h
  simp only [Value.slice.injEq] at e
  obtain ⟨rfl, -, -⟩ := e
  exact h3 r c hc
theorem ERow.news {w : World} {base g n cap : Nat} {l : List Ed} (h : ERow w base (.slice (some ⟨g, 0, none⟩) n cap) l) : ∀ j u, (ecells l)[j]? = some u → w.cell? ((⟨g, 0, none⟩ : Addr).add j) = some u := fun j u hj => World.ownsRow.cells h rfl j u hj
theorem ERow.forms {w : World} {base : Nat} {u : Value} {l : List Ed} (h : ERow w base u l) : (u = .slice none 0 0 ∧ l = []) ∨ ∃ g cap, u = .slice (some ⟨g, 0, none⟩) l.length cap := by
  rcases h.2 with ⟨rfl, h0⟩ | ⟨g, cap, cur, rfl, _⟩
  · exact .inl ⟨rfl, List.eq_nil_of_length_eq_zero h0⟩
  · exact .inr ⟨g, cap, rfl⟩

set_option maxHeartbeats 1600000 in
set_option maxRecDepth 100000 in
theorem fall_any (v : Value) (o : List (List Sg)) (w : World) (ho : SORd w v o) (hs : o.length ≤ 8 ∧ ∀ c ∈ o, c.length ≤ 1001 ∧ ∀ s ∈ c, inS s) :
    Calls Try.prog 26 #[v] w fun e w' => ∃ u, e = .returned u ∧ ERow w' w.heap.size u (o.flatMap edgesS) ∧ Below w.heap.size w w' := by
  have HO := Lib.hid ho
  have HS := Lib.hid hs
  obtain ⟨A, cap, rfl, hcap, -⟩ := ho
  obtain ⟨n, hn⟩ : ∃ n, o.length = n := ⟨_, rfl⟩
  have hn8 : n ≤ 8 := by rw [← hn]; exact hs.1
  rw [hn] at HO hcap
  rw [hn]
  have HN := Lib.hid hn
  obtain ⟨i0, hi0, hz0, hz1, hz2⟩ := infos einfo
  clear hs hn
  go_enter Try.func26, Try.ntmps26
  go_wp2_with fail
  go_loopw [8, 3] (fun i u wr => ∃ r : Nat, r ≤ n ∧ i = .int .i64 r ∧ Hid (ERow wr w.heap.size u ((o.take r).flatMap edgesS)) ∧ Hid (Below w.heap.size w wr)) (fun i _ _ => n - (intOf i).toNat)
  case atStart => exact ⟨0, Nat.zero_le _, rfl, Lib.hid (ERow.nil _ _), Lib.hid (Below.refl _ _)⟩
  case round =>
    obtain ⟨r, hr, rfl, HE, HB⟩ := hrel
    by_cases hrn : r < n
    · have hrb : decide ((r : Int) < n) = true := by simp; omega
      obtain ⟨c, hc⟩ : ∃ c, o[r]? = some c := ⟨_, List.getElem?_eq_getElem (by rw [HN.out]; exact hrn)⟩
      obtain ⟨a, u, rfl, hlt, hcell, hrow⟩ := (HO.out.keep HB.out).at r c hc
      obtain ⟨hc1, hc2⟩ := HS.out.2 c (List.mem_of_getElem? hc)
      have HS1 := Lib.hid (edges_any u c wr hrow (by omega) hc2)
      have HP := Lib.hid (flat_push hc)
      have HL2 := Lib.hid (show (edgesS c).length ≤ 4004 by have := edgesS_len c; omega)
      have hl1 := flat_len (o.take r) 1001 (fun d hd => (HS.out.2 d (List.mem_of_mem_take hd)).1)
      have hl2 : (o.take r).length ≤ 8 := by rw [List.length_take, HN.out]; omega
      obtain ⟨m, hm⟩ : ∃ m, ((o.take r).flatMap edgesS).length = m := ⟨_, rfl⟩
      have hmb : m ≤ 32032 := by rw [← hm]; have := Nat.mul_le_mul_right (4 * 1001) hl2; omega
      have HM := Lib.hid hm
      clear hrow hc1 hc2 hc hl1 hl2 hm
      go_wp2_with fail
      refine HS1.out.mono ?_
      rintro e w3 ⟨u1, rfl, hu1, hb3⟩
      have HE3 := Lib.hid (ERow.own (HE.out.below hb3) HM.out)
      have HE4 := Lib.hid (HE.out.below hb3)
      have HB3 := Lib.hid (HB.out.trans (hb3.mono HB.out.size))
      have hbz := HB3.out.size
      have HF := ERow.forms hu1
      have HU1 := Lib.hid hu1
      obtain ⟨L, hL⟩ : ∃ L, (edgesS c).length = L := ⟨_, rfl⟩
      have hLb : L ≤ 4004 := by rw [← hL]; exact HL2.out
      have HLn := Lib.hid hL
      clear hu1 hb3 HS1 hcell HE HB
      by_cases hL0 : L = 0
      · subst hL0
        have he : edgesS c = [] := List.eq_nil_of_length_eq_zero hL
        have HV' : Hid (ERow w3 w.heap.size u3 ((o.take (r + 1)).flatMap edgesS)) := Lib.hid (by rw [HP.out, he, List.append_nil]; exact HE4.out)
        obtain ⟨A1, cap1, rfl⟩ : ∃ A1 cap1, u1 = .slice A1 0 cap1 := by
          rcases HF with ⟨e, _⟩ | ⟨g, cp, e⟩
          · exact ⟨none, 0, e⟩
          · exact ⟨_, cp, by rw [e, hL]⟩
        have HR := Lib.hid (append_empty (P := Try.prog) w.heap.size 26 26 50 i0 4 Try.underlying26 hi0 _ _ _ HE3.out A1 cap1)
        clear HF hL he
        go_wp2_with (at_builtin; refine Lib.wpList_append_run _ rfl _ _ _ _ rfl _ _ rfl rfl _ _ HR.out ?_)
        exact ⟨⟨r + 1, by omega, by go_num, HV', HB3⟩, by simp [intOf]; omega⟩
      · obtain ⟨g1, cap1, rfl⟩ : ∃ g cp, u1 = .slice (some ⟨g, 0, none⟩) L cp := by
          rcases HF with ⟨_, e⟩ | ⟨g, cp, e⟩
          · rw [e] at hL; exact absurd hL.symm hL0
          · exact ⟨g, cp, by rw [e, hL]⟩
        have HNW := Lib.hid (ERow.news HU1.out)
        clear HF hL
        go_wp2_with (at_builtin; refine wpList_append_lies _ rfl _ _ _ (by rfl) w.heap.size 50 i0 _ 4 32 Try.underlying26 hi0 hz0 hz1 hz2 (by rfl) (by omega) _ m _ (by rfl) HE3.out ⟨g1, 0, none⟩ L cap1 (ecells (edgesS c)) (by rfl) (by rw [ecells_length, HLn.out]) HNW.out (ecells_one _) (by omega) (by simp [maxLen]; omega) (by omega) (by omega) w3.heap.size rfl ?_; intro g cp w1 hown hgrow hat hlt)
        have VN : ERow w1 w.heap.size (.slice (some ⟨g, 0, none⟩) (m + L) cp) ((o.take (r + 1)).flatMap edgesS) := by
          unfold ERow
          rw [HP.out, List.length_append, HM.out, HLn.out, ecells_append]
          exact hown
        have BN : Below w.heap.size w w1 := HB3.out.grown hgrow (by omega) (fun q hq => (World.ownsRow.lt HE3.out q hq).1)
        exact ⟨⟨r + 1, by omega, by go_num, Lib.hid VN, Lib.hid BN⟩, by simp [intOf]; omega⟩
    · obtain rfl : r = n := by omega
      have HF : Hid (ERow wr w.heap.size u3 (o.flatMap edgesS)) := Lib.hid (by have h := HE.out; rwa [List.take_of_length_le (by rw [HN.out]; exact Nat.le_refl _)] at h)
      clear HE
      go_wp2
      go_ret
      exact ⟨_, rfl, HF.out, HB.out⟩

end Go.Proofs.Yteiildeaccngjaa

namespace Go.Proofs.Yteiildeaccngjaa
open Go.RowKit

def inP (p : Pt) : Prop := (-2000 ≤ p.x ∧ p.x ≤ 2000) ∧ -2000 ≤ p.y ∧ p.y ≤ 2000
theorem inP_pt {v : Vtx} (h : smallV v) : inP (ptV v) := by unfold smallV at h; unfold inP ptV; simp only []; omega
theorem inP_mid {u v : Vtx} (h : smallV u) (k : smallV v) : inP (midV u v) := by unfold smallV at h k; unfold inP midV; simp only []; omega
theorem inS_of {a b c : Pt} (cv : Bool) (ha : inP a) (hb : inP b) (hc : inP c) : inS ⟨a, b, c, cv⟩ := by
  unfold inP at ha hb hc
  unfold inS inX
  simp only []
  omega
theorem sgOf_in {a c : Pt} (ctl : Option Vtx) (ha : inP a) (hc : inP c) (hu : ∀ u, ctl = some u → smallV u) : inS (sgOf a ctl c) := by
  cases ctl with
  | none => exact inS_of _ ha ha hc
  | some u => exact inS_of _ ha (inP_pt (hu u rfl)) hc
theorem small_walk (s : Pt) (hs : inP s) : ∀ (vs : List Vtx) (a : Pt) (ctl : Option Vtx), inP a → (∀ u, ctl = some u → smallV u) → (∀ v ∈ vs, smallV v) → ∀ x ∈ walkS s a ctl vs, inS x
  | [], a, ctl, ha, hu, _ => by
    intro x hx
    rw [walkS] at hx
    have : x = sgOf a ctl s := by simpa using hx
    subst this
    exact sgOf_in ctl ha hs hu
  | v :: vs, a, ctl, ha, hu, hv => by
    have hv0 := hv v List.mem_cons_self
    have hv1 := fun x hx => hv x (List.mem_cons_of_mem v hx)
    intro x hx
    by_cases h : v.on = true
    · rw [walk_on _ _ _ _ _ h] at hx
      rcases List.mem_cons.1 hx with rfl | hx
      · exact sgOf_in ctl ha (inP_pt hv0) hu
      · exact small_walk s hs vs (ptV v) none (inP_pt hv0) (fun u e => by cases e) hv1 x hx
    · have h' : v.on = false := by simpa using h
      cases ctl with
      | none =>
        rw [walk_first _ _ _ _ h'] at hx
        exact small_walk s hs vs a (some v) ha (fun u e => by cases e; exact hv0) hv1 x hx
      | some u =>
        rw [walk_mid _ _ _ _ _ h'] at hx
        rcases List.mem_cons.1 hx with rfl | hx
        · exact sgOf_in (some u) ha (inP_mid (hu u rfl) hv0) hu
        · exact small_walk s hs vs (midV u v) (some v) (inP_mid (hu u rfl) hv0) (fun w e => by cases e; exact hv0) hv1 x hx
theorem vtxAt_small {c : List Vtx} (h : ∀ v ∈ c, smallV v) (i : Nat) : smallV (vtxAt c i) := by
  unfold vtxAt
  rw [List.getD_eq_getElem?_getD]
  cases hc : c[i]? with
  | none => simp [smallV]
  | some v => exact h v (List.mem_of_getElem? hc)
theorem segs_in {c : List Vtx} (h : ∀ v ∈ c, smallV v) : ∀ x ∈ segsS c, inS x := by
  intro x hx
  unfold segsS at hx
  split at hx
  · cases hx
  · have hs : inP (startS c) := by
      unfold startS
      split
      · exact inP_mid (vtxAt_small h _) (vtxAt_small h _)
      · exact inP_pt (vtxAt_small h _)
    refine small_walk _ hs _ _ none hs (fun u e => by cases e) (fun v hv => h v ?_) x hx
    unfold othersS at hv
    split at hv
    · exact hv
    · rcases List.mem_append.1 hv with hv | hv
      · exact List.mem_of_mem_drop hv
      · exact List.mem_of_mem_take hv
theorem pieces_small {o : List (List Vtx)} (h : o.length ≤ 8 ∧ ∀ c ∈ o, c.length ≤ 1000 ∧ ∀ v ∈ c, smallV v) : (o.map segsS).length ≤ 8 ∧ ∀ c ∈ o.map segsS, c.length ≤ 1001 ∧ ∀ s ∈ c, inS s := by
  refine ⟨by rw [List.length_map]; exact h.1, fun c hc => ?_⟩
  obtain ⟨d, hd, rfl⟩ := List.mem_map.1 hc
  obtain ⟨h1, h2⟩ := h.2 d hd
  exact ⟨by have := segs_len d; omega, segs_in h2⟩
theorem pieces_way {o : List (List Vtx)} {r : Nat} {c : List Sg} (h : (o.map segsS)[r]? = some c) : ∃ p, Way p (edgesS c) p := by
  rw [List.getElem?_map] at h
  cases hc : o[r]? with
  | none => rw [hc] at h; cases h
  | some d =>
    rw [hc] at h
    injection h with h
    subst h
    exact segs_way d

end Go.Proofs.Yteiildeaccngjaa

namespace Go.Proofs.Yteiildeaccngjaa
open Go.RowKit

theorem run_minD {P : Program} (ats : Array TypeId) (ty : TypeId) (a b m : Int) (h : (if b < a then b else a) = m) (w : World) :
    Sem.run P (Builtin.min_ ats ty #[.int .i64 a, .int .i64 b]) w = .ok (.int .i64 m) w := by
  subst h
  simp [Builtin.min_, Builtin.min2]
theorem DotRow.take {w : World} {A : Option Addr} {n cap : Nat} {c : List Dot} (h : DotRow w (.slice A n cap) c) (k : Nat) (hk : k ≤ c.length) : DotRow w (.slice A k cap) (c.take k) := by
  obtain ⟨A', cap', e, h1, h2, h3⟩ := h
  simp only [Value.slice.injEq] at e
  obtain ⟨rfl, _, rfl⟩ := e
  refine ⟨A, cap, by rw [List.length_take, Nat.min_eq_left hk], by rw [List.length_take]; omega, h2, fun i hi => ?_⟩
  rw [List.length_take] at hi
  obtain ⟨a, ha, hlt, r⟩ := h3 i (by omega)
  rw [List.getElem_take]
  exact ⟨a, ha, hlt, r⟩
theorem drinfo : (Try.prog.info? 62).map (fun i => (i.zero, i.size, i.bytes)) = some (some (.slice none 0 0), 1, 24) := by kernel_rfl
/-- A row of ours of contours that came in. -/
def FewD (w0 w : World) (base : Nat) (u : Value) (fo : List (List Dot)) : Prop := ∃ us : List Value, us.length = fo.length ∧ w.ownsRow base 62 1 u fo.length us ∧ ∀ i (h : i < us.length) (h' : i < fo.length), DotRow w0 us[i] fo[i]
theorem FewD.nil (w0 w : World) (base : Nat) : FewD w0 w base (.slice none 0 0) [] := ⟨[], rfl, World.ownsRow_nil _ _ _ _, fun _ h => absurd h (Nat.not_lt_zero _)⟩
theorem FewD.read {w0 w : World} {base : Nat} {u : Value} {fo : List (List Dot)} (h : FewD w0 w base u fo) (hb : Below w0.heap.size w0 w) : ∃ A cap, u = .slice A fo.length cap ∧ DotRows w A fo.length cap fo := by
  obtain ⟨us, h1, h2, h3⟩ := h
  rcases h2.2 with ⟨rfl, h0⟩ | ⟨g, cap, cur, rfl, _, hg, hl, hm, _, _⟩
  · have : fo = [] := List.eq_nil_of_length_eq_zero h0
    subst this
    exact ⟨none, 0, rfl, rfl, Nat.le_refl _, by simp [maxLen], fun i hi => absurd hi (Nat.not_lt_zero _)⟩
  · exact ⟨_, cap, rfl, rfl, hl, hm, fun r hr => ⟨_, us[r]'(by omega), rfl, (h2.lt g rfl).2, h2.cells rfl r _ (List.getElem?_eq_getElem (by omega)), (h3 r (by omega) hr).keep hb⟩⟩
theorem FewD.push {w0 w1 : World} {base g cap n : Nat} {v : Value} {us : List Value} {fo : List (List Dot)} {c : List Dot} (h1 : us.length = fo.length) (h3 : ∀ i (h : i < us.length) (h' : i < fo.length), DotRow w0 us[i] fo[i]) (hv : DotRow w0 v c) (hn : fo.length = n)
    (hown : w1.ownsRow base 62 1 (.slice (some ⟨g, 0, none⟩) (n + 1) cap) (n + 1) (us ++ [v])) : FewD w0 w1 base (.slice (some ⟨g, 0, none⟩) (n + 1) cap) (fo ++ [c]) := by
  refine ⟨us ++ [v], by simp [h1], by rw [List.length_append, hn]; exact hown, fun i h h' => ?_⟩
  by_cases hi : i < us.length
  · rw [List.getElem_append_left hi, List.getElem_append_left (by omega)]
    exact h3 i hi (by omega)
  · obtain rfl : i = us.length := by simp at h; omega
    have e1 : (us ++ [v])[us.length] = v := by simp
    have e2 : (fo ++ [c])[us.length]'h' = c := by simp [h1]
    rw [e1, e2]
    exact hv
theorem fewD_step (o : List (List Dot)) (r : Nat) (c : List Dot) (h : o[r]? = some c) (m : Nat) (hm : m = min c.length 6) : (o.take (r + 1)).map (List.take 6) = (o.take r).map (List.take 6) ++ [c.take m] := by
  rw [take_next h, List.map_append]
  have : c.take 6 = c.take m := by
    by_cases h7 : 6 ≤ c.length
    · rw [show m = 6 by omega]
    · rw [List.take_of_length_le (by omega), List.take_of_length_le (by omega)]
  simp [this]

set_option maxRecDepth 100000 in
set_option maxHeartbeats 3200000 in
theorem glyph_more (A : Option Addr) (n cap : Nat) (cs : List (List Dot)) (w : World) (hcs : DotRows w A n cap cs) :
    Calls Try.prog 10 #[.slice A n cap] w fun e w' => ∃ u es fo, e = .returned u ∧ ERow w' w.heap.size u es ∧ es.length ≤ 100000 ∧ es = ((outlineS fo).map segsS).flatMap edgesS ∧ Below w.heap.size w w' := by
  have HD := Lib.hid hcs
  obtain ⟨hn, h1, -, h3⟩ := hcs
  have H3 := Lib.hid h3
  have HN := Lib.hid hn
  obtain ⟨K, hk⟩ : ∃ k : Nat, k = min n 3 := ⟨_, rfl⟩
  have hk1 : K ≤ n := by omega
  have hk3 : K ≤ 3 := by omega
  have HKK := Lib.hid hk
  clear h3 hn hk
  go_enter Try.func10, Try.ntmps10
  go_upto_region 2 with fail
  go_cut [10, 11, 12] (fun s10 s11 s12 wx => s10 = .slice A K cap ∧ s11 = .int .i64 K ∧ s12 = .int .i64 0 ∧ wx = w)
  case first =>
    have hk := HKK.out
    by_cases h8 : n ≤ 3
    · obtain rfl : K = n := by omega
      have h8' : (K : Int) ≤ 3 := by omega
      clear hk hk1
      go_wp2_with fail
      all_goals
        go_meet
        exact ⟨rfl, rfl, rfl, rfl⟩
    · obtain rfl : K = 3 := by omega
      have h8' : (3 : Int) < n := by omega
      clear hk hk1
      go_wp2_with fail
      all_goals
        go_meet
        exact ⟨rfl, rfl, rfl, rfl⟩
  case rest =>
    obtain ⟨rfl, rfl, rfl, rfl⟩ := hcut
    obtain ⟨w, rfl⟩ : ∃ x, x = wc := ⟨wc, rfl⟩
    have hKc : K ≤ cap := by omega
    go_wp2_with fail
    go_loopw [12, 3] (fun i u wr => ∃ r : Nat, r ≤ K ∧ i = .int .i64 r ∧ Hid (FewD w wr w.heap.size u ((cs.take r).map (List.take 6))) ∧ Hid (Below w.heap.size w wr)) (fun i _ _ => K - (intOf i).toNat)
    case atStart => exact ⟨0, Nat.zero_le _, rfl, Lib.hid (FewD.nil _ _ _), Lib.hid (Below.refl _ _)⟩
    case round =>
      obtain ⟨r, hr, rfl, HF, HB⟩ := hrel
      by_cases hrK : r < K
      · have hrb : decide ((r : Int) < K) = true := by simp; omega
        obtain ⟨a, u0, rfl, hal, hac, hrow⟩ := H3.out r (by have := HN.out; omega)
        replace hac := (HB.out.cell (p := a.add r) (by rw [block_add]; exact hal)).trans hac
        obtain ⟨c, hcr⟩ : ∃ c, c = cs[r]'(by have := HN.out; omega) := ⟨_, rfl⟩
        rw [← hcr] at hrow
        have HCR : Hid (cs[r]? = some c) := Lib.hid (by rw [hcr]; exact List.getElem?_eq_getElem _)
        obtain ⟨L, hL⟩ : ∃ L : Nat, c.length = L := ⟨_, rfl⟩
        obtain ⟨m, hm⟩ : ∃ m : Nat, m = min L 6 := ⟨_, rfl⟩
        have hrf : ∃ Ac capc, u0 = .slice Ac L capc ∧ L ≤ capc := by
          obtain ⟨Ac, capc, e, h1, _⟩ := hrow
          exact ⟨Ac, capc, by rw [← hL]; exact e, by omega⟩
        obtain ⟨Ac, capc, rfl, hLc⟩ := hrf
        have HV := Lib.hid (hrow.take m (by omega))
        have hmI : (if (6 : Int) < (L : Int) then (6 : Int) else (L : Int)) = (m : Int) := by split <;> omega
        have hmR := fun w => run_minD (P := Try.prog) #[3, 3] 3 _ _ _ hmI w
        have HST := Lib.hid (fewD_step cs r c HCR.out m (by rw [hL]; exact hm))
        have hmL : m ≤ L := by omega
        obtain ⟨us, g1, g2, g3⟩ := HF.out
        have hfl : ((cs.take r).map (List.take 6)).length = r := by rw [List.length_map, List.length_take]; have := HN.out; omega
        rw [hfl] at g2
        have HG1 := Lib.hid g1
        have HG2 := Lib.hid g2
        have HG3 := Lib.hid g3
        have HFL := Lib.hid hfl
        have hnb : (wr.alloc (.cells #[.slice Ac m capc] 62)).heap[wr.heap.size]? = some (.cells #[.slice Ac m capc] 62 (0, 0)) := heap_alloc_new _ _
        have HNB := Lib.hid hnb
        have huf := own_form g2
        have hbz := HB.out.size
        obtain ⟨i0, hi0, hz0, hz1, hz2⟩ := infos drinfo
        clear hrow hcr hL hm hmI hnb g1 g2 g3 hfl HF
        obtain ⟨Au, capu, rfl⟩ := huf
        go_wp2_with (at_builtin; refine wpList_append_lies _ rfl _ _ _ (by rfl) w.heap.size 62 i0 _ 1 24 Try.underlying22 hi0 hz0 hz1 hz2 (by rfl) (by omega) _ r _ (by rfl) (own_blocks HG2.out fun g hg => ((Below.refl _ wr).alloc (Nat.le_refl _) _).block g (HG2.out.lt g hg).2) ⟨wr.heap.size, 0, none⟩ 1 1 [.slice Ac m capc] (by rfl) (by rfl) (World.news_of_block HNB.out) (by simp [Value.oneCell']) (by omega) (by simp [maxLen]; omega) (by omega) (by simp; omega) (wr.heap.size + 1) (by simp) ?_; intro g cp w4 hown hgrow hat hlt)
        have FN := FewD.push (c := c.take m) HG1.out HG3.out HV.out HFL.out hown
        rw [← HST.out] at FN
        have BN : Below w.heap.size w w4 := (HB.out.alloc HB.out.size _).grown hgrow (by simp; omega) (fun q hq => (HG2.out.lt q hq).1)
        exact ⟨⟨r + 1, by omega, by go_num, Lib.hid FN, Lib.hid BN⟩, by simp [intOf]; omega⟩
      · obtain rfl : r = K := by omega
        obtain ⟨Af, capf, rfl, hdf⟩ := HF.out.read HB.out
        obtain ⟨fo, hfo⟩ : ∃ fo, (cs.take r).map (List.take 6) = fo := ⟨_, rfl⟩
        rw [hfo] at hdf
        rw [hfo]
        have HC := Lib.hid (outline_any Af fo.length capf fo wr hdf)
        have HSM := Lib.hid (outline_small fo)
        obtain ⟨nf, hnf⟩ : ∃ k, fo.length = k := ⟨_, rfl⟩
        rw [hnf] at HC
        rw [hnf]
        clear hdf hfo HF hnf
        go_wp2_with fail
        refine HC.out.mono ?_
        rintro e w5 ⟨v, rfl, hol, hb5⟩
        have HA := Lib.hid (all_any _ (outlineS fo) w5 hol.read HSM.out)
        have HB5 := Lib.hid (HB.out.trans (hb5.mono HB.out.size))
        obtain ⟨Ao, capo, rfl⟩ := hol.form
        have HPS := Lib.hid (pieces_small HSM.out)
        obtain ⟨N, hN⟩ : ∃ N, (outlineS fo).length = N := ⟨_, rfl⟩
        rw [hN] at HA
        rw [hN]
        clear hol hb5 HC hN
        go_wp2_with fail
        refine HA.out.mono ?_
        rintro e w6 ⟨Al, capl, rfl, hsr, hb6⟩
        have HFA := Lib.hid (fall_any _ _ w6 hsr HPS.out)
        have HB6 := Lib.hid (HB5.out.trans (hb6.mono HB5.out.size))
        clear hsr hb6 HA
        go_wp2_with fail
        refine HFA.out.mono ?_
        rintro e w7 ⟨u7, rfl, hu7, hb7⟩
        have HU7 := Lib.hid (hu7.mono HB6.out.size)
        have HB7 := Lib.hid (HB6.out.trans (hb7.mono HB6.out.size))
        have HLN := Lib.hid (show (((outlineS fo).map segsS).flatMap edgesS).length ≤ 100000 by
          have h := flat_len ((outlineS fo).map segsS) 1001 (fun d hd => (HPS.out.2 d hd).1)
          have h3 := Nat.mul_le_mul_right (4 * 1001) HPS.out.1
          omega)
        obtain ⟨A7, c7, e7⟩ := hu7.form
        obtain ⟨es, hes⟩ : ∃ es, ((outlineS fo).map segsS).flatMap edgesS = es := ⟨_, rfl⟩
        rw [hes] at HU7 HLN e7
        obtain ⟨n7, hn7⟩ : ∃ k, es.length = k := ⟨_, rfl⟩
        rw [hn7] at e7
        subst e7
        have HES := Lib.hid hes.symm
        clear hu7 hb7 HFA hes hn7
        go_wp2_with fail
        go_ret
        exact ⟨_, es, fo, rfl, HU7.out, HLN.out, HES.out, HB7.out⟩
theorem glyph_any (A : Option Addr) (n cap : Nat) (cs : List (List Dot)) (w : World) (hcs : DotRows w A n cap cs) :
    Calls Try.prog 10 #[.slice A n cap] w fun e w' => ∃ u es, e = .returned u ∧ ERow w' w.heap.size u es ∧ es.length ≤ 100000 ∧ Below w.heap.size w w' := by
  refine (glyph_more A n cap cs w hcs).mono ?_
  rintro e w' ⟨u, es, fo, rfl, h1, h2, _, h3⟩
  exact ⟨u, es, rfl, h1, h2, h3⟩

end Go.Proofs.Yteiildeaccngjaa

namespace Go.Proofs.Yteiildeaccngjaa
open Go.RowKit

def leP (M : Int) (p : Pt) : Prop := (-M ≤ p.x ∧ p.x ≤ M) ∧ -M ≤ p.y ∧ p.y ≤ M
def leV (v : Vtx) : Prop := (-255 ≤ v.x ∧ v.x ≤ 255) ∧ -255 ≤ v.y ∧ v.y ≤ 255
def leS (s : Sg) : Prop := leP 510 s.a ∧ leP 510 s.b ∧ leP 510 s.c
theorem leP_pt {v : Vtx} (h : leV v) : leP 510 (ptV v) := by unfold leV at h; unfold leP ptV; simp only []; omega
theorem leP_mid {u v : Vtx} (h : leV u) (k : leV v) : leP 510 (midV u v) := by unfold leV at h k; unfold leP midV; simp only []; omega
theorem leS_of {a c : Pt} (ctl : Option Vtx) (ha : leP 510 a) (hc : leP 510 c) (hu : ∀ u, ctl = some u → leV u) : leS (sgOf a ctl c) := by
  cases ctl with
  | none => exact ⟨ha, ha, hc⟩
  | some u => exact ⟨ha, leP_pt (hu u rfl), hc⟩
theorem less_walk (s : Pt) (hs : leP 510 s) : ∀ (vs : List Vtx) (a : Pt) (ctl : Option Vtx), leP 510 a → (∀ u, ctl = some u → leV u) → (∀ v ∈ vs, leV v) → ∀ x ∈ walkS s a ctl vs, leS x
  | [], a, ctl, ha, hu, _ => by
    intro x hx
    rw [walkS] at hx
    have : x = sgOf a ctl s := by simpa using hx
    subst this
    exact leS_of ctl ha hs hu
  | v :: vs, a, ctl, ha, hu, hv => by
    have hv0 := hv v List.mem_cons_self
    have hv1 := fun x hx => hv x (List.mem_cons_of_mem v hx)
    intro x hx
    by_cases h : v.on = true
    · rw [walk_on _ _ _ _ _ h] at hx
      rcases List.mem_cons.1 hx with rfl | hx
      · exact leS_of ctl ha (leP_pt hv0) hu
      · exact less_walk s hs vs (ptV v) none (leP_pt hv0) (fun u e => by cases e) hv1 x hx
    · have h' : v.on = false := by simpa using h
      cases ctl with
      | none =>
        rw [walk_first _ _ _ _ h'] at hx
        exact less_walk s hs vs a (some v) ha (fun u e => by cases e; exact hv0) hv1 x hx
      | some u =>
        rw [walk_mid _ _ _ _ _ h'] at hx
        rcases List.mem_cons.1 hx with rfl | hx
        · exact leS_of (some u) ha (leP_mid (hu u rfl) hv0) hu
        · exact less_walk s hs vs (midV u v) (some v) (leP_mid (hu u rfl) hv0) (fun w e => by cases e; exact hv0) hv1 x hx
theorem vtxAt_le {c : List Vtx} (h : ∀ v ∈ c, leV v) (i : Nat) : leV (vtxAt c i) := by
  unfold vtxAt
  rw [List.getD_eq_getElem?_getD]
  cases hc : c[i]? with
  | none => simp [leV]
  | some v => exact h v (List.mem_of_getElem? hc)
theorem segs_le {c : List Vtx} (h : ∀ v ∈ c, leV v) : ∀ x ∈ segsS c, leS x := by
  intro x hx
  unfold segsS at hx
  split at hx
  · cases hx
  · have hs : leP 510 (startS c) := by
      unfold startS
      split
      · exact leP_mid (vtxAt_le h _) (vtxAt_le h _)
      · exact leP_pt (vtxAt_le h _)
    refine less_walk _ hs _ _ none hs (fun u e => by cases e) (fun v hv => h v ?_) x hx
    unfold othersS at hv
    split at hv
    · exact hv
    · rcases List.mem_append.1 hv with hv | hv
      · exact List.mem_of_mem_drop hv
      · exact List.mem_of_mem_take hv
theorem onX_le (k : Nat) {a b c : Int} (ha : -510 ≤ a ∧ a ≤ 510) (hb : -510 ≤ b ∧ b ≤ 510) (hc : -510 ≤ c ∧ c ≤ 510) : -8160 ≤ onX k a b c ∧ onX k a b c ≤ 8160 := by
  unfold onX
  split <;> omega
theorem onV_le {s : Sg} (h : leS s) (k : Nat) : leP 8160 (onV s k) := by
  obtain ⟨⟨a0, a1⟩, ⟨b0, b1⟩, c0, c1⟩ := h
  have h0 := onX_le k a0 b0 c0
  have h1 := onX_le k a1 b1 c1
  exact ⟨h0, h1⟩
def leE (e : Ed) : Prop := leP 8160 e.a ∧ leP 8160 e.b
theorem chain_le : ∀ (l : List Pt), (∀ p ∈ l, leP 8160 p) → ∀ e ∈ chain l, leE e
  | [], _, e, he => by cases he
  | [p], _, e, he => by cases he
  | p :: q :: l, h, e, he => by
    rw [chain] at he
    rcases List.mem_append.1 he with he | he
    · unfold edge at he
      split at he
      · cases he
      · have : e = ⟨p, q⟩ := by simpa using he
        subst this
        exact ⟨h p List.mem_cons_self, h q (List.mem_cons_of_mem _ List.mem_cons_self)⟩
    · exact chain_le (q :: l) (fun x hx => h x (List.mem_cons_of_mem _ hx)) e he
theorem edges_le {l : List Sg} (h : ∀ s ∈ l, leS s) : ∀ e ∈ edgesS l, leE e := by
  intro e he
  unfold edgesS at he
  rw [List.mem_flatMap] at he
  obtain ⟨s, hs, he⟩ := he
  refine chain_le _ (fun p hp => ?_) e he
  unfold ptsOf at hp
  split at hp
  · simp only [List.mem_cons, List.not_mem_nil, or_false] at hp
    rcases hp with rfl | rfl | rfl | rfl | rfl <;> exact onV_le (h s hs) _
  · simp only [List.mem_cons, List.not_mem_nil, or_false] at hp
    rcases hp with rfl | rfl <;> exact onV_le (h s hs) _
theorem outline_le (cs : List (List Dot)) : ∀ c ∈ outlineS cs, ∀ v ∈ c, leV v := by
  obtain ⟨_, _, _, h4⟩ := checkS_zero (outlineS_check cs)
  intro c hc v hv
  have := h4 v (List.mem_flatten.2 ⟨c, hc, hv⟩)
  unfold inV at this
  unfold leV
  omega
/-- What the edges of an outline that the laws make are. -/
theorem glyph_facts (fo : List (List Dot)) : ∃ ls : List (List Ed), ((outlineS fo).map segsS).flatMap edgesS = ls.flatten ∧ (∀ l ∈ ls, ∃ q, Way q l q) ∧ ∀ e ∈ ls.flatten, leE e := by
  refine ⟨((outlineS fo).map segsS).map edgesS, by rw [List.flatMap_def], fun l hl => ?_, fun e he => ?_⟩
  · obtain ⟨c, hc, rfl⟩ := List.mem_map.1 hl
    obtain ⟨d, hd, rfl⟩ := List.mem_map.1 hc
    exact segs_way d
  · obtain ⟨l, hl, he⟩ := List.mem_flatten.1 he
    obtain ⟨c, hc, rfl⟩ := List.mem_map.1 hl
    obtain ⟨d, hd, rfl⟩ := List.mem_map.1 hc
    exact edges_le (segs_le (outline_le fo d hd)) e he

end Go.Proofs.Yteiildeaccngjaa
