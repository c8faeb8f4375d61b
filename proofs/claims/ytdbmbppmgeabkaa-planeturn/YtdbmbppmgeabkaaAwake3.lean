/-
  What the verifier's awake of layer 3 does to any world: it returns true (a contract; no claim is made here).
-/
import Derived.Test.YtdbmbppmgeabkaaPlace1
import Derived.Deep.CutBlock
import Derived.Deep.DeepCutAuto
import Derived.Deep.RegionWith
namespace Go.Proofs.Ytdbmbppmgeabkaa
open Go.RowKit

theorem aw3_sq1 (w : World) : Calls Try.prog 8 #[.agg #[.int .i64 0, .int .i64 0, .int .i64 10, .int .i64 0], .agg #[.int .i64 3, .int .i64 4]] w fun e w' => e = .returned (.agg #[.int .i64 16, .int .i64 1]) ∧ Below w.heap.size w w' :=
  square_any 0 0 10 0 3 4 ⟨⟨by decide, by decide⟩, ⟨by decide, by decide⟩, ⟨by decide, by decide⟩⟩ w
theorem aw3_sq2 (w : World) : Calls Try.prog 8 #[.agg #[.int .i64 0, .int .i64 0, .int .i64 10, .int .i64 0], .agg #[.int .i64 13, .int .i64 4]] w fun e w' => e = .returned (.agg #[.int .i64 25, .int .i64 1]) ∧ Below w.heap.size w w' :=
  square_any 0 0 10 0 13 4 ⟨⟨by decide, by decide⟩, ⟨by decide, by decide⟩, ⟨by decide, by decide⟩⟩ w
theorem aw3_line (w : World) : Calls Try.prog 15 #[.agg #[.int .i64 0, .int .i64 0, .int .i64 1, .int .i64 1], .agg #[.int .i64 3, .int .i64 0]] w fun e w' => e = .returned (.agg #[.int .i64 9, .int .i64 2]) ∧ Below w.heap.size w w' :=
  line_any 0 0 1 1 3 0 ⟨⟨by decide, by decide⟩, ⟨by decide, by decide⟩, ⟨by decide, by decide⟩⟩ w
theorem aw3_side (w : World) : Calls Try.prog 16 #[.agg #[.int .i64 0, .int .i64 0, .int .i64 10, .int .i64 0], .agg #[.int .i64 0, .int .i64 1]] w fun e w' => e = .returned (.int .i64 1) ∧ Below w.heap.size w w' :=
  side_any 0 0 10 0 0 1 ⟨⟨by decide, by decide⟩, ⟨by decide, by decide⟩, ⟨by decide, by decide⟩⟩ w

/-- Two cells of a block, and how they come to be. -/
def Pair2 (w : World) (g : Nat) (u v : Value) : Prop := w.cell? ⟨g, 0, none⟩ = some u ∧ w.cell? ⟨g, 1, none⟩ = some v
theorem pmk {W : World} {g : Nat} {u v : Value} (h0 : W.cell? ⟨g, 0, none⟩ = some u) (h1 : W.cell? ⟨g, 1, none⟩ = some v) : Pair2 W g u v := ⟨h0, h1⟩
theorem pnew {W : World} {g : Nat} (u v : Value) (t : TypeId) (h : g = W.heap.size) : Pair2 (W.alloc (.cells #[u, v] t)) g u v := by subst h; exact ⟨by simp, by simp⟩
theorem palloc {W : World} {g : Nat} {u v : Value} (o : Obj) (h : Pair2 W g u v) : Pair2 (W.alloc o) g u v := ⟨keepAlloc _ h.1, keepAlloc _ h.2⟩
theorem pset {W : World} {g : Nat} {x y : Value} (u v : Value) (h : Pair2 W g x y) : Pair2 ((W.setCell ⟨g, 0, none⟩ u).setCell ⟨g, 1, none⟩ v) g u v :=
  ⟨by rw [World.cell?_setCell_other _ _ _ _ (by simp)]; exact World.cell?_setCell_same _ _ _ h.1, World.cell?_setCell_same _ _ _ (by rw [World.cell?_setCell_other _ _ _ _ (by simp)]; exact h.2)⟩
theorem pover {W : World} {g k : Nat} {x y : Value} (u v : Value) (hk : ¬ g = k) (h : Pair2 W g x y) : Pair2 ((W.setCell ⟨k, 0, none⟩ u).setCell ⟨k, 1, none⟩ v) g x y := by
  have o : ∀ (W : World) (i j : Nat) (s : Value), (W.setCell ⟨k, i, none⟩ s).cell? ⟨g, j, none⟩ = W.cell? ⟨g, j, none⟩ := fun W i j s => World.cell?_setCell_other _ _ _ _ (by intro h; simp only [Addr.mk.injEq] at h; omega)
  exact ⟨by rw [o, o]; exact h.1, by rw [o, o]; exact h.2⟩
theorem size_set (W : World) (a : Addr) (v : Value) : (W.setCell a v).heap.size = W.heap.size := by simp

/-- An edge's four cells, and that nothing of w has turned. -/
theorem SE_alloc {w W : World} {g : Nat} {a b c d : Value} (o : Obj) (h : W.cell? ⟨g, 0, none⟩ = some a ∧ W.cell? ⟨g, 1, none⟩ = some b ∧ W.cell? ⟨g, 2, none⟩ = some c ∧ W.cell? ⟨g, 3, none⟩ = some d ∧ Below w.heap.size w W) :
    (W.alloc o).cell? ⟨g, 0, none⟩ = some a ∧ (W.alloc o).cell? ⟨g, 1, none⟩ = some b ∧ (W.alloc o).cell? ⟨g, 2, none⟩ = some c ∧ (W.alloc o).cell? ⟨g, 3, none⟩ = some d ∧ Below w.heap.size w (W.alloc o) :=
  ⟨keepAlloc _ h.1, keepAlloc _ h.2.1, keepAlloc _ h.2.2.1, keepAlloc _ h.2.2.2.1, h.2.2.2.2.alloc h.2.2.2.2.size _⟩
theorem SE_set {w W : World} {g k i : Nat} {a b c d : Value} (v : Value) (hk : ¬ g = k) (hg : w.heap.size ≤ k) (h : W.cell? ⟨g, 0, none⟩ = some a ∧ W.cell? ⟨g, 1, none⟩ = some b ∧ W.cell? ⟨g, 2, none⟩ = some c ∧ W.cell? ⟨g, 3, none⟩ = some d ∧ Below w.heap.size w W) :
    (W.setCell ⟨k, i, none⟩ v).cell? ⟨g, 0, none⟩ = some a ∧ (W.setCell ⟨k, i, none⟩ v).cell? ⟨g, 1, none⟩ = some b ∧ (W.setCell ⟨k, i, none⟩ v).cell? ⟨g, 2, none⟩ = some c ∧ (W.setCell ⟨k, i, none⟩ v).cell? ⟨g, 3, none⟩ = some d ∧ Below w.heap.size w (W.setCell ⟨k, i, none⟩ v) := by
  have o : ∀ j, (W.setCell ⟨k, i, none⟩ v).cell? ⟨g, j, none⟩ = W.cell? ⟨g, j, none⟩ := fun j => World.cell?_setCell_other _ _ _ _ (by intro h; simp only [Addr.mk.injEq] at h; omega)
  rw [o, o, o, o]
  exact ⟨h.1, h.2.1, h.2.2.1, h.2.2.2.1, h.2.2.2.2.setCell hg _⟩
theorem SE_drew {w W : World} {g : Nat} {a b c d : Value} (h : W.cell? ⟨g, 0, none⟩ = some a ∧ W.cell? ⟨g, 1, none⟩ = some b ∧ W.cell? ⟨g, 2, none⟩ = some c ∧ W.cell? ⟨g, 3, none⟩ = some d ∧ Below w.heap.size w W) :
    W.drew.cell? ⟨g, 0, none⟩ = some a ∧ W.drew.cell? ⟨g, 1, none⟩ = some b ∧ W.drew.cell? ⟨g, 2, none⟩ = some c ∧ W.drew.cell? ⟨g, 3, none⟩ = some d ∧ Below w.heap.size w W.drew :=
  ⟨h.1, h.2.1, h.2.2.1, h.2.2.2.1, h.2.2.2.2.drew⟩
theorem SE_call {w W W' : World} {g : Nat} {a b c d : Value} (hb : Below W.heap.size W W') (h : W.cell? ⟨g, 0, none⟩ = some a ∧ W.cell? ⟨g, 1, none⟩ = some b ∧ W.cell? ⟨g, 2, none⟩ = some c ∧ W.cell? ⟨g, 3, none⟩ = some d ∧ Below w.heap.size w W) :
    W'.cell? ⟨g, 0, none⟩ = some a ∧ W'.cell? ⟨g, 1, none⟩ = some b ∧ W'.cell? ⟨g, 2, none⟩ = some c ∧ W'.cell? ⟨g, 3, none⟩ = some d ∧ Below w.heap.size w W' :=
  ⟨keep hb h.1, keep hb h.2.1, keep hb h.2.2.1, keep hb h.2.2.2.1, below2 h.2.2.2.2 hb⟩

set_option maxHeartbeats 4000000 in
set_option maxRecDepth 100000 in
theorem awake_any (w : World) : Calls Try.prog 6 #[] w fun e w' => e = .returned (.bool true) ∧ Below w.heap.size w w' := by
  have S1 := Lib.hid aw3_sq1
  have S2 := Lib.hid aw3_sq2
  have L1 := Lib.hid aw3_line
  have D1 := Lib.hid aw3_side
  go_enter Try.func6, Try.ntmps6
  go_upto_region 2 with fail
  have TE : FourW (w.alloc (.cells #[.int .i64 0, .int .i64 0, .int .i64 10, .int .i64 0] 33)) w.heap.size _ _ _ _ := FourW.new _ _ _ _ _ rfl
  have BS := (Below.refl _ w).alloc (Nat.le_refl _) (.cells #[.int .i64 0, .int .i64 0, .int .i64 10, .int .i64 0] 33)
  generalize w.alloc (.cells #[.int .i64 0, .int .i64 0, .int .i64 10, .int .i64 0] 33) = ws at *
  have zs := TE.1.lt
  generalize hge : w.heap.size = ge at TE zs ⊢
  have hD : ws.cell? ⟨ge, 0, none⟩ = some (.int .i64 0) ∧ ws.cell? ⟨ge, 1, none⟩ = some (.int .i64 0) ∧ ws.cell? ⟨ge, 2, none⟩ = some (.int .i64 10) ∧ ws.cell? ⟨ge, 3, none⟩ = some (.int .i64 0) ∧ Below w.heap.size w ws := ⟨TE.1.1, TE.1.2.1, TE.1.2.2.1, TE.1.2.2.2, BS⟩
  clear TE BS
  go_cut [2, 3] (fun s2 s3 wx => ∃ g2 g3 : Nat, s2 = .pointer (some ⟨g2, 0, none⟩) ∧ s3 = .pointer (some ⟨g3, 0, none⟩) ∧ Pair2 wx g2 (.int .i64 16) (.int .i64 1) ∧ Pair2 wx g3 (.int .i64 25) (.int .i64 1) ∧
    (wx.cell? ⟨ge, 0, none⟩ = some (.int .i64 0) ∧ wx.cell? ⟨ge, 1, none⟩ = some (.int .i64 0) ∧ wx.cell? ⟨ge, 2, none⟩ = some (.int .i64 10) ∧ wx.cell? ⟨ge, 3, none⟩ = some (.int .i64 0) ∧ Below w.heap.size w wx))
  case first =>
    go_region_held3 (fun wx => wx.cell? ⟨ge, 0, none⟩ = some (.int .i64 0) ∧ wx.cell? ⟨ge, 1, none⟩ = some (.int .i64 0) ∧ wx.cell? ⟨ge, 2, none⟩ = some (.int .i64 10) ∧ wx.cell? ⟨ge, 3, none⟩ = some (.int .i64 0) ∧ Below w.heap.size w wx)
      ((repeat (first | with_reducible assumption | with_reducible refine SE_alloc _ ?_ | with_reducible refine SE_drew ?_ | with_reducible refine SE_set _ (by omega) (by omega) ?_)))
      (first
        | (go_at_call 8; (with_reducible refine (S1.out _).mono ?_); rintro e w2 ⟨rfl, hb2⟩; replace hb2 := undrew hb2; have hS2 : w2.cell? ⟨ge, 0, none⟩ = some (.int .i64 0) ∧ w2.cell? ⟨ge, 1, none⟩ = some (.int .i64 0) ∧ w2.cell? ⟨ge, 2, none⟩ = some (.int .i64 10) ∧ w2.cell? ⟨ge, 3, none⟩ = some (.int .i64 0) ∧ Below w.heap.size w w2 := SE_call hb2 (by (repeat (first | with_reducible assumption | with_reducible refine SE_alloc _ ?_ | with_reducible refine SE_drew ?_))); have hz2 : ws.heap.size ≤ w2.heap.size := (by have := hb2.size; (try simp at this); omega);
            (first
              | (have Ta : Two w2 (ws.heap.size + 1) (.int .i64 0) (.int .i64 0) := (Two.new _ _ _ (by simp)).keep hb2; have Tb : Two w2 ws.heap.size (.int .i64 0) (.int .i64 0) := ((Two.new _ _ _ rfl).alloc _).keep hb2; have Tac0 := Ta.1; have Tac1 := Ta.2.1; have Taf0 := Ta.2.2.1; have Taf1 := Ta.2.2.2; have Taz := Ta.lt; have Tbc0 := Tb.1; have Tbc1 := Tb.2.1; have Tbf0 := Tb.2.2.1; have Tbf1 := Tb.2.2.2; have Tbz := Tb.lt)
              | (have Tb : Two w2 ws.heap.size (.int .i64 0) (.int .i64 0) := (Two.new _ _ _ rfl).keep hb2; have Tbc0 := Tb.1; have Tbc1 := Tb.2.1; have Tbf0 := Tb.2.2.1; have Tbf1 := Tb.2.2.2; have Tbz := Tb.lt)
              | skip))
        | (go_at_call 8; (with_reducible refine (S2.out _).mono ?_); rintro e w3 ⟨rfl, hb3⟩; have hS3 : w3.cell? ⟨ge, 0, none⟩ = some (.int .i64 0) ∧ w3.cell? ⟨ge, 1, none⟩ = some (.int .i64 0) ∧ w3.cell? ⟨ge, 2, none⟩ = some (.int .i64 10) ∧ w3.cell? ⟨ge, 3, none⟩ = some (.int .i64 0) ∧ Below w.heap.size w w3 := SE_call hb3 (by (repeat (first | with_reducible assumption | with_reducible refine SE_alloc _ ?_ | with_reducible refine SE_drew ?_))); have hz3 : w2.heap.size ≤ w3.heap.size := (by have := hb3.size; (try simp at this); omega);
            (first | (have Tap := Ta.keep hb3; have Tapc0 := Tap.1; have Tapc1 := Tap.2.1; have Tapf0 := Tap.2.2.1; have Tapf1 := Tap.2.2.2; have Tapz := Tap.lt) | (have Tap := (Ta.alloc _).keep hb3; have Tapc0 := Tap.1; have Tapc1 := Tap.2.1; have Tapf0 := Tap.2.2.1; have Tapf1 := Tap.2.2.2; have Tapz := Tap.lt) | skip);
            (first | (have Tbp := Tb.keep hb3; have Tbpc0 := Tbp.1; have Tbpc1 := Tbp.2.1; have Tbpf0 := Tbp.2.2.1; have Tbpf1 := Tbp.2.2.2; have Tbpz := Tbp.lt) | (have Tbp := (Tb.alloc _).keep hb3; have Tbpc0 := Tbp.1; have Tbpc1 := Tbp.2.1; have Tbpf0 := Tbp.2.2.1; have Tbpf1 := Tbp.2.2.2; have Tbpz := Tbp.lt) | skip);
            (first
              | (have Tc : Two w3 (w2.heap.size + 1) (.int .i64 0) (.int .i64 0) := (Two.new _ _ _ (by simp)).keep hb3; have Td : Two w3 w2.heap.size (.int .i64 0) (.int .i64 0) := ((Two.new _ _ _ rfl).alloc _).keep hb3; have Tcc0 := Tc.1; have Tcc1 := Tc.2.1; have Tcf0 := Tc.2.2.1; have Tcf1 := Tc.2.2.2; have Tcz := Tc.lt; have Tdc0 := Td.1; have Tdc1 := Td.2.1; have Tdf0 := Td.2.2.1; have Tdf1 := Td.2.2.2; have Tdz := Td.lt)
              | (have Td : Two w3 w2.heap.size (.int .i64 0) (.int .i64 0) := (Two.new _ _ _ rfl).keep hb3; have Tdc0 := Td.1; have Tdc1 := Td.2.1; have Tdf0 := Td.2.2.1; have Tdf1 := Td.2.2.2; have Tdz := Td.lt)
              | skip)))
    all_goals
      go_wp2_with fail
      go_meet
      first
        | with_reducible exact ⟨_, _, rfl, rfl, palloc _ (pnew _ _ _ rfl), pnew _ _ _ (by simp), by assumption⟩
        | with_reducible exact ⟨_, _, rfl, rfl, pnew _ _ _ (by simp), palloc _ (pnew _ _ _ rfl), by assumption⟩
        | with_reducible exact ⟨_, _, rfl, rfl, palloc _ (pset _ _ (pmk (by assumption) (by assumption))), pnew _ _ _ (by simp), by assumption⟩
        | with_reducible exact ⟨_, _, rfl, rfl, pnew _ _ _ (by simp), palloc _ (pset _ _ (pmk (by assumption) (by assumption))), by assumption⟩
        | with_reducible exact ⟨_, _, rfl, rfl, pover _ _ (by omega) (pset _ _ (pmk (by assumption) (by assumption))), pset _ _ (pover _ _ (by omega) (pmk (by assumption) (by assumption))), by assumption⟩
  case rest =>
    obtain ⟨g2, g3, rfl, rfl, ⟨c20, c21⟩, ⟨c30, c31⟩, e0, e1, e2, e3, BX⟩ := hcut
    clear hD
    go_wp2_with fail
    refine (L1.out _).mono ?_
    rintro e w4 ⟨rfl, hb4⟩
    have B4 := Lib.hid (below2 BX hb4)
    replace c20 := keep hb4 c20
    replace c21 := keep hb4 c21
    replace c30 := keep hb4 c30
    replace c31 := keep hb4 c31
    replace e0 := keep hb4 e0
    replace e1 := keep hb4 e1
    replace e2 := keep hb4 e2
    replace e3 := keep hb4 e3
    clear hb4 BX
    have n2 := World.block_lt_of_cell? w4 _ c20
    have n3 := World.block_lt_of_cell? w4 _ c30
    have ne := World.block_lt_of_cell? w4 _ e0
    go_wp2_with fail
    refine (D1.out _).mono ?_
    rintro e w5 ⟨rfl, hb5⟩
    have B5 := Lib.hid (below2 (B4.out.alloc B4.out.size _) hb5)
    clear hb5
    go_wp2
    go_ret
    exact ⟨rfl, B5.out⟩

end Go.Proofs.Ytdbmbppmgeabkaa
