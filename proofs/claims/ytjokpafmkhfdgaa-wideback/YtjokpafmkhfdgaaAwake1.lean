/-
  What the verifier's awake of layer 1 does to any world: it returns true (a contract; no claim is made here).
-/
import Derived.Test.YtjokpafmkhfdgaaDiv3
namespace Go.Proofs.Ytjokpafmkhfdgaa
open Go.RowKit

theorem aw_mul (w : World) : Calls Try.prog 12 #[.int .u64 9223372036854775808, .int .u64 4] w fun e w' => e = .returned (.agg #[.int .u64 2, .int .u64 0]) ∧ Below w.heap.size w w' :=
  mul_any 9223372036854775808 4 (by omega) (by omega) w
theorem aw_div3 (w : World) : Calls Try.prog 18 #[.agg #[.int .u64 2, .int .u64 0], .int .u64 3] w fun e w' => e = .returned (.tuple #[.int .u64 12297829382473034410, .int .u64 2, .int .i64 0]) ∧ Below w.heap.size w w' :=
  div_ok 2 0 3 (by omega) (by omega) (by omega) w
theorem aw_div2 (w : World) : Calls Try.prog 18 #[.agg #[.int .u64 2, .int .u64 0], .int .u64 2] w fun e w' => e = .returned (.tuple #[.int .u64 0, .int .u64 0, .int .i64 10]) ∧ Below w.heap.size w w' :=
  div_over 2 0 2 (by omega) w
theorem aw_add (w : World) : Calls Try.prog 19 #[.int .i64 4611686018427387904, .int .i64 4611686018427387904] w fun e w' => e = .returned (.tuple #[.int .i64 (-9223372036854775808), .bool false]) ∧ w = w' :=
  (add_any 4611686018427387904 4611686018427387904 (by omega) (by omega) (by omega) (by omega) w).mono fun _ _ ⟨he, hw⟩ => ⟨he.trans (tuple_int_bool (by unfold wrap64; omega) (by decide)), hw⟩
theorem aw_less (w : World) : Calls Try.prog 22 #[.int .i64 1, .int .i64 2, .int .i64 2, .int .i64 4] w fun e w' => e = .returned (.int .i64 0) ∧ Below w.heap.size w w' :=
  less_any 1 2 2 4 (by omega) (by omega) (by omega) (by omega) w

/-- What a call that makes memory leaves: old cells, old marks, old blocks, as rules for a walk. -/
theorem bcell {W w1 : World} (hb : Below W.heap.size W w1) : (∀ b o, b < W.heap.size → w1.cell? ⟨b, o, none⟩ = W.cell? ⟨b, o, none⟩) ∧ (∀ b o, b < W.heap.size → w1.frozen? ⟨b, o, none⟩ = W.frozen? ⟨b, o, none⟩) ∧ (∀ k, k < W.heap.size → k < w1.heap.size) :=
  ⟨fun b o h => hb.cell (p := ⟨b, o, none⟩) h, fun b o h => hb.frozen (p := ⟨b, o, none⟩) h, fun _ h => Nat.lt_of_lt_of_le h hb.size⟩
theorem below2 {w a b : World} (h : Below w.heap.size w a) (k : Below a.heap.size a b) : Below w.heap.size w b := h.trans (k.mono h.size)

/-- A cell that was there is there. -/
theorem keep {W w' : World} (hb : Below W.heap.size W w') {a : Addr} {v : Value} (h : W.cell? a = some v) : w'.cell? a = some v := by
  rw [hb.cell (World.block_lt_of_cell? W a h)]; exact h
theorem keepAlloc {W : World} (o : Obj) {a : Addr} {v : Value} (h : W.cell? a = some v) : (W.alloc o).cell? a = some v :=
  keep ((Below.refl _ W).alloc (Nat.le_refl _) o) h

/-- Two cells stored, one behind the other, into a block that is new. -/
theorem pair_stored {w w3 : World} {g : Nat} {u v : Value} (s1 s0 : Value) (hb : Below w.heap.size w w3) (hg : w.heap.size ≤ g) (h0 : w3.cell? ⟨g, 0, none⟩ = some u) (h1 : w3.cell? ⟨g, 1, none⟩ = some v) :
    ((w3.setCell ⟨g, 0, none⟩ s1).setCell ⟨g, 1, none⟩ s0).cell? ⟨g, 0, none⟩ = some s1 ∧ ((w3.setCell ⟨g, 0, none⟩ s1).setCell ⟨g, 1, none⟩ s0).cell? ⟨g, 1, none⟩ = some s0 ∧ Below w.heap.size w ((w3.setCell ⟨g, 0, none⟩ s1).setCell ⟨g, 1, none⟩ s0) := by
  have e1 : (w3.setCell ⟨g, 0, none⟩ s1).cell? ⟨g, 1, none⟩ = some v := by rw [World.cell?_setCell_other _ _ _ _ (by simp)]; exact h1
  refine ⟨?_, World.cell?_setCell_same _ _ _ e1, (hb.setCell hg _).setCell hg _⟩
  rw [World.cell?_setCell_other _ _ _ _ (by simp)]
  exact World.cell?_setCell_same _ _ _ h0

set_option maxHeartbeats 1000000 in
set_option maxRecDepth 100000 in
theorem awake_any (w : World) : Calls Try.prog 10 #[] w fun e w' => e = .returned (.bool true) ∧ Below w.heap.size w w' := by
  go_enter Try.func10, Try.ntmps10
  go_wp2_with fail
  refine (aw_mul _).mono ?_
  rintro e w1 ⟨rfl, hb1⟩
  go_wp2_with fail
  refine (aw_div3 _).mono ?_
  rintro e w2 ⟨rfl, hb2⟩
  have z2 : w1.heap.size < w2.heap.size := by have := hb2.size; simp at this; omega
  have c20 : w2.cell? ⟨w1.heap.size, 0, none⟩ = some (.int .u64 2) := (hb2.cell (p := ⟨w1.heap.size, 0, none⟩) (by simp)).trans (by simp)
  have c21 : w2.cell? ⟨w1.heap.size, 1, none⟩ = some (.int .u64 0) := (hb2.cell (p := ⟨w1.heap.size, 1, none⟩) (by simp)).trans (by simp)
  go_wp2_with fail
  refine (aw_div2 _).mono ?_
  rintro e w3 ⟨rfl, hb3⟩
  have c30 : w3.cell? ⟨w1.heap.size, 0, none⟩ = some (.int .u64 2) := (hb3.cell (p := ⟨w1.heap.size, 0, none⟩) z2).trans c20
  have c31 : w3.cell? ⟨w1.heap.size, 1, none⟩ = some (.int .u64 0) := (hb3.cell (p := ⟨w1.heap.size, 1, none⟩) z2).trans c21
  go_wp2_with fail
  refine (aw_add _).mono ?_
  rintro e w4 ⟨rfl, rfl⟩
  go_wp2_with fail
  refine (aw_less _).mono ?_
  rintro e w4 ⟨rfl, hb4⟩
  go_wp2_with fail
  go_ret
  refine ⟨rfl, ?_⟩
  exact ((((hb1.alloc hb1.size _).trans (hb2.mono (by simp; exact Nat.le_succ_of_le hb1.size))).trans (hb3.mono (by have := hb1.size; omega))).trans (hb4.mono (by have := hb1.size; have := hb3.size; omega)))

end Go.Proofs.Ytjokpafmkhfdgaa
