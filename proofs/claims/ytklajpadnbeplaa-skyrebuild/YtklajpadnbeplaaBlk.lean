/-
  A block that is known whole; old cells and blocks behind calls that make memory; min and max of two (no claim is made here).
-/
import Derived.Test.YtklajpadnbeplaaRows
import Derived.Test.YtklajpadnbeplaaChecked
import Derived.Lib.Hide
import Derived.WalkKit
import Derived.WalkSpells
import Derived.WalkLawsBesides
import Derived.IntWalk
import Derived.BigRegion
import Derived.Below
namespace Go.Proofs.Ytklajpadnbeplaa
open Go.RowKit

theorem heap_set (w : World) (p : Addr) (x : Value) (g : Nat) (h : g ≠ p.block) : (w.setCell p x).heap[g]? = w.heap[g]? := by
  simp only [World.setCell, Array.getElem?_modify]
  rw [if_neg (fun e => h e.symm)]
/-- A block of cells that may be written, known whole. -/
def Blk (w : World) (g : Nat) (t : TypeId) (vs : List Value) : Prop := w.heap[g]? = some (.cells vs.toArray t (0, 0))
theorem Blk.lt {w : World} {g : Nat} {t : TypeId} {vs : List Value} (h : Blk w g t vs) : g < w.heap.size := by
  unfold Blk at h
  exact (Array.getElem?_eq_some_iff.1 h).1
theorem Blk.cell {w : World} {g : Nat} {t : TypeId} {vs : List Value} (h : Blk w g t vs) (i : Nat) {v : Value} (hv : vs[i]? = some v) : w.cell? ⟨g, i, none⟩ = some v := by
  rw [cell_of_row w g i vs.toArray t (0, 0) h]
  simpa using hv
theorem Blk.frozen {w : World} {g : Nat} {t : TypeId} {vs : List Value} (h : Blk w g t vs) (i : Nat) : w.frozen? ⟨g, i, none⟩ = false := frozen_of_row w g i vs.toArray t h
theorem Blk.heap {w w' : World} {g : Nat} {t : TypeId} {vs : List Value} (h : Blk w g t vs) (hb : w'.heap[g]? = w.heap[g]?) : Blk w' g t vs := by unfold Blk; rw [hb]; exact h
theorem Blk.keep {w w' : World} {g : Nat} {t : TypeId} {vs : List Value} (h : Blk w g t vs) (hb : Below w.heap.size w w') : Blk w' g t vs := h.heap (hb.block g h.lt)
theorem Blk.alloc {w : World} {g : Nat} {t : TypeId} {vs : List Value} (h : Blk w g t vs) (o : Obj) : Blk (w.alloc o) g t vs := h.keep ((Below.refl _ w).alloc (Nat.le_refl _) o)
theorem Blk.new (w : World) (t : TypeId) (vs : List Value) {g : Nat} (h : g = w.heap.size) : Blk (w.alloc (.cells vs.toArray t)) g t vs := by subst h; exact heap_alloc_new w _
theorem Blk.set {w : World} {g : Nat} {t : TypeId} {vs : List Value} (h : Blk w g t vs) (i : Nat) (x : Value) : Blk (w.setCell ⟨g, i, none⟩ x) g t (vs.set i x) := by
  unfold Blk
  rw [heap_setCell_same w g i vs.toArray t x h]
  simp
theorem Blk.other {w : World} {g k : Nat} {t : TypeId} {vs : List Value} (h : Blk w g t vs) (i : Nat) (x : Value) (hne : g ≠ k) : Blk (w.setCell ⟨k, i, none⟩ x) g t vs := h.heap (heap_set w ⟨k, i, none⟩ x g hne)
theorem Blk.grown {w w' : World} {g : Nat} {t : TypeId} {vs : List Value} {row : Option Nat} (h : Blk w g t vs) (hg : w.grownBy w' row) (hne : some g ≠ row) : Blk w' g t vs := h.heap (hg.block g h.lt hne)
theorem Blk.drew {w : World} {g : Nat} {t : TypeId} {vs : List Value} (h : Blk w g t vs) : Blk w.drew g t vs := h
theorem Blk.drewN {w : World} {g : Nat} {t : TypeId} {vs : List Value} (h : Blk w g t vs) (n : Nat) : Blk (w.drewN n) g t vs := h
/-- What stays but in some blocks. -/
structure But (ks : Nat → Prop) (w w' : World) : Prop where
  os : w'.os = w.os
  tape : w'.tape = w.tape
  output : w'.output = w.output
  size : w.heap.size ≤ w'.heap.size
  block : ∀ k, k < w.heap.size → ¬ ks k → w'.heap[k]? = w.heap[k]?
theorem But.below {ks : Nat → Prop} {w w' : World} (h : But ks w w') {B : Nat} (hk : ∀ k, ks k → B ≤ k) (hB : B ≤ w.heap.size) : Below B w w' :=
  ⟨h.os, h.tape, h.output, h.size, fun k hlt => h.block k (by omega) (fun hh => by have := hk k hh; omega)⟩
theorem But.of {ks : Nat → Prop} {w w' : World} (h : Below w.heap.size w w') : But ks w w' := ⟨h.os, h.tape, h.output, h.size, fun k hlt _ => h.block k hlt⟩
theorem But.trans {ks : Nat → Prop} {a b c : World} (h : But ks a b) (k : But ks b c) : But ks a c :=
  ⟨k.os.trans h.os, k.tape.trans h.tape, k.output.trans h.output, Nat.le_trans h.size k.size, fun i hi hk => (k.block i (Nat.lt_of_lt_of_le hi h.size) hk).trans (h.block i hi hk)⟩
theorem But.set {ks : Nat → Prop} {a b : World} (h : But ks a b) (p : Addr) (hp : ks p.block) (x : Value) : But ks a (b.setCell p x) :=
  ⟨h.os, h.tape, h.output, by simpa using h.size, fun i hi hk => (heap_set b p x i (fun e => hk (e ▸ hp))).trans (h.block i hi hk)⟩
theorem But.grown {ks : Nat → Prop} {a b c : World} {row : Option Nat} (h : But ks a b) (hg : b.grownBy c row) (hr : ∀ g, row = some g → g < a.heap.size → ks g) : But ks a c :=
  ⟨hg.os.trans h.os, hg.tape.trans h.tape, hg.output.trans h.output, Nat.le_trans h.size hg.size, fun i hi hk => (hg.block i (Nat.lt_of_lt_of_le hi h.size) (fun e => hk (hr i e.symm hi))).trans (h.block i hi hk)⟩
theorem ret_int {k : IntKind} {a b : Int} (h : a = b) : Ending.returned (.int k a) = .returned (.int k b) := by rw [h]
theorem ret_bool {a b : Bool} (h : a = b) : Ending.returned (.bool a) = .returned (.bool b) := by rw [h]
/-- What a call that makes memory leaves: old cells, old marks, old blocks, as rules for a walk. -/
theorem bcell {W w1 : World} (hb : Below W.heap.size W w1) : (∀ b o, b < W.heap.size → w1.cell? ⟨b, o, none⟩ = W.cell? ⟨b, o, none⟩) ∧ (∀ b o, b < W.heap.size → w1.frozen? ⟨b, o, none⟩ = W.frozen? ⟨b, o, none⟩) ∧ (∀ k, k < W.heap.size → k < w1.heap.size) :=
  ⟨fun b o h => hb.cell (p := ⟨b, o, none⟩) h, fun b o h => hb.frozen (p := ⟨b, o, none⟩) h, fun _ h => Nat.lt_of_lt_of_le h hb.size⟩
theorem below2 {w a b : World} (h : Below w.heap.size w a) (k : Below a.heap.size a b) : Below w.heap.size w b := h.trans (k.mono h.size)
/-- A cell that was there is there. -/
theorem keep {W w' : World} (hb : Below W.heap.size W w') {a : Addr} {v : Value} (h : W.cell? a = some v) : w'.cell? a = some v := by
  rw [hb.cell (World.block_lt_of_cell? W a h)]; exact h
theorem keepAlloc {W : World} (o : Obj) {a : Addr} {v : Value} (h : W.cell? a = some v) : (W.alloc o).cell? a = some v :=
  keep ((Below.refl _ W).alloc (Nat.le_refl _) o) h
/-- Two cells stored, one behind the other, into a block that is new. -/
theorem pair_stored {w w3 : World} {g : Nat} {u v : Value} (s1 s0 : Value) (hb : Below w.heap.size w w3) (hg : w.heap.size ≤ g) (h0 : w3.cell? ⟨g, 0, none⟩ = some u) (h1 : w3.cell? ⟨g, 1, none⟩ = some v) :
    ((w3.setCell ⟨g, 0, none⟩ s1).setCell ⟨g, 1, none⟩ s0).cell? ⟨g, 0, none⟩ = some s1 ∧ ((w3.setCell ⟨g, 0, none⟩ s1).setCell ⟨g, 1, none⟩ s0).cell? ⟨g, 1, none⟩ = some s0 ∧ Below w.heap.size w ((w3.setCell ⟨g, 0, none⟩ s1).setCell ⟨g, 1, none⟩ s0) := by
  have e1 : (w3.setCell ⟨g, 0, none⟩ s1).cell? ⟨g, 1, none⟩ = some v := by rw [World.cell?_setCell_other _ _ _ _ (by simp)]; exact h1
  refine ⟨?_, World.cell?_setCell_same _ _ _ e1, (hb.setCell hg _).setCell hg _⟩
  rw [World.cell?_setCell_other _ _ _ _ (by simp)]
  exact World.cell?_setCell_same _ _ _ h0
theorem undrew {W w' : World} (h : Below W.drew.heap.size W.drew w') : Below W.heap.size W w' := ⟨h.os, h.tape, h.output, h.size, h.block⟩
theorem wI {x : Int} (h1 : -9223372036854775808 ≤ x) (h2 : x ≤ 9223372036854775807) : IntKind.i64.wrap x = x := IntWalk.i64_in _ ⟨h1, h2⟩
theorem below3 (w : World) (a b c : Obj) : Below w.heap.size w (((w.alloc a).alloc b).alloc c) := (((Below.refl _ w).alloc (Nat.le_refl _) _).alloc (by simp) _).alloc (by simp; omega) _
theorem undrew0 {W w' : World} (hb : Below W.drew.heap.size W.drew w') : Below W.heap.size W w' := ⟨hb.os, hb.tape, hb.output, hb.size, hb.block⟩
theorem lt_alloc {w : World} {k : Nat} (h : k < w.heap.size) (o : Obj) : k < (w.alloc o).heap.size := by simp; omega
theorem below_alloc {W w' : World} {o : Obj} (hb : Below (W.alloc o).heap.size (W.alloc o) w') : Below W.heap.size W w' := ((Below.refl _ W).alloc (Nat.le_refl _) o).trans (hb.mono (by simp))
theorem run_min2i {P : Program} (ats : Array TypeId) (ty : TypeId) (a b : Int) (w : World) : Sem.run P (Builtin.min_ ats ty #[.int .i64 a, .int .i64 b]) w = .ok (.int .i64 (min a b)) w := by
  simp [Builtin.min_, Builtin.min2, Int.min_def]; split <;> split <;> (try omega) <;> (try rfl) <;> (congr 2; omega)
theorem run_max2i {P : Program} (ats : Array TypeId) (ty : TypeId) (a b : Int) (w : World) : Sem.run P (Builtin.max_ ats ty #[.int .i64 a, .int .i64 b]) w = .ok (.int .i64 (max a b)) w := by
  simp [Builtin.max_, Builtin.max2, Int.max_def]; split <;> split <;> (try omega) <;> (try rfl) <;> (congr 2; omega)
theorem floor_neg (a b : Int) (ha : a < 0) (hb : 1 ≤ b) : (0 ≤ a.tmod b → a.tdiv b = a / b) ∧ (a.tmod b < 0 → a.tdiv b - 1 = a / b) := by
  have h0 := Int.emod_nonneg a (show b ≠ 0 by omega)
  have h1 := Int.emod_lt_of_pos a (show 0 < b by omega)
  have hs : b.sign = 1 := Int.sign_eq_one_of_pos (by omega)
  rw [Int.tdiv_eq_ediv, Int.tmod_eq_emod]
  split
  · next h =>
    rcases h with h | h
    · omega
    · have := Int.emod_eq_zero_of_dvd h
      omega
  · rw [hs]; omega
theorem ediv_bounds (a b : Int) (ha : -9223372036854775808 ≤ a) (ha2 : a ≤ 9223372036854775807) (hb : 1 ≤ b) : -9223372036854775808 ≤ a / b ∧ a / b ≤ 9223372036854775807 := by
  constructor
  · rw [Int.le_ediv_iff_mul_le (by omega)]
    have := Int.mul_le_mul_of_nonneg_left hb (show (0 : Int) ≤ 9223372036854775808 by omega)
    omega
  · have : a / b < 9223372036854775808 := by
      rw [Int.ediv_lt_iff_lt_mul (by omega)]
      have := Int.mul_le_mul_of_nonneg_left hb (show (0 : Int) ≤ 9223372036854775808 by omega)
      omega
    omega
theorem alloc2 (w : World) (a b : Obj) : Below w.heap.size w ((w.alloc a).alloc b) := ((Below.refl _ w).alloc (Nat.le_refl _) _).alloc (by simp) _
theorem alloc3 (w : World) (a b c : Obj) : Below w.heap.size w (((w.alloc a).alloc b).alloc c) := (alloc2 w a b).alloc (alloc2 w a b).size _

end Go.Proofs.Ytklajpadnbeplaa
