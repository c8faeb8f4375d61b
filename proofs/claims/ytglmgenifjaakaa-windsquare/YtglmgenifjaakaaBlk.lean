/-
  A block that is known whole; pieces' cells; rows of pieces (no claim is made here).
-/
import Derived.Test.YtglmgenifjaakaaVrd
import Derived.Test.YtglmgenifjaakaaPathMath
namespace Go.Proofs.Ytglmgenifjaakaa
open Go.RowKit

/-- A block of cells that may be written, known whole. -/
def Blk (w : World) (g : Nat) (t : TypeId) (vs : List Value) : Prop := w.heap[g]? = some (.cells vs.toArray t (0, 0))
theorem Blk.lt {w : World} {g : Nat} {t : TypeId} {vs : List Value} (h : Blk w g t vs) : g < w.heap.size := by
  unfold Blk at h
  exact (Array.getElem?_eq_some_iff.1 h).1
theorem Blk.cell {w : World} {g : Nat} {t : TypeId} {vs : List Value} (h : Blk w g t vs) (i : Nat) {v : Value} (hv : vs[i]? = some v) : w.cell? ⟨g, i, none⟩ = some v := by
  rw [cell_of_row w g i vs.toArray t (0, 0) h]
  simpa using hv
theorem Blk.frozen {w : World} {g : Nat} {t : TypeId} {vs : List Value} (h : Blk w g t vs) (i : Nat) : w.frozen? ⟨g, i, none⟩ = false := frozen_of_row w g i vs.toArray t h
theorem Blk.heap {w w' : World} {g : Nat} {t : TypeId} {vs : List Value} (h : Blk w g t vs) (hb : w'.heap[g]? = w.heap[g]?) : Blk w' g t vs := by unfold Blk; rw [hb]; exact h
theorem Blk.keep {w w' : World} {g : Nat} {t : TypeId} {vs : List Value} (h : Blk w g t vs) (hb : Below w.heap.size w w') : Blk w' g t vs := h.heap (hb.block g h.lt)
theorem Blk.alloc {w : World} {g : Nat} {t : TypeId} {vs : List Value} (h : Blk w g t vs) (o : Obj) : Blk (w.alloc o) g t vs := h.keep ((Below.refl _ w).alloc (Nat.le_refl _) o)
theorem Blk.new (w : World) (t : TypeId) (vs : List Value) {g : Nat} (h : g = w.heap.size) : Blk (w.alloc (.cells vs.toArray t)) g t vs := by subst h; exact heap_alloc_new w _
theorem Blk.set {w : World} {g : Nat} {t : TypeId} {vs : List Value} (h : Blk w g t vs) (i : Nat) (x : Value) : Blk (w.setCell ⟨g, i, none⟩ x) g t (vs.set i x) := by
  unfold Blk
  rw [heap_setCell_same w g i vs.toArray t x h]
  simp
theorem Blk.other {w : World} {g k : Nat} {t : TypeId} {vs : List Value} (h : Blk w g t vs) (i : Nat) (x : Value) (hne : g ≠ k) : Blk (w.setCell ⟨k, i, none⟩ x) g t vs := h.heap (heap_set w ⟨k, i, none⟩ x g hne)
theorem Blk.grown {w w' : World} {g : Nat} {t : TypeId} {vs : List Value} {row : Option Nat} (h : Blk w g t vs) (hg : w.grownBy w' row) (hne : some g ≠ row) : Blk w' g t vs := h.heap (hg.block g h.lt hne)
theorem Blk.drew {w : World} {g : Nat} {t : TypeId} {vs : List Value} (h : Blk w g t vs) : Blk w.drew g t vs := h
theorem Blk.drewN {w : World} {g : Nat} {t : TypeId} {vs : List Value} (h : Blk w g t vs) (n : Nat) : Blk (w.drewN n) g t vs := h

/-- A piece's cells; a row of pieces that is ours, one that is read. -/
def scell (s : Sg) : List Value := [.int .i64 s.a.x, .int .i64 s.a.y, .int .i64 s.b.x, .int .i64 s.b.y, .int .i64 s.c.x, .int .i64 s.c.y, .bool s.curve]
def scells (l : List Sg) : List Value := l.flatMap scell
theorem scells_length : ∀ l : List Sg, (scells l).length = l.length * 7
  | [] => rfl
  | s :: l => by
    have := scells_length l
    unfold scells at *
    simp only [List.flatMap_cons, List.length_append, List.length_cons, this]
    simp [scell]
    omega
theorem scells_push (l : List Sg) (s : Sg) : scells (l ++ [s]) = scells l ++ scell s := by simp [scells]
def SRow (w : World) (base : Nat) (u : Value) (l : List Sg) : Prop := w.ownsRow base 70 7 u l.length (scells l)
def SAt (w : World) (a : Addr) (i : Nat) (s : Sg) : Prop :=
  w.cell? (a.add (i * 7)) = some (.int .i64 s.a.x) ∧ w.cell? (a.add (i * 7 + 1)) = some (.int .i64 s.a.y) ∧ w.cell? (a.add (i * 7 + 2)) = some (.int .i64 s.b.x) ∧ w.cell? (a.add (i * 7 + 3)) = some (.int .i64 s.b.y) ∧ w.cell? (a.add (i * 7 + 4)) = some (.int .i64 s.c.x) ∧ w.cell? (a.add (i * 7 + 5)) = some (.int .i64 s.c.y) ∧ w.cell? (a.add (i * 7 + 6)) = some (.bool s.curve)
def SRd (w : World) (v : Value) (l : List Sg) : Prop :=
  ∃ A cap, v = .slice A l.length cap ∧ l.length ≤ cap ∧ ∀ i (h : i < l.length), ∃ a, A = some a ∧ a.block < w.heap.size ∧ SAt w a i (l[i])
theorem SAt.keep {w w' : World} {a : Addr} {i : Nat} {s : Sg} (h : SAt w a i s) (hl : a.block < w.heap.size) (hb : Below w.heap.size w w') : SAt w' a i s := by
  obtain ⟨h0, h1, h2, h3, h4, h5, h6⟩ := h
  have k : ∀ j, w'.cell? (a.add j) = w.cell? (a.add j) := fun j => hb.cell (by rw [block_add]; exact hl)
  exact ⟨(k _).trans h0, (k _).trans h1, (k _).trans h2, (k _).trans h3, (k _).trans h4, (k _).trans h5, (k _).trans h6⟩
theorem SRd.keep {w w' : World} {v : Value} {l : List Sg} (h : SRd w v l) (hb : Below w.heap.size w w') : SRd w' v l := by
  obtain ⟨A, cap, e, h1, h3⟩ := h
  refine ⟨A, cap, e, h1, fun i hi => ?_⟩
  obtain ⟨a, ha, hlt, h⟩ := h3 i hi
  exact ⟨a, ha, Nat.lt_of_lt_of_le hlt hb.size, h.keep hlt hb⟩
theorem scells_at : ∀ (l : List Sg) (i j : Nat) (h : i < l.length), j < 7 → (scells l)[i * 7 + j]? = (scell (l[i]))[j]?
  | s :: l, 0, j, _, hj => by
    have e : scells (s :: l) = scell s ++ scells l := by simp [scells]
    rw [e, Nat.zero_mul, Nat.zero_add, List.getElem?_append_left (by simp [scell]; omega)]
    rfl
  | s :: l, i + 1, j, h, hj => by
    have e : scells (s :: l) = scell s ++ scells l := by simp [scells]
    rw [e, List.getElem?_append_right (by simp [scell]; omega)]
    have := scells_at l i j (by simpa using h) hj
    rw [show (i + 1) * 7 + j - (scell s).length = i * 7 + j by simp [scell]; omega, this]
    rfl
theorem SRow.read {w : World} {base : Nat} {u : Value} {l : List Sg} (h : SRow w base u l) : SRd w u l := by
  rcases h.2 with ⟨rfl, h0⟩ | ⟨g, cap, cur, rfl, _, hg, hl, _, _, _⟩
  · have : l = [] := List.eq_nil_of_length_eq_zero h0
    subst this
    exact ⟨none, 0, rfl, Nat.le_refl _, fun i hi => absurd hi (Nat.not_lt_zero _)⟩
  · refine ⟨_, cap, rfl, hl, fun i hi => ⟨_, rfl, (World.ownsRow.lt h g rfl).2, ?_⟩⟩
    have k := fun j hj => scells_at l i j hi hj
    exact ⟨World.ownsRow.cells h rfl _ _ (k 0 (by omega)), World.ownsRow.cells h rfl _ _ (k 1 (by omega)), World.ownsRow.cells h rfl _ _ (k 2 (by omega)), World.ownsRow.cells h rfl _ _ (k 3 (by omega)), World.ownsRow.cells h rfl _ _ (k 4 (by omega)), World.ownsRow.cells h rfl _ _ (k 5 (by omega)), World.ownsRow.cells h rfl _ _ (k 6 (by omega))⟩
theorem SRow.below {w w' : World} {base : Nat} {u : Value} {l : List Sg} (h : SRow w base u l) (hb : Below w.heap.size w w') : SRow w' base u l :=
  own_blocks h fun g hg => hb.block g (h.lt g hg).2
theorem SRow.own {w : World} {base : Nat} {u : Value} {l : List Sg} {j : Nat} (h : SRow w base u l) (hl : l.length = j) : w.ownsRow base 70 7 u j (scells l) := hl ▸ h
theorem sinfo : (Try.prog.info? 70).map (fun i => (i.zero, i.size, i.bytes)) = some (some (.agg #[.int .i64 0, .int .i64 0, .int .i64 0, .int .i64 0, .int .i64 0, .int .i64 0, .bool false]), 7, 56) := by kernel_rfl

/-- What stays but in some blocks. -/
structure But (ks : Nat → Prop) (w w' : World) : Prop where
  os : w'.os = w.os
  tape : w'.tape = w.tape
  output : w'.output = w.output
  size : w.heap.size ≤ w'.heap.size
  block : ∀ k, k < w.heap.size → ¬ ks k → w'.heap[k]? = w.heap[k]?
theorem But.below {ks : Nat → Prop} {w w' : World} (h : But ks w w') {B : Nat} (hk : ∀ k, ks k → B ≤ k) (hB : B ≤ w.heap.size) : Below B w w' :=
  ⟨h.os, h.tape, h.output, h.size, fun k hlt => h.block k (by omega) (fun hh => by have := hk k hh; omega)⟩
theorem But.of {ks : Nat → Prop} {w w' : World} (h : Below w.heap.size w w') : But ks w w' := ⟨h.os, h.tape, h.output, h.size, fun k hlt _ => h.block k hlt⟩
theorem But.trans {ks : Nat → Prop} {a b c : World} (h : But ks a b) (k : But ks b c) : But ks a c :=
  ⟨k.os.trans h.os, k.tape.trans h.tape, k.output.trans h.output, Nat.le_trans h.size k.size, fun i hi hk => (k.block i (Nat.lt_of_lt_of_le hi h.size) hk).trans (h.block i hi hk)⟩
theorem But.set {ks : Nat → Prop} {a b : World} (h : But ks a b) (p : Addr) (hp : ks p.block) (x : Value) : But ks a (b.setCell p x) :=
  ⟨h.os, h.tape, h.output, by simpa using h.size, fun i hi hk => (heap_set b p x i (fun e => hk (e ▸ hp))).trans (h.block i hi hk)⟩
theorem But.grown {ks : Nat → Prop} {a b c : World} {row : Option Nat} (h : But ks a b) (hg : b.grownBy c row) (hr : ∀ g, row = some g → g < a.heap.size → ks g) : But ks a c :=
  ⟨hg.os.trans h.os, hg.tape.trans h.tape, hg.output.trans h.output, Nat.le_trans h.size hg.size, fun i hi hk => (hg.block i (Nat.lt_of_lt_of_le hi h.size) (fun e => hk (hr i e.symm hi))).trans (h.block i hi hk)⟩

end Go.Proofs.Ytglmgenifjaakaa
