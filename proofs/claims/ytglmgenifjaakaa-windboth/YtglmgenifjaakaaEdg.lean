/-
  Edges' cells; rows of edges (no claim is made here).
-/
import Derived.Test.YtglmgenifjaakaaBlk
import Derived.Test.YtglmgenifjaakaaFlatMath
namespace Go.Proofs.Ytglmgenifjaakaa
open Go.RowKit

/-- An edge's cells; a row of edges that is ours, one that is read. -/
def ecell (s : Ed) : List Value := [.int .i64 s.a.x, .int .i64 s.a.y, .int .i64 s.b.x, .int .i64 s.b.y]
def ecells (l : List Ed) : List Value := l.flatMap ecell
theorem ecells_length : ∀ l : List Ed, (ecells l).length = l.length * 4
  | [] => rfl
  | s :: l => by
    have := ecells_length l
    unfold ecells at *
    simp only [List.flatMap_cons, List.length_append, List.length_cons, this]
    simp [ecell]
    omega
theorem ecells_push (l : List Ed) (s : Ed) : ecells (l ++ [s]) = ecells l ++ ecell s := by simp [ecells]
theorem ecells_append (l m : List Ed) : ecells (l ++ m) = ecells l ++ ecells m := by simp [ecells]
theorem ecells_one : ∀ (l : List Ed), ∀ u ∈ ecells l, u.oneCell' = true := by
  intro l u hu
  unfold ecells at hu
  rw [List.mem_flatMap] at hu
  obtain ⟨s, _, hs⟩ := hu
  simp only [ecell, List.mem_cons, List.not_mem_nil, or_false] at hs
  rcases hs with rfl | rfl | rfl | rfl <;> rfl
def ERow (w : World) (base : Nat) (u : Value) (l : List Ed) : Prop := w.ownsRow base 37 4 u l.length (ecells l)
def EAt (w : World) (a : Addr) (i : Nat) (s : Ed) : Prop :=
  w.cell? (a.add (i * 4)) = some (.int .i64 s.a.x) ∧ w.cell? (a.add (i * 4 + 1)) = some (.int .i64 s.a.y) ∧ w.cell? (a.add (i * 4 + 2)) = some (.int .i64 s.b.x) ∧ w.cell? (a.add (i * 4 + 3)) = some (.int .i64 s.b.y)
def ERd (w : World) (v : Value) (l : List Ed) : Prop :=
  ∃ A cap, v = .slice A l.length cap ∧ l.length ≤ cap ∧ ∀ i (h : i < l.length), ∃ a, A = some a ∧ a.block < w.heap.size ∧ EAt w a i (l[i])
theorem EAt.keep {w w' : World} {a : Addr} {i : Nat} {s : Ed} (h : EAt w a i s) (hl : a.block < w.heap.size) (hb : Below w.heap.size w w') : EAt w' a i s := by
  obtain ⟨h0, h1, h2, h3⟩ := h
  have k : ∀ j, w'.cell? (a.add j) = w.cell? (a.add j) := fun j => hb.cell (by rw [block_add]; exact hl)
  exact ⟨(k _).trans h0, (k _).trans h1, (k _).trans h2, (k _).trans h3⟩
theorem ERd.keep {w w' : World} {v : Value} {l : List Ed} (h : ERd w v l) (hb : Below w.heap.size w w') : ERd w' v l := by
  obtain ⟨A, cap, e, h1, h3⟩ := h
  refine ⟨A, cap, e, h1, fun i hi => ?_⟩
  obtain ⟨a, ha, hlt, h⟩ := h3 i hi
  exact ⟨a, ha, Nat.lt_of_lt_of_le hlt hb.size, h.keep hlt hb⟩
theorem ERd.nil (w : World) : ERd w (.slice none 0 0) [] := ⟨none, 0, rfl, Nat.le_refl _, fun _ hi => absurd hi (Nat.not_lt_zero _)⟩
theorem ecells_at : ∀ (l : List Ed) (i j : Nat) (h : i < l.length), j < 4 → (ecells l)[i * 4 + j]? = (ecell (l[i]))[j]?
  | s :: l, 0, j, _, hj => by
    have e : ecells (s :: l) = ecell s ++ ecells l := by simp [ecells]
    rw [e, Nat.zero_mul, Nat.zero_add, List.getElem?_append_left (by simp [ecell]; omega)]
    rfl
  | s :: l, i + 1, j, h, hj => by
    have e : ecells (s :: l) = ecell s ++ ecells l := by simp [ecells]
    rw [e, List.getElem?_append_right (by simp [ecell]; omega)]
    have := ecells_at l i j (by simpa using h) hj
    rw [show (i + 1) * 4 + j - (ecell s).length = i * 4 + j by simp [ecell]; omega, this]
    rfl
theorem ERow.read {w : World} {base : Nat} {u : Value} {l : List Ed} (h : ERow w base u l) : ERd w u l := by
  rcases h.2 with ⟨rfl, h0⟩ | ⟨g, cap, cur, rfl, _, hg, hl, _, _, _⟩
  · have : l = [] := List.eq_nil_of_length_eq_zero h0
    subst this
    exact ⟨none, 0, rfl, Nat.le_refl _, fun i hi => absurd hi (Nat.not_lt_zero _)⟩
  · refine ⟨_, cap, rfl, hl, fun i hi => ⟨_, rfl, (World.ownsRow.lt h g rfl).2, ?_⟩⟩
    have k := fun j hj => ecells_at l i j hi hj
    exact ⟨World.ownsRow.cells h rfl _ _ (k 0 (by omega)), World.ownsRow.cells h rfl _ _ (k 1 (by omega)), World.ownsRow.cells h rfl _ _ (k 2 (by omega)), World.ownsRow.cells h rfl _ _ (k 3 (by omega))⟩
theorem ERow.below {w w' : World} {base : Nat} {u : Value} {l : List Ed} (h : ERow w base u l) (hb : Below w.heap.size w w') : ERow w' base u l :=
  own_blocks h fun g hg => hb.block g (h.lt g hg).2
theorem ERow.own {w : World} {base : Nat} {u : Value} {l : List Ed} {j : Nat} (h : ERow w base u l) (hl : l.length = j) : w.ownsRow base 37 4 u j (ecells l) := hl ▸ h
theorem ERow.heap {w w' : World} {base : Nat} {u : Value} {l : List Ed} (h : ERow w base u l) (hb : ∀ k, base ≤ k → k < w.heap.size → w'.heap[k]? = w.heap[k]?) : ERow w' base u l :=
  own_blocks h fun g hg => hb g (World.ownsRow.lt h g hg).1 (World.ownsRow.lt h g hg).2
theorem ERow.set {w : World} {base : Nat} {u : Value} {l : List Ed} (h : ERow w base u l) {p : Addr} (hp : p.block < base) (x : Value) : ERow (w.setCell p x) base u l := h.heap fun k hk _ => heap_set w p x k (by omega)
theorem ERow.alloc {w : World} {base : Nat} {u : Value} {l : List Ed} (h : ERow w base u l) (o : Obj) : ERow (w.alloc o) base u l := h.below ((Below.refl _ w).alloc (Nat.le_refl _) o)
theorem ERow.form {w : World} {base : Nat} {u : Value} {l : List Ed} (h : ERow w base u l) : ∃ A cap, u = .slice A l.length cap := own_form h
theorem ERow.nil (w : World) (base : Nat) : ERow w base (.slice none 0 0) [] := World.ownsRow_nil _ _ _ _
theorem ERow.mono {w : World} {base b : Nat} {u : Value} {l : List Ed} (h : ERow w base u l) (hb : b ≤ base) : ERow w b u l := World.ownsRow.mono h hb
theorem einfo : (Try.prog.info? 37).map (fun i => (i.zero, i.size, i.bytes)) = some (some (.agg #[.int .i64 0, .int .i64 0, .int .i64 0, .int .i64 0]), 4, 32) := by kernel_rfl
/-- An edge that is read, in the walk's spelling. -/
abbrev EAtS (w : World) (a : Addr) (i : Nat) (s0 s1 s2 s3 : Int) : Prop :=
  w.cell? (a.add (i * 4)) = some (.int .i64 s0) ∧ w.cell? ⟨(a.add (i * 4)).block, (a.add (i * 4)).off + 1, none⟩ = some (.int .i64 s1) ∧ w.cell? ⟨(a.add (i * 4)).block, (a.add (i * 4)).off + 2, none⟩ = some (.int .i64 s2) ∧ w.cell? ⟨(a.add (i * 4)).block, (a.add (i * 4)).off + 3, none⟩ = some (.int .i64 s3)
theorem ERd.at {w : World} {A : Option Addr} {n cap : Nat} {l : List Ed} (h : ERd w (.slice A n cap) l) (i : Nat) (s : Ed) (hs : l[i]? = some s) : ∃ a, A = some a ∧ a.block < w.heap.size ∧ EAtS w a i s.a.x s.a.y s.b.x s.b.y := by
  obtain ⟨A', cap', e, _, h3⟩ := h
  simp only [Value.slice.injEq] at e
  obtain ⟨rfl, -, -⟩ := e
  obtain ⟨hi, rfl⟩ := List.getElem?_eq_some_iff.1 hs
  obtain ⟨a, ha, hlt, p0, p1, p2, p3⟩ := h3 i hi
  rw [add_spell _ _ _ (by omega)] at p1 p2 p3
  exact ⟨a, ha, hlt, p0, p1, p2, p3⟩

end Go.Proofs.Ytglmgenifjaakaa
