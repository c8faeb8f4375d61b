/-
  Rows of rows of three cells that come in as an argument, opened: for the frames of layer 4's laws (no claim is made here).
-/
import Derived.Test.YtklajpadnbeplaaMdot
import Derived.Deep.Slices
import Derived.Deep.Strs
import Derived.OpenShut
namespace Go.Proofs.Ytklajpadnbeplaa
open Go.ChangeShapes Go.WideShapes Go.Deep

section
variable {H : Type} {enc : TypeId × Value → H} {P : Program} {w : World} {base : Nat} {held : Bool}

theorem trod3 {q : TypeId} {k : IntKind} {f0 f1 f2 : Field} {fuel : Nat} {cs : List Value} {x : DataW H × List MemPlace} (hq : P.underlying q = some (.struct #[f0, f1, f2])) (cq : P.cellsOf q = 3)
    (o0 : f0.offset = 0) (o1 : f1.offset = 1) (o2 : f2.offset = 2) (c0 : P.cellsOf f0.type = 1) (c1 : P.cellsOf f1.type = 1) (c2 : P.cellsOf f2.type = 1)
    (u0 : P.underlying f0.type = some (.int k)) (u1 : P.underlying f1.type = some (.int k)) (u2 : P.underlying f2.type = some .bool)
    (h : DataW.trod enc P w base (fun _ => true) held fuel q cs = some x) : ∃ (y : Int × Int × Bool), cs = [.int k y.1, .int k y.2.1, .bool y.2.2] ∧ (Lit.int k y.1).wf = true ∧ (Lit.int k y.2.1).wf = true := by
  obtain ⟨y0, y1, y2, n, _, hl, h0, h1, h2⟩ := trod_struct3 hq h
  rw [cq] at hl
  match cs, hl with
  | [v0, v1, v2], _ =>
    simp [o0, o1, o2, c0, c1, c2] at h0 h1 h2
    obtain ⟨a, e0, _, w0⟩ := DataW.trod_int u0 h0
    obtain ⟨b, e1, _, w1⟩ := DataW.trod_int u1 h1
    obtain ⟨c, e2, _⟩ := DataW.trod_bool u2 h2
    simp at e0 e1 e2
    subst e0 e1 e2
    exact ⟨(a, b, c), rfl, w0, w1⟩

/-- A row of three cells each, of whatever kind. -/
def Row3 (w : World) (k : IntKind) (v : Value) (l : List (Int × Int × Bool)) : Prop :=
  ∃ A cap, v = .slice A l.length cap ∧ l.length ≤ cap ∧ cap ≤ maxLen ∧ ∀ i (h : i < l.length), ∃ a, A = some a ∧ a.block < w.heap.size ∧ w.cell? (a.add (i * 3)) = some (.int k (l[i]).1) ∧ w.cell? (a.add (i * 3 + 1)) = some (.int k (l[i]).2.1) ∧ w.cell? (a.add (i * 3 + 2)) = some (.bool (l[i]).2.2) ∧
    (Lit.int k (l[i]).1).wf = true ∧ (Lit.int k (l[i]).2.1).wf = true

theorem open_row3 {e q : TypeId} {k : IntKind} {f0 f1 f2 : Field} {fuel : Nat} {v : Value} {x : DataW H × List MemPlace} (he : P.underlying e = some (.slice q)) (hq : P.underlying q = some (.struct #[f0, f1, f2])) (cq : P.cellsOf q = 3)
    (o0 : f0.offset = 0) (o1 : f1.offset = 1) (o2 : f2.offset = 2) (c0 : P.cellsOf f0.type = 1) (c1 : P.cellsOf f1.type = 1) (c2 : P.cellsOf f2.type = 1)
    (u0 : P.underlying f0.type = some (.int k)) (u1 : P.underlying f1.type = some (.int k)) (u2 : P.underlying f2.type = some .bool)
    (h : DataW.trod enc P w base (fun _ => true) held fuel e [v] = some x) : ∃ l, Row3 w k v l := by
  rcases open_slice he h with ⟨hv, _⟩ | ⟨a, len, cap, m, n, D, Pl, hv, hb, hl, hm, hmm, _, hx⟩
  · simp at hv
    subst hv
    exact ⟨[], none, 0, rfl, Nat.le_refl _, by simp [maxLen], fun i hi => absurd hi (Nat.not_lt_zero _)⟩
  · simp only [if_true] at hmm
    subst hmm
    simp at hv
    subst hv
    have each : ∀ i, i < len → ∃ y : Int × Int × Bool, w.cell? (a.add (i * 3)) = some (.int k y.1) ∧ w.cell? (a.add (i * 3 + 1)) = some (.int k y.2.1) ∧ w.cell? (a.add (i * 3 + 2)) = some (.bool y.2.2) ∧ (Lit.int k y.1).wf = true ∧ (Lit.int k y.2.1).wf = true := by
      intro i hi
      obtain ⟨cs', h1, h2⟩ := hx i (by omega)
      rw [cq] at h1
      obtain ⟨_, _, hcell⟩ := World.cells?_some h1
      obtain ⟨y, rfl, w0, w1⟩ := trod3 hq cq o0 o1 o2 c0 c1 c2 u0 u1 u2 h2
      have e0 := hcell 0 (by omega)
      have e1 := hcell 1 (by omega)
      have e2 := hcell 2 (by omega)
      rw [add_add] at e0 e1 e2
      exact ⟨y, by simpa using e0, by simpa using e1, by simpa using e2, w0, w1⟩
    obtain ⟨f, hf⟩ := choose_lt each
    refine ⟨(List.range len).map f, some a, _, by simp, by simp; exact hl, hm, fun i hi => ⟨a, rfl, ?_⟩⟩
    have hi' : i < len := by simpa using hi
    obtain ⟨p0, p1, p2, p3, p4⟩ := hf i hi'
    have ei : ((List.range len).map f)[i] = f i := by simp
    rw [ei]
    have hlt := World.block_lt_of_cell? w _ p0
    rw [block_add] at hlt
    exact ⟨hlt, p0, p1, p2, p3, p4⟩

theorem open_rows3 {t e q : TypeId} {k : IntKind} {f0 f1 f2 : Field} {fuel : Nat} {v : Value} {x : DataW H × List MemPlace} (ht : P.underlying t = some (.slice e)) (ce : P.cellsOf e = 1) (he : P.underlying e = some (.slice q)) (hq : P.underlying q = some (.struct #[f0, f1, f2])) (cq : P.cellsOf q = 3)
    (o0 : f0.offset = 0) (o1 : f1.offset = 1) (o2 : f2.offset = 2) (c0 : P.cellsOf f0.type = 1) (c1 : P.cellsOf f1.type = 1) (c2 : P.cellsOf f2.type = 1)
    (u0 : P.underlying f0.type = some (.int k)) (u1 : P.underlying f1.type = some (.int k)) (u2 : P.underlying f2.type = some .bool)
    (h : DataW.trod enc P w base (fun _ => true) held fuel t [v] = some x) :
    ∃ (A : Option Addr) (cap : Nat) (ls : List (List (Int × Int × Bool))), v = .slice A ls.length cap ∧ ls.length ≤ cap ∧ cap ≤ maxLen ∧ ∀ r (h : r < ls.length), ∃ a u, A = some a ∧ a.block < w.heap.size ∧ w.cell? (a.add r) = some u ∧ Row3 w k u (ls[r]) := by
  rcases open_slice1 ht ce h with ⟨hv, _⟩ | ⟨a, len, cap, m, n, V, D, Pl, hv, hb, hl, hm, hmm, _, hx⟩
  · simp at hv
    subst hv
    exact ⟨none, 0, [], rfl, Nat.le_refl _, by simp [maxLen], fun i hi => absurd hi (Nat.not_lt_zero _)⟩
  · simp only [if_true] at hmm
    subst hmm
    simp at hv
    subst hv
    have each : ∀ i, i < len → ∃ l : List (Int × Int × Bool), w.cell? (a.add i) = some (V i) ∧ Row3 w k (V i) l := by
      intro i hi
      obtain ⟨p0, p1⟩ := hx i (by omega)
      obtain ⟨l, hl⟩ := open_row3 he hq cq o0 o1 o2 c0 c1 c2 u0 u1 u2 p1
      exact ⟨l, p0, hl⟩
    obtain ⟨f, hf⟩ := choose_lt each
    refine ⟨some a, _, (List.range len).map f, by simp, by simp; exact hl, hm, fun i hi => ⟨a, V i, rfl, ?_⟩⟩
    have hi' : i < len := by simpa using hi
    obtain ⟨p0, p1⟩ := hf i hi'
    have ei : ((List.range len).map f)[i] = f i := by simp
    rw [ei]
    have hlt := World.block_lt_of_cell? w _ p0
    rw [block_add] at hlt
    exact ⟨hlt, p0, p1⟩

end

def toDot (y : Int × Int × Bool) : Dot := ⟨y.1, y.2.1, y.2.2⟩
def toVtx (y : Int × Int × Bool) : Vtx := ⟨y.1, y.2.1, y.2.2⟩
theorem Row3.dots {w : World} {v : Value} {l : List (Int × Int × Bool)} (h : Row3 w .i16 v l) : DotRow w v (l.map toDot) := by
  obtain ⟨A, cap, e, h1, h2, h3⟩ := h
  refine ⟨A, cap, by rw [List.length_map]; exact e, by rw [List.length_map]; exact h1, h2, fun i hi => ?_⟩
  rw [List.length_map] at hi
  obtain ⟨a, ha, hlt, p0, p1, p2, q0, q1⟩ := h3 i hi
  have ei : (l.map toDot)[i]'(by rw [List.length_map]; exact hi) = toDot (l[i]) := by simp
  rw [ei]
  exact ⟨a, ha, hlt, p0, p1, p2, bounds_i16 q0, bounds_i16 q1⟩
theorem Row3.vtxs {w : World} {v : Value} {l : List (Int × Int × Bool)} (h : Row3 w .i64 v l) : VRd w v (l.map toVtx) := by
  obtain ⟨A, cap, e, h1, h2, h3⟩ := h
  refine ⟨A, cap, by rw [List.length_map]; exact e, by rw [List.length_map]; exact h1, fun i hi => ?_⟩
  rw [List.length_map] at hi
  obtain ⟨a, ha, hlt, p0, p1, p2, q0, q1⟩ := h3 i hi
  have ei : (l.map toVtx)[i]'(by rw [List.length_map]; exact hi) = toVtx (l[i]) := by simp
  rw [ei]
  exact ⟨a, ha, hlt, p0, p1, p2⟩

section
variable {H : Type} {enc : TypeId × Value → H} {w : World} {base : Nat} {held : Bool}
end
end Go.Proofs.Ytklajpadnbeplaa
