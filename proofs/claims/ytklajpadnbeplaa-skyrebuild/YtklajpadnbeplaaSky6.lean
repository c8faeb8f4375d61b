/-
  Rows of rectangles that are ours and grow, a skyline beside them (no claim is made here).
-/
import Derived.Test.YtklajpadnbeplaaSky5
namespace Go.Proofs.Ytklajpadnbeplaa
open Go.RowKit

def rc4 (r : Rc) : List Value := [.int .i64 r.1, .int .i64 r.2.1, .int .i64 r.2.2.1, .int .i64 r.2.2.2]
def rc4s (l : List Rc) : List Value := l.flatMap rc4
theorem rc4s_push (l : List Rc) (r : Rc) : rc4s (l ++ [r]) = rc4s l ++ rc4 r := by simp [rc4s]
def RRow (w : World) (base : Nat) (u : Value) (l : List Rc) : Prop := w.ownsRow base 31 4 u l.length (rc4s l)
theorem rc4s_at : ∀ (l : List Rc) (i j : Nat) (h : i < l.length), j < 4 → (rc4s l)[i * 4 + j]? = (rc4 (l[i]))[j]?
  | s :: l, 0, j, _, hj => by
    have e : rc4s (s :: l) = rc4 s ++ rc4s l := by simp [rc4s]
    rw [e, Nat.zero_mul, Nat.zero_add, List.getElem?_append_left (by simp [rc4]; omega)]
    rfl
  | s :: l, i + 1, j, h, hj => by
    have e : rc4s (s :: l) = rc4 s ++ rc4s l := by simp [rc4s]
    rw [e, List.getElem?_append_right (by simp [rc4]; omega)]
    have := rc4s_at l i j (by simpa using h) hj
    rw [show (i + 1) * 4 + j - (rc4 s).length = i * 4 + j by simp [rc4]; omega, this]
    rfl
theorem RRow.read {w : World} {base : Nat} {u : Value} {l : List Rc} (h : RRow w base u l) : RRd w u l := by
  rcases h.2 with ⟨rfl, h0⟩ | ⟨g, cap, cur, rfl, _, hg, hl, _, _, _⟩
  · have : l = [] := List.eq_nil_of_length_eq_zero h0
    subst this
    exact ⟨none, 0, rfl, Nat.le_refl _, fun i hi => absurd hi (Nat.not_lt_zero _)⟩
  · refine ⟨_, cap, rfl, hl, fun i hi => ⟨_, rfl, (World.ownsRow.lt h g rfl).2, ?_⟩⟩
    have k := fun j hj => rc4s_at l i j hi hj
    exact ⟨World.ownsRow.cells h rfl _ _ (k 0 (by omega)), World.ownsRow.cells h rfl _ _ (k 1 (by omega)), World.ownsRow.cells h rfl _ _ (k 2 (by omega)), World.ownsRow.cells h rfl _ _ (k 3 (by omega))⟩
theorem RRow.heap {w w' : World} {base : Nat} {u : Value} {l : List Rc} (h : RRow w base u l) (hb : ∀ q, u.ownBlock = some q → w'.heap[q]? = w.heap[q]?) : RRow w' base u l := own_blocks h fun g hg => hb g hg
theorem RRow.below {w w' : World} {base : Nat} {u : Value} {l : List Rc} (h : RRow w base u l) (hb : Below w.heap.size w w') : RRow w' base u l := h.heap fun q hq => hb.block q (World.ownsRow.lt h q hq).2
theorem RRow.lt {w : World} {base : Nat} {u : Value} {l : List Rc} (h : RRow w base u l) (q : Nat) (hq : u.ownBlock = some q) : base ≤ q ∧ q < w.heap.size := World.ownsRow.lt h q hq
theorem RRow.own {w : World} {base : Nat} {u : Value} {l : List Rc} {j : Nat} (h : RRow w base u l) (hl : l.length = j) : w.ownsRow base 31 4 u j (rc4s l) := hl ▸ h
theorem RRow.form {w : World} {base : Nat} {u : Value} {l : List Rc} (h : RRow w base u l) : ∃ A cap, u = .slice A l.length cap := own_form h
theorem RRow.nil (w : World) (base : Nat) : RRow w base (.slice none 0 0) [] := World.ownsRow_nil _ _ _ _
theorem rc4info : (Try.prog.info? 31).map (fun i => (i.zero, i.size, i.bytes)) = some (some (.agg #[.int .i64 0, .int .i64 0, .int .i64 0, .int .i64 0]), 4, 32) := by kernel_rfl
theorem RRow.push {w : World} {base K : Nat} {V : Value} {l : List Rc} {r : Rc} (hK : l.length = K) (h : w.ownsRow base 31 4 V (K + 1) (rc4s l ++ rc4 r)) : RRow w base V (l ++ [r]) := by
  unfold RRow
  rw [List.length_append, hK, rc4s_push]
  exact h
theorem RRd.keep {w w' : World} {v : Value} {l : List Rc} (h : RRd w v l) (hb : Below w.heap.size w w') : RRd w' v l := by
  obtain ⟨A, cap, e, h1, h3⟩ := h
  refine ⟨A, cap, e, h1, fun i hi => ?_⟩
  obtain ⟨a, ha, hlt, x0, x1, x2, x3⟩ := h3 i hi
  have k : ∀ j, w'.cell? (a.add j) = w.cell? (a.add j) := fun j => hb.cell (by rw [block_add]; exact hlt)
  exact ⟨a, ha, Nat.lt_of_lt_of_le hlt hb.size, (k _).trans x0, (k _).trans x1, (k _).trans x2, (k _).trans x3⟩
theorem RRd.at {w : World} {A : Option Addr} {n cap : Nat} {l : List Rc} (h : RRd w (.slice A n cap) l) (i : Nat) (s : Rc) (hs : l[i]? = some s) : ∃ a, A = some a ∧ a.block < w.heap.size ∧ w.cell? (a.add (i * 4)) = some (.int .i64 s.1) ∧ w.cell? ⟨(a.add (i * 4)).block, (a.add (i * 4)).off + 1, none⟩ = some (.int .i64 s.2.1) ∧ w.cell? ⟨(a.add (i * 4)).block, (a.add (i * 4)).off + 2, none⟩ = some (.int .i64 s.2.2.1) ∧ w.cell? ⟨(a.add (i * 4)).block, (a.add (i * 4)).off + 3, none⟩ = some (.int .i64 s.2.2.2) := by
  obtain ⟨A', cap', e, _, h3⟩ := h
  simp only [Value.slice.injEq] at e
  obtain ⟨rfl, -, -⟩ := e
  obtain ⟨hi, rfl⟩ := List.getElem?_eq_some_iff.1 hs
  obtain ⟨a, ha, hlt, p0, p1, p2, p3⟩ := h3 i hi
  rw [add_spell _ _ _ (by omega)] at p1 p2 p3
  exact ⟨a, ha, hlt, p0, p1, p2, p3⟩
/-- A skyline while a row beside it grows. -/
theorem SkyS.push {R : World → (Nat → Prop) → Value → List Nat → Nat → Prop} (SK : SkyOK R) {B H : Nat} {w w4 : World} {v : Value} {l : List Nat} {V : Value} {o : Obj} {g n c : Nat} (h : SkyS R B w v l H (fun q => V.ownBlock = some q)) (hg : (w.alloc o).grownBy w4 V.ownBlock) (hat : V.ownBlock = some g ∨ g = (w.alloc o).heap.size) :
    SkyS R B w4 v l H (fun q => (Value.slice (some ⟨g, 0, none⟩) n c).ownBlock = some q) := by
  have h1 : SkyS R B w v l H (fun q => V.ownBlock = some q ∨ q = (w.alloc o).heap.size) := h.more SK (fun q hq => by
    rcases hq with hq | hq
    · exact .inl hq
    · exact .inr (by rw [hq]; simp))
  have h2 := h1.below SK ((Below.refl w.heap.size w).alloc (Nat.le_refl _) o)
  have h3 := h2.grown SK hg (fun q hq => .inl hq)
  refine h3.more SK (fun q hq => .inl ?_)
  have : q = g := by simpa [Value.ownBlock] using hq.symm
  rcases hat with e | e
  · exact .inl (by rw [this]; exact e)
  · exact .inr (by rw [this]; exact e)
theorem SkyS.steps {R : World → (Nat → Prop) → Value → List Nat → Nat → Prop} (SK : SkyOK R) {B H : Nat} {w : World} {v : Value} {l : List Nat} {E : Nat → Prop} (h : SkyS R B w v l H E) : Calls Try.prog 18 #[v] w fun e w' => ∃ V, e = .returned V ∧ PRd w' V (stepsL l) ∧ Below w.heap.size w w' := by
  obtain ⟨ks, hR, _⟩ := h
  exact SK.steps ks v l H w hR

end Go.Proofs.Ytklajpadnbeplaa
