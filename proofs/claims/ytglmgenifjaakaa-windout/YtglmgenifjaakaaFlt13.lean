/-
  The place in which edges are, as numbers: the least one (no claim is made here).
-/
import Derived.Test.YtglmgenifjaakaaFlatMath
namespace Go.Proofs.Ytglmgenifjaakaa

def mnF (f g : Ed → Int) (l : List Ed) (m : Int) : Int := l.foldl (fun m e => min (min m (f e)) (g e)) m
def mxF (f g : Ed → Int) (l : List Ed) (m : Int) : Int := l.foldl (fun m e => max (max m (f e)) (g e)) m
theorem box_is : ∀ (l : List Ed) (b : Pt × Pt), l.foldl boxF b = (⟨mnF (·.a.x) (·.b.x) l b.1.x, mnF (·.a.y) (·.b.y) l b.1.y⟩, ⟨mxF (·.a.x) (·.b.x) l b.2.x, mxF (·.a.y) (·.b.y) l b.2.y⟩)
  | [], b => rfl
  | e :: l, b => by rw [List.foldl_cons, box_is l]; rfl
theorem mn_le (f g : Ed → Int) : ∀ (l : List Ed) (m : Int), mnF f g l m ≤ m ∧ (∀ e ∈ l, mnF f g l m ≤ f e ∧ mnF f g l m ≤ g e) ∧ (mnF f g l m = m ∨ ∃ e ∈ l, f e = mnF f g l m ∨ g e = mnF f g l m)
  | [], m => by
    refine ⟨Int.le_refl _, fun e he => ?_, .inl rfl⟩
    cases he
  | d :: l, m => by
    have e0 : mnF f g (d :: l) m = mnF f g l (min (min m (f d)) (g d)) := rfl
    rw [e0]
    obtain ⟨h1, h2, h3⟩ := mn_le f g l (min (min m (f d)) (g d))
    refine ⟨by clear h2 h3; omega, fun e he => ?_, ?_⟩
    · rcases List.mem_cons.1 he with rfl | he
      · clear h2 h3
        omega
      · exact h2 e he
    · rcases h3 with h3 | ⟨e, he, h⟩
      · by_cases c1 : mnF f g l (min (min m (f d)) (g d)) = m
        · exact .inl c1
        · exact .inr ⟨d, List.mem_cons_self, by clear h2; omega⟩
      · exact .inr ⟨e, List.mem_cons_of_mem _ he, h⟩
theorem mx_ge (f g : Ed → Int) : ∀ (l : List Ed) (m : Int), m ≤ mxF f g l m ∧ (∀ e ∈ l, f e ≤ mxF f g l m ∧ g e ≤ mxF f g l m) ∧ (mxF f g l m = m ∨ ∃ e ∈ l, f e = mxF f g l m ∨ g e = mxF f g l m)
  | [], m => by
    refine ⟨Int.le_refl _, fun e he => ?_, .inl rfl⟩
    cases he
  | d :: l, m => by
    have e0 : mxF f g (d :: l) m = mxF f g l (max (max m (f d)) (g d)) := rfl
    rw [e0]
    obtain ⟨h1, h2, h3⟩ := mx_ge f g l (max (max m (f d)) (g d))
    refine ⟨by clear h2 h3; omega, fun e he => ?_, ?_⟩
    · rcases List.mem_cons.1 he with rfl | he
      · clear h2 h3
        omega
      · exact h2 e he
    · rcases h3 with h3 | ⟨e, he, h⟩
      · by_cases c1 : mxF f g l (max (max m (f d)) (g d)) = m
        · exact .inl c1
        · exact .inr ⟨d, List.mem_cons_self, by clear h2; omega⟩
      · exact .inr ⟨e, List.mem_cons_of_mem _ he, h⟩
/-- The ends of edges. -/
def endsS (l : List Ed) : List Pt := l.flatMap fun e => [e.a, e.b]
theorem mem_ends {l : List Ed} {p : Pt} : p ∈ endsS l ↔ ∃ e ∈ l, p = e.a ∨ p = e.b := by
  unfold endsS
  rw [List.mem_flatMap]
  constructor
  · rintro ⟨e, he, h⟩
    exact ⟨e, he, by simpa using h⟩
  · rintro ⟨e, he, h⟩
    exact ⟨e, he, by simpa using h⟩
structure IsBox (es : List Ed) (lo hi : Pt) : Prop where
  inn : ∀ p ∈ endsS es, lo.x ≤ p.x ∧ p.x ≤ hi.x ∧ lo.y ≤ p.y ∧ p.y ≤ hi.y
  left : (endsS es).any (fun p => p.x == lo.x) = true
  right : (endsS es).any (fun p => p.x == hi.x) = true
  low : (endsS es).any (fun p => p.y == lo.y) = true
  high : (endsS es).any (fun p => p.y == hi.y) = true
theorem att {es : List Ed} {f : Pt → Int} {v : Int} (h : ∃ e ∈ es, f e.a = v ∨ f e.b = v) : (endsS es).any (fun p => f p == v) = true := by
  rw [List.any_eq_true]
  obtain ⟨e, he, h | h⟩ := h
  · exact ⟨e.a, mem_ends.2 ⟨e, he, .inl rfl⟩, by simp [h]⟩
  · exact ⟨e.b, mem_ends.2 ⟨e, he, .inr rfl⟩, by simp [h]⟩
theorem isBox (es : List Ed) (h : es ≠ []) : IsBox es (boxS es).1 (boxS es).2 := by
  cases es with
  | nil => exact absurd rfl h
  | cons e l =>
    have hb : boxS (e :: l) = (e :: l).foldl boxF (e.a, e.a) := rfl
    rw [hb, box_is]
    obtain ⟨a1, a2, a3⟩ := mn_le (·.a.x) (·.b.x) (e :: l) e.a.x
    obtain ⟨b1, b2, b3⟩ := mn_le (·.a.y) (·.b.y) (e :: l) e.a.y
    obtain ⟨c1, c2, c3⟩ := mx_ge (·.a.x) (·.b.x) (e :: l) e.a.x
    obtain ⟨d1, d2, d3⟩ := mx_ge (·.a.y) (·.b.y) (e :: l) e.a.y
    refine ⟨?_, ?_, ?_, ?_, ?_⟩
    · intro p hp
      obtain ⟨d, hd, rfl | rfl⟩ := mem_ends.1 hp
      · exact ⟨(a2 d hd).1, (c2 d hd).1, (b2 d hd).1, (d2 d hd).1⟩
      · exact ⟨(a2 d hd).2, (c2 d hd).2, (b2 d hd).2, (d2 d hd).2⟩
    · exact att (f := Pt.x) (a3.elim (fun h => ⟨e, List.mem_cons_self, .inl h.symm⟩) id)
    · exact att (f := Pt.x) (c3.elim (fun h => ⟨e, List.mem_cons_self, .inl h.symm⟩) id)
    · exact att (f := Pt.y) (b3.elim (fun h => ⟨e, List.mem_cons_self, .inl h.symm⟩) id)
    · exact att (f := Pt.y) (d3.elim (fun h => ⟨e, List.mem_cons_self, .inl h.symm⟩) id)
theorem ends_push {l : List Ed} {r : Nat} {e : Ed} (h : l[r]? = some e) : endsS (l.take (r + 1)) = endsS (l.take r) ++ [e.a, e.b] := by
  obtain ⟨hi, rfl⟩ := List.getElem?_eq_some_iff.1 h
  rw [List.take_succ_eq_append_getElem hi]
  unfold endsS
  rw [List.flatMap_append]
  simp
theorem any_next (P : Pt → Bool) (l pts : List Pt) (j : Nat) (p : Pt) (h : pts[j]? = some p) : (l ++ pts.take (j + 1)).any P = ((l ++ pts.take j).any P || P p) := by
  obtain ⟨hi, rfl⟩ := List.getElem?_eq_some_iff.1 h
  rw [List.take_succ_eq_append_getElem hi, ← List.append_assoc, List.any_append]
  simp

end Go.Proofs.Ytglmgenifjaakaa
