/-
  Curves as straight edges, as the document's layer 6 says: lists of numbers, without a program (no claim is made here).
-/
import Derived.Test.YtglmgenifjaakaaPathMath
namespace Go.Proofs.Ytglmgenifjaakaa

/-- An edge, in small units. -/
structure Ed where
  a : Pt
  b : Pt
instance : DecidableEq Ed := fun p q =>
  if h : p.a = q.a ∧ p.b = q.b then isTrue (by cases p; cases q; simp only [] at h; rw [h.1, h.2]) else isFalse (fun e => h (by rw [e]; exact ⟨rfl, rfl⟩))

/-- P6.1, a number of the point at k parts of four. -/
def onX (k : Nat) (a b c : Int) : Int :=
  match k with
  | 0 => 16 * a
  | 1 => 9 * a + 6 * b + c
  | 2 => 4 * a + 8 * b + 4 * c
  | 3 => a + 6 * b + 9 * c
  | _ => 16 * c
def onV (s : Sg) (k : Nat) : Pt := ⟨onX k s.a.x s.b.x s.c.x, onX k s.a.y s.b.y s.c.y⟩
/-- P6.2. -/
def edge (p q : Pt) : List Ed := if p = q then [] else [⟨p, q⟩]
def chain : List Pt → List Ed
  | [] => []
  | [_] => []
  | p :: q :: l => edge p q ++ chain (q :: l)
def ptsOf (s : Sg) : List Pt := if s.curve = true then [onV s 0, onV s 1, onV s 2, onV s 3, onV s 4] else [onV s 0, onV s 4]
def edgesOf (s : Sg) : List Ed := chain (ptsOf s)
def edgesS (ss : List Sg) : List Ed := ss.flatMap edgesOf
theorem edgesS_push (l : List Sg) (s : Sg) : edgesS (l ++ [s]) = edgesS l ++ edgesOf s := by simp [edgesS]
theorem edgesS_nil : edgesS [] = [] := rfl
theorem edge_len (p q : Pt) : (edge p q).length ≤ 1 := by unfold edge; split <;> simp
theorem edgesOf_len (s : Sg) : (edgesOf s).length ≤ 4 := by
  unfold edgesOf ptsOf
  split
  · have h1 := edge_len (onV s 0) (onV s 1)
    have h2 := edge_len (onV s 1) (onV s 2)
    have h3 := edge_len (onV s 2) (onV s 3)
    have h4 := edge_len (onV s 3) (onV s 4)
    simp only [chain, List.length_append, List.length_nil]
    omega
  · have h1 := edge_len (onV s 0) (onV s 4)
    simp only [chain, List.length_append, List.length_nil]
    omega
theorem edgesS_len : ∀ l : List Sg, (edgesS l).length ≤ 4 * l.length
  | [] => by simp [edgesS]
  | s :: l => by
    have h1 := edgesOf_len s
    have h2 := edgesS_len l
    have e : edgesS (s :: l) = edgesOf s ++ edgesS l := by simp [edgesS]
    rw [e, List.length_append, List.length_cons]
    omega

/-- A row of edges, none without length, from a place to a place. -/
def Way (p : Pt) : List Ed → Pt → Prop
  | [], q => p = q
  | e :: l, q => e.a = p ∧ e.a ≠ e.b ∧ Way e.b l q
theorem Way.append : ∀ {p q r : Pt} {l m : List Ed}, Way p l q → Way q m r → Way p (l ++ m) r
  | p, q, r, [], m, h, k => by cases (show p = q from h); exact k
  | p, q, r, e :: l, m, ⟨h1, h2, h3⟩, k => ⟨h1, h2, Way.append h3 k⟩
theorem edge_way (p q : Pt) : Way p (edge p q) q := by
  unfold edge
  split
  next h => exact h
  next h => exact ⟨rfl, h, rfl⟩
theorem of_way (s : Sg) : Way (onV s 0) (edgesOf s) (onV s 4) := by
  unfold edgesOf ptsOf
  split
  · exact (edge_way _ _).append ((edge_way _ _).append ((edge_way _ _).append ((edge_way _ _).append rfl)))
  · exact (edge_way _ _).append rfl
def big (p : Pt) : Pt := ⟨16 * p.x, 16 * p.y⟩
/-- Pieces from a place to a place. -/
def SWay (p : Pt) : List Sg → Pt → Prop
  | [], q => p = q
  | s :: l, q => s.a = p ∧ SWay s.c l q
theorem SWay.edges : ∀ {p q : Pt} {l : List Sg}, SWay p l q → Way (big p) (edgesS l) (big q)
  | p, q, [], h => by cases (show p = q from h); exact rfl
  | p, q, s :: l, ⟨h1, h2⟩ => by
    have e : edgesS (s :: l) = edgesOf s ++ edgesS l := by simp [edgesS]
    rw [e]
    have k : Way (big s.a) (edgesOf s) (big s.c) := of_way s
    rw [h1] at k
    exact k.append h2.edges
theorem sgOf_a (a : Pt) (ctl : Option Vtx) (c : Pt) : (sgOf a ctl c).a = a := by cases ctl <;> rfl
theorem sgOf_c (a : Pt) (ctl : Option Vtx) (c : Pt) : (sgOf a ctl c).c = c := by cases ctl <;> rfl
theorem walk_way (s : Pt) : ∀ (vs : List Vtx) (a : Pt) (ctl : Option Vtx), SWay a (walkS s a ctl vs) s
  | [], a, ctl => by rw [walkS]; exact ⟨sgOf_a _ _ _, sgOf_c _ _ _⟩
  | v :: vs, a, ctl => by
    rw [walkS.eq_def]
    simp only
    split
    · refine ⟨sgOf_a _ _ _, ?_⟩
      rw [sgOf_c]
      exact walk_way s vs (ptV v) none
    · cases ctl with
      | none => exact walk_way s vs a (some v)
      | some u =>
        refine ⟨sgOf_a _ _ _, ?_⟩
        rw [sgOf_c]
        exact walk_way s vs (midV u v) (some v)
theorem segs_way (c : List Vtx) : ∃ p, Way p (edgesS (segsS c)) p := by
  unfold segsS
  split
  · exact ⟨⟨0, 0⟩, rfl⟩
  · exact ⟨_, (walk_way _ _ _ _).edges⟩
theorem Way.first : ∀ {p q : Pt} {l : List Ed} {e : Ed}, Way p l q → l[0]? = some e → e.a = p
  | p, q, [], e, _, h => by cases h
  | p, q, d :: l, e, ⟨h1, _, _⟩, h => by
    have : d = e := by simpa using h
    subst this
    exact h1
theorem Way.next : ∀ {p q : Pt} {l : List Ed} {k : Nat} {e : Ed}, Way p l q → l[k]? = some e → e.a ≠ e.b ∧ (∀ f, l[k + 1]? = some f → e.b = f.a) ∧ (k + 1 = l.length → e.b = q)
  | p, q, [], k, e, _, h => by cases h
  | p, q, d :: l, 0, e, ⟨h1, h2, h3⟩, h => by
    have : d = e := by simpa using h
    subst this
    refine ⟨h2, fun f hf => ?_, fun hl => ?_⟩
    · rw [List.getElem?_cons_succ] at hf
      exact (h3.first hf).symm
    · have : l = [] := List.eq_nil_of_length_eq_zero (by simpa using hl.symm)
      subst this
      exact h3
  | p, q, d :: l, k + 1, e, ⟨h1, h2, h3⟩, h => by
    rw [List.getElem?_cons_succ] at h
    obtain ⟨a, b, c⟩ := h3.next h
    refine ⟨a, fun f hf => b f (by rwa [List.getElem?_cons_succ] at hf), fun hl => c (by simpa using hl)⟩
/-- The edges of a contour: none without length, each begins where the one ahead of it ended. -/
theorem Way.closed {p : Pt} {l : List Ed} (h : Way p l p) {k : Nat} {e f : Ed} (he : l[k]? = some e) (hf : l[(k + 1) % l.length]? = some f) : e.a ≠ e.b ∧ e.b = f.a := by
  obtain ⟨h1, h2, h3⟩ := h.next he
  have hk : k < l.length := (List.getElem?_eq_some_iff.1 he).1
  refine ⟨h1, ?_⟩
  by_cases hl : k + 1 = l.length
  · rw [hl, Nat.mod_self] at hf
    rw [h3 hl, h.first hf]
  · rw [Nat.mod_eq_of_lt (by omega)] at hf
    exact h2 f hf

/-- The place in which edges are. -/
def boxF : Pt × Pt → Ed → Pt × Pt := fun b e => (⟨min (min b.1.x e.a.x) e.b.x, min (min b.1.y e.a.y) e.b.y⟩, ⟨max (max b.2.x e.a.x) e.b.x, max (max b.2.y e.a.y) e.b.y⟩)
def boxS (es : List Ed) : Pt × Pt :=
  match es with
  | [] => (⟨0, 0⟩, ⟨0, 0⟩)
  | e :: l => (e :: l).foldl boxF (e.a, e.a)

end Go.Proofs.Ytglmgenifjaakaa
