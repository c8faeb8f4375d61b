/-
  Contours as lines and curves, as the document's layer 5 says: lists of numbers, without a program (no claim is made here).
-/
import Derived.Test.YtglmgenifjaakaaGlyfMath3
namespace Go.Proofs.Ytglmgenifjaakaa

/-- A place, in half units; a piece. -/
structure Pt where
  x : Int
  y : Int
structure Sg where
  a : Pt
  b : Pt
  c : Pt
  curve : Bool
instance : DecidableEq Pt := fun p q =>
  if h : p.x = q.x ∧ p.y = q.y then isTrue (by cases p; cases q; simp only [] at h; rw [h.1, h.2]) else isFalse (fun e => h (by rw [e]; exact ⟨rfl, rfl⟩))
instance : DecidableEq Sg := fun p q =>
  if h : p.a = q.a ∧ p.b = q.b ∧ p.c = q.c ∧ p.curve = q.curve then isTrue (by cases p; cases q; simp only [] at h; rw [h.1, h.2.1, h.2.2.1, h.2.2.2]) else isFalse (fun e => h (by rw [e]; exact ⟨rfl, rfl, rfl, rfl⟩))

def ptV (v : Vtx) : Pt := ⟨v.x + v.x, v.y + v.y⟩
def midV (v w : Vtx) : Pt := ⟨v.x + w.x, v.y + w.y⟩
/-- The piece that is under way, ended. -/
def sgOf (a : Pt) (ctl : Option Vtx) (c : Pt) : Sg :=
  match ctl with
  | none => ⟨a, a, c, false⟩
  | some u => ⟨a, ptV u, c, true⟩
/-- P5.1, from where the contour begins. -/
def walkS (s : Pt) : Pt → Option Vtx → List Vtx → List Sg
  | a, ctl, [] => [sgOf a ctl s]
  | a, ctl, v :: vs =>
    if v.on = true then sgOf a ctl (ptV v) :: walkS s (ptV v) none vs
    else match ctl with
      | none => walkS s a (some v) vs
      | some u => sgOf a (some u) (midV u v) :: walkS s (midV u v) (some v) vs
/-- The place of the first point on the line. -/
def firstOn : List Vtx → Option Nat
  | [] => none
  | v :: vs => if v.on = true then some 0 else (firstOn vs).map (· + 1)
def vtxAt (c : List Vtx) (i : Nat) : Vtx := c.getD i ⟨0, 0, false⟩
def startS (c : List Vtx) : Pt :=
  match firstOn c with
  | none => midV (vtxAt c (c.length - 1)) (vtxAt c 0)
  | some f => ptV (vtxAt c f)
def othersS (c : List Vtx) : List Vtx :=
  match firstOn c with
  | none => c
  | some f => c.drop (f + 1) ++ c.take f
/-- P5.1. -/
def segsS (c : List Vtx) : List Sg := if c = [] then [] else walkS (startS c) (startS c) none (othersS c)

theorem firstOn_none : ∀ {c : List Vtx}, firstOn c = none → ∀ v ∈ c, v.on = false
  | [], _, v, hv => by cases hv
  | u :: c, h, v, hv => by
    unfold firstOn at h
    split at h
    · cases h
    · next hu =>
      rcases List.mem_cons.1 hv with rfl | hv
      · simpa using hu
      · exact firstOn_none (by cases hf : firstOn c with
          | none => rfl
          | some k => rw [hf] at h; cases h) v hv
theorem firstOn_some : ∀ {c : List Vtx} {f : Nat}, firstOn c = some f → ∃ (v : Vtx), c[f]? = some v ∧ v.on = true ∧ ∀ u ∈ c.take f, u.on = false
  | [], _, h => by cases h
  | u :: c, f, h => by
    unfold firstOn at h
    split at h
    · next hu => cases h; exact ⟨u, rfl, hu, fun _ h => by cases h⟩
    · next hu =>
      cases hf : firstOn c with
      | none => rw [hf] at h; cases h
      | some k =>
        rw [hf] at h
        cases h
        obtain ⟨v, h1, h2, h3⟩ := firstOn_some hf
        refine ⟨v, h1, h2, fun x hx => ?_⟩
        rw [List.take_succ_cons] at hx
        rcases List.mem_cons.1 hx with rfl | hx
        · simpa using hu
        · exact h3 x hx
theorem firstOn_is : ∀ {c : List Vtx} {f : Nat} {v : Vtx}, c[f]? = some v → v.on = true → (∀ u ∈ c.take f, u.on = false) → firstOn c = some f
  | [], _, _, h, _, _ => by cases h
  | u :: c, 0, v, h, hv, _ => by cases h; unfold firstOn; rw [if_pos hv]
  | u :: c, f + 1, v, h, hv, h3 => by
    have hu : u.on = false := h3 u (by simp)
    unfold firstOn
    rw [if_neg (by simp [hu]), firstOn_is (c := c) (f := f) h hv (fun x hx => h3 x (by rw [List.take_succ_cons]; exact List.mem_cons_of_mem _ hx))]
    rfl
theorem firstOn_off : ∀ {c : List Vtx}, (∀ v ∈ c, v.on = false) → firstOn c = none
  | [], _ => rfl
  | u :: c, h => by
    unfold firstOn
    rw [if_neg (by simp [h u (by simp)]), firstOn_off (fun v hv => h v (List.mem_cons_of_mem _ hv))]
    rfl

/-! ### The law's own way: all points that are meant -/

/-- A point's own and, behind it, the one half way. -/
def both (v w : Vtx) : List Vtx := ⟨2 * v.x, 2 * v.y, v.on⟩ :: if (!v.on && !w.on) = true then [⟨v.x + w.x, v.y + w.y, true⟩] else []
/-- All points of a row behind whose last one w comes. -/
def exp : List Vtx → Vtx → List Vtx
  | [], _ => []
  | [v], w => both v w
  | v :: u :: r, w => both v u ++ exp (u :: r) w
theorem exp_cons (v : Vtx) (r : List Vtx) (w : Vtx) : exp (v :: r) w = both v (r.headD w) ++ exp r w := by
  cases r with
  | nil => simp [exp]
  | cons u r => rfl
theorem exp_append : ∀ (a b : List Vtx) (w : Vtx), exp (a ++ b) w = exp a (b.headD w) ++ exp b w
  | [], b, w => rfl
  | v :: a, b, w => by
    rw [List.cons_append, exp_cons, exp_cons, exp_append a b w, List.append_assoc]
    cases a <;> rfl
/-- The law's loop over all points. -/
def scanN : Nat → List Vtx → List Sg
  | n + 1, p :: q :: r =>
    if q.on = true then ⟨⟨p.x, p.y⟩, ⟨p.x, p.y⟩, ⟨q.x, q.y⟩, false⟩ :: scanN n (q :: r)
    else match r with
      | [] => []
      | t :: r' => ⟨⟨p.x, p.y⟩, ⟨q.x, q.y⟩, ⟨t.x, t.y⟩, true⟩ :: scanN n (t :: r')
  | _, _ => []
theorem scanN_more : ∀ (n m : Nat) (l : List Vtx), l.length ≤ n → l.length ≤ m → scanN n l = scanN m l
  | 0, 0, _, _, _ => rfl
  | 0, m + 1, [], _, _ => rfl
  | 0, m + 1, _ :: _, h, _ => by simp at h
  | n + 1, 0, [], _, _ => rfl
  | n + 1, 0, _ :: _, _, h => by simp at h
  | n + 1, m + 1, [], _, _ => rfl
  | n + 1, m + 1, [_], _, _ => rfl
  | n + 1, m + 1, p :: q :: r, h, h' => by
    simp only [List.length_cons] at h h'
    have e1 := scanN_more n m (q :: r) (by rw [List.length_cons]; omega) (by rw [List.length_cons]; omega)
    cases r with
    | nil => simp only [scanN, e1]
    | cons t r' =>
      simp only [List.length_cons] at h h'
      have e2 := scanN_more n m (t :: r') (by rw [List.length_cons]; omega) (by rw [List.length_cons]; omega)
      simp only [scanN, e1, e2]
def scan (l : List Vtx) : List Sg := scanN l.length l
theorem scan_on (p q : Vtx) (r : List Vtx) (h : q.on = true) : scan (p :: q :: r) = ⟨⟨p.x, p.y⟩, ⟨p.x, p.y⟩, ⟨q.x, q.y⟩, false⟩ :: scan (q :: r) := by
  unfold scan
  cases r <;> (rw [List.length_cons]; simp only [scanN, h, if_true])
theorem scan_off (p q t : Vtx) (r : List Vtx) (h : q.on = false) : scan (p :: q :: t :: r) = ⟨⟨p.x, p.y⟩, ⟨q.x, q.y⟩, ⟨t.x, t.y⟩, true⟩ :: scan (t :: r) := by
  unfold scan
  rw [List.length_cons]
  simp only [scanN, h, Bool.false_eq_true, if_false]
  rw [scanN_more (q :: t :: r).length (t :: r).length (t :: r) (by simp) (by simp)]
theorem scan_one (p : Vtx) : scan [p] = [] := rfl
theorem scan_nil : scan [] = [] := rfl
def onP (p : Pt) : Vtx := ⟨p.x, p.y, true⟩
def ctlL : Option Vtx → List Vtx → List Vtx
  | none, vs => vs
  | some u, vs => u :: vs
theorem two (x : Int) : 2 * x = x + x := by omega
theorem scan_walk (s : Pt) (e : Vtx) (he : e.on = true) : ∀ (vs : List Vtx) (a : Pt) (b : Bool) (ctl : Option Vtx), (∀ u, ctl = some u → u.on = false) → scan (⟨a.x, a.y, b⟩ :: (exp (ctlL ctl vs) e ++ [onP s])) = walkS s a ctl vs
  | [], a, b, none, _ => by
    simp only [ctlL, exp, List.nil_append, walkS, sgOf]
    rw [scan_on _ _ _ rfl, scan_one]
    rfl
  | [], a, b, some u, h => by
    have hu := h u rfl
    simp only [ctlL, exp, both, hu, he, walkS, sgOf]
    simp only [Bool.not_false, Bool.not_true, Bool.and_false, Bool.false_eq_true, if_false, List.cons_append, List.nil_append]
    rw [scan_off _ _ _ _ rfl, scan_one]
    simp only [ptV, onP, two]
  | v :: vs, a, b, none, h => by
    by_cases hv : v.on = true
    · have ih := scan_walk s e he vs (ptV v) true none (fun _ h => by cases h)
      rw [show ctlL none (v :: vs) = v :: vs from rfl, exp_cons]
      simp only [both, hv, Bool.not_true, Bool.false_and, Bool.false_eq_true, if_false, List.cons_append, List.nil_append]
      rw [scan_on _ _ _ rfl, walkS, if_pos hv, ← ih]
      simp only [ctlL, sgOf, ptV, two]
    · have hv' : v.on = false := by simpa using hv
      have ih := scan_walk s e he vs a b (some v) (fun u hu => by cases hu; exact hv')
      rw [walkS, if_neg hv, ← ih]
      rfl
  | v :: vs, a, b, some u, h => by
    have hu := h u rfl
    by_cases hv : v.on = true
    · have ih := scan_walk s e he vs (ptV v) true none (fun _ h => by cases h)
      rw [show ctlL (some u) (v :: vs) = u :: v :: vs from rfl, exp_cons, exp_cons]
      simp only [List.headD_cons, both, hv, hu, Bool.not_true, Bool.not_false, Bool.and_false, Bool.false_and, Bool.false_eq_true, if_false, List.cons_append, List.nil_append]
      rw [scan_off _ _ _ _ rfl, walkS, if_pos hv, ← ih]
      simp only [ctlL, sgOf, ptV, two]
    · have hv' : v.on = false := by simpa using hv
      have ih := scan_walk s e he vs (midV u v) true (some v) (fun u hu => by cases hu; exact hv')
      rw [show ctlL (some u) (v :: vs) = u :: v :: vs from rfl, exp_cons]
      simp only [List.headD_cons, both, hv', hu, Bool.not_false, Bool.and_self, if_true, List.cons_append, List.nil_append]
      rw [scan_off _ _ _ _ rfl, walkS, if_neg hv, ← ih]
      simp only [ctlL, sgOf, ptV, midV, two]
/-- What the law's full makes: the same points from the start on. -/
def fullAll (c : List Vtx) : List Vtx := exp c (vtxAt c 0)
def fullFirst (c : List Vtx) : Nat :=
  match firstOn c with
  | none => (fullAll c).length - 1
  | some f => (exp (c.take f) (vtxAt c f)).length
def fullS (c : List Vtx) : List Vtx := (fullAll c).drop (fullFirst c) ++ (fullAll c).take (fullFirst c)

theorem exp_on (e e' : Vtx) (he : e.on = true) (he' : e'.on = true) : ∀ c : List Vtx, exp c e = exp c e'
  | [] => rfl
  | [v] => by simp [exp, both, he, he']
  | v :: u :: r => by simp only [exp]; rw [exp_on e e' he he' (u :: r)]
theorem exp_last (e : Vtx) (he : e.on = true) : ∀ (c : List Vtx) (w : Vtx), c ≠ [] → (∀ v ∈ c, v.on = false) → w.on = false → exp c w = exp c e ++ [onP (midV (vtxAt c (c.length - 1)) w)]
  | [v], w, _, h, hw => by
    have hv := h v (by simp)
    simp [exp, both, he, hv, hw, onP, midV, vtxAt]
  | v :: u :: r, w, _, h, hw => by
    simp only [exp]
    rw [exp_last e he (u :: r) w (by simp) (fun x hx => h x (List.mem_cons_of_mem _ hx)) hw, List.append_assoc]
    rfl
theorem getD_of {c : List Vtx} {f : Nat} {v : Vtx} (h : c[f]? = some v) : vtxAt c f = v := by
  obtain ⟨hf, rfl⟩ := List.getElem?_eq_some_iff.1 h
  simp [vtxAt, List.getD, hf]
theorem head_of {c : List Vtx} (h : c ≠ []) (w : Vtx) : c.headD w = vtxAt c 0 := by
  cases c with
  | nil => cases h rfl
  | cons v c => rfl
/-- What the law's full makes is the start, and all points between. -/
theorem fullS_is (c : List Vtx) (hc : c ≠ []) (e : Vtx) (he : e.on = true) : fullS c = onP (startS c) :: exp (othersS c) e := by
  cases hf : firstOn c with
  | none =>
    have hoff := firstOn_none hf
    have h0 : (vtxAt c 0).on = false := by
      cases c with
      | nil => cases hc rfl
      | cons v c => exact hoff v (by simp)
    have hl := exp_last e he c (vtxAt c 0) hc hoff h0
    unfold fullS fullFirst fullAll startS othersS
    rw [hf]
    simp only []
    rw [hl]
    simp
  | some f =>
    obtain ⟨v, h1, h2, h3⟩ := firstOn_some hf
    have hfl := (List.getElem?_eq_some_iff.1 h1).1
    have hv := getD_of h1
    have hsplit : c = c.take f ++ v :: c.drop (f + 1) := by
      obtain ⟨hf', rfl⟩ := List.getElem?_eq_some_iff.1 h1
      rw [← List.drop_eq_getElem_cons hf', List.take_append_drop]
    have ha : fullAll c = exp (c.take f) v ++ (⟨2 * v.x, 2 * v.y, true⟩ :: exp (c.drop (f + 1)) (vtxAt c 0)) := by
      unfold fullAll
      have : exp c (vtxAt c 0) = exp (c.take f ++ v :: c.drop (f + 1)) (vtxAt c 0) := by rw [← hsplit]
      rw [this, exp_append, exp_cons]
      simp [both, h2]
    have ho : exp (c.drop (f + 1) ++ c.take f) e = exp (c.drop (f + 1)) (vtxAt c 0) ++ exp (c.take f) v := by
      rw [exp_append, exp_on e v he h2]
      by_cases hf0 : f = 0
      · subst hf0
        have e0 : vtxAt c 0 = v := hv
        rw [e0]
        simp only [List.take_zero, exp, List.append_nil]
        exact exp_on _ _ he h2 _
      · have hne : c.take f ≠ [] := fun h => by
          have := congrArg List.length h
          rw [List.length_take, List.length_nil] at this
          omega
        rw [head_of hne]
        have : vtxAt (c.take f) 0 = vtxAt c 0 := by
          unfold vtxAt List.getD
          rw [List.getElem?_take_of_lt (by omega)]
        rw [this]
    unfold fullS fullFirst startS othersS
    rw [hf]
    simp only []
    rw [hv, ha, List.drop_left, List.take_left, ho]
    simp [onP, ptV, two]
/-- P5.1 by the law's way. -/
theorem segs_scan (c : List Vtx) (hc : c ≠ []) : scan (fullS c ++ [onP (startS c)]) = segsS c := by
  have h := scan_walk (startS c) (onP (startS c)) rfl (othersS c) (startS c) true none (fun _ h => by cases h)
  unfold segsS
  rw [if_neg hc, ← h, fullS_is c hc (onP (startS c)) rfl]
  rfl

end Go.Proofs.Ytglmgenifjaakaa
