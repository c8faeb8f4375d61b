/-
  Outlines as bytes, as the document's layer 4 says: lists of numbers, without a program (no claim is made here).
-/
import Derived.Laws.Bits64b
namespace Go.Proofs.Ytglmgenifjaakaa

/-- A point of an outline. -/
structure Vtx where
  x : Int
  y : Int
  on : Bool

/-- P4.1. -/
def badV (v : Vtx) : Bool := decide (255 < v.x ∨ 255 < v.y ∨ v.x < -255 ∨ v.y < -255)
def checkC : Nat → List (List Vtx) → Nat
  | _, [] => 0
  | n, c :: cs => if 64 < n + c.length then 3 else if c = [] then 2 else if c.any badV = true then 4 else checkC (n + c.length) cs
def checkS (o : List (List Vtx)) : Nat := if 8 < o.length then 3 else checkC 0 o

/-- P4.2. -/
def far (d : Int) : Bool := decide (d < -128 ∨ 127 < d)
def flagV (dx dy : Int) (on : Bool) : Nat := (if on = true then 1 else 0) + (if far dx = true then 2 else 0) + (if far dy = true then 4 else 0)
def loB (d : Int) : Nat := (d % 256).toNat
def hiB (d : Int) : Nat := (d / 256 % 256).toNat
def stepB (d : Int) : List Nat := if far d = true then [hiB d, loB d] else [loB d]
def flagsV : Int → Int → List Vtx → List Nat
  | _, _, [] => []
  | x, y, v :: vs => flagV (v.x - x) (v.y - y) v.on :: flagsV v.x v.y vs
def stepsV : Int → Int → List Vtx → List Nat
  | _, _, [] => []
  | x, y, v :: vs => stepB (v.x - x) ++ (stepB (v.y - y) ++ stepsV v.x v.y vs)
/-- How many more of the same stand ahead. -/
def runLen (f : Nat) : List Nat → Nat
  | [] => 0
  | g :: l => if g = f then runLen f l + 1 else 0
def rleN : Nat → List Nat → List Nat
  | 0, _ => []
  | _ + 1, [] => []
  | k + 1, f :: l => if runLen f l < 2 then f :: rleN k l else (f + 8) :: runLen f l :: rleN k (l.drop (runLen f l))
def rle (l : List Nat) : List Nat := rleN l.length l
def encodeS (o : List (List Vtx)) : List Nat := o.length :: (o.map List.length ++ (rle (flagsV 0 0 o.flatten) ++ stepsV 0 0 o.flatten))

/-- P4.3. -/
def int8 (b : Nat) : Int := if b < 128 then b else (b : Int) - 256
def stepS : Bool → List Nat → Option (Int × List Nat)
  | false, a :: r => some (int8 a, r)
  | true, a :: b :: r => some (256 * int8 a + b, r)
  | _, _ => none
def flagsS (n : Nat) : Nat → List Nat → Except Nat (List Nat × List Nat)
  | c, [] => if n ≤ c then .ok ([], []) else .error 1
  | c, [f] => if n ≤ c then .ok ([], [f]) else if f / 8 % 2 = 1 then .error 1 else if 15 < f ∨ n < c + 1 then .error 2 else (flagsS n (c + 1) []).map fun p => (f % 8 :: p.1, p.2)
  | c, f :: t :: r =>
    if n ≤ c then .ok ([], f :: t :: r)
    else if f / 8 % 2 = 1 then if 15 < f ∨ n < c + (t + 1) then .error 2 else (flagsS n (c + (t + 1)) r).map fun p => (List.replicate (t + 1) (f % 8) ++ p.1, p.2)
    else if 15 < f ∨ n < c + 1 then .error 2 else (flagsS n (c + 1) (t :: r)).map fun p => (f % 8 :: p.1, p.2)
def pointsS : Int → Int → List Nat → List Nat → Option (List Vtx × List Nat)
  | _, _, [], b => some ([], b)
  | x, y, f :: fs, b =>
    match stepS (decide (f / 2 % 2 = 1)) b with
    | none => none
    | some (dx, b1) =>
      match stepS (decide (f / 4 % 2 = 1)) b1 with
      | none => none
      | some (dy, b2) =>
        match pointsS (x + dx) (y + dy) fs b2 with
        | none => none
        | some (vs, b3) => some (⟨x + dx, y + dy, decide (f % 2 = 1)⟩ :: vs, b3)
def splitS : List Nat → List Vtx → List (List Vtx)
  | [], _ => []
  | s :: ss, vs => vs.take s :: splitS ss (vs.drop s)
def parseT (ss X : List Nat) : List (List Vtx) × Nat :=
  match flagsS ss.sum 0 X with
  | .error e => ([], e)
  | .ok (fs, b) =>
    match pointsS 0 0 fs b with
    | none => ([], 1)
    | some (vs, b2) => if b2 ≠ [] then ([], 2) else if checkS (splitS ss vs) ≠ 0 then ([], checkS (splitS ss vs)) else (splitS ss vs, 0)
def parseS : List Nat → List (List Vtx) × Nat
  | [] => ([], 1)
  | k :: r => if r.length < k then ([], 1) else if 64 < (r.take k).sum ∨ 8 < (r.take k).length then ([], 3) else parseT (r.take k) (r.drop k)
theorem parseS_cons (k : Nat) (r : List Nat) : parseS (k :: r) = if r.length < k then ([], 1) else if 64 < (r.take k).sum ∨ 8 < (r.take k).length then ([], 3) else parseT (r.take k) (r.drop k) := rfl

theorem loB_lt (d : Int) : loB d < 256 := by unfold loB; omega
theorem hiB_lt (d : Int) : hiB d < 256 := by unfold hiB; omega
theorem step_round (d : Int) (h : -32768 ≤ d ∧ d ≤ 32767) (r : List Nat) : stepS (far d) (stepB d ++ r) = some (d, r) := by
  unfold stepB
  cases hf : far d
  · have hf' : ¬ (d < -128 ∨ 127 < d) := by simpa [far] using hf
    simp only [Bool.false_eq_true, if_false, List.cons_append, List.nil_append, stepS]
    congr 2
    unfold int8 loB
    split <;> omega
  · simp only [if_true, List.cons_append, List.nil_append, stepS]
    congr 2
    unfold int8 hiB loB
    split <;> omega

theorem flagV_lt (dx dy : Int) (on : Bool) : flagV dx dy on < 8 := by
  unfold flagV
  split <;> split <;> split <;> omega
theorem flagV_x (dx dy : Int) (on : Bool) : decide (flagV dx dy on / 2 % 2 = 1) = far dx := by
  unfold flagV
  cases on <;> cases far dx <;> cases far dy <;> rfl
theorem flagV_y (dx dy : Int) (on : Bool) : decide (flagV dx dy on / 4 % 2 = 1) = far dy := by
  unfold flagV
  cases on <;> cases far dx <;> cases far dy <;> rfl
theorem flagV_on (dx dy : Int) (on : Bool) : decide (flagV dx dy on % 2 = 1) = on := by
  unfold flagV
  cases on <;> cases far dx <;> cases far dy <;> rfl
theorem flagsV_length : ∀ (vs : List Vtx) (x y : Int), (flagsV x y vs).length = vs.length
  | [], _, _ => rfl
  | v :: vs, _, _ => by simp [flagsV, flagsV_length vs]
theorem flagsV_lt : ∀ (vs : List Vtx) (x y : Int), ∀ f ∈ flagsV x y vs, f < 8
  | [], _, _, f, h => by cases h
  | v :: vs, x, y, f, h => by
    rcases List.mem_cons.1 h with rfl | h
    · exact flagV_lt _ _ _
    · exact flagsV_lt vs _ _ f h

/-- Points within the bounds, and the bounds of the steps between them. -/
def inV (v : Vtx) : Prop := (-255 ≤ v.x ∧ v.x ≤ 255) ∧ -255 ≤ v.y ∧ v.y ≤ 255
theorem badV_in {v : Vtx} (h : badV v = false) : inV v := by
  have : ¬ (255 < v.x ∨ 255 < v.y ∨ v.x < -255 ∨ v.y < -255) := by simpa [badV] using h
  exact ⟨⟨by omega, by omega⟩, by omega, by omega⟩

theorem points_round : ∀ (vs : List Vtx) (x y : Int) (_ : -255 ≤ x ∧ x ≤ 255) (_ : -255 ≤ y ∧ y ≤ 255) (_ : ∀ v ∈ vs, inV v) (r : List Nat), pointsS x y (flagsV x y vs) (stepsV x y vs ++ r) = some (vs, r)
  | [], _, _, _, _, _, _ => rfl
  | v :: vs, x, y, hx, hy, hv, r => by
    have h0 := hv v (List.mem_cons_self ..)
    have ih := points_round vs v.x v.y h0.1 h0.2 (fun u hu => hv u (List.mem_cons_of_mem _ hu)) r
    have e1 : x + (v.x - x) = v.x := by omega
    have e2 : y + (v.y - y) = v.y := by omega
    obtain ⟨⟨a, b⟩, c, d⟩ := h0
    simp only [flagsV, stepsV, pointsS, flagV_x, flagV_y, flagV_on, List.append_assoc]
    rw [step_round _ (by omega)]
    simp only []
    rw [step_round _ (by omega)]
    simp only [e1, e2, ih]

theorem runLen_le (f : Nat) : ∀ l, runLen f l ≤ l.length
  | [] => Nat.le_refl _
  | g :: l => by
    unfold runLen
    split
    · have := runLen_le f l; simp; omega
    · simp
theorem runLen_take (f : Nat) : ∀ l, l = List.replicate (runLen f l) f ++ l.drop (runLen f l)
  | [] => rfl
  | g :: l => by
    unfold runLen
    split
    · next h =>
      subst h
      have := runLen_take g l
      rw [List.replicate_succ, List.drop_succ_cons, List.cons_append, ← this]
    · simp

theorem flagsS_done (n c : Nat) (h : n ≤ c) (b : List Nat) : flagsS n c b = .ok ([], b) := by
  rcases b with _ | ⟨f, _ | ⟨t, r⟩⟩ <;> simp [flagsS, h]
theorem flagsS_one (n c f : Nat) (h : c < n) (hf : f < 8) (b : List Nat) : flagsS n c (f :: b) = (flagsS n (c + 1) b).map fun p => (f :: p.1, p.2) := by
  have h1 : ¬ n ≤ c := by omega
  have h2 : ¬ f / 8 % 2 = 1 := by omega
  have h3 : ¬ (15 < f ∨ n < c + 1) := by omega
  have h4 : f % 8 = f := by omega
  rcases b with _ | ⟨t, r⟩ <;> simp only [flagsS, if_neg h1, if_neg h2, if_neg h3, h4]
theorem flagsS_many (n c f t : Nat) (h : c < n) (hf : f < 8) (hn : c + (t + 1) ≤ n) (b : List Nat) : flagsS n c ((f + 8) :: t :: b) = (flagsS n (c + (t + 1)) b).map fun p => (List.replicate (t + 1) f ++ p.1, p.2) := by
  have h1 : ¬ n ≤ c := by omega
  have h2 : (f + 8) / 8 % 2 = 1 := by omega
  have h3 : ¬ (15 < f + 8 ∨ n < c + (t + 1)) := by omega
  have h4 : (f + 8) % 8 = f := by omega
  simp only [flagsS, if_neg h1, if_pos h2, if_neg h3, h4]

theorem flags_round : ∀ (k : Nat) (fs : List Nat) (c n : Nat) (_ : fs.length ≤ k) (_ : c + fs.length = n) (_ : ∀ f ∈ fs, f < 8) (r : List Nat), flagsS n c (rleN k fs ++ r) = .ok (fs, r)
  | 0, fs, c, n, hk, hn, _, r => by
    have : fs = [] := List.eq_nil_of_length_eq_zero (by omega)
    subst this
    exact flagsS_done n c (by simp at hn; omega) r
  | k + 1, [], c, n, _, hn, _, r => flagsS_done n c (by simp at hn; omega) r
  | k + 1, f :: l, c, n, hk, hn, hf, r => by
    simp only [List.length_cons] at hk hn
    have h0 := hf f (List.mem_cons_self ..)
    have hl : ∀ g ∈ l, g < 8 := fun g hg => hf g (List.mem_cons_of_mem _ hg)
    unfold rleN
    split
    · rw [List.cons_append, flagsS_one n c f (by omega) h0, flags_round k l (c + 1) n (by omega) (by omega) hl r]
      rfl
    · have h1 := runLen_le f l
      have h2 := runLen_take f l
      have h3 : (l.drop (runLen f l)).length = l.length - runLen f l := List.length_drop ..
      rw [List.cons_append, List.cons_append, flagsS_many n c f _ (by omega) h0 (by omega), flags_round k _ _ n (by omega) (by omega) (fun g hg => hl g (List.mem_of_mem_drop hg)) r]
      show Except.ok (List.replicate (runLen f l + 1) f ++ l.drop (runLen f l), r) = _
      rw [List.replicate_succ, List.cons_append, ← h2]

end Go.Proofs.Ytglmgenifjaakaa
