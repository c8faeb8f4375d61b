/-
  An outline's flags and steps, point by point: numbers, without a program (no claim is made here).
-/
import Derived.Test.YtgkhpnjfpahlgaaGlyfMath3
namespace Go.Proofs.Ytgkhpnjfpahlgaa

/-- The last point, or where it began. -/
def lastOf : Int → Int → List Vtx → Int × Int
  | x, y, [] => (x, y)
  | _, _, v :: vs => lastOf v.x v.y vs
theorem lastOf_snoc : ∀ (a : List Vtx) (x y : Int) (v : Vtx), lastOf x y (a ++ [v]) = (v.x, v.y)
  | [], _, _, _ => rfl
  | _ :: a, _, _, v => lastOf_snoc a _ _ v
theorem flagsV_snoc : ∀ (a : List Vtx) (x y : Int) (v : Vtx), flagsV x y (a ++ [v]) = flagsV x y a ++ [flagV (v.x - (lastOf x y a).1) (v.y - (lastOf x y a).2) v.on]
  | [], _, _, _ => rfl
  | u :: a, x, y, v => by simp only [List.cons_append, flagsV, lastOf]; rw [flagsV_snoc a]
theorem stepsV_snoc : ∀ (a : List Vtx) (x y : Int) (v : Vtx), stepsV x y (a ++ [v]) = stepsV x y a ++ (stepB (v.x - (lastOf x y a).1) ++ stepB (v.y - (lastOf x y a).2))
  | [], _, _, _ => by simp [stepsV, lastOf]
  | u :: a, x, y, v => by simp only [List.cons_append, stepsV, lastOf]; rw [stepsV_snoc a, List.append_assoc, List.append_assoc]
theorem lastOf_in : ∀ (a : List Vtx) (x y : Int), (-255 ≤ x ∧ x ≤ 255) → (-255 ≤ y ∧ y ≤ 255) → (∀ v ∈ a, inV v) → (-255 ≤ (lastOf x y a).1 ∧ (lastOf x y a).1 ≤ 255) ∧ -255 ≤ (lastOf x y a).2 ∧ (lastOf x y a).2 ≤ 255
  | [], _, _, hx, hy, _ => ⟨hx, hy⟩
  | v :: a, _, _, _, _, h => lastOf_in a v.x v.y (h v (List.mem_cons_self ..)).1 (h v (List.mem_cons_self ..)).2 (fun u hu => h u (List.mem_cons_of_mem _ hu))

/-- The points ahead of point j of contour r. -/
def ahead (o : List (List Vtx)) (r : Nat) (c : List Vtx) (j : Nat) : List Vtx := (o.take r).flatten ++ c.take j
theorem ahead_next (o : List (List Vtx)) (r : Nat) (c : List Vtx) (j : Nat) (v : Vtx) (h : c[j]? = some v) : ahead o r c (j + 1) = ahead o r c j ++ [v] := by
  unfold ahead
  rw [List.take_add_one, h]
  simp
theorem ahead_all (o : List (List Vtx)) (r : Nat) (c : List Vtx) (h : o[r]? = some c) : (o.take (r + 1)).flatten = ahead o r c c.length := by
  unfold ahead
  rw [List.take_add_one, h]
  simp
theorem ahead_len (o : List (List Vtx)) (r : Nat) (c : List Vtx) (j : Nat) (h : o[r]? = some c) : (ahead o r c j).length ≤ o.flatten.length := by
  have e : o = o.take r ++ o.drop r := (List.take_append_drop r o).symm
  have hr : o.drop r = c :: o.drop (r + 1) := by
    obtain ⟨hj, rfl⟩ := List.getElem?_eq_some_iff.1 h
    exact List.drop_eq_getElem_cons hj
  have h2 : o.flatten.length = (o.take r).flatten.length + (o.drop r).flatten.length := by rw [← List.length_append, ← List.flatten_append, ← e]
  rw [hr, List.flatten_cons, List.length_append] at h2
  unfold ahead
  rw [List.length_append, List.length_take]
  omega
theorem ahead_mem (o : List (List Vtx)) (r : Nat) (c : List Vtx) (j : Nat) (h : o[r]? = some c) : ∀ v ∈ ahead o r c j, v ∈ o.flatten := by
  intro v hv
  rcases List.mem_append.1 hv with hv | hv
  · obtain ⟨l, hl, hv⟩ := List.mem_flatten.1 hv
    exact List.mem_flatten.2 ⟨l, List.mem_of_mem_take hl, hv⟩
  · exact List.mem_flatten.2 ⟨c, List.mem_of_getElem? h, List.mem_of_mem_take hv⟩

/-- A point's flag and steps behind k of its two numbers. -/
def flagK (dx dy : Int) (on : Bool) (k : Nat) : Nat := (if on = true then 1 else 0) + (if 1 ≤ k ∧ far dx = true then 2 else 0) + (if 2 ≤ k ∧ far dy = true then 4 else 0)
def stepsK (dx dy : Int) (k : Nat) : List Nat := (if 1 ≤ k then stepB dx else []) ++ (if 2 ≤ k then stepB dy else [])
theorem flagK_two (dx dy : Int) (on : Bool) : flagK dx dy on 2 = flagV dx dy on := by unfold flagK flagV; simp
theorem stepsK_two (dx dy : Int) : stepsK dx dy 2 = stepB dx ++ stepB dy := by unfold stepsK; simp
theorem flagK_lt (dx dy : Int) (on : Bool) (k : Nat) : flagK dx dy on k < 8 := by unfold flagK; split <;> split <;> split <;> omega
theorem flagK_step (dx dy : Int) (on : Bool) (k : Nat) (hk : k < 2) : flagK dx dy on (k + 1) = flagK dx dy on k + (if far (if k = 0 then dx else dy) = true then 2 + 2 * k else 0) := by
  rcases (by omega : k = 0 ∨ k = 1) with rfl | rfl
  · unfold flagK; simp
  · unfold flagK; simp
theorem stepsK_step (dx dy : Int) (k : Nat) (hk : k < 2) : stepsK dx dy (k + 1) = stepsK dx dy k ++ stepB (if k = 0 then dx else dy) := by
  rcases (by omega : k = 0 ∨ k = 1) with rfl | rfl
  · unfold stepsK; simp
  · unfold stepsK; simp

theorem steps_len : ∀ (vs : List Vtx) (x y : Int), (stepsV x y vs).length ≤ 4 * vs.length
  | [], _, _ => Nat.le_refl _
  | v :: vs, x, y => by
    have a := (stepB_le (v.x - x)).1
    have b := (stepB_le (v.y - y)).1
    have c := steps_len vs v.x v.y
    simp only [stepsV, List.length_append, List.length_cons]
    omega
theorem stepsK_len (dx dy : Int) (k : Nat) : (stepsK dx dy k).length ≤ 4 := by
  have a := (stepB_le dx).1
  have b := (stepB_le dy).1
  unfold stepsK
  rw [List.length_append]
  split <;> split <;> simp <;> omega

end Go.Proofs.Ytgkhpnjfpahlgaa
