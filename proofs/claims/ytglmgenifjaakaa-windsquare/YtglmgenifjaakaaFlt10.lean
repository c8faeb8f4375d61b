/-
  The pieces of outlines that the laws make: few, and of small numbers (no claim is made here).
-/
import Derived.Test.YtglmgenifjaakaaFlt8
import Derived.Test.YtglmgenifjaakaaFlt9
namespace Go.Proofs.Ytglmgenifjaakaa
open Go.RowKit

def inP (p : Pt) : Prop := (-2000 ≤ p.x ∧ p.x ≤ 2000) ∧ -2000 ≤ p.y ∧ p.y ≤ 2000
theorem inP_pt {v : Vtx} (h : smallV v) : inP (ptV v) := by unfold smallV at h; unfold inP ptV; simp only []; omega
theorem inP_mid {u v : Vtx} (h : smallV u) (k : smallV v) : inP (midV u v) := by unfold smallV at h k; unfold inP midV; simp only []; omega
theorem inS_of {a b c : Pt} (cv : Bool) (ha : inP a) (hb : inP b) (hc : inP c) : inS ⟨a, b, c, cv⟩ := by
  unfold inP at ha hb hc
  unfold inS inX
  simp only []
  omega
theorem sgOf_in {a c : Pt} (ctl : Option Vtx) (ha : inP a) (hc : inP c) (hu : ∀ u, ctl = some u → smallV u) : inS (sgOf a ctl c) := by
  cases ctl with
  | none => exact inS_of _ ha ha hc
  | some u => exact inS_of _ ha (inP_pt (hu u rfl)) hc
theorem small_walk (s : Pt) (hs : inP s) : ∀ (vs : List Vtx) (a : Pt) (ctl : Option Vtx), inP a → (∀ u, ctl = some u → smallV u) → (∀ v ∈ vs, smallV v) → ∀ x ∈ walkS s a ctl vs, inS x
  | [], a, ctl, ha, hu, _ => by
    intro x hx
    rw [walkS] at hx
    have : x = sgOf a ctl s := by simpa using hx
    subst this
    exact sgOf_in ctl ha hs hu
  | v :: vs, a, ctl, ha, hu, hv => by
    have hv0 := hv v List.mem_cons_self
    have hv1 := fun x hx => hv x (List.mem_cons_of_mem v hx)
    intro x hx
    by_cases h : v.on = true
    · rw [walk_on _ _ _ _ _ h] at hx
      rcases List.mem_cons.1 hx with rfl | hx
      · exact sgOf_in ctl ha (inP_pt hv0) hu
      · exact small_walk s hs vs (ptV v) none (inP_pt hv0) (fun u e => by cases e) hv1 x hx
    · have h' : v.on = false := by simpa using h
      cases ctl with
      | none =>
        rw [walk_first _ _ _ _ h'] at hx
        exact small_walk s hs vs a (some v) ha (fun u e => by cases e; exact hv0) hv1 x hx
      | some u =>
        rw [walk_mid _ _ _ _ _ h'] at hx
        rcases List.mem_cons.1 hx with rfl | hx
        · exact sgOf_in (some u) ha (inP_mid (hu u rfl) hv0) hu
        · exact small_walk s hs vs (midV u v) (some v) (inP_mid (hu u rfl) hv0) (fun w e => by cases e; exact hv0) hv1 x hx
theorem vtxAt_small {c : List Vtx} (h : ∀ v ∈ c, smallV v) (i : Nat) : smallV (vtxAt c i) := by
  unfold vtxAt
  rw [List.getD_eq_getElem?_getD]
  cases hc : c[i]? with
  | none => simp [smallV]
  | some v => exact h v (List.mem_of_getElem? hc)
theorem segs_in {c : List Vtx} (h : ∀ v ∈ c, smallV v) : ∀ x ∈ segsS c, inS x := by
  intro x hx
  unfold segsS at hx
  split at hx
  · cases hx
  · have hs : inP (startS c) := by
      unfold startS
      split
      · exact inP_mid (vtxAt_small h _) (vtxAt_small h _)
      · exact inP_pt (vtxAt_small h _)
    refine small_walk _ hs _ _ none hs (fun u e => by cases e) (fun v hv => h v ?_) x hx
    unfold othersS at hv
    split at hv
    · exact hv
    · rcases List.mem_append.1 hv with hv | hv
      · exact List.mem_of_mem_drop hv
      · exact List.mem_of_mem_take hv
theorem pieces_small {o : List (List Vtx)} (h : o.length ≤ 8 ∧ ∀ c ∈ o, c.length ≤ 1000 ∧ ∀ v ∈ c, smallV v) : (o.map segsS).length ≤ 8 ∧ ∀ c ∈ o.map segsS, c.length ≤ 1001 ∧ ∀ s ∈ c, inS s := by
  refine ⟨by rw [List.length_map]; exact h.1, fun c hc => ?_⟩
  obtain ⟨d, hd, rfl⟩ := List.mem_map.1 hc
  obtain ⟨h1, h2⟩ := h.2 d hd
  exact ⟨by have := segs_len d; omega, segs_in h2⟩
theorem pieces_way {o : List (List Vtx)} {r : Nat} {c : List Sg} (h : (o.map segsS)[r]? = some c) : ∃ p, Way p (edgesS c) p := by
  rw [List.getElem?_map] at h
  cases hc : o[r]? with
  | none => rw [hc] at h; cases h
  | some d =>
    rw [hc] at h
    injection h with h
    subst h
    exact segs_way d

end Go.Proofs.Ytglmgenifjaakaa
