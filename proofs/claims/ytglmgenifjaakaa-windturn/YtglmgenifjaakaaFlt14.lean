/-
  The edges of outlines that the laws make: closed, and of small numbers (no claim is made here).
-/
import Derived.Test.YtglmgenifjaakaaFlt10
import Derived.Test.YtglmgenifjaakaaWindMath
namespace Go.Proofs.Ytglmgenifjaakaa
open Go.RowKit

def leP (M : Int) (p : Pt) : Prop := (-M ≤ p.x ∧ p.x ≤ M) ∧ -M ≤ p.y ∧ p.y ≤ M
def leV (v : Vtx) : Prop := (-255 ≤ v.x ∧ v.x ≤ 255) ∧ -255 ≤ v.y ∧ v.y ≤ 255
def leS (s : Sg) : Prop := leP 510 s.a ∧ leP 510 s.b ∧ leP 510 s.c
theorem leP_pt {v : Vtx} (h : leV v) : leP 510 (ptV v) := by unfold leV at h; unfold leP ptV; simp only []; omega
theorem leP_mid {u v : Vtx} (h : leV u) (k : leV v) : leP 510 (midV u v) := by unfold leV at h k; unfold leP midV; simp only []; omega
theorem leS_of {a c : Pt} (ctl : Option Vtx) (ha : leP 510 a) (hc : leP 510 c) (hu : ∀ u, ctl = some u → leV u) : leS (sgOf a ctl c) := by
  cases ctl with
  | none => exact ⟨ha, ha, hc⟩
  | some u => exact ⟨ha, leP_pt (hu u rfl), hc⟩
theorem less_walk (s : Pt) (hs : leP 510 s) : ∀ (vs : List Vtx) (a : Pt) (ctl : Option Vtx), leP 510 a → (∀ u, ctl = some u → leV u) → (∀ v ∈ vs, leV v) → ∀ x ∈ walkS s a ctl vs, leS x
  | [], a, ctl, ha, hu, _ => by
    intro x hx
    rw [walkS] at hx
    have : x = sgOf a ctl s := by simpa using hx
    subst this
    exact leS_of ctl ha hs hu
  | v :: vs, a, ctl, ha, hu, hv => by
    have hv0 := hv v List.mem_cons_self
    have hv1 := fun x hx => hv x (List.mem_cons_of_mem v hx)
    intro x hx
    by_cases h : v.on = true
    · rw [walk_on _ _ _ _ _ h] at hx
      rcases List.mem_cons.1 hx with rfl | hx
      · exact leS_of ctl ha (leP_pt hv0) hu
      · exact less_walk s hs vs (ptV v) none (leP_pt hv0) (fun u e => by cases e) hv1 x hx
    · have h' : v.on = false := by simpa using h
      cases ctl with
      | none =>
        rw [walk_first _ _ _ _ h'] at hx
        exact less_walk s hs vs a (some v) ha (fun u e => by cases e; exact hv0) hv1 x hx
      | some u =>
        rw [walk_mid _ _ _ _ _ h'] at hx
        rcases List.mem_cons.1 hx with rfl | hx
        · exact leS_of (some u) ha (leP_mid (hu u rfl) hv0) hu
        · exact less_walk s hs vs (midV u v) (some v) (leP_mid (hu u rfl) hv0) (fun w e => by cases e; exact hv0) hv1 x hx
theorem vtxAt_le {c : List Vtx} (h : ∀ v ∈ c, leV v) (i : Nat) : leV (vtxAt c i) := by
  unfold vtxAt
  rw [List.getD_eq_getElem?_getD]
  cases hc : c[i]? with
  | none => simp [leV]
  | some v => exact h v (List.mem_of_getElem? hc)
theorem segs_le {c : List Vtx} (h : ∀ v ∈ c, leV v) : ∀ x ∈ segsS c, leS x := by
  intro x hx
  unfold segsS at hx
  split at hx
  · cases hx
  · have hs : leP 510 (startS c) := by
      unfold startS
      split
      · exact leP_mid (vtxAt_le h _) (vtxAt_le h _)
      · exact leP_pt (vtxAt_le h _)
    refine less_walk _ hs _ _ none hs (fun u e => by cases e) (fun v hv => h v ?_) x hx
    unfold othersS at hv
    split at hv
    · exact hv
    · rcases List.mem_append.1 hv with hv | hv
      · exact List.mem_of_mem_drop hv
      · exact List.mem_of_mem_take hv
theorem onX_le (k : Nat) {a b c : Int} (ha : -510 ≤ a ∧ a ≤ 510) (hb : -510 ≤ b ∧ b ≤ 510) (hc : -510 ≤ c ∧ c ≤ 510) : -8160 ≤ onX k a b c ∧ onX k a b c ≤ 8160 := by
  unfold onX
  split <;> omega
theorem onV_le {s : Sg} (h : leS s) (k : Nat) : leP 8160 (onV s k) := by
  obtain ⟨⟨a0, a1⟩, ⟨b0, b1⟩, c0, c1⟩ := h
  have h0 := onX_le k a0 b0 c0
  have h1 := onX_le k a1 b1 c1
  exact ⟨h0, h1⟩
def leE (e : Ed) : Prop := leP 8160 e.a ∧ leP 8160 e.b
theorem chain_le : ∀ (l : List Pt), (∀ p ∈ l, leP 8160 p) → ∀ e ∈ chain l, leE e
  | [], _, e, he => by cases he
  | [p], _, e, he => by cases he
  | p :: q :: l, h, e, he => by
    rw [chain] at he
    rcases List.mem_append.1 he with he | he
    · unfold edge at he
      split at he
      · cases he
      · have : e = ⟨p, q⟩ := by simpa using he
        subst this
        exact ⟨h p List.mem_cons_self, h q (List.mem_cons_of_mem _ List.mem_cons_self)⟩
    · exact chain_le (q :: l) (fun x hx => h x (List.mem_cons_of_mem _ hx)) e he
theorem edges_le {l : List Sg} (h : ∀ s ∈ l, leS s) : ∀ e ∈ edgesS l, leE e := by
  intro e he
  unfold edgesS at he
  rw [List.mem_flatMap] at he
  obtain ⟨s, hs, he⟩ := he
  refine chain_le _ (fun p hp => ?_) e he
  unfold ptsOf at hp
  split at hp
  · simp only [List.mem_cons, List.not_mem_nil, or_false] at hp
    rcases hp with rfl | rfl | rfl | rfl | rfl <;> exact onV_le (h s hs) _
  · simp only [List.mem_cons, List.not_mem_nil, or_false] at hp
    rcases hp with rfl | rfl <;> exact onV_le (h s hs) _
theorem outline_le (cs : List (List Dot)) : ∀ c ∈ outlineS cs, ∀ v ∈ c, leV v := by
  obtain ⟨_, _, _, h4⟩ := checkS_zero (outlineS_check cs)
  intro c hc v hv
  have := h4 v (List.mem_flatten.2 ⟨c, hc, hv⟩)
  unfold inV at this
  unfold leV
  omega
/-- What the edges of an outline that the laws make are. -/
theorem glyph_facts (fo : List (List Dot)) : ∃ ls : List (List Ed), ((outlineS fo).map segsS).flatMap edgesS = ls.flatten ∧ (∀ l ∈ ls, ∃ q, Way q l q) ∧ ∀ e ∈ ls.flatten, leE e := by
  refine ⟨((outlineS fo).map segsS).map edgesS, by rw [List.flatMap_def], fun l hl => ?_, fun e he => ?_⟩
  · obtain ⟨c, hc, rfl⟩ := List.mem_map.1 hl
    obtain ⟨d, hd, rfl⟩ := List.mem_map.1 hc
    exact segs_way d
  · obtain ⟨l, hl, he⟩ := List.mem_flatten.1 he
    obtain ⟨c, hc, rfl⟩ := List.mem_map.1 hl
    obtain ⟨d, hd, rfl⟩ := List.mem_map.1 hc
    exact edges_le (segs_le (outline_le fo d hd)) e he

end Go.Proofs.Ytglmgenifjaakaa
