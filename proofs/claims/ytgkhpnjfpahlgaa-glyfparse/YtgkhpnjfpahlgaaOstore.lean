/-
  A point of an outline that is ours, written over (no claim is made here).
-/
import Derived.Test.YtgkhpnjfpahlgaaPAwk
import Derived.Test.YtgkhpnjfpahlgaaOpen4
namespace Go.Proofs.Ytgkhpnjfpahlgaa
open Go.RowKit

theorem set_split {α : Type} (c : List α) (j : Nat) (hj : j < c.length) (v : α) : c = c.take j ++ c[j] :: c.drop (j + 1) ∧ c.set j v = c.take j ++ v :: c.drop (j + 1) ∧ (c.take j).length = j := by
  refine ⟨?_, List.set_eq_take_append_cons_drop .. |>.trans (by rw [if_pos hj]), by rw [List.length_take]; omega⟩
  rw [← List.drop_eq_getElem_cons hj, List.take_append_drop]
theorem vcells_put (c : List Vtx) (j : Nat) (hj : j < c.length) (v : Vtx) : (((vcells c).set (j * 3) (.int .i64 v.x)).set (j * 3 + 1) (.int .i64 v.y)).set (j * 3 + 2) (.bool v.on) = vcells (c.set j v) := by
  obtain ⟨h1, h2, h3⟩ := set_split c j hj v
  have h := vcells_set (c.take j) (c.drop (j + 1)) c[j] v j h3
  rw [← h1] at h
  rw [h, h2, List.append_assoc]
  rfl
theorem vcells_on (c : List Vtx) (j : Nat) (hj : j < c.length) (b : Bool) : (vcells c).set (j * 3 + 2) (.bool b) = vcells (c.set j ⟨(c[j]).x, (c[j]).y, b⟩) := by
  rw [← vcells_put c j hj]
  obtain ⟨a0, a1, a2⟩ := vcells_at c j hj
  congr 1
  have e0 : (vcells c).set (j * 3) (.int .i64 (c[j]).x) = vcells c := by
    obtain ⟨h, e⟩ := List.getElem?_eq_some_iff.1 a0
    rw [← e]; exact List.set_getElem_self _
  rw [e0]
  obtain ⟨h, e⟩ := List.getElem?_eq_some_iff.1 a1
  rw [← e]; exact (List.set_getElem_self _).symm

/-- A contour of an outline that is ours. -/
theorem Outl.row {w : World} {base : Nat} {v : Value} {o : List (List Vtx)} (h : Outl w base v o) (i : Nat) (hi : i < o.length) :
    ∃ gv capv p capp, v = .slice (some ⟨gv, 0, none⟩) o.length capv ∧ o.length ≤ capv ∧ gv < w.heap.size ∧ w.cell? ⟨gv, i, none⟩ = some (.slice (some ⟨p, 0, none⟩) (o[i]).length capp) ∧ (o[i]).length ≤ capp ∧ base ≤ p ∧ p < w.heap.size ∧ 0 < (o[i]).length ∧
      VRow w base (.slice (some ⟨p, 0, none⟩) (o[i]).length capp) o[i] ∧
      ∀ (W : World) (c' : List Vtx), W.heap.size = w.heap.size → (∀ k, k ≠ p → W.heap[k]? = w.heap[k]?) → c'.length = (o[i]).length → VRow W base (.slice (some ⟨p, 0, none⟩) (o[i]).length capp) c' → ORd W v (o.set i c') := by
  obtain ⟨vs, e, h1, h2, h3⟩ := h
  have hiv : i < vs.length := by omega
  obtain ⟨gv, capv, hv, hgv1, hgv2⟩ := World.ownsRow.form h1 (by omega)
  obtain ⟨r1, r2, r3⟩ := h2 i hi hiv
  have hpos : 0 < (o[i]).length := List.length_pos_iff.2 r2
  obtain ⟨p, capp, hp, hp1, hp2⟩ := World.ownsRow.form r1 hpos
  have hcell : w.cell? ⟨gv, i, none⟩ = some vs[i] := by
    have := h1
    rw [hv] at this
    rw [this.cellAt i (by omega)]
    exact List.getElem?_eq_getElem hiv
  have hcv : o.length ≤ capv := by
    rcases h1.2 with ⟨h, _⟩ | ⟨g, cap, cur, hv', _, _, hl, _⟩
    · rw [hv] at h; cases h
    · rw [hv] at hv'
      simp only [Value.slice.injEq] at hv'
      omega
  have hcp : (o[i]).length ≤ capp := by
    rcases r1.2 with ⟨h, _⟩ | ⟨g, cap, cur, hv', _, _, hl, _⟩
    · rw [hp] at h; cases h
    · rw [hp] at hv'
      simp only [Value.slice.injEq] at hv'
      omega
  have r1' := r1
  rw [hp] at r1' hcell
  refine ⟨gv, capv, p, capp, hv, hcv, hgv2, hcell, hcp, hp1, hp2, hpos, r1', fun W c' hz hb hc' hV => ?_⟩
  have hne : gv ≠ p := by
    intro e
    apply r3
    rw [hp, hv, e]
    rfl
  have hOW := own_blocks h1 (w' := W) fun q hq => hb q (by rw [hv] at hq; simp only [Value.ownBlock, Option.some.injEq] at hq; omega)
  subst hv
  refine ⟨_, capv, by rw [List.length_set], by rw [List.length_set]; exact hcv, fun r hr => ?_⟩
  rw [List.length_set] at hr
  have hrv : r < vs.length := by omega
  refine ⟨_, vs[r], rfl, by rw [hz]; exact hgv2, hOW.cells rfl r _ (List.getElem?_eq_getElem hrv), ?_⟩
  by_cases hri : r = i
  · subst hri
    rw [List.getElem_set_self, hp]
    exact (show VRow W base (.slice (some ⟨p, 0, none⟩) c'.length capp) c' by rw [hc']; exact hV).read |> fun h => by rw [← hc']; exact h
  · rw [List.getElem_set_ne (fun e => hri e.symm)]
    have hrr := (h2 r hr hrv).1
    refine VRow.read (base := base) (own_blocks hrr fun q hq => hb q ?_)
    intro e
    subst e
    have hpw := List.pairwise_iff_getElem.1 h3
    rcases Nat.lt_or_gt_of_ne hri with hlt | hgt
    · exact hpw r i hrv hiv hlt (by rw [hq, hp]; rfl)
    · exact hpw i r hiv hrv hgt (by rw [hq, hp]; rfl)

end Go.Proofs.Ytgkhpnjfpahlgaa
