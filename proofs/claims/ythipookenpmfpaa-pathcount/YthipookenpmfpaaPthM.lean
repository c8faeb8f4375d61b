/-
  Pieces that move with their contour: plain numbers, and the law's closure (no claim is made here).
-/
import Derived.Test.YthipookenpmfpaaPth7
import Derived.Test.YthipookenpmfpaaPthO
namespace Go.Proofs.Ythipookenpmfpaa
open Go.RowKit

def mvV (dx dy : Int) (v : Vtx) : Vtx := ⟨v.x + dx, v.y + dy, v.on⟩
def mvP (dx dy : Int) (p : Pt) : Pt := ⟨p.x + 2 * dx, p.y + 2 * dy⟩
def mvS (dx dy : Int) (s : Sg) : Sg := ⟨mvP dx dy s.a, mvP dx dy s.b, mvP dx dy s.c, s.curve⟩
theorem mv_pt (dx dy : Int) (v : Vtx) : ptV (mvV dx dy v) = mvP dx dy (ptV v) := by
  unfold ptV mvP mvV
  congr 1 <;> (simp only []; omega)
theorem mv_mid (dx dy : Int) (u v : Vtx) : midV (mvV dx dy u) (mvV dx dy v) = mvP dx dy (midV u v) := by
  unfold midV mvP mvV
  congr 1 <;> (simp only []; omega)
theorem mv_sg (dx dy : Int) (a c : Pt) (ctl : Option Vtx) : sgOf (mvP dx dy a) (ctl.map (mvV dx dy)) (mvP dx dy c) = mvS dx dy (sgOf a ctl c) := by
  cases ctl with
  | none => rfl
  | some u => simp only [Option.map_some, sgOf, mvS, mv_pt]
theorem mv_walk (dx dy : Int) (s : Pt) : ∀ (vs : List Vtx) (a : Pt) (ctl : Option Vtx), walkS (mvP dx dy s) (mvP dx dy a) (ctl.map (mvV dx dy)) (vs.map (mvV dx dy)) = (walkS s a ctl vs).map (mvS dx dy)
  | [], a, ctl => by rw [List.map_nil, walk_nil _ _ _ _ rfl, walk_nil _ _ _ _ rfl, mv_sg]; rfl
  | v :: vs, a, ctl => by
    rw [List.map_cons]
    by_cases h : v.on = true
    · have ih := mv_walk dx dy s vs (ptV v) none
      rw [walk_on _ _ _ _ _ h, walk_on _ _ _ _ _ (show (mvV dx dy v).on = true from h), List.map_cons, mv_pt, mv_sg, ← ih]
      rfl
    · have h' : v.on = false := by simpa using h
      cases ctl with
      | none =>
        have ih := mv_walk dx dy s vs a (some v)
        rw [walk_first _ _ _ _ h', ← ih, Option.map_none, walk_first _ _ _ _ (show (mvV dx dy v).on = false from h')]
        rfl
      | some u =>
        have ih := mv_walk dx dy s vs (midV u v) (some v)
        rw [walk_mid _ _ _ _ _ h', List.map_cons, ← ih, Option.map_some, walk_mid _ _ _ _ _ (show (mvV dx dy v).on = false from h'), mv_mid, ← mv_sg]
        rfl
theorem mv_first (dx dy : Int) : ∀ c : List Vtx, firstOn (c.map (mvV dx dy)) = firstOn c
  | [] => rfl
  | v :: c => by
    rw [List.map_cons, firstOn, firstOn, mv_first dx dy c]
    rfl
theorem mv_at (dx dy : Int) (c : List Vtx) (i : Nat) (h : i < c.length) : vtxAt (c.map (mvV dx dy)) i = mvV dx dy (vtxAt c i) := by
  simp [vtxAt, List.getD, h]
theorem mv_segs (dx dy : Int) (c : List Vtx) : segsS (c.map (mvV dx dy)) = (segsS c).map (mvS dx dy) := by
  by_cases hc : c = []
  · subst hc; rfl
  · have hc' : c.map (mvV dx dy) ≠ [] := fun h => hc (List.map_eq_nil_iff.1 h)
    have h0 : 0 < c.length := List.length_pos_iff.2 hc
    have hst : startS (c.map (mvV dx dy)) = mvP dx dy (startS c) := by
      unfold startS
      rw [mv_first]
      cases hf : firstOn c with
      | none => simp only [List.length_map]; rw [mv_at _ _ _ _ (by omega), mv_at _ _ _ _ h0, mv_mid]
      | some f =>
        obtain ⟨v, h1, _, _⟩ := firstOn_some hf
        simp only []
        rw [mv_at _ _ _ _ (List.getElem?_eq_some_iff.1 h1).1, mv_pt]
    have hos : othersS (c.map (mvV dx dy)) = (othersS c).map (mvV dx dy) := by
      unfold othersS
      rw [mv_first]
      cases hf : firstOn c with
      | none => rfl
      | some f => simp only [List.map_append, List.map_drop, List.map_take]
    unfold segsS
    rw [if_neg hc, if_neg hc', hst, hos, ← mv_walk]
    rfl

/-- A piece's numbers are small. -/
def inP (p : Pt) : Prop := (-2000 ≤ p.x ∧ p.x ≤ 2000) ∧ -2000 ≤ p.y ∧ p.y ≤ 2000
def inS (s : Sg) : Prop := inP s.a ∧ inP s.b ∧ inP s.c
theorem in_pt {v : Vtx} (h : smallV v) : inP (ptV v) := by unfold smallV at h; unfold inP ptV; simp only []; omega
theorem in_mid {u v : Vtx} (h : smallV u) (h' : smallV v) : inP (midV u v) := by unfold smallV at h h'; unfold inP midV; simp only []; omega
theorem in_sg {a c : Pt} {ctl : Option Vtx} (ha : inP a) (hc : inP c) (hu : ∀ u, ctl = some u → smallV u) : inS (sgOf a ctl c) := by
  cases ctl with
  | none => exact ⟨ha, ha, hc⟩
  | some u => exact ⟨ha, in_pt (hu u rfl), hc⟩
theorem in_walk {s : Pt} (hs : inP s) : ∀ (vs : List Vtx) (a : Pt) (ctl : Option Vtx), inP a → (∀ u, ctl = some u → smallV u) → (∀ v ∈ vs, smallV v) → ∀ x ∈ walkS s a ctl vs, inS x
  | [], a, ctl, ha, hu, _, x, hx => by
    rw [walk_nil _ _ _ _ rfl, List.mem_singleton] at hx
    subst hx
    exact in_sg ha hs hu
  | v :: vs, a, ctl, ha, hu, hv, x, hx => by
    have hv0 := hv v (List.mem_cons_self ..)
    have hv' : ∀ w ∈ vs, smallV w := fun w hw => hv w (List.mem_cons_of_mem _ hw)
    by_cases h : v.on = true
    · rw [walk_on _ _ _ _ _ h] at hx
      rcases List.mem_cons.1 hx with rfl | hx
      · exact in_sg ha (in_pt hv0) hu
      · exact in_walk hs vs (ptV v) none (in_pt hv0) (fun _ h => by cases h) hv' x hx
    · have h' : v.on = false := by simpa using h
      cases ctl with
      | none =>
        rw [walk_first _ _ _ _ h'] at hx
        exact in_walk hs vs a (some v) ha (fun u hu => by cases hu; exact hv0) hv' x hx
      | some u =>
        rw [walk_mid _ _ _ _ _ h'] at hx
        rcases List.mem_cons.1 hx with rfl | hx
        · exact in_sg ha (in_mid (hu u rfl) hv0) hu
        · exact in_walk hs vs (midV u v) (some v) (in_mid (hu u rfl) hv0) (fun u hu => by cases hu; exact hv0) hv' x hx
theorem small_at {c : List Vtx} (h : ∀ v ∈ c, smallV v) (i : Nat) : smallV (vtxAt c i) := by
  unfold vtxAt List.getD
  cases hi : c[i]? with
  | none => simp [smallV]
  | some v => exact h v (List.mem_of_getElem? hi)
theorem in_segs {c : List Vtx} (h : ∀ v ∈ c, smallV v) : ∀ x ∈ segsS c, inS x := by
  intro x hx
  unfold segsS at hx
  split at hx
  · cases hx
  · have hs : inP (startS c) := by
      unfold startS
      split
      · exact in_mid (small_at h _) (small_at h _)
      · exact in_pt (small_at h _)
    exact in_walk hs _ _ none hs (fun _ h => by cases h) (fun v hv => h v (others_mem c v hv)) x hx

set_option maxHeartbeats 800000 in
theorem mover_any (px py dx dy : Int) (g4 g5 : Nat) (t t' : TypeId) (w : World) (h4 : Blk w g4 t [.int .i8 dx]) (h5 : Blk w g5 t' [.int .i8 dy]) (hd : (-128 ≤ dx ∧ dx ≤ 127) ∧ -128 ≤ dy ∧ dy ≤ 127) (hp : (-2000 ≤ px ∧ px ≤ 2000) ∧ -2000 ≤ py ∧ py ≤ 2000) :
    Calls Try.prog 14 #[.agg #[.int .i64 px, .int .i64 py], .pointer (some ⟨g4, 0, none⟩), .pointer (some ⟨g5, 0, none⟩)] w fun e w' => e = .returned (.agg #[.int .i64 (px + 2 * dx), .int .i64 (py + 2 * dy)]) ∧ Below w.heap.size w w' := by
  obtain ⟨⟨d1, d2⟩, d3, d4⟩ := hd
  obtain ⟨⟨p1, p2⟩, p3, p4⟩ := hp
  have c4 := h4.cell 0 rfl
  have c5 := h5.cell 0 rfl
  have z4 := h4.lt
  have z5 := h5.lt
  clear h4 h5
  go_enter Try.func14, Try.ntmps14
  go_wp2
  exact bodyPost_ret (v := .agg #[.int .i64 (px + 2 * dx), .int .i64 (py + 2 * dy)]) (by simp [results, Try.results14, go_sem]) rfl ⟨rfl, ((Below.refl _ w).alloc (Nat.le_refl _) _).alloc (by simp) _⟩

end Go.Proofs.Ythipookenpmfpaa
