/-
  What path.Segs does to any contour; a piece that is read (no claim is made here).
-/
import Derived.Test.YtglmgenifjaakaaPth5
namespace Go.Proofs.Ytglmgenifjaakaa
open Go.RowKit

set_option maxHeartbeats 400000 in
theorem segs_nil (A : Option Addr) (cap : Nat) (w : World) : Calls Try.prog 27 #[.slice A 0 cap] w fun e w' => e = .returned (.slice none 0 0) ∧ Below w.heap.size w w' := by
  go_enter Try.func27, Try.ntmps27
  go_wp2
  go_ret
  exact ⟨rfl, Below.refl _ _⟩
/-- path.Segs. -/
theorem segs_any (v : Value) (c : List Vtx) (w : World) (hv : VRd w v c) (hl : c.length ≤ 1000) (hs : ∀ u ∈ c, smallV u) :
    Calls Try.prog 27 #[v] w fun e w' => ∃ u, e = .returned u ∧ SRow w' w.heap.size u (segsS c) ∧ Below w.heap.size w w' := by
  by_cases hc : c = []
  · subst hc
    obtain ⟨A, cap, rfl, _⟩ := hv
    refine (segs_nil A cap w).mono ?_
    rintro e w' ⟨rfl, hb⟩
    exact ⟨_, rfl, World.ownsRow_nil _ _ _ _, hb⟩
  · exact segs_core v c w hv hc hl hs

theorem walk_len (s : Pt) : ∀ (vs : List Vtx) (a : Pt) (ctl : Option Vtx), (walkS s a ctl vs).length ≤ vs.length + 1
  | [], a, ctl => by simp [walkS]
  | v :: vs, a, ctl => by
    by_cases h : v.on = true
    · rw [walk_on _ _ _ _ _ h, List.length_cons, List.length_cons]
      have := walk_len s vs (ptV v) none
      omega
    · have h' : v.on = false := by simpa using h
      cases ctl with
      | none => rw [walk_first _ _ _ _ h', List.length_cons]; have := walk_len s vs a (some v); omega
      | some u => rw [walk_mid _ _ _ _ _ h', List.length_cons, List.length_cons]; have := walk_len s vs (midV u v) (some v); omega
theorem segs_len (c : List Vtx) : (segsS c).length ≤ c.length + 1 := by
  unfold segsS
  split
  · simp
  · have h1 := walk_len (startS c) (othersS c) (startS c) none
    have h2 := others_len c
    omega

/-- A piece that is read, in the walk's spelling. -/
abbrev SAtS (w : World) (a : Addr) (i : Nat) (s0 s1 s2 s3 s4 s5 : Int) (s6 : Bool) : Prop :=
  w.cell? (a.add (i * 7)) = some (.int .i64 s0) ∧ w.cell? ⟨(a.add (i * 7)).block, (a.add (i * 7)).off + 1, none⟩ = some (.int .i64 s1) ∧ w.cell? ⟨(a.add (i * 7)).block, (a.add (i * 7)).off + 2, none⟩ = some (.int .i64 s2) ∧ w.cell? ⟨(a.add (i * 7)).block, (a.add (i * 7)).off + 3, none⟩ = some (.int .i64 s3) ∧ w.cell? ⟨(a.add (i * 7)).block, (a.add (i * 7)).off + 4, none⟩ = some (.int .i64 s4) ∧ w.cell? ⟨(a.add (i * 7)).block, (a.add (i * 7)).off + 5, none⟩ = some (.int .i64 s5) ∧ w.cell? ⟨(a.add (i * 7)).block, (a.add (i * 7)).off + 6, none⟩ = some (.bool s6)
theorem SRd.at {w : World} {A : Option Addr} {n cap : Nat} {l : List Sg} (h : SRd w (.slice A n cap) l) (i : Nat) (s : Sg) (hs : l[i]? = some s) : ∃ a, A = some a ∧ a.block < w.heap.size ∧ SAtS w a i s.a.x s.a.y s.b.x s.b.y s.c.x s.c.y s.curve := by
  obtain ⟨A', cap', e, _, h3⟩ := h
  simp only [Value.slice.injEq] at e
  obtain ⟨rfl, -, -⟩ := e
  obtain ⟨hi, rfl⟩ := List.getElem?_eq_some_iff.1 hs
  obtain ⟨a, ha, hlt, p0, p1, p2, p3, p4, p5, p6⟩ := h3 i hi
  rw [add_spell _ _ _ (by omega)] at p1 p2 p3 p4 p5 p6
  exact ⟨a, ha, hlt, p0, p1, p2, p3, p4, p5, p6⟩

end Go.Proofs.Ytglmgenifjaakaa
