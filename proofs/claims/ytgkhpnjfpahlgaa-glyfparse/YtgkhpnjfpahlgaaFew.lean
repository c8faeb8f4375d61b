/-
  Contours that came in, cut, in a row that is ours (no claim is made here).
-/
import Derived.Test.YtgkhpnjfpahlgaaGlyfSameWalk
namespace Go.Proofs.Ytgkhpnjfpahlgaa
open Go.RowKit

theorem run_min2 {P : Program} (ats : Array TypeId) (ty : TypeId) (a b m : Int) (h : (if b < a then b else a) = m) (w : World) :
    Sem.run P (Builtin.min_ ats ty #[.int .i64 a, .int .i64 b]) w = .ok (.int .i64 m) w := by
  subst h
  simp [Builtin.min_, Builtin.min2]
def fewS (o : List (List Vtx)) : List (List Vtx) := (o.take 12).map (List.take 70)
theorem fewS_lens (o : List (List Vtx)) : (fewS o).length ≤ 12 ∧ ∀ c ∈ fewS o, c.length ≤ 70 := by
  unfold fewS
  refine ⟨by rw [List.length_map, List.length_take]; omega, fun c hc => ?_⟩
  obtain ⟨d, _, rfl⟩ := List.mem_map.1 hc
  rw [List.length_take]
  omega
theorem VRd.take {w : World} {A : Option Addr} {n cap : Nat} {c : List Vtx} (h : VRd w (.slice A n cap) c) (k : Nat) (hk : k ≤ c.length) : VRd w (.slice A k cap) (c.take k) := by
  obtain ⟨A', cap', e, h1, h3⟩ := h
  simp only [Value.slice.injEq] at e
  obtain ⟨rfl, _, rfl⟩ := e
  refine ⟨A, cap, by rw [List.length_take, Nat.min_eq_left hk], by rw [List.length_take]; omega, fun i hi => ?_⟩
  rw [List.length_take] at hi
  obtain ⟨a, ha, hlt, c0, c1, c2⟩ := h3 i (by omega)
  rw [List.getElem_take]
  exact ⟨a, ha, hlt, c0, c1, c2⟩
/-- A row of ours of contours that came in. -/
def FewV (w0 w : World) (base : Nat) (u : Value) (fo : List (List Vtx)) : Prop := ∃ us : List Value, us.length = fo.length ∧ w.ownsRow base 27 1 u fo.length us ∧ ∀ i (h : i < us.length) (h' : i < fo.length), VRd w0 us[i] fo[i]
theorem FewV.nil (w0 w : World) (base : Nat) : FewV w0 w base (.slice none 0 0) [] := ⟨[], rfl, World.ownsRow_nil _ _ _ _, fun _ h => absurd h (Nat.not_lt_zero _)⟩
theorem FewV.below {w0 w w' : World} {base : Nat} {u : Value} {fo : List (List Vtx)} (h : FewV w0 w base u fo) (hb : Below w.heap.size w w') : FewV w0 w' base u fo := by
  obtain ⟨us, h1, h2, h3⟩ := h
  exact ⟨us, h1, own_blocks h2 fun g hg => hb.block g (h2.lt g hg).2, h3⟩
theorem FewV.read {w0 w : World} {base : Nat} {u : Value} {fo : List (List Vtx)} (h : FewV w0 w base u fo) (hb : Below w0.heap.size w0 w) : ORd w u fo := by
  obtain ⟨us, h1, h2, h3⟩ := h
  rcases h2.2 with ⟨rfl, h0⟩ | ⟨g, cap, cur, rfl, _, hg, hl, _, _, _⟩
  · have : fo = [] := List.eq_nil_of_length_eq_zero h0
    subst this
    exact ⟨none, 0, rfl, Nat.le_refl _, fun i hi => absurd hi (Nat.not_lt_zero _)⟩
  · exact ⟨_, cap, rfl, hl, fun r hr => ⟨_, us[r]'(by omega), rfl, (h2.lt g rfl).2, h2.cells rfl r _ (List.getElem?_eq_getElem (by omega)), (h3 r (by omega) hr).keep hb⟩⟩
theorem FewV.form {w0 w : World} {base : Nat} {u : Value} {fo : List (List Vtx)} (h : FewV w0 w base u fo) : ∃ A cap, u = .slice A fo.length cap := by
  obtain ⟨us, _, h2, _⟩ := h
  exact own_form h2
theorem FewV.push {w0 w1 : World} {base g cap n : Nat} {v : Value} {us : List Value} {fo : List (List Vtx)} {c : List Vtx} (h1 : us.length = fo.length) (h3 : ∀ i (h : i < us.length) (h' : i < fo.length), VRd w0 us[i] fo[i]) (hv : VRd w0 v c) (hn : fo.length = n)
    (hown : w1.ownsRow base 27 1 (.slice (some ⟨g, 0, none⟩) (n + 1) cap) (n + 1) (us ++ [v])) : FewV w0 w1 base (.slice (some ⟨g, 0, none⟩) (n + 1) cap) (fo ++ [c]) := by
  refine ⟨us ++ [v], by simp [h1], by rw [List.length_append, hn]; exact hown, fun i h h' => ?_⟩
  by_cases hi : i < us.length
  · rw [List.getElem_append_left hi, List.getElem_append_left (by omega)]
    exact h3 i hi (by omega)
  · obtain rfl : i = us.length := by simp at h; omega
    have e1 : (us ++ [v])[us.length] = v := by simp
    have e2 : (fo ++ [c])[us.length]'h' = c := by simp [h1]
    rw [e1, e2]
    exact hv
theorem fewS_step (o : List (List Vtx)) (r : Nat) (c : List Vtx) (h : o[r]? = some c) (m : Nat) (hm : m = min c.length 70) : (o.take (r + 1)).map (List.take 70) = (o.take r).map (List.take 70) ++ [c.take m] := by
  rw [take_push o r c h, List.map_append]
  have : c.take 70 = c.take m := by
    by_cases h7 : 70 ≤ c.length
    · rw [show m = 70 by omega]
    · rw [List.take_of_length_le (by omega), List.take_of_length_le (by omega)]
  simp [this]

end Go.Proofs.Ytgkhpnjfpahlgaa
