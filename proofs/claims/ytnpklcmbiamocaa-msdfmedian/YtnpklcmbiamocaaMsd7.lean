/-
  What a function leaves behind that holds ranges over functions inside a loop: marks without calls (no claim is made here).
-/
import Derived.Test.YtnpklcmbiamocaaGrd5
namespace Go.Proofs.Ytnpklcmbiamocaa
open Go.RowKit Go.Shelf

/-- An element of an array of three fields. -/
theorem fields_at (a0 a1 a2 a3 a4 a5 a6 a7 a8 : Value) (w : World) : Sem.run Try.prog (Instr.index 39 (.agg #[a0, a1, a2, a3, a4, a5, a6, a7, a8]) (.int .i64 0)) w = .ok (.agg #[a0, a1, a2]) w ∧ Sem.run Try.prog (Instr.index 39 (.agg #[a0, a1, a2, a3, a4, a5, a6, a7, a8]) (.int .i64 1)) w = .ok (.agg #[a3, a4, a5]) w ∧ Sem.run Try.prog (Instr.index 39 (.agg #[a0, a1, a2, a3, a4, a5, a6, a7, a8]) (.int .i64 2)) w = .ok (.agg #[a6, a7, a8]) w :=
  ⟨by kernel_rfl, by kernel_rfl, by kernel_rfl⟩
/-- Marks of ranges over functions, in which nothing was deferred. -/
def Marks (n0 : Nat) (ds : List Deferred) (w : World) : Prop := ds.Nodup ∧ ∀ d ∈ ds, ∃ D, d = { target := .collected D, args := #[] } ∧ n0 ≤ D ∧ w.heap[D]? = some (.deferred (some []))
theorem Marks.nil (n0 : Nat) (w : World) : Marks n0 [] w := ⟨List.nodup_nil, fun _ h => nomatch h⟩
theorem Marks.keep {n0 : Nat} {ds : List Deferred} {w w' : World} (h : Marks n0 ds w) (hb : Below w.heap.size w w') : Marks n0 ds w' := ⟨h.1, fun d hd => by
  obtain ⟨D, e, h1, h2⟩ := h.2 d hd
  exact ⟨D, e, h1, (hb.block D (Array.getElem?_eq_some_iff.1 h2).1).trans h2⟩⟩
theorem Marks.cons {n0 D : Nat} {ds : List Deferred} {w w' : World} (h : Marks n0 ds w) (hb : Below w.heap.size w w') (hD : w.heap.size ≤ D) (hn : n0 ≤ D) (hk : w'.heap[D]? = some (.deferred (some []))) : Marks n0 ({ target := .collected D, args := #[] } :: ds) w' := by
  refine ⟨List.nodup_cons.2 ⟨fun hm => ?_, h.1⟩, fun d hd => ?_⟩
  · obtain ⟨D', e, _, h2⟩ := h.2 _ hm
    have := (Array.getElem?_eq_some_iff.1 h2).1
    simp only [Deferred.mk.injEq, Target.collected.injEq] at e
    omega
  · rcases List.mem_cons.1 hd with rfl | hd
    · exact ⟨D, rfl, hn, hk⟩
    · exact (h.keep hb).2 d hd
theorem leaves_marks {F : Fence} {n n0 : Nat} {fn : Func} {tmps : Array Value} {R : Ending → World → Prop} : ∀ (ds : List Deferred) (w : World), Marks n0 ds w → (∀ w', Below n0 w w' → LeavesInM F n Try.prog fn tmps R [] .returning w') → LeavesInM F n Try.prog fn tmps R ds .returning w
  | [], w, _, h => h w (Below.refl _ _)
  | d :: ds, w, hm, h => by
    obtain ⟨D, e, hn, hk⟩ := hm.2 d (List.mem_cons_self ..)
    have hnd := List.nodup_cons.1 hm.1
    have hb : Below n0 w (w.putObj D (.deferred none)) := (Below.refl n0 w).grown (grownBy_putObj' w D (.deferred none)) (by have := (Array.getElem?_eq_some_iff.1 hk).1; omega) (fun k ek => by cases ek; exact hn)
    refine ⟨by simp, .inl ⟨D, _, by rw [e], run_takeDeferred hk, ?_⟩⟩
    refine leaves_marks ds _ ⟨hnd.2, fun d' hd' => ?_⟩ (fun w' hb' => h w' (hb.trans hb'))
    obtain ⟨D', e', hn', hk'⟩ := hm.2 d' (List.mem_cons_of_mem _ hd')
    refine ⟨D', e', hn', ?_⟩
    have hne : D' ≠ D := fun q => hnd.1 (by rw [e, ← q, ← e']; exact hd')
    have := (grownBy_putObj' w D (.deferred none)).block D' (Array.getElem?_eq_some_iff.1 hk').1 (by simpa using hne)
    exact this.trans hk'

end Go.Proofs.Ytnpklcmbiamocaa
