/-
  Rows of edges appended to rows of edges, in a region that draws (no claim is made here).
-/
import Derived.Test.YteiildeaccngjaaMflt
namespace Go.Proofs.Yteiildeaccngjaa
open Go.RowKit

theorem erd_news {w : World} {a : Addr} {n cap : Nat} {l : List Ed} (h : ERd w (.slice (some a) n cap) l) : ∀ j u, (ecells l)[j]? = some u → w.cell? (a.add j) = some u := by
  intro j u hj
  obtain ⟨A, cap', e, _, h3⟩ := h
  simp only [Value.slice.injEq] at e
  obtain ⟨rfl, -, -⟩ := e
  have hl := (List.getElem?_eq_some_iff.1 hj).1
  rw [ecells_length] at hl
  have hi : j / 4 < l.length := by omega
  obtain ⟨a', ha, _, p0, p1, p2, p3⟩ := h3 (j / 4) hi
  cases ha
  have hr := ecells_at l (j / 4) (j % 4) hi (by omega)
  rw [show j / 4 * 4 + j % 4 = j by omega, hj] at hr
  have hc : j % 4 = 0 ∨ j % 4 = 1 ∨ j % 4 = 2 ∨ j % 4 = 3 := by omega
  rcases hc with h | h | h | h <;> rw [h] at hr
  · rw [show a.add j = a.add (j / 4 * 4) by rw [show j / 4 * 4 = j by omega]]; rw [p0]; exact hr.symm
  · rw [show a.add j = a.add (j / 4 * 4 + 1) by rw [show j / 4 * 4 + 1 = j by omega]]; rw [p1]; exact hr.symm
  · rw [show a.add j = a.add (j / 4 * 4 + 2) by rw [show j / 4 * 4 + 2 = j by omega]]; rw [p2]; exact hr.symm
  · rw [show a.add j = a.add (j / 4 * 4 + 3) by rw [show j / 4 * 4 + 3 = j by omega]]; rw [p3]; exact hr.symm

theorem step_if {c : Bool} (hc : c = true) {P Q : Prop} (h : P) : if c = true then P else Q := by rw [if_pos hc]; exact h
/-- append(s, x...) of edges, whatever there is. -/
theorem join_wp {w : World} {o : Oper} {a : Act} {K : Act → World → Prop} {Q : Exit → Act → World → Prop} (s x : Operand)
    (ho : o.op = .call { callee := .builtin .append, args := #[s, x], argTypes := #[26, 26] }) (base : Nat) (u : Value) (es : List Ed) (N : Nat) (hs : a.eval s = u) (hown : ERow w base u es) (hN : es.length = N)
    (A : Option Addr) (M cap : Nat) (fs : List Ed) (hx : a.eval x = .slice A M cap) (hfs : ERd w (.slice A M cap) fs) (hM : fs.length = M) (hlen : N + M ≤ 1000000) (hbase : base ≤ w.heap.size)
    (h : ∀ A' cap' w', ERow w' base (.slice A' (N + M) cap') (es ++ fs) → Below base w w' → K (a.put o.dst (.slice A' (N + M) cap')) w') :
    Oper.wp Try.prog o a w K Q := by
  obtain ⟨i0, hi0, hz0, hz1, hz2⟩ := infos einfo
  by_cases h0 : M = 0
  · subst h0
    have hf : fs = [] := List.eq_nil_of_length_eq_zero hM
    subst hf
    obtain ⟨Au, cu, hu⟩ := hown.form
    have hr := append_empty (P := Try.prog) (w := w) base 26 o.type 50 i0 4 Try.underlying26 hi0 u N (ecells es) (ERow.own hown hN) A cap
    refine Lib.wp_append_run w s x 26 26 ho u (.slice A 0 cap) hs hx u w hr ?_
    have hu' : u = .slice Au (N + 0) cu := by rw [hu, hN]; rfl
    rw [hu']
    rw [hu'] at hown
    exact h Au cu w (by rw [List.append_nil]; exact hown) (Below.refl _ _)
  · obtain ⟨A1, cap1, e1, _, h3⟩ := id hfs
    obtain ⟨a1, ha1, _⟩ := h3 0 (by omega)
    simp only [Value.slice.injEq] at e1
    obtain ⟨rfl, -, -⟩ := e1
    subst ha1
    refine wp_append_lies w s x 26 ho base 50 i0 _ 4 32 Try.underlying26 hi0 hz0 hz1 hz2 rfl (by omega) u N (ecells es) hs (ERow.own hown hN) a1 M cap (ecells fs) hx (by rw [ecells_length, hM]) (erd_news hfs) (ecells_one _) (by omega) (by unfold maxLen; omega) (by omega) hbase _ rfl ?_
    intro g cp w' hown' hgrow _ _
    refine h _ _ w' ?_ ?_
    · unfold ERow
      rw [List.length_append, hN, hM, ecells_append]
      exact hown'
    · exact (Below.refl base w).grown hgrow hbase (fun q hq => (World.ownsRow.lt hown q hq).1)

end Go.Proofs.Yteiildeaccngjaa
