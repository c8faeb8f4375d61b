/-
  append(s, x...) of ints, whatever there is (no claim is made here).
-/
import Derived.Test.YtbnjajhhbcnepaaNrow
import Derived.Test.YtbnjajhhbcnepaaJoin
import Derived.Deep.AppendLies
namespace Go.Proofs.Ytbnjajhhbcnepaa
open Go.RowKit

theorem nvals_one (l : List Nat) : ∀ u ∈ nvals l, u.oneCell' = true := by unfold nvals; simp [Value.oneCell']
set_option maxRecDepth 100000 in
theorem njoin_wp {w : World} {o : Oper} {a : Act} {K : Act → World → Prop} {Q : Exit → Act → World → Prop} (s x : Operand)
    (ho : o.op = .call { callee := .builtin .append, args := #[s, x], argTypes := #[38, 38] }) (base : Nat) (u : Value) (es : List Nat) (N : Nat) (hs : a.eval s = u) (hown : NRow w base u es) (hN : es.length = N)
    (A : Option Addr) (M cap : Nat) (fs : List Nat) (hx : a.eval x = .slice A M cap) (hfs : NRd w (.slice A M cap) fs) (hM : fs.length = M) (hlen : N + M ≤ 1000000) (hbase : base ≤ w.heap.size)
    (h : ∀ A' cap' w', NRow w' base (.slice A' (N + M) cap') (es ++ fs) → Below base w w' → K (a.put o.dst (.slice A' (N + M) cap')) w') :
    Oper.wp Try.prog o a w K Q := by
  obtain ⟨i0, hi0, hz0, hz1, hz2⟩ := infos ninfo
  by_cases h0 : M = 0
  · subst h0
    have hf : fs = [] := List.eq_nil_of_length_eq_zero hM
    subst hf
    obtain ⟨Au, cu, hu⟩ := hown.form
    have hr := append_empty (P := Try.prog) (w := w) base 38 o.type 3 i0 1 Try.underlying38 hi0 u N (nvals es) (NRow.own hown hN) A cap
    refine Lib.wp_append_run w s x 38 38 ho u (.slice A 0 cap) hs hx u w hr ?_
    have hu' : u = .slice Au (N + 0) cu := by rw [hu, hN]; rfl
    rw [hu']
    rw [hu'] at hown
    exact h Au cu w (by rw [List.append_nil]; exact hown) (Below.refl _ _)
  · obtain ⟨A1, cap1, e1, _, h3⟩ := id hfs
    obtain ⟨a1, ha1, _⟩ := h3 0 (by omega)
    simp only [Value.slice.injEq] at e1
    obtain ⟨rfl, -, -⟩ := e1
    subst ha1
    have hnews : ∀ j v, (nvals fs)[j]? = some v → w.cell? (a1.add j) = some v := by
      intro j v hj
      unfold nvals at hj
      rw [List.getElem?_map] at hj
      cases hc : fs[j]? with
      | none => rw [hc] at hj; cases hj
      | some c =>
        rw [hc] at hj
        injection hj with hj
        subst hj
        obtain ⟨_, e, _, k⟩ := hfs.at j c hc
        cases e
        exact k
    refine wp_append_lies w s x 38 ho base 3 i0 _ 1 8 Try.underlying38 hi0 hz0 hz1 hz2 rfl (by omega) u N (nvals es) hs (NRow.own hown hN) a1 M cap (nvals fs) hx (by rw [nvals_length, hM, Nat.mul_one]) hnews (nvals_one _) (by omega) (by unfold maxLen; omega) (by omega) hbase _ rfl ?_
    intro g cap' w' hown' hgrow _ _
    refine h _ _ w' ?_ ?_
    · unfold NRow
      rw [List.length_append, hN, hM, nvals_append]
      exact hown'
    · exact (Below.refl base w).grown hgrow hbase (fun q hq => (World.ownsRow.lt hown q hq).1)
set_option maxRecDepth 100000 in
/-- .. in a region that does not draw. -/
theorem njoin_list {w : World} {ops : Array Oper} {rest : List Oper} {o : Oper} {a : Act} {Q : Exit → Act → World → Prop} (hgd : o.guard = none) (s x : Operand)
    (ho : o.op = .call { callee := .builtin .append, args := #[s, x], argTypes := #[38, 38] }) (base : Nat) (u : Value) (es : List Nat) (N : Nat) (hs : a.eval s = u) (hown : NRow w base u es) (hN : es.length = N)
    (A : Option Addr) (M cap : Nat) (fs : List Nat) (hx : a.eval x = .slice A M cap) (hfs : NRd w (.slice A M cap) fs) (hM : fs.length = M) (hlen : N + M ≤ 1000000) (hbase : base ≤ w.heap.size)
    (h : ∀ A' cap' w', NRow w' base (.slice A' (N + M) cap') (es ++ fs) → Below base w w' → wpList Try.prog ops Q rest (a.put o.dst (.slice A' (N + M) cap')) w') :
    wpList Try.prog ops Q (o :: rest) a w :=
  wpList_plain hgd fun _ hK => njoin_wp s x ho base u es N hs hown hN A M cap fs hx hfs hM hlen hbase fun A' cap' w' h1 h2 => hK _ _ (h A' cap' w' h1 h2)

end Go.Proofs.Ytbnjajhhbcnepaa
