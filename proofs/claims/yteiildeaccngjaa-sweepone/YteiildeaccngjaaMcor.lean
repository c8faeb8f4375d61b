/-
  Corn0 Corn1 Corn2 Corn3 Corn4 Corn5 Corn6 in one text (no claim is made here).
-/
import Derived.Test.YteiildeaccngjaaNrow
import Derived.Test.YteiildeaccngjaaMnum
import Derived.Test.YteiildeaccngjaaMwnd
import Derived.Laws.OwnMore
import Derived.Test.YteiildeaccngjaaJoin
import Derived.Deep.AppendLies
namespace Go.Proofs.Yteiildeaccngjaa
open Go.RowKit

end Go.Proofs.Yteiildeaccngjaa

namespace Go.Proofs.Yteiildeaccngjaa
open Go.RowKit

end Go.Proofs.Yteiildeaccngjaa

namespace Go.Proofs.Yteiildeaccngjaa
open Go.RowKit

end Go.Proofs.Yteiildeaccngjaa

namespace Go.Proofs.Yteiildeaccngjaa
open Go.RowKit

/-- A row of ints while it is filled. -/
def fillI (t : Nat → Nat) (n i : Nat) : List Nat := (List.range n).map fun j => if j < i then t j else 0
theorem fillI_length (t : Nat → Nat) (n i : Nat) : (fillI t n i).length = n := by simp [fillI]
theorem fillI_zero (t : Nat → Nat) (n : Nat) : nvals (fillI t n 0) = List.replicate n (.int .i64 0) := by
  refine List.ext_getElem (by simp [nvals, fillI]) (fun j h1 h2 => ?_)
  simp [nvals, fillI]
theorem fillI_full (t : Nat → Nat) (n : Nat) : fillI t n n = (List.range n).map t := by
  refine List.map_congr_left (fun j hj => ?_)
  rw [if_pos (List.mem_range.1 hj)]
theorem fillI_set (t : Nat → Nat) (n i : Nat) : (nvals (fillI t n i)).set i (.int .i64 (t i : Nat)) = nvals (fillI t n (i + 1)) := by
  refine List.ext_getElem (by simp [nvals, fillI]) (fun j h1 h2 => ?_)
  rw [List.getElem_set]
  by_cases e : i = j
  · subst e
    simp [nvals, fillI]
  · have : j < i ↔ j < i + 1 := by omega
    simp [nvals, fillI, e, this]
/-- A row of ours of so many cells. -/
def NRw (w : World) (gm n : Nat) (xs : List Value) : Prop := xs.length = n ∧ w.ownsRow gm 3 1 (.slice (some ⟨gm, 0, none⟩) n n) n xs
theorem NRw.keep {w w' : World} {gm n : Nat} {xs : List Value} (h : NRw w gm n xs) (hb : Below w.heap.size w w') : NRw w' gm n xs := ⟨h.1, own_blocks h.2 fun g hg => hb.block g (World.ownsRow.lt h.2 g hg).2⟩
theorem NRw.lt {w : World} {gm n : Nat} {xs : List Value} (h : NRw w gm n xs) : gm < w.heap.size := (World.ownsRow.lt h.2 gm rfl).2
theorem NRw.cell {w : World} {gm n : Nat} {xs : List Value} (h : NRw w gm n xs) (j : Nat) (hj : j < n) : (∃ x, w.cell? ⟨gm, j, none⟩ = some x) ∧ w.frozen? ⟨gm, j, none⟩ = false := by
  have hl := h.1
  exact ⟨⟨xs[j]'(by omega), by rw [World.ownsRow.cellAt h.2 j (by omega)]; exact List.getElem?_eq_getElem _⟩, World.ownsRow.frozenAt h.2 j⟩
theorem NRw.store {w : World} {gm n : Nat} {xs : List Value} (h : NRw w gm n xs) (i : Nat) (v : Value) : NRw (w.setCell ⟨gm, i, none⟩ v) gm n (xs.set i v) := ⟨by rw [List.length_set]; exact h.1, (World.ownsRow.stored h.2 i v).1⟩
theorem NRw.again {w : World} {gm n i : Nat} {xs : List Value} {u v : Value} (h : NRw w gm n ((xs.set i u).set i v)) : NRw w gm n (xs.set i v) := by rw [List.set_set] at h; exact h
theorem NRw.next {w : World} {gm n i : Nat} {t : Nat → Nat} (h : NRw w gm n ((nvals (fillI t n i)).set i (.int .i64 (t i : Nat)))) : NRw w gm n (nvals (fillI t n (i + 1))) := by rw [fillI_set] at h; exact h
theorem NRw.fin {w : World} {gm n i : Nat} {t : Nat → Nat} {c : Int} (h : NRw w gm n ((nvals (fillI t n i)).set i (.int .i64 c))) (hc : ((t i : Nat) : Int) = c) : NRw w gm n (nvals (fillI t n (i + 1))) := by subst hc; exact h.next
theorem NRw.row {w : World} {gm n : Nat} {t : Nat → Nat} (h : NRw w gm n (nvals (fillI t n n))) : NRow w gm (.slice (some ⟨gm, 0, none⟩) n n) ((List.range n).map t) := by
  have := h.2
  unfold NRow
  rw [← fillI_full, fillI_length]
  exact this

end Go.Proofs.Yteiildeaccngjaa

namespace Go.Proofs.Yteiildeaccngjaa
open Go.RowKit

/-- The edges of some contours of an outline by numbers. -/
def contE (cs : List (List Dot)) : List (List Ed) := ((outlineS ((cs.take (min cs.length 3)).map (List.take 6))).map segsS).map edgesS

/-- Two rows of ours of different types are apart. -/
theorem ERow.apart2 {w : World} {base b2 n : Nat} {u v : Value} {l : List Ed} {xs : List Value} (h : ERow w base u l) (k : w.ownsRow b2 26 1 v n xs) : u.ownBlock = none ∨ u.ownBlock ≠ v.ownBlock := by
  rcases h.2 with ⟨rfl, _⟩ | ⟨g', cap, cur, rfl, _, hg, _⟩
  · exact .inl rfl
  · right
    rcases k.2 with ⟨rfl, _⟩ | ⟨g2, cap2, cur2, rfl, _, hg2, _⟩
    · intro e; cases e
    · intro e
      have : g' = g2 := by simpa [Value.ownBlock] using e
      subst this
      rw [hg] at hg2
      injection hg2 with k
      injection k with _ k
      exact absurd k (by decide)
/-- Rows of edges in a row that is ours. -/
def EoRow (w : World) (base : Nat) (v : Value) (o : List (List Ed)) : Prop :=
  ∃ us : List Value, us.length = o.length ∧ w.ownsRow base 26 1 v o.length us ∧ ∀ i (h : i < us.length) (h' : i < o.length), ERow w base us[i] o[i]
theorem EoRow.nil (w : World) (base : Nat) : EoRow w base (.slice none 0 0) [] := ⟨[], rfl, World.ownsRow_nil _ _ _ _, fun _ h => absurd h (Nat.not_lt_zero _)⟩
theorem EoRow.below {w w' : World} {base : Nat} {v : Value} {o : List (List Ed)} (h : EoRow w base v o) (hb : Below w.heap.size w w') : EoRow w' base v o := by
  obtain ⟨us, e, h1, h2⟩ := h
  exact ⟨us, e, own_blocks h1 fun g hg => hb.block g (h1.lt g hg).2, fun i a b => (h2 i a b).below hb⟩
theorem EoRow.mono {w : World} {base b : Nat} {v : Value} {o : List (List Ed)} (h : EoRow w base v o) (hb : b ≤ base) : EoRow w b v o := by
  obtain ⟨us, e, h1, h2⟩ := h
  exact ⟨us, e, h1.mono hb, fun i a c => World.ownsRow.mono (h2 i a c) hb⟩
theorem EoRow.form {w : World} {base : Nat} {v : Value} {o : List (List Ed)} (h : EoRow w base v o) : ∃ A cap, v = .slice A o.length cap := by
  obtain ⟨us, e, h1, h2⟩ := h
  exact own_form h1
theorem EoRow.push {w w1 : World} {base n : Nat} {v v1 u : Value} {o : List (List Ed)} {c : List Ed} {us : List Value} (e : us.length = o.length) (hn : o.length = n) (h1 : w.ownsRow base 26 1 v n us) (h2 : ∀ i (h : i < us.length) (h' : i < o.length), ERow w base us[i] o[i]) (hu : ERow w base u c)
    (hg : w.grownBy w1 v.ownBlock) (hown : w1.ownsRow base 26 1 v1 (n + 1) (us ++ [u])) : EoRow w1 base v1 (o ++ [c]) := by
  have kept : ∀ {x : Value} {d : List Ed}, ERow w base x d → ERow w1 base x d := fun hx => World.ownsRow.kept hx hg (hx.apart2 h1)
  refine ⟨us ++ [u], by simp [e], by rw [List.length_append, hn]; exact hown, fun i h h' => ?_⟩
  by_cases hi : i < us.length
  · rw [List.getElem_append_left hi, List.getElem_append_left (by omega)]
    exact kept (h2 i hi (by omega))
  · obtain rfl : i = us.length := by simp at h; omega
    have e1 : (us ++ [u])[us.length] = u := by simp
    have e2 : (o ++ [c])[us.length]'h' = c := by simp [e]
    rw [e1, e2]
    exact kept hu
/-- Rows of edges in a row that is read. -/
def EORd (w : World) (v : Value) (o : List (List Ed)) : Prop :=
  ∃ A cap, v = .slice A o.length cap ∧ o.length ≤ cap ∧ ∀ r l, o[r]? = some l → ∃ a u, A = some a ∧ a.block < w.heap.size ∧ w.cell? (a.add r) = some u ∧ ERd w u l
theorem EORd.keep {w w' : World} {v : Value} {o : List (List Ed)} (h : EORd w v o) (hb : Below w.heap.size w w') : EORd w' v o := by
  obtain ⟨A, cap, e, h1, h3⟩ := h
  refine ⟨A, cap, e, h1, fun r l hr => ?_⟩
  obtain ⟨a, u, ha, hlt, c, d⟩ := h3 r l hr
  exact ⟨a, u, ha, Nat.lt_of_lt_of_le hlt hb.size, by rw [hb.cell (by rw [block_add]; exact hlt)]; exact c, d.keep hb⟩
theorem EORd.at {w : World} {A : Option Addr} {n cap : Nat} {o : List (List Ed)} (h : EORd w (.slice A n cap) o) (r : Nat) (c : List Ed) (hc : o[r]? = some c) : ∃ a u, A = some a ∧ a.block < w.heap.size ∧ w.cell? (a.add r) = some u ∧ ERd w u c := by
  obtain ⟨A', cap', e, _, h3⟩ := h
  simp only [Value.slice.injEq] at e
  obtain ⟨rfl, -, -⟩ := e
  exact h3 r c hc
theorem EoRow.read {w : World} {base : Nat} {v : Value} {o : List (List Ed)} (h : EoRow w base v o) : EORd w v o := by
  obtain ⟨us, e, h1, h2⟩ := h
  rcases h1.2 with ⟨rfl, h0⟩ | ⟨g, cap, cur, rfl, _, hg, hl, hm, _, _⟩
  · have : o = [] := List.eq_nil_of_length_eq_zero h0
    subst this
    exact ⟨none, 0, rfl, Nat.le_refl _, fun r l hr => by simp at hr⟩
  · refine ⟨_, cap, rfl, hl, fun r l hr => ?_⟩
    obtain ⟨hr1, rfl⟩ := List.getElem?_eq_some_iff.1 hr
    exact ⟨_, us[r]'(by omega), rfl, (h1.lt g rfl).2, h1.cells rfl r _ (List.getElem?_eq_getElem (by omega)), (h2 r (by omega) hr1).read⟩
theorem erinfo : (Try.prog.info? 26).map (fun i => (i.zero, i.size, i.bytes)) = some (some (.slice none 0 0), 1, 24) := by kernel_rfl

end Go.Proofs.Yteiildeaccngjaa

namespace Go.Proofs.Yteiildeaccngjaa
open Go.RowKit

theorem contE_small (cs : List (List Dot)) : (contE cs).length ≤ 8 ∧ ∀ es ∈ contE cs, es.length ≤ 5000 ∧ ∀ s ∈ es, InD s := by
  obtain ⟨fo, hfo⟩ : ∃ fo, (cs.take (min cs.length 3)).map (List.take 6) = fo := ⟨_, rfl⟩
  have hS := outline_small fo
  obtain ⟨h1, h2⟩ := pieces_small hS
  obtain ⟨ls, g1, _, g3⟩ := glyph_facts fo
  unfold contE
  rw [hfo]
  refine ⟨by rw [List.length_map]; exact h1, fun es he => ?_⟩
  obtain ⟨c, hc, rfl⟩ := List.mem_map.1 he
  refine ⟨?_, fun s hs => leE_in (g3 s (g1 ▸ List.mem_flatMap.2 ⟨c, hc, hs⟩))⟩
  have := edgesS_len c
  have := (h2 c hc).1
  omega

/-- The three edges of the document's example. -/
def triC : List Ed := [⟨⟨0, 0⟩, ⟨90, 0⟩⟩, ⟨⟨90, 0⟩, ⟨0, 90⟩⟩, ⟨⟨0, 90⟩, ⟨0, 0⟩⟩]
theorem triC_in : ∀ s ∈ triC, InD s := by unfold triC InD; simp
theorem triC_col : coloursL triC = [5, 6, 3] := by decide
theorem triC_cor : cornersL triC = [0, 1, 2] := by decide

end Go.Proofs.Yteiildeaccngjaa

namespace Go.Proofs.Yteiildeaccngjaa
open Go.RowKit

theorem nvals_one (l : List Nat) : ∀ u ∈ nvals l, u.oneCell' = true := by unfold nvals; simp [Value.oneCell']
set_option maxRecDepth 100000 in
theorem njoin_wp {w : World} {o : Oper} {a : Act} {K : Act → World → Prop} {Q : Exit → Act → World → Prop} (s x : Operand)
    (ho : o.op = .call { callee := .builtin .append, args := #[s, x], argTypes := #[31, 31] }) (base : Nat) (u : Value) (es : List Nat) (N : Nat) (hs : a.eval s = u) (hown : NRow w base u es) (hN : es.length = N)
    (A : Option Addr) (M cap : Nat) (fs : List Nat) (hx : a.eval x = .slice A M cap) (hfs : NRd w (.slice A M cap) fs) (hM : fs.length = M) (hlen : N + M ≤ 1000000) (hbase : base ≤ w.heap.size)
    (h : ∀ A' cap' w', NRow w' base (.slice A' (N + M) cap') (es ++ fs) → Below base w w' → K (a.put o.dst (.slice A' (N + M) cap')) w') :
    Oper.wp Try.prog o a w K Q := by
  obtain ⟨i0, hi0, hz0, hz1, hz2⟩ := infos ninfo
  by_cases h0 : M = 0
  · subst h0
    have hf : fs = [] := List.eq_nil_of_length_eq_zero hM
    subst hf
    obtain ⟨Au, cu, hu⟩ := hown.form
    have hr := append_empty (P := Try.prog) (w := w) base 31 o.type 3 i0 1 Try.underlying31 hi0 u N (nvals es) (NRow.own hown hN) A cap
    refine Lib.wp_append_run w s x 31 31 ho u (.slice A 0 cap) hs hx u w hr ?_
    have hu' : u = .slice Au (N + 0) cu := by rw [hu, hN]; rfl
    rw [hu']
    rw [hu'] at hown
    exact h Au cu w (by rw [List.append_nil]; exact hown) (Below.refl _ _)
  · obtain ⟨A1, cap1, e1, _, h3⟩ := id hfs
    obtain ⟨a1, ha1, _⟩ := h3 0 (by omega)
    simp only [Value.slice.injEq] at e1
    obtain ⟨rfl, -, -⟩ := e1
    subst ha1
    have hnews : ∀ j v, (nvals fs)[j]? = some v → w.cell? (a1.add j) = some v := by
      intro j v hj
      unfold nvals at hj
      rw [List.getElem?_map] at hj
      cases hc : fs[j]? with
      | none => rw [hc] at hj; cases hj
      | some c =>
        rw [hc] at hj
        injection hj with hj
        subst hj
        obtain ⟨_, e, _, k⟩ := hfs.at j c hc
        cases e
        exact k
    refine wp_append_lies w s x 31 ho base 3 i0 _ 1 8 Try.underlying31 hi0 hz0 hz1 hz2 rfl (by omega) u N (nvals es) hs (NRow.own hown hN) a1 M cap (nvals fs) hx (by rw [nvals_length, hM, Nat.mul_one]) hnews (nvals_one _) (by omega) (by unfold maxLen; omega) (by omega) hbase _ rfl ?_
    intro g cap' w' hown' hgrow _ _
    refine h _ _ w' ?_ ?_
    · unfold NRow
      rw [List.length_append, hN, hM, nvals_append]
      exact hown'
    · exact (Below.refl base w).grown hgrow hbase (fun q hq => (World.ownsRow.lt hown q hq).1)
set_option maxRecDepth 100000 in
/-- .. in a region that does not draw. -/
theorem njoin_list {w : World} {ops : Array Oper} {rest : List Oper} {o : Oper} {a : Act} {Q : Exit → Act → World → Prop} (hgd : o.guard = none) (s x : Operand)
    (ho : o.op = .call { callee := .builtin .append, args := #[s, x], argTypes := #[31, 31] }) (base : Nat) (u : Value) (es : List Nat) (N : Nat) (hs : a.eval s = u) (hown : NRow w base u es) (hN : es.length = N)
    (A : Option Addr) (M cap : Nat) (fs : List Nat) (hx : a.eval x = .slice A M cap) (hfs : NRd w (.slice A M cap) fs) (hM : fs.length = M) (hlen : N + M ≤ 1000000) (hbase : base ≤ w.heap.size)
    (h : ∀ A' cap' w', NRow w' base (.slice A' (N + M) cap') (es ++ fs) → Below base w w' → wpList Try.prog ops Q rest (a.put o.dst (.slice A' (N + M) cap')) w') :
    wpList Try.prog ops Q (o :: rest) a w :=
  wpList_plain hgd fun _ hK => njoin_wp s x ho base u es N hs hown hN A M cap fs hx hfs hM hlen hbase fun A' cap' w' h1 h2 => hK _ _ (h A' cap' w' h1 h2)

end Go.Proofs.Yteiildeaccngjaa
