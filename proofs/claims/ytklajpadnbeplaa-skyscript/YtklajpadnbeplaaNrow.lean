/-
  Rows of ints that are ours, and rows that are read (no claim is made here).
-/
import Derived.Test.YtklajpadnbeplaaBlk
import Derived.Test.YtklajpadnbeplaaMdot
namespace Go.Proofs.Ytklajpadnbeplaa
open Go.RowKit

/-- Numbers as values; a row of ints that is ours. -/
def nvals (bs : List Nat) : List Value := bs.map fun (b : Nat) => .int .i64 (b : Int)
def NRow (w : World) (base : Nat) (v : Value) (bs : List Nat) : Prop := w.ownsRow base 3 1 v bs.length (nvals bs)
theorem nvals_append (a b : List Nat) : nvals (a ++ b) = nvals a ++ nvals b := List.map_append
theorem nvals_length (a : List Nat) : (nvals a).length = a.length := List.length_map _
theorem NRow.nil (w : World) (base : Nat) : NRow w base (.slice none 0 0) [] := World.ownsRow_nil _ _ _ _
theorem NRow.alloc {w : World} {base : Nat} {v : Value} {bs : List Nat} (h : NRow w base v bs) (o : Obj) : NRow (w.alloc o) base v bs := World.ownsRow.alloc h o
theorem NRow.below {w w' : World} {base : Nat} {v : Value} {bs : List Nat} (h : NRow w base v bs) (hb : Below w.heap.size w w') : NRow w' base v bs := own_blocks h fun g hg => hb.block g (World.ownsRow.lt h g hg).2
theorem NRow.keep {w w' : World} {base : Nat} {v : Value} {bs : List Nat} (h : NRow w base v bs) (hb : Below w.heap.size w w') : NRow w' base v bs := h.below hb
theorem NRow.form {w : World} {base : Nat} {v : Value} {bs : List Nat} (h : NRow w base v bs) : ∃ A cap, v = .slice A bs.length cap := own_form h
theorem NRow.own {w : World} {base : Nat} {v : Value} {bs : List Nat} {n : Nat} (h : NRow w base v bs) (hn : bs.length = n) : w.ownsRow base 3 1 v n (nvals bs) := hn ▸ h
theorem NRow.mono {w : World} {base b : Nat} {V : Value} {bs : List Nat} (h : NRow w base V bs) (hb : b ≤ base) : NRow w b V bs := World.ownsRow.mono h hb
theorem NRow.ge {w : World} {base g : Nat} {V : Value} {bs : List Nat} (h : NRow w base V bs) (e : V.ownBlock = some g) : base ≤ g ∧ g < w.heap.size := World.ownsRow.lt h g e
theorem NRow.set {w : World} {base : Nat} {V : Value} {bs : List Nat} (h : NRow w base V bs) {p : Addr} (hp : p.block < base) (x : Value) : NRow (w.setCell p x) base V bs := own_blocks h fun g hg => heap_set w p x g (by have := (World.ownsRow.lt h g hg).1; omega)
theorem NRow.push1 {w : World} {base K : Nat} {V : Value} {bs : List Nat} {c : Nat} (hK : bs.length = K) (h : w.ownsRow base 3 1 V (K + 1) (nvals bs ++ [.int .i64 (c : Int)])) : NRow w base V (bs ++ [c]) := by
  unfold NRow
  rw [nvals_append, List.length_append, hK]
  exact h
theorem NRow.kept {w w' : World} {base : Nat} {a : Value} {bs : List Nat} {row : Option Nat} (h : NRow w base a bs) (hg : w.grownBy w' row) (hne : a.ownBlock = none ∨ a.ownBlock ≠ row) : NRow w' base a bs := World.ownsRow.kept h hg hne
theorem ninfo : (Try.prog.info? 3).map (fun i => (i.zero, i.size, i.bytes)) = some (some (.int .i64 0), 1, 8) := by kernel_rfl
/-- Ints that are read. -/
def NRd (w : World) (v : Value) (bs : List Nat) : Prop :=
  ∃ A cap, v = .slice A bs.length cap ∧ bs.length ≤ cap ∧ ∀ i (h : i < bs.length), ∃ a, A = some a ∧ a.block < w.heap.size ∧ w.cell? (a.add i) = some (.int .i64 (bs[i] : Nat))
theorem NRd.keep {w w' : World} {v : Value} {c : List Nat} (h : NRd w v c) (hb : Below w.heap.size w w') : NRd w' v c := by
  obtain ⟨A, cap, e, h1, h3⟩ := h
  refine ⟨A, cap, e, h1, fun i hi => ?_⟩
  obtain ⟨a, ha, hlt, hc⟩ := h3 i hi
  exact ⟨a, ha, Nat.lt_of_lt_of_le hlt hb.size, (hb.cell (by rw [block_add]; exact hlt)).trans hc⟩
theorem NRow.read {w : World} {base : Nat} {u : Value} {c : List Nat} (h : NRow w base u c) : NRd w u c := by
  rcases h.2 with ⟨rfl, h0⟩ | ⟨g, cap, cur, rfl, _, hg, hl, hm, _, _⟩
  · have : c = [] := List.eq_nil_of_length_eq_zero h0
    subst this
    exact ⟨none, 0, rfl, Nat.le_refl _, fun i hi => absurd hi (Nat.not_lt_zero _)⟩
  · refine ⟨_, cap, rfl, hl, fun i hi => ⟨_, rfl, (World.ownsRow.lt h g rfl).2, ?_⟩⟩
    exact World.ownsRow.cells h rfl _ _ (by simp [nvals, hi])
theorem NRd.at {w : World} {A : Option Addr} {n cap : Nat} {c : List Nat} (h : NRd w (.slice A n cap) c) (i b : Nat) (hi : c[i]? = some b) : ∃ a, A = some a ∧ a.block < w.heap.size ∧ w.cell? (a.add i) = some (.int .i64 (b : Int)) := by
  obtain ⟨A', cap', e, _, h3⟩ := h
  simp only [Value.slice.injEq] at e
  obtain ⟨rfl, -, -⟩ := e
  obtain ⟨hlt, rfl⟩ := List.getElem?_eq_some_iff.1 hi
  exact h3 i hlt
theorem NRd.len {w : World} {A : Option Addr} {n cap : Nat} {c : List Nat} (h : NRd w (.slice A n cap) c) : n = c.length ∧ n ≤ cap := by
  obtain ⟨A', cap', e, h1, _⟩ := h
  simp only [Value.slice.injEq] at e
  obtain ⟨-, rfl, rfl⟩ := e
  exact ⟨rfl, h1⟩
theorem at3 {w : World} {a : Addr} {n cap : Nat} {c : List Nat} (h : NRd w (.slice (some a) n cap) c) (i b : Nat) (hi : c[i]? = some b) : w.cell? (a.add i) = some (.int .i64 (b : Int)) := by
  obtain ⟨_, e, _, k⟩ := h.at i b hi
  cases e
  exact k
theorem eats_keep {w w' : World} {a : Addr} {i : Nat} {s0 s1 s2 s3 : Int} (h : EAtS w a i s0 s1 s2 s3) (hl : a.block < w.heap.size) (hb : Below w.heap.size w w') : EAtS w' a i s0 s1 s2 s3 := by
  obtain ⟨h0, h1, h2, h3⟩ := h
  have hk : ∀ p : Addr, p.block = a.block → w'.cell? p = w.cell? p := fun p e => hb.cell (by rw [e]; exact hl)
  exact ⟨(hk (a.add (i * 4)) (block_add a _)).trans h0, (hk ⟨(a.add (i * 4)).block, (a.add (i * 4)).off + 1, none⟩ (block_add a _)).trans h1, (hk ⟨(a.add (i * 4)).block, (a.add (i * 4)).off + 2, none⟩ (block_add a _)).trans h2, (hk ⟨(a.add (i * 4)).block, (a.add (i * 4)).off + 3, none⟩ (block_add a _)).trans h3⟩

end Go.Proofs.Ytklajpadnbeplaa
