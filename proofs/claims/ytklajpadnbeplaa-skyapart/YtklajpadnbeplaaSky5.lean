/-
  Rows of ints that are ours and written, rows of boxes that are read, a skyline beside them (no claim is made here).
-/
import Derived.Test.YtklajpadnbeplaaSky4
import Derived.Laws.OwnMore
namespace Go.Proofs.Ytklajpadnbeplaa
open Go.RowKit

/-- A row of heights that is ours. -/
def HRw (w : World) (g n : Nat) (l : List Nat) : Prop := l.length = n ∧ w.ownsRow g 3 1 (.slice (some ⟨g, 0, none⟩) n n) n (nvals l)
theorem HRw.lt {w : World} {g n : Nat} {l : List Nat} (h : HRw w g n l) : g < w.heap.size := (World.ownsRow.lt h.2 g rfl).2
theorem HRw.heap {w w' : World} {g n : Nat} {l : List Nat} (h : HRw w g n l) (hb : w'.heap[g]? = w.heap[g]?) : HRw w' g n l := ⟨h.1, own_blocks h.2 fun q hq => by cases hq; exact hb⟩
theorem HRw.keep {w w' : World} {g n : Nat} {l : List Nat} (h : HRw w g n l) (hb : Below w.heap.size w w') : HRw w' g n l := h.heap (hb.block g h.lt)
theorem HRw.cell {w : World} {g n : Nat} {l : List Nat} (h : HRw w g n l) (j : Nat) (hj : j < n) : w.cell? ⟨g, j, none⟩ = some (.int .i64 (hgt l j : Nat)) ∧ w.frozen? ⟨g, j, none⟩ = false := by
  refine ⟨?_, World.ownsRow.frozenAt h.2 j⟩
  rw [World.ownsRow.cellAt h.2 j (by omega)]
  have := at_hgt (l := l) (x := j) (by rw [h.1]; exact hj)
  unfold nvals
  rw [List.getElem?_map, this]
  rfl
theorem nvals_set (l : List Nat) (i y : Nat) : (nvals l).set i (.int .i64 (y : Int)) = nvals (l.set i y) := by unfold nvals; rw [List.map_set]
theorem HRw.store {w : World} {g n : Nat} {l : List Nat} (h : HRw w g n l) (i y : Nat) : HRw (w.setCell ⟨g, i, none⟩ (.int .i64 (y : Int))) g n (l.set i y) := by
  refine ⟨by rw [List.length_set]; exact h.1, ?_⟩
  rw [← nvals_set]
  exact (World.ownsRow.stored h.2 i _).1
theorem HRw.read {w : World} {g n : Nat} {l : List Nat} (h : HRw w g n l) : NRd w (.slice (some ⟨g, 0, none⟩) n n) l := by
  have := NRow.read (w := w) (base := g) (u := .slice (some ⟨g, 0, none⟩) n n) (c := l) (by unfold NRow; rw [h.1]; exact h.2)
  exact this
theorem hgt_set (l : List Nat) (i y x : Nat) (hi : i < l.length) : hgt (l.set i y) x = if x = i then y else hgt l x := by
  unfold hgt
  rw [List.getD_eq_getElem?_getD, List.getD_eq_getElem?_getD, List.getElem?_set]
  by_cases h : x = i
  · subst h; simp [hi]
  · rw [if_neg (fun e => h e.symm), if_neg h]

/-- A box. -/
structure Bx where
  w : Nat
  h : Nat
  x : Nat
  y : Nat
  free : Bool
/-- A row of boxes that is read. -/
def BxRd (w : World) (v : Value) (l : List Bx) : Prop :=
  ∃ A cap, v = .slice A l.length cap ∧ l.length ≤ cap ∧ (∀ b ∈ l, b.w < 256 ∧ b.h < 256 ∧ b.x < 256 ∧ b.y < 256) ∧ ∀ i (h : i < l.length), ∃ a, A = some a ∧ a.block < w.heap.size ∧ w.cell? (a.add (i * 5)) = some (.int .u8 ((l[i]).w : Nat)) ∧ w.cell? (a.add (i * 5 + 1)) = some (.int .u8 ((l[i]).h : Nat)) ∧ w.cell? (a.add (i * 5 + 2)) = some (.int .u8 ((l[i]).x : Nat)) ∧ w.cell? (a.add (i * 5 + 3)) = some (.int .u8 ((l[i]).y : Nat)) ∧ w.cell? (a.add (i * 5 + 4)) = some (.bool (l[i]).free)
theorem BxRd.keep {w w' : World} {v : Value} {l : List Bx} (h : BxRd w v l) (hb : Below w.heap.size w w') : BxRd w' v l := by
  obtain ⟨A, cap, e, h1, h2, h3⟩ := h
  refine ⟨A, cap, e, h1, h2, fun i hi => ?_⟩
  obtain ⟨a, ha, hlt, x0, x1, x2, x3, x4⟩ := h3 i hi
  have k : ∀ j, w'.cell? (a.add j) = w.cell? (a.add j) := fun j => hb.cell (by rw [block_add]; exact hlt)
  exact ⟨a, ha, Nat.lt_of_lt_of_le hlt hb.size, (k _).trans x0, (k _).trans x1, (k _).trans x2, (k _).trans x3, (k _).trans x4⟩
theorem BxRd.at {w : World} {A : Option Addr} {n cap : Nat} {l : List Bx} (h : BxRd w (.slice A n cap) l) (i : Nat) (b : Bx) (hs : l[i]? = some b) : (b.w < 256 ∧ b.h < 256 ∧ b.x < 256 ∧ b.y < 256) ∧ ∃ a, A = some a ∧ a.block < w.heap.size ∧ w.cell? (a.add (i * 5)) = some (.int .u8 (b.w : Nat)) ∧ w.cell? ⟨(a.add (i * 5)).block, (a.add (i * 5)).off + 1, none⟩ = some (.int .u8 (b.h : Nat)) ∧ w.cell? ⟨(a.add (i * 5)).block, (a.add (i * 5)).off + 2, none⟩ = some (.int .u8 (b.x : Nat)) ∧ w.cell? ⟨(a.add (i * 5)).block, (a.add (i * 5)).off + 3, none⟩ = some (.int .u8 (b.y : Nat)) ∧ w.cell? ⟨(a.add (i * 5)).block, (a.add (i * 5)).off + 4, none⟩ = some (.bool b.free) := by
  obtain ⟨A', cap', e, _, h2, h3⟩ := h
  simp only [Value.slice.injEq] at e
  obtain ⟨rfl, -, -⟩ := e
  obtain ⟨hi, rfl⟩ := List.getElem?_eq_some_iff.1 hs
  obtain ⟨a, ha, hlt, p0, p1, p2, p3, p4⟩ := h3 i hi
  rw [add_spell _ _ _ (by omega)] at p1 p2 p3 p4
  exact ⟨h2 _ (List.getElem_mem hi), a, ha, hlt, p0, p1, p2, p3, p4⟩

/-- A skyline in blocks made since w0, and in none of E. -/
def SkyS (R : World → (Nat → Prop) → Value → List Nat → Nat → Prop) (B : Nat) (w : World) (v : Value) (l : List Nat) (H : Nat) (E : Nat → Prop) : Prop := ∃ ks, R w ks v l H ∧ ∀ q, ks q → B ≤ q ∧ ¬ E q
section
variable {R : World → (Nat → Prop) → Value → List Nat → Nat → Prop} (K : SkyOK R) {B H : Nat} {w w' : World} {v : Value} {l : List Nat} {E : Nat → Prop}
include K
theorem SkyS.below (h : SkyS R B w v l H E) (hb : Below w.heap.size w w') : SkyS R B w' v l H E := by
  obtain ⟨ks, hR, hk⟩ := h
  exact ⟨ks, K.below hR hb, hk⟩
theorem SkyS.other (h : SkyS R B w v l H E) (p : Addr) (hp : E p.block) (x : Value) : SkyS R B (w.setCell p x) v l H E := by
  obtain ⟨ks, hR, hk⟩ := h
  refine ⟨ks, K.keep hR (Nat.le_of_eq (by simp)) (fun q hq => heap_set w p x q (fun e => (hk q hq).2 (e ▸ hp))), hk⟩
theorem SkyS.grown (h : SkyS R B w v l H E) {row : Option Nat} (hg : w.grownBy w' row) (hr : ∀ q, row = some q → E q) : SkyS R B w' v l H E := by
  obtain ⟨ks, hR, hk⟩ := h
  refine ⟨ks, K.keep hR hg.size (fun q hq => hg.block q (K.lt hR q hq) (fun e => (hk q hq).2 (hr q e.symm))), hk⟩
theorem SkyS.more (h : SkyS R B w v l H E) {E' : Nat → Prop} (hE : ∀ q, E' q → E q ∨ w.heap.size ≤ q) : SkyS R B w v l H E' := by
  obtain ⟨ks, hR, hk⟩ := h
  refine ⟨ks, hR, fun q hq => ⟨(hk q hq).1, fun he => ?_⟩⟩
  rcases hE q he with h | h
  · exact (hk q hq).2 h
  · have := K.lt hR q hq; omega
theorem SkyS.high (h : SkyS R B w v l H E) (x : Int) (hx : x.natAbs ≤ 1000) : Calls Try.prog 19 #[v, .int .i64 x] w fun e w' => e = .returned (.int .i64 (highL l x)) ∧ Below w.heap.size w w' := by
  obtain ⟨ks, hR, _⟩ := h
  exact K.high ks v l H x w hR hx
theorem SkyS.fit (h : SkyS R B w v l H E) (m n : Int) (hm : m.natAbs ≤ 40000) (hn : n.natAbs ≤ 40000) : Calls Try.prog 12 #[v, .int .i64 m, .int .i64 n] w fun e w' => e = .returned (.tuple #[rcV (fitV l H m n).1, .bool (fitV l H m n).2]) ∧ Below w.heap.size w w' := by
  obtain ⟨ks, hR, _⟩ := h
  exact K.fit ks v l H m n w hR hm hn
theorem SkyS.put (h : SkyS R B w v l H E) (hB : B ≤ w.heap.size) (hE : ∀ q, E q → q < w.heap.size) (r : Rc) (hr : InR r) : Calls Try.prog 15 #[v, rcV r] w fun e w' => e = .returned (.bool (mayL l H r.1 r.2.1 r.2.2.1 r.2.2.2)) ∧
    SkyS R B w' v (laidL l H r.1 r.2.1 r.2.2.1 r.2.2.2) H E ∧ (∀ q, E q → w'.heap[q]? = w.heap[q]?) ∧ Below B w w' := by
  obtain ⟨ks, hR, hk⟩ := h
  refine (K.put ks v l H r w hR hr).mono ?_
  rintro e w' ⟨rfl, ks', hR', hk', hb⟩
  refine ⟨rfl, ⟨ks', hR', fun q hq => ?_⟩, fun q hq => hb.block q (hE q hq) (fun hks => (hk q hks).2 hq), hb.below (fun q hq => (hk q hq).1) hB⟩
  rcases hk' q hq with h1 | h1
  · exact hk q h1
  · exact ⟨by omega, fun he => by have := hE q he; omega⟩
end

end Go.Proofs.Ytklajpadnbeplaa
