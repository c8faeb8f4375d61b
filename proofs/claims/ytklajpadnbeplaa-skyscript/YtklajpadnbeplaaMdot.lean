/-
  Dots0 Dots1 Vrd Blk Edg in one text (no claim is made here).
-/
import Derived.Test.YtklajpadnbeplaaBlk
import Derived.Test.YtklajpadnbeplaaMth
import Derived.Below
import Derived.Deep.AppendLies
import Derived.Laws.OwnMore
import Derived.Deep.Onto
import Derived.Test.YtklajpadnbeplaaChecked
import Derived.Lib.Hide
import Derived.WalkKit
import Derived.RowKit3
import Derived.IntWalk
import Derived.BigRegion
import Derived.Deep.CutBlock
import Derived.Deep.DeepCutAuto
import Derived.Deep.RegionWith
import Derived.BigQuiet
namespace Go.Proofs.Ytklajpadnbeplaa
open Go.RowKit

/-- A point of an outline by numbers, as the law takes it. -/
structure Dot where
  x : Int
  y : Int
  on : Bool
def dotV (d : Dot) : Vtx := ⟨d.x.tmod 256, d.y.tmod 256, d.on⟩
/-- The outline that the law makes of dots. -/
def outS : Nat → List (List Dot) → List (List Vtx)
  | _, [] => []
  | left, c :: cs => if (c.take (min 12 left)).length = 0 then outS left cs else (c.take (min 12 left)).map dotV :: outS (left - (c.take (min 12 left)).length) cs
def outlineS (cs : List (List Dot)) : List (List Vtx) := outS 64 (cs.take 8)

theorem tmod256_in (x : Int) : -255 ≤ x.tmod 256 ∧ x.tmod 256 ≤ 255 := by
  have h1 := Int.natAbs_tmod x 256
  have h2 := Nat.mod_lt x.natAbs (show 0 < (256 : Int).natAbs by decide)
  have : (256 : Int).natAbs = 256 := rfl
  omega
theorem dotV_ok (d : Dot) : badV (dotV d) = false := by
  have h1 := tmod256_in d.x
  have h2 := tmod256_in d.y
  unfold badV dotV
  simp only [decide_eq_false_iff_not]
  omega
theorem outS_check : ∀ (cs : List (List Dot)) (left n : Nat), n + left ≤ 64 → checkC n (outS left cs) = 0 ∧ (outS left cs).length ≤ cs.length
  | [], _, _, _ => ⟨rfl, Nat.le_refl _⟩
  | c :: cs, left, n, h => by
    unfold outS
    split
    · obtain ⟨a, b⟩ := outS_check cs left n h
      exact ⟨a, by simp only [List.length_cons]; omega⟩
    · next h0 =>
      have hl : (c.take (min 12 left)).length ≤ left := by rw [List.length_take]; omega
      obtain ⟨a, b⟩ := outS_check cs (left - (c.take (min 12 left)).length) (n + (c.take (min 12 left)).length) (by omega)
      refine ⟨?_, by simp only [List.length_cons]; omega⟩
      have hne : ((c.take (min 12 left)).map dotV) ≠ [] := fun e => h0 (by have := congrArg List.length e; simpa using this)
      have hbad : ¬ ((c.take (min 12 left)).map dotV).any badV = true := by
        rw [List.any_eq_true]
        rintro ⟨v, hv, hb⟩
        obtain ⟨d, _, rfl⟩ := List.mem_map.1 hv
        rw [dotV_ok] at hb
        cases hb
      unfold checkC
      rw [if_neg (by rw [List.length_map]; omega), if_neg hne, if_neg hbad, List.length_map]
      exact a
theorem outlineS_check (cs : List (List Dot)) : checkS (outlineS cs) = 0 := by
  obtain ⟨a, b⟩ := outS_check (cs.take 8) 64 0 (by omega)
  have : (cs.take 8).length ≤ 8 := by rw [List.length_take]; omega
  unfold checkS outlineS
  rw [if_neg (by omega)]
  exact a

theorem outS_step (c : List Dot) (rest : List (List Dot)) (left m : Nat) (hm : m = min c.length (min 12 left)) : outS left (c :: rest) = if m = 0 then outS left rest else (c.take m).map dotV :: outS (left - m) rest := by
  have e1 : (c.take (min 12 left)).length = m := by rw [List.length_take]; omega
  have e2 : c.take (min 12 left) = c.take m := by
    by_cases h : min 12 left ≤ c.length
    · rw [show m = min 12 left by omega]
    · rw [List.take_of_length_le (by omega), List.take_of_length_le (by omega)]
  rw [outS, e1, e2]

/-- A row of dots in memory, nil let in. -/
def DotRow (w : World) (v : Value) (c : List Dot) : Prop :=
  ∃ A cap, v = .slice A c.length cap ∧ c.length ≤ cap ∧ cap ≤ maxLen ∧ ∀ i (h : i < c.length), ∃ a, A = some a ∧ a.block < w.heap.size ∧ w.cell? (a.add (i * 3)) = some (.int .i16 (c[i]).x) ∧ w.cell? (a.add (i * 3 + 1)) = some (.int .i16 (c[i]).y) ∧ w.cell? (a.add (i * 3 + 2)) = some (.bool (c[i]).on) ∧
    (-32768 ≤ (c[i]).x ∧ (c[i]).x ≤ 32767) ∧ -32768 ≤ (c[i]).y ∧ (c[i]).y ≤ 32767
/-- Rows of dots in memory. -/
def DotRows (w : World) (A : Option Addr) (n cap : Nat) (cs : List (List Dot)) : Prop :=
  cs.length = n ∧ n ≤ cap ∧ cap ≤ maxLen ∧ ∀ r (h : r < cs.length), ∃ a v, A = some a ∧ a.block < w.heap.size ∧ w.cell? (a.add r) = some v ∧ DotRow w v (cs[r])

theorem block_add (a : Addr) (n : Nat) : (a.add n).block = a.block := by unfold Addr.add; split <;> rfl
theorem DotRow.keep {w w' : World} {v : Value} {c : List Dot} (h : DotRow w v c) (hb : Below w.heap.size w w') : DotRow w' v c := by
  obtain ⟨A, cap, e, h1, h2, h3⟩ := h
  refine ⟨A, cap, e, h1, h2, fun i hi => ?_⟩
  obtain ⟨a, ha, hlt, c0, c1, c2, b⟩ := h3 i hi
  exact ⟨a, ha, Nat.lt_of_lt_of_le hlt hb.size, by rw [hb.cell (by rw [block_add]; exact hlt)]; exact c0, by rw [hb.cell (by rw [block_add]; exact hlt)]; exact c1, by rw [hb.cell (by rw [block_add]; exact hlt)]; exact c2, b⟩
theorem DotRows.keep {w w' : World} {A : Option Addr} {n cap : Nat} {cs : List (List Dot)} (h : DotRows w A n cap cs) (hb : Below w.heap.size w w') : DotRows w' A n cap cs := by
  obtain ⟨e, h1, h2, h3⟩ := h
  refine ⟨e, h1, h2, fun r hr => ?_⟩
  obtain ⟨a, v, ha, hlt, c, d⟩ := h3 r hr
  exact ⟨a, v, ha, Nat.lt_of_lt_of_le hlt hb.size, by rw [hb.cell (by rw [block_add]; exact hlt)]; exact c, d.keep hb⟩

/-- A contour's cells; a contour that is ours, an outline that is ours. -/
def vcells (c : List Vtx) : List Value := c.flatMap fun v => [.int .i64 v.x, .int .i64 v.y, .bool v.on]
theorem vcells_length : ∀ c : List Vtx, (vcells c).length = c.length * 3
  | [] => rfl
  | v :: c => by
    have := vcells_length c
    unfold vcells at *
    simp only [List.flatMap_cons, List.length_append, List.length_cons, List.length_nil, this]
    omega
theorem vcells_push (c : List Vtx) (v : Vtx) : vcells (c ++ [v]) = vcells c ++ [.int .i64 v.x, .int .i64 v.y, .bool v.on] := by simp [vcells]
theorem own_blocks {w w' : World} {base : Nat} {e : TypeId} {size : Nat} {v : Value} {n : Nat} {xs : List Value} (h : w.ownsRow base e size v n xs) (hb : ∀ g, v.ownBlock = some g → w'.heap[g]? = w.heap[g]?) : w'.ownsRow base e size v n xs := by
  refine ⟨h.1, ?_⟩
  rcases h.2 with h0 | ⟨g, cap, cur, hv, hg, hh, r⟩
  · exact .inl h0
  · exact .inr ⟨g, cap, cur, hv, hg, by rw [hb g (by rw [hv]; rfl)]; exact hh, r⟩
theorem own_form {w : World} {base : Nat} {e : TypeId} {size : Nat} {v : Value} {n : Nat} {xs : List Value} (h : w.ownsRow base e size v n xs) : ∃ A cap, v = .slice A n cap := by
  rcases h.2 with ⟨rfl, rfl⟩ | ⟨g, cap, cur, hv, _⟩
  · exact ⟨none, 0, rfl⟩
  · exact ⟨_, _, hv⟩
end Go.Proofs.Ytklajpadnbeplaa

namespace Go.Proofs.Ytklajpadnbeplaa
open Go.RowKit

/-- A variable of one cell. -/
def One (w : World) (g : Nat) (v : Value) : Prop := w.cell? ⟨g, 0, none⟩ = some v ∧ w.frozen? ⟨g, 0, none⟩ = false
theorem One.lt {w : World} {g : Nat} {v : Value} (h : One w g v) : g < w.heap.size := World.block_lt_of_cell? w _ h.1
theorem One.keep {w w' : World} {g : Nat} {v : Value} (h : One w g v) (hb : Below w.heap.size w w') : One w' g v := ⟨(hb.cell (p := ⟨g, 0, none⟩) h.lt).trans h.1, (hb.frozen (p := ⟨g, 0, none⟩) h.lt).trans h.2⟩
theorem One.alloc {w : World} {g : Nat} {v : Value} (h : One w g v) (o : Obj) : One (w.alloc o) g v := h.keep ((Below.refl _ w).alloc (Nat.le_refl _) o)
theorem One.new {w : World} {g : Nat} (v : Value) (t : TypeId) (h : g = w.heap.size) : One (w.alloc (.cells #[v] t)) g v := by subst h; exact ⟨by simp, by simp⟩

theorem One.grown {w w' : World} {g : Nat} {v : Value} {row : Option Nat} (h : One w g v) (hg : w.grownBy w' row) (hne : some g ≠ row) : One w' g v := ⟨(hg.cell_far ⟨g, 0, none⟩ h.lt hne).trans h.1, (hg.frozen_far ⟨g, 0, none⟩ h.lt hne).trans h.2⟩
theorem One.other {w : World} {g k : Nat} {v : Value} (h : One w g v) (x : Value) (hne : g ≠ k) : One (w.setCell ⟨k, 0, none⟩ x) g v := by
  have hb := heap_set w ⟨k, 0, none⟩ x g hne
  exact ⟨(World.cell?_of_block (a := ⟨g, 0, none⟩) hb).trans h.1, (World.frozen?_of_block (a := ⟨g, 0, none⟩) hb).trans h.2⟩
theorem One.set {w : World} {g : Nat} {v : Value} (h : One w g v) (x : Value) (hf : (w.setCell ⟨g, 0, none⟩ x).frozen? ⟨g, 0, none⟩ = false) : One (w.setCell ⟨g, 0, none⟩ x) g x := ⟨World.cell?_setCell_same _ _ _ h.1, hf⟩
theorem run_min3 {P : Program} (ats : Array TypeId) (ty : TypeId) (a b c m : Int) (h : (if c < (if b < a then b else a) then c else if b < a then b else a) = m) (w : World) :
    Sem.run P (Builtin.min_ ats ty #[.int .i64 a, .int .i64 b, .int .i64 c]) w = .ok (.int .i64 m) w := by
  subst h
  simp [Builtin.min_, Builtin.min2]

theorem add_spell (a : Addr) (i j : Nat) (hj : j ≠ 0) : a.add (i + j) = ⟨(a.add i).block, (a.add i).off + j, none⟩ := by
  unfold Addr.add
  by_cases hi : i = 0 <;> simp [hi, hj, Nat.add_assoc]
theorem heap_two (w : World) (a b : Obj) : ((w.alloc a).alloc b).heap[w.heap.size + 1]? = some b := by
  have h : ∀ (w : World) (o : Obj), (w.alloc o).heap[w.heap.size]? = some o := fun w o => by unfold World.alloc; exact Array.getElem?_push_size
  have := h (w.alloc a) b
  rwa [World.size_alloc] at this
theorem take_push {α : Type} (l : List α) (j : Nat) (d : α) (h : l[j]? = some d) : l.take (j + 1) = l.take j ++ [d] := by rw [List.take_add_one, h]; rfl
theorem drop_push {α : Type} (l : List α) (j : Nat) (d : α) (h : l[j]? = some d) : l.drop j = d :: l.drop (j + 1) := by
  obtain ⟨hj, rfl⟩ := List.getElem?_eq_some_iff.1 h
  exact List.drop_eq_getElem_cons hj
theorem infos {P : Program} {t : TypeId} {z : Value} {s b : Nat} (h : (P.info? t).map (fun i => (i.zero, i.size, i.bytes)) = some (some z, s, b)) : ∃ i, P.info? t = some i ∧ i.zero = some z ∧ i.size = s ∧ i.bytes = b := by
  cases hi : P.info? t with
  | none => rw [hi] at h; cases h
  | some i =>
    rw [hi] at h
    simp only [Option.map_some, Option.some.injEq, Prod.mk.injEq] at h
    exact ⟨i, rfl, h.1, h.2.1, h.2.2⟩

end Go.Proofs.Ytklajpadnbeplaa

namespace Go.Proofs.Ytklajpadnbeplaa
open Go.RowKit

/-- A contour in memory, nil let in; an outline. -/
def VRd (w : World) (v : Value) (c : List Vtx) : Prop :=
  ∃ A cap, v = .slice A c.length cap ∧ c.length ≤ cap ∧ ∀ i (h : i < c.length), ∃ a, A = some a ∧ a.block < w.heap.size ∧ w.cell? (a.add (i * 3)) = some (.int .i64 (c[i]).x) ∧ w.cell? (a.add (i * 3 + 1)) = some (.int .i64 (c[i]).y) ∧ w.cell? (a.add (i * 3 + 2)) = some (.bool (c[i]).on)
def ORd (w : World) (v : Value) (o : List (List Vtx)) : Prop :=
  ∃ A cap, v = .slice A o.length cap ∧ o.length ≤ cap ∧ ∀ r (h : r < o.length), ∃ a u, A = some a ∧ a.block < w.heap.size ∧ w.cell? (a.add r) = some u ∧ VRd w u (o[r])
theorem VRd.keep {w w' : World} {v : Value} {c : List Vtx} (h : VRd w v c) (hb : Below w.heap.size w w') : VRd w' v c := by
  obtain ⟨A, cap, e, h1, h3⟩ := h
  refine ⟨A, cap, e, h1, fun i hi => ?_⟩
  obtain ⟨a, ha, hlt, c0, c1, c2⟩ := h3 i hi
  exact ⟨a, ha, Nat.lt_of_lt_of_le hlt hb.size, by rw [hb.cell (by rw [block_add]; exact hlt)]; exact c0, by rw [hb.cell (by rw [block_add]; exact hlt)]; exact c1, by rw [hb.cell (by rw [block_add]; exact hlt)]; exact c2⟩
theorem ORd.keep {w w' : World} {v : Value} {o : List (List Vtx)} (h : ORd w v o) (hb : Below w.heap.size w w') : ORd w' v o := by
  obtain ⟨A, cap, e, h1, h3⟩ := h
  refine ⟨A, cap, e, h1, fun r hr => ?_⟩
  obtain ⟨a, u, ha, hlt, c, d⟩ := h3 r hr
  exact ⟨a, u, ha, Nat.lt_of_lt_of_le hlt hb.size, by rw [hb.cell (by rw [block_add]; exact hlt)]; exact c, d.keep hb⟩

theorem vcells_at : ∀ (c : List Vtx) (i : Nat) (h : i < c.length), (vcells c)[i * 3]? = some (.int .i64 (c[i]).x) ∧ (vcells c)[i * 3 + 1]? = some (.int .i64 (c[i]).y) ∧ (vcells c)[i * 3 + 2]? = some (.bool (c[i]).on)
  | v :: c, 0, _ => ⟨rfl, rfl, rfl⟩
  | v :: c, i + 1, h => by
    obtain ⟨a, b, d⟩ := vcells_at c i (by simpa using h)
    have e : vcells (v :: c) = .int .i64 v.x :: .int .i64 v.y :: .bool v.on :: vcells c := by simp [vcells]
    rw [e, show (i + 1) * 3 = i * 3 + 1 + 1 + 1 by omega]
    exact ⟨a, b, d⟩
theorem any_push (c : List Vtx) (i : Nat) (v : Vtx) (h : c[i]? = some v) (h0 : (c.take i).any badV = false) (hv : badV v = false) : (c.take (i + 1)).any badV = false := by
  rw [take_push c i v h, List.any_append, h0]
  simp [hv]
theorem any_bad (c : List Vtx) (i : Nat) (v : Vtx) (h : c[i]? = some v) (hv : badV v = true) : c.any badV = true := by
  obtain ⟨hi, rfl⟩ := List.getElem?_eq_some_iff.1 h
  exact List.any_eq_true.2 ⟨_, List.getElem_mem hi, hv⟩

theorem ne_of_at {α : Type} {a b : List α} {i : Nat} {x y : α} (hx : a[i]? = some x) (hy : b[i]? = some y) (h : x ≠ y) : a ≠ b := fun e => by
  subst e; rw [hx] at hy; injection hy with hy; exact h hy
theorem take_eq_push {α : Type} {a b : List α} {i : Nat} {x : α} (h : a.take i = b.take i) (hx : a[i]? = some x) (hy : b[i]? = some x) : a.take (i + 1) = b.take (i + 1) := by
  rw [take_push a i x hx, take_push b i x hy, h]

theorem keepc {W w' : World} (hb : Below W.heap.size W w') {a : Addr} {v : Value} (h : W.cell? a = some v) : w'.cell? a = some v := by rw [hb.cell (World.block_lt_of_cell? W a h)]; exact h
theorem belowDN {B : Nat} {a w : World} (h : Below B a w) (k : Nat) : Below B a (w.drewN k) := ⟨h.os, h.tape, h.output, h.size, h.block⟩
theorem One.drewN {w : World} {g : Nat} {v : Value} (h : One w g v) (k : Nat) : One (w.drewN k) g v := ⟨h.1, h.2⟩

end Go.Proofs.Ytklajpadnbeplaa

namespace Go.Proofs.Ytklajpadnbeplaa
open Go.RowKit

/-- A piece's cells; a row of pieces that is ours, one that is read. -/
def scell (s : Sg) : List Value := [.int .i64 s.a.x, .int .i64 s.a.y, .int .i64 s.b.x, .int .i64 s.b.y, .int .i64 s.c.x, .int .i64 s.c.y, .bool s.curve]
def scells (l : List Sg) : List Value := l.flatMap scell
theorem scells_length : ∀ l : List Sg, (scells l).length = l.length * 7
  | [] => rfl
  | s :: l => by
    have := scells_length l
    unfold scells at *
    simp only [List.flatMap_cons, List.length_append, List.length_cons, this]
    simp [scell]
    omega
theorem scells_push (l : List Sg) (s : Sg) : scells (l ++ [s]) = scells l ++ scell s := by simp [scells]
def SAt (w : World) (a : Addr) (i : Nat) (s : Sg) : Prop :=
  w.cell? (a.add (i * 7)) = some (.int .i64 s.a.x) ∧ w.cell? (a.add (i * 7 + 1)) = some (.int .i64 s.a.y) ∧ w.cell? (a.add (i * 7 + 2)) = some (.int .i64 s.b.x) ∧ w.cell? (a.add (i * 7 + 3)) = some (.int .i64 s.b.y) ∧ w.cell? (a.add (i * 7 + 4)) = some (.int .i64 s.c.x) ∧ w.cell? (a.add (i * 7 + 5)) = some (.int .i64 s.c.y) ∧ w.cell? (a.add (i * 7 + 6)) = some (.bool s.curve)
def SRd (w : World) (v : Value) (l : List Sg) : Prop :=
  ∃ A cap, v = .slice A l.length cap ∧ l.length ≤ cap ∧ ∀ i (h : i < l.length), ∃ a, A = some a ∧ a.block < w.heap.size ∧ SAt w a i (l[i])
theorem SAt.keep {w w' : World} {a : Addr} {i : Nat} {s : Sg} (h : SAt w a i s) (hl : a.block < w.heap.size) (hb : Below w.heap.size w w') : SAt w' a i s := by
  obtain ⟨h0, h1, h2, h3, h4, h5, h6⟩ := h
  have k : ∀ j, w'.cell? (a.add j) = w.cell? (a.add j) := fun j => hb.cell (by rw [block_add]; exact hl)
  exact ⟨(k _).trans h0, (k _).trans h1, (k _).trans h2, (k _).trans h3, (k _).trans h4, (k _).trans h5, (k _).trans h6⟩
theorem SRd.keep {w w' : World} {v : Value} {l : List Sg} (h : SRd w v l) (hb : Below w.heap.size w w') : SRd w' v l := by
  obtain ⟨A, cap, e, h1, h3⟩ := h
  refine ⟨A, cap, e, h1, fun i hi => ?_⟩
  obtain ⟨a, ha, hlt, h⟩ := h3 i hi
  exact ⟨a, ha, Nat.lt_of_lt_of_le hlt hb.size, h.keep hlt hb⟩
theorem scells_at : ∀ (l : List Sg) (i j : Nat) (h : i < l.length), j < 7 → (scells l)[i * 7 + j]? = (scell (l[i]))[j]?
  | s :: l, 0, j, _, hj => by
    have e : scells (s :: l) = scell s ++ scells l := by simp [scells]
    rw [e, Nat.zero_mul, Nat.zero_add, List.getElem?_append_left (by simp [scell]; omega)]
    rfl
  | s :: l, i + 1, j, h, hj => by
    have e : scells (s :: l) = scell s ++ scells l := by simp [scells]
    rw [e, List.getElem?_append_right (by simp [scell]; omega)]
    have := scells_at l i j (by simpa using h) hj
    rw [show (i + 1) * 7 + j - (scell s).length = i * 7 + j by simp [scell]; omega, this]
    rfl
end Go.Proofs.Ytklajpadnbeplaa

namespace Go.Proofs.Ytklajpadnbeplaa
open Go.RowKit

/-- An edge's cells; a row of edges that is ours, one that is read. -/
def ecell (s : Ed) : List Value := [.int .i64 s.a.x, .int .i64 s.a.y, .int .i64 s.b.x, .int .i64 s.b.y]
def ecells (l : List Ed) : List Value := l.flatMap ecell
theorem ecells_length : ∀ l : List Ed, (ecells l).length = l.length * 4
  | [] => rfl
  | s :: l => by
    have := ecells_length l
    unfold ecells at *
    simp only [List.flatMap_cons, List.length_append, List.length_cons, this]
    simp [ecell]
    omega
theorem ecells_push (l : List Ed) (s : Ed) : ecells (l ++ [s]) = ecells l ++ ecell s := by simp [ecells]
theorem ecells_append (l m : List Ed) : ecells (l ++ m) = ecells l ++ ecells m := by simp [ecells]
theorem ecells_one : ∀ (l : List Ed), ∀ u ∈ ecells l, u.oneCell' = true := by
  intro l u hu
  unfold ecells at hu
  rw [List.mem_flatMap] at hu
  obtain ⟨s, _, hs⟩ := hu
  simp only [ecell, List.mem_cons, List.not_mem_nil, or_false] at hs
  rcases hs with rfl | rfl | rfl | rfl <;> rfl
def EAt (w : World) (a : Addr) (i : Nat) (s : Ed) : Prop :=
  w.cell? (a.add (i * 4)) = some (.int .i64 s.a.x) ∧ w.cell? (a.add (i * 4 + 1)) = some (.int .i64 s.a.y) ∧ w.cell? (a.add (i * 4 + 2)) = some (.int .i64 s.b.x) ∧ w.cell? (a.add (i * 4 + 3)) = some (.int .i64 s.b.y)
def ERd (w : World) (v : Value) (l : List Ed) : Prop :=
  ∃ A cap, v = .slice A l.length cap ∧ l.length ≤ cap ∧ ∀ i (h : i < l.length), ∃ a, A = some a ∧ a.block < w.heap.size ∧ EAt w a i (l[i])
theorem EAt.keep {w w' : World} {a : Addr} {i : Nat} {s : Ed} (h : EAt w a i s) (hl : a.block < w.heap.size) (hb : Below w.heap.size w w') : EAt w' a i s := by
  obtain ⟨h0, h1, h2, h3⟩ := h
  have k : ∀ j, w'.cell? (a.add j) = w.cell? (a.add j) := fun j => hb.cell (by rw [block_add]; exact hl)
  exact ⟨(k _).trans h0, (k _).trans h1, (k _).trans h2, (k _).trans h3⟩
theorem ERd.keep {w w' : World} {v : Value} {l : List Ed} (h : ERd w v l) (hb : Below w.heap.size w w') : ERd w' v l := by
  obtain ⟨A, cap, e, h1, h3⟩ := h
  refine ⟨A, cap, e, h1, fun i hi => ?_⟩
  obtain ⟨a, ha, hlt, h⟩ := h3 i hi
  exact ⟨a, ha, Nat.lt_of_lt_of_le hlt hb.size, h.keep hlt hb⟩
theorem ERd.nil (w : World) : ERd w (.slice none 0 0) [] := ⟨none, 0, rfl, Nat.le_refl _, fun _ hi => absurd hi (Nat.not_lt_zero _)⟩
theorem ecells_at : ∀ (l : List Ed) (i j : Nat) (h : i < l.length), j < 4 → (ecells l)[i * 4 + j]? = (ecell (l[i]))[j]?
  | s :: l, 0, j, _, hj => by
    have e : ecells (s :: l) = ecell s ++ ecells l := by simp [ecells]
    rw [e, Nat.zero_mul, Nat.zero_add, List.getElem?_append_left (by simp [ecell]; omega)]
    rfl
  | s :: l, i + 1, j, h, hj => by
    have e : ecells (s :: l) = ecell s ++ ecells l := by simp [ecells]
    rw [e, List.getElem?_append_right (by simp [ecell]; omega)]
    have := ecells_at l i j (by simpa using h) hj
    rw [show (i + 1) * 4 + j - (ecell s).length = i * 4 + j by simp [ecell]; omega, this]
    rfl
/-- An edge that is read, in the walk's spelling. -/
abbrev EAtS (w : World) (a : Addr) (i : Nat) (s0 s1 s2 s3 : Int) : Prop :=
  w.cell? (a.add (i * 4)) = some (.int .i64 s0) ∧ w.cell? ⟨(a.add (i * 4)).block, (a.add (i * 4)).off + 1, none⟩ = some (.int .i64 s1) ∧ w.cell? ⟨(a.add (i * 4)).block, (a.add (i * 4)).off + 2, none⟩ = some (.int .i64 s2) ∧ w.cell? ⟨(a.add (i * 4)).block, (a.add (i * 4)).off + 3, none⟩ = some (.int .i64 s3)
theorem ERd.at {w : World} {A : Option Addr} {n cap : Nat} {l : List Ed} (h : ERd w (.slice A n cap) l) (i : Nat) (s : Ed) (hs : l[i]? = some s) : ∃ a, A = some a ∧ a.block < w.heap.size ∧ EAtS w a i s.a.x s.a.y s.b.x s.b.y := by
  obtain ⟨A', cap', e, _, h3⟩ := h
  simp only [Value.slice.injEq] at e
  obtain ⟨rfl, -, -⟩ := e
  obtain ⟨hi, rfl⟩ := List.getElem?_eq_some_iff.1 hs
  obtain ⟨a, ha, hlt, p0, p1, p2, p3⟩ := h3 i hi
  rw [add_spell _ _ _ (by omega)] at p1 p2 p3
  exact ⟨a, ha, hlt, p0, p1, p2, p3⟩

end Go.Proofs.Ytklajpadnbeplaa
