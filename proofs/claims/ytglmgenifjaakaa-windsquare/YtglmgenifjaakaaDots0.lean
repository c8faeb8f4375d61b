/-
  Rows in memory that layer 4's laws read and make: dots that come in, outlines that are made (no claim is made here).
-/
import Derived.Test.YtglmgenifjaakaaGlyfMath3
import Derived.Below
import Derived.Deep.AppendLies
import Derived.Laws.OwnMore
import Derived.Deep.Onto
namespace Go.Proofs.Ytglmgenifjaakaa
open Go.RowKit

/-- A point of an outline by numbers, as the law takes it. -/
structure Dot where
  x : Int
  y : Int
  on : Bool
def dotV (d : Dot) : Vtx := ⟨d.x.tmod 256, d.y.tmod 256, d.on⟩
/-- The outline that the law makes of dots. -/
def outS : Nat → List (List Dot) → List (List Vtx)
  | _, [] => []
  | left, c :: cs => if (c.take (min 12 left)).length = 0 then outS left cs else (c.take (min 12 left)).map dotV :: outS (left - (c.take (min 12 left)).length) cs
def outlineS (cs : List (List Dot)) : List (List Vtx) := outS 64 (cs.take 8)

theorem tmod256_in (x : Int) : -255 ≤ x.tmod 256 ∧ x.tmod 256 ≤ 255 := by
  have h1 := Int.natAbs_tmod x 256
  have h2 := Nat.mod_lt x.natAbs (show 0 < (256 : Int).natAbs by decide)
  have : (256 : Int).natAbs = 256 := rfl
  omega
theorem dotV_ok (d : Dot) : badV (dotV d) = false := by
  have h1 := tmod256_in d.x
  have h2 := tmod256_in d.y
  unfold badV dotV
  simp only [decide_eq_false_iff_not]
  omega
theorem outS_check : ∀ (cs : List (List Dot)) (left n : Nat), n + left ≤ 64 → checkC n (outS left cs) = 0 ∧ (outS left cs).length ≤ cs.length
  | [], _, _, _ => ⟨rfl, Nat.le_refl _⟩
  | c :: cs, left, n, h => by
    unfold outS
    split
    · obtain ⟨a, b⟩ := outS_check cs left n h
      exact ⟨a, by simp only [List.length_cons]; omega⟩
    · next h0 =>
      have hl : (c.take (min 12 left)).length ≤ left := by rw [List.length_take]; omega
      obtain ⟨a, b⟩ := outS_check cs (left - (c.take (min 12 left)).length) (n + (c.take (min 12 left)).length) (by omega)
      refine ⟨?_, by simp only [List.length_cons]; omega⟩
      have hne : ((c.take (min 12 left)).map dotV) ≠ [] := fun e => h0 (by have := congrArg List.length e; simpa using this)
      have hbad : ¬ ((c.take (min 12 left)).map dotV).any badV = true := by
        rw [List.any_eq_true]
        rintro ⟨v, hv, hb⟩
        obtain ⟨d, _, rfl⟩ := List.mem_map.1 hv
        rw [dotV_ok] at hb
        cases hb
      unfold checkC
      rw [if_neg (by rw [List.length_map]; omega), if_neg hne, if_neg hbad, List.length_map]
      exact a
theorem outlineS_check (cs : List (List Dot)) : checkS (outlineS cs) = 0 := by
  obtain ⟨a, b⟩ := outS_check (cs.take 8) 64 0 (by omega)
  have : (cs.take 8).length ≤ 8 := by rw [List.length_take]; omega
  unfold checkS outlineS
  rw [if_neg (by omega)]
  exact a

theorem outS_step (c : List Dot) (rest : List (List Dot)) (left m : Nat) (hm : m = min c.length (min 12 left)) : outS left (c :: rest) = if m = 0 then outS left rest else (c.take m).map dotV :: outS (left - m) rest := by
  have e1 : (c.take (min 12 left)).length = m := by rw [List.length_take]; omega
  have e2 : c.take (min 12 left) = c.take m := by
    by_cases h : min 12 left ≤ c.length
    · rw [show m = min 12 left by omega]
    · rw [List.take_of_length_le (by omega), List.take_of_length_le (by omega)]
  rw [outS, e1, e2]

/-- A row of dots in memory, nil let in. -/
def DotRow (w : World) (v : Value) (c : List Dot) : Prop :=
  ∃ A cap, v = .slice A c.length cap ∧ c.length ≤ cap ∧ cap ≤ maxLen ∧ ∀ i (h : i < c.length), ∃ a, A = some a ∧ a.block < w.heap.size ∧ w.cell? (a.add (i * 3)) = some (.int .i16 (c[i]).x) ∧ w.cell? (a.add (i * 3 + 1)) = some (.int .i16 (c[i]).y) ∧ w.cell? (a.add (i * 3 + 2)) = some (.bool (c[i]).on) ∧
    (-32768 ≤ (c[i]).x ∧ (c[i]).x ≤ 32767) ∧ -32768 ≤ (c[i]).y ∧ (c[i]).y ≤ 32767
/-- Rows of dots in memory. -/
def DotRows (w : World) (A : Option Addr) (n cap : Nat) (cs : List (List Dot)) : Prop :=
  cs.length = n ∧ n ≤ cap ∧ cap ≤ maxLen ∧ ∀ r (h : r < cs.length), ∃ a v, A = some a ∧ a.block < w.heap.size ∧ w.cell? (a.add r) = some v ∧ DotRow w v (cs[r])

theorem block_add (a : Addr) (n : Nat) : (a.add n).block = a.block := by unfold Addr.add; split <;> rfl
theorem DotRow.keep {w w' : World} {v : Value} {c : List Dot} (h : DotRow w v c) (hb : Below w.heap.size w w') : DotRow w' v c := by
  obtain ⟨A, cap, e, h1, h2, h3⟩ := h
  refine ⟨A, cap, e, h1, h2, fun i hi => ?_⟩
  obtain ⟨a, ha, hlt, c0, c1, c2, b⟩ := h3 i hi
  exact ⟨a, ha, Nat.lt_of_lt_of_le hlt hb.size, by rw [hb.cell (by rw [block_add]; exact hlt)]; exact c0, by rw [hb.cell (by rw [block_add]; exact hlt)]; exact c1, by rw [hb.cell (by rw [block_add]; exact hlt)]; exact c2, b⟩
theorem DotRows.keep {w w' : World} {A : Option Addr} {n cap : Nat} {cs : List (List Dot)} (h : DotRows w A n cap cs) (hb : Below w.heap.size w w') : DotRows w' A n cap cs := by
  obtain ⟨e, h1, h2, h3⟩ := h
  refine ⟨e, h1, h2, fun r hr => ?_⟩
  obtain ⟨a, v, ha, hlt, c, d⟩ := h3 r hr
  exact ⟨a, v, ha, Nat.lt_of_lt_of_le hlt hb.size, by rw [hb.cell (by rw [block_add]; exact hlt)]; exact c, d.keep hb⟩

/-- A contour's cells; a contour that is ours, an outline that is ours. -/
def vcells (c : List Vtx) : List Value := c.flatMap fun v => [.int .i64 v.x, .int .i64 v.y, .bool v.on]
theorem vcells_length : ∀ c : List Vtx, (vcells c).length = c.length * 3
  | [] => rfl
  | v :: c => by
    have := vcells_length c
    unfold vcells at *
    simp only [List.flatMap_cons, List.length_append, List.length_cons, List.length_nil, this]
    omega
theorem vcells_push (c : List Vtx) (v : Vtx) : vcells (c ++ [v]) = vcells c ++ [.int .i64 v.x, .int .i64 v.y, .bool v.on] := by simp [vcells]
def VRow (w : World) (base : Nat) (u : Value) (c : List Vtx) : Prop := w.ownsRow base 66 3 u c.length (vcells c)
def OutlV (w : World) (base : Nat) (v : Value) (o : List (List Vtx)) (vs : List Value) : Prop :=
  vs.length = o.length ∧ w.ownsRow base 61 1 v o.length vs ∧ (∀ i (h : i < o.length) (h' : i < vs.length), VRow w base (vs[i]) (o[i]) ∧ o[i] ≠ [] ∧ (vs[i]).ownBlock ≠ v.ownBlock) ∧ vs.Pairwise (fun a b => a.ownBlock ≠ b.ownBlock)

def Outl (w : World) (base : Nat) (v : Value) (o : List (List Vtx)) : Prop := ∃ vs, OutlV w base v o vs

theorem own_blocks {w w' : World} {base : Nat} {e : TypeId} {size : Nat} {v : Value} {n : Nat} {xs : List Value} (h : w.ownsRow base e size v n xs) (hb : ∀ g, v.ownBlock = some g → w'.heap[g]? = w.heap[g]?) : w'.ownsRow base e size v n xs := by
  refine ⟨h.1, ?_⟩
  rcases h.2 with h0 | ⟨g, cap, cur, hv, hg, hh, r⟩
  · exact .inl h0
  · exact .inr ⟨g, cap, cur, hv, hg, by rw [hb g (by rw [hv]; rfl)]; exact hh, r⟩
theorem VRow.below {w w' : World} {base : Nat} {u : Value} {c : List Vtx} (h : VRow w base u c) (hb : Below w.heap.size w w') : VRow w' base u c :=
  own_blocks h fun g hg => hb.block g (h.lt g hg).2
theorem Outl.blocks {w w' : World} {base : Nat} {v : Value} {o : List (List Vtx)} (h : Outl w base v o) (hb : ∀ g, base ≤ g → g < w.heap.size → w'.heap[g]? = w.heap[g]?) : Outl w' base v o := by
  obtain ⟨vs, e, h1, h2, h3⟩ := h
  refine ⟨vs, e, own_blocks h1 fun g hg => hb g (h1.lt g hg).1 (h1.lt g hg).2, fun i hi hi' => ?_, h3⟩
  obtain ⟨a, b, c⟩ := h2 i hi hi'
  exact ⟨own_blocks a fun g hg => hb g (a.lt g hg).1 (a.lt g hg).2, b, c⟩
theorem Outl.below {w w' : World} {base : Nat} {v : Value} {o : List (List Vtx)} (h : Outl w base v o) (hb : Below w.heap.size w w') : Outl w' base v o := h.blocks fun g _ hg => hb.block g hg
theorem heap_set (w : World) (p : Addr) (x : Value) (g : Nat) (h : g ≠ p.block) : (w.setCell p x).heap[g]? = w.heap[g]? := by
  simp only [World.setCell, Array.getElem?_modify]
  rw [if_neg (fun e => h e.symm)]
theorem Outl.set {w : World} {base : Nat} {v : Value} {o : List (List Vtx)} (h : Outl w base v o) {p : Addr} (hp : p.block < base) (x : Value) : Outl (w.setCell p x) base v o := h.blocks fun g hg _ => heap_set w p x g (by omega)
theorem Outl.nil (w : World) (base : Nat) : Outl w base (.slice none 0 0) [] := ⟨[], rfl, World.ownsRow_nil _ _ _ _, (fun i h => by cases h), List.Pairwise.nil⟩

theorem own_form {w : World} {base : Nat} {e : TypeId} {size : Nat} {v : Value} {n : Nat} {xs : List Value} (h : w.ownsRow base e size v n xs) : ∃ A cap, v = .slice A n cap := by
  rcases h.2 with ⟨rfl, rfl⟩ | ⟨g, cap, cur, hv, _⟩
  · exact ⟨none, 0, rfl⟩
  · exact ⟨_, _, hv⟩
theorem Outl.form {w : World} {base : Nat} {v : Value} {o : List (List Vtx)} (h : Outl w base v o) : ∃ A cap, v = .slice A o.length cap := by
  obtain ⟨vs, _, h1, _⟩ := h
  exact own_form h1
theorem Outl.mono {w : World} {base base' : Nat} {v : Value} {o : List (List Vtx)} (h : Outl w base v o) (hb : base' ≤ base) : Outl w base' v o := by
  obtain ⟨vs, e, h1, h2, h3⟩ := h
  exact ⟨vs, e, h1.mono hb, fun i hi hi' => ⟨World.ownsRow.mono (h2 i hi hi').1 hb, (h2 i hi hi').2⟩, h3⟩
/-- A contour that was made behind an outline is put behind it. -/
theorem Outl.push {wi w w1 : World} {base : Nat} {v v1 u : Value} {o : List (List Vtx)} {c : List Vtx} {vs : List Value} (h0 : OutlV wi base v o vs) (hbase : base ≤ wi.heap.size) (hb : Below wi.heap.size wi w) (hu0 : VRow w wi.heap.size u c) (hc : c ≠ [])
    (hg : w.grownBy w1 v.ownBlock) (hv : v1.ownBlock = v.ownBlock ∨ ∃ g, v1.ownBlock = some g ∧ w.heap.size ≤ g)
    (h1 : w1.ownsRow base 61 1 v1 (o.length + 1) (vs ++ [u])) : Outl w1 base v1 (o ++ [c]) := by
  obtain ⟨e, b1, b2, a3⟩ := h0
  have hu : VRow w base u c := World.ownsRow.mono hu0 hbase
  obtain ⟨gu, capu, eu, hul, _⟩ := World.ownsRow.form hu0 (List.length_pos_iff.2 hc)
  have hub : u.ownBlock = some gu := by rw [eu]; rfl
  have hne : u.ownBlock ≠ v.ownBlock := fun hh => by
    have := (b1.lt gu (by rw [← hh, hub])).2
    omega
  have kept : ∀ {x : Value} {d : List Vtx}, VRow w base x d → x.ownBlock ≠ v.ownBlock → VRow w1 base x d := fun hx hne => World.ownsRow.kept hx hg (.inr hne)
  have far1 : ∀ {x : Value} {d : List Vtx}, VRow w base x d → d ≠ [] → x.ownBlock ≠ v.ownBlock → x.ownBlock ≠ v1.ownBlock := by
    intro x d hx hd hne
    rcases hv with hv | ⟨g, hv, hgw⟩
    · rw [hv]; exact hne
    · rw [hv]
      obtain ⟨gx, cx, ex, _, hxl⟩ := World.ownsRow.form hx (List.length_pos_iff.2 hd)
      intro hh
      rw [ex] at hh
      have : gx = g := by simpa [Value.ownBlock] using hh
      omega
  have older : ∀ x ∈ vs, x.ownBlock ≠ some gu := by
    intro x hx hh
    obtain ⟨i, hi, rfl⟩ := List.getElem_of_mem hx
    have := (World.ownsRow.lt (b2 i (by omega) hi).1 gu hh).2
    omega
  refine ⟨vs ++ [u], by simp [e], by simpa using h1, fun i hi hi' => ?_, ?_⟩
  · by_cases hlt : i < o.length
    · obtain ⟨c1, c2, c3⟩ := b2 i hlt (by omega)
      have c1' := VRow.below c1 hb
      rw [List.getElem_append_left (by omega), List.getElem_append_left (by omega)]
      exact ⟨kept c1' c3, c2, far1 c1' c2 c3⟩
    · obtain rfl : i = o.length := by simp at hi; omega
      have e1 : (o ++ [c])[o.length] = c := by simp
      have e2 : (vs ++ [u])[o.length] = u := by simp [← e]
      rw [e1, e2]
      exact ⟨kept hu hne, hc, far1 hu hc hne⟩
  · rw [List.pairwise_append]
    refine ⟨a3, List.pairwise_singleton _ _, fun x hx y hy => ?_⟩
    rw [List.mem_singleton] at hy
    subst hy
    rw [hub]
    exact older x hx

end Go.Proofs.Ytglmgenifjaakaa
