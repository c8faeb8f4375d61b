/-
  Dots0 Dots1 Vrd Blk Edg in one text (no claim is made here).
-/
import Derived.Test.YteiildeaccngjaaBlk
import Derived.Test.YteiildeaccngjaaMth
import Derived.Below
import Derived.Deep.AppendLies
import Derived.Laws.OwnMore
import Derived.Deep.Onto
import Derived.Test.YteiildeaccngjaaChecked
import Derived.Lib.Hide
import Derived.WalkKit
import Derived.RowKit3
import Derived.IntWalk
import Derived.BigRegion
import Derived.Deep.CutBlock
import Derived.Deep.DeepCutAuto
import Derived.Deep.RegionWith
import Derived.BigQuiet
namespace Go.Proofs.Yteiildeaccngjaa
open Go.RowKit

/-- A point of an outline by numbers, as the law takes it. -/
structure Dot where
  x : Int
  y : Int
  on : Bool
def dotV (d : Dot) : Vtx := ⟨d.x.tmod 256, d.y.tmod 256, d.on⟩
/-- The outline that the law makes of dots. -/
def outS : Nat → List (List Dot) → List (List Vtx)
  | _, [] => []
  | left, c :: cs => if (c.take (min 12 left)).length = 0 then outS left cs else (c.take (min 12 left)).map dotV :: outS (left - (c.take (min 12 left)).length) cs
def outlineS (cs : List (List Dot)) : List (List Vtx) := outS 64 (cs.take 8)

theorem tmod256_in (x : Int) : -255 ≤ x.tmod 256 ∧ x.tmod 256 ≤ 255 := by
  have h1 := Int.natAbs_tmod x 256
  have h2 := Nat.mod_lt x.natAbs (show 0 < (256 : Int).natAbs by decide)
  have : (256 : Int).natAbs = 256 := rfl
  omega
theorem dotV_ok (d : Dot) : badV (dotV d) = false := by
  have h1 := tmod256_in d.x
  have h2 := tmod256_in d.y
  unfold badV dotV
  simp only [decide_eq_false_iff_not]
  omega
theorem outS_check : ∀ (cs : List (List Dot)) (left n : Nat), n + left ≤ 64 → checkC n (outS left cs) = 0 ∧ (outS left cs).length ≤ cs.length
  | [], _, _, _ => ⟨rfl, Nat.le_refl _⟩
  | c :: cs, left, n, h => by
    unfold outS
    split
    · obtain ⟨a, b⟩ := outS_check cs left n h
      exact ⟨a, by simp only [List.length_cons]; omega⟩
    · next h0 =>
      have hl : (c.take (min 12 left)).length ≤ left := by rw [List.length_take]; omega
      obtain ⟨a, b⟩ := outS_check cs (left - (c.take (min 12 left)).length) (n + (c.take (min 12 left)).length) (by omega)
      refine ⟨?_, by simp only [List.length_cons]; omega⟩
      have hne : ((c.take (min 12 left)).map dotV) ≠ [] := fun e => h0 (by have := congrArg List.length e; simpa using this)
      have hbad : ¬ ((c.take (min 12 left)).map dotV).any badV = true := by
        rw [List.any_eq_true]
        rintro ⟨v, hv, hb⟩
        obtain ⟨d, _, rfl⟩ := List.mem_map.1 hv
        rw [dotV_ok] at hb
        cases hb
      unfold checkC
      rw [if_neg (by rw [List.length_map]; omega), if_neg hne, if_neg hbad, List.length_map]
      exact a
theorem outlineS_check (cs : List (List Dot)) : checkS (outlineS cs) = 0 := by
  obtain ⟨a, b⟩ := outS_check (cs.take 8) 64 0 (by omega)
  have : (cs.take 8).length ≤ 8 := by rw [List.length_take]; omega
  unfold checkS outlineS
  rw [if_neg (by omega)]
  exact a

theorem outS_step (c : List Dot) (rest : List (List Dot)) (left m : Nat) (hm : m = min c.length (min 12 left)) : outS left (c :: rest) = if m = 0 then outS left rest else (c.take m).map dotV :: outS (left - m) rest := by
  have e1 : (c.take (min 12 left)).length = m := by rw [List.length_take]; omega
  have e2 : c.take (min 12 left) = c.take m := by
    by_cases h : min 12 left ≤ c.length
    · rw [show m = min 12 left by omega]
    · rw [List.take_of_length_le (by omega), List.take_of_length_le (by omega)]
  rw [outS, e1, e2]

/-- A row of dots in memory, nil let in. -/
def DotRow (w : World) (v : Value) (c : List Dot) : Prop :=
  ∃ A cap, v = .slice A c.length cap ∧ c.length ≤ cap ∧ cap ≤ maxLen ∧ ∀ i (h : i < c.length), ∃ a, A = some a ∧ a.block < w.heap.size ∧ w.cell? (a.add (i * 3)) = some (.int .i16 (c[i]).x) ∧ w.cell? (a.add (i * 3 + 1)) = some (.int .i16 (c[i]).y) ∧ w.cell? (a.add (i * 3 + 2)) = some (.bool (c[i]).on) ∧
    (-32768 ≤ (c[i]).x ∧ (c[i]).x ≤ 32767) ∧ -32768 ≤ (c[i]).y ∧ (c[i]).y ≤ 32767
/-- Rows of dots in memory. -/
def DotRows (w : World) (A : Option Addr) (n cap : Nat) (cs : List (List Dot)) : Prop :=
  cs.length = n ∧ n ≤ cap ∧ cap ≤ maxLen ∧ ∀ r (h : r < cs.length), ∃ a v, A = some a ∧ a.block < w.heap.size ∧ w.cell? (a.add r) = some v ∧ DotRow w v (cs[r])

theorem block_add (a : Addr) (n : Nat) : (a.add n).block = a.block := by unfold Addr.add; split <;> rfl
theorem DotRow.keep {w w' : World} {v : Value} {c : List Dot} (h : DotRow w v c) (hb : Below w.heap.size w w') : DotRow w' v c := by
  obtain ⟨A, cap, e, h1, h2, h3⟩ := h
  refine ⟨A, cap, e, h1, h2, fun i hi => ?_⟩
  obtain ⟨a, ha, hlt, c0, c1, c2, b⟩ := h3 i hi
  exact ⟨a, ha, Nat.lt_of_lt_of_le hlt hb.size, by rw [hb.cell (by rw [block_add]; exact hlt)]; exact c0, by rw [hb.cell (by rw [block_add]; exact hlt)]; exact c1, by rw [hb.cell (by rw [block_add]; exact hlt)]; exact c2, b⟩
theorem DotRows.keep {w w' : World} {A : Option Addr} {n cap : Nat} {cs : List (List Dot)} (h : DotRows w A n cap cs) (hb : Below w.heap.size w w') : DotRows w' A n cap cs := by
  obtain ⟨e, h1, h2, h3⟩ := h
  refine ⟨e, h1, h2, fun r hr => ?_⟩
  obtain ⟨a, v, ha, hlt, c, d⟩ := h3 r hr
  exact ⟨a, v, ha, Nat.lt_of_lt_of_le hlt hb.size, by rw [hb.cell (by rw [block_add]; exact hlt)]; exact c, d.keep hb⟩

/-- A contour's cells; a contour that is ours, an outline that is ours. -/
def vcells (c : List Vtx) : List Value := c.flatMap fun v => [.int .i64 v.x, .int .i64 v.y, .bool v.on]
theorem vcells_length : ∀ c : List Vtx, (vcells c).length = c.length * 3
  | [] => rfl
  | v :: c => by
    have := vcells_length c
    unfold vcells at *
    simp only [List.flatMap_cons, List.length_append, List.length_cons, List.length_nil, this]
    omega
theorem vcells_push (c : List Vtx) (v : Vtx) : vcells (c ++ [v]) = vcells c ++ [.int .i64 v.x, .int .i64 v.y, .bool v.on] := by simp [vcells]
def VRow (w : World) (base : Nat) (u : Value) (c : List Vtx) : Prop := w.ownsRow base 106 3 u c.length (vcells c)
def OutlV (w : World) (base : Nat) (v : Value) (o : List (List Vtx)) (vs : List Value) : Prop :=
  vs.length = o.length ∧ w.ownsRow base 101 1 v o.length vs ∧ (∀ i (h : i < o.length) (h' : i < vs.length), VRow w base (vs[i]) (o[i]) ∧ o[i] ≠ [] ∧ (vs[i]).ownBlock ≠ v.ownBlock) ∧ vs.Pairwise (fun a b => a.ownBlock ≠ b.ownBlock)

def Outl (w : World) (base : Nat) (v : Value) (o : List (List Vtx)) : Prop := ∃ vs, OutlV w base v o vs

theorem own_blocks {w w' : World} {base : Nat} {e : TypeId} {size : Nat} {v : Value} {n : Nat} {xs : List Value} (h : w.ownsRow base e size v n xs) (hb : ∀ g, v.ownBlock = some g → w'.heap[g]? = w.heap[g]?) : w'.ownsRow base e size v n xs := by
  refine ⟨h.1, ?_⟩
  rcases h.2 with h0 | ⟨g, cap, cur, hv, hg, hh, r⟩
  · exact .inl h0
  · exact .inr ⟨g, cap, cur, hv, hg, by rw [hb g (by rw [hv]; rfl)]; exact hh, r⟩
theorem VRow.below {w w' : World} {base : Nat} {u : Value} {c : List Vtx} (h : VRow w base u c) (hb : Below w.heap.size w w') : VRow w' base u c :=
  own_blocks h fun g hg => hb.block g (h.lt g hg).2
theorem Outl.blocks {w w' : World} {base : Nat} {v : Value} {o : List (List Vtx)} (h : Outl w base v o) (hb : ∀ g, base ≤ g → g < w.heap.size → w'.heap[g]? = w.heap[g]?) : Outl w' base v o := by
  obtain ⟨vs, e, h1, h2, h3⟩ := h
  refine ⟨vs, e, own_blocks h1 fun g hg => hb g (h1.lt g hg).1 (h1.lt g hg).2, fun i hi hi' => ?_, h3⟩
  obtain ⟨a, b, c⟩ := h2 i hi hi'
  exact ⟨own_blocks a fun g hg => hb g (a.lt g hg).1 (a.lt g hg).2, b, c⟩
theorem Outl.below {w w' : World} {base : Nat} {v : Value} {o : List (List Vtx)} (h : Outl w base v o) (hb : Below w.heap.size w w') : Outl w' base v o := h.blocks fun g _ hg => hb.block g hg
theorem Outl.set {w : World} {base : Nat} {v : Value} {o : List (List Vtx)} (h : Outl w base v o) {p : Addr} (hp : p.block < base) (x : Value) : Outl (w.setCell p x) base v o := h.blocks fun g hg _ => heap_set w p x g (by omega)
theorem Outl.nil (w : World) (base : Nat) : Outl w base (.slice none 0 0) [] := ⟨[], rfl, World.ownsRow_nil _ _ _ _, (fun i h => by cases h), List.Pairwise.nil⟩

theorem own_form {w : World} {base : Nat} {e : TypeId} {size : Nat} {v : Value} {n : Nat} {xs : List Value} (h : w.ownsRow base e size v n xs) : ∃ A cap, v = .slice A n cap := by
  rcases h.2 with ⟨rfl, rfl⟩ | ⟨g, cap, cur, hv, _⟩
  · exact ⟨none, 0, rfl⟩
  · exact ⟨_, _, hv⟩
theorem Outl.form {w : World} {base : Nat} {v : Value} {o : List (List Vtx)} (h : Outl w base v o) : ∃ A cap, v = .slice A o.length cap := by
  obtain ⟨vs, _, h1, _⟩ := h
  exact own_form h1
theorem Outl.mono {w : World} {base base' : Nat} {v : Value} {o : List (List Vtx)} (h : Outl w base v o) (hb : base' ≤ base) : Outl w base' v o := by
  obtain ⟨vs, e, h1, h2, h3⟩ := h
  exact ⟨vs, e, h1.mono hb, fun i hi hi' => ⟨World.ownsRow.mono (h2 i hi hi').1 hb, (h2 i hi hi').2⟩, h3⟩
/-- A contour that was made behind an outline is put behind it. -/
theorem Outl.push {wi w w1 : World} {base : Nat} {v v1 u : Value} {o : List (List Vtx)} {c : List Vtx} {vs : List Value} (h0 : OutlV wi base v o vs) (hbase : base ≤ wi.heap.size) (hb : Below wi.heap.size wi w) (hu0 : VRow w wi.heap.size u c) (hc : c ≠ [])
    (hg : w.grownBy w1 v.ownBlock) (hv : v1.ownBlock = v.ownBlock ∨ ∃ g, v1.ownBlock = some g ∧ w.heap.size ≤ g)
    (h1 : w1.ownsRow base 101 1 v1 (o.length + 1) (vs ++ [u])) : Outl w1 base v1 (o ++ [c]) := by
  obtain ⟨e, b1, b2, a3⟩ := h0
  have hu : VRow w base u c := World.ownsRow.mono hu0 hbase
  obtain ⟨gu, capu, eu, hul, _⟩ := World.ownsRow.form hu0 (List.length_pos_iff.2 hc)
  have hub : u.ownBlock = some gu := by rw [eu]; rfl
  have hne : u.ownBlock ≠ v.ownBlock := fun hh => by
    have := (b1.lt gu (by rw [← hh, hub])).2
    omega
  have kept : ∀ {x : Value} {d : List Vtx}, VRow w base x d → x.ownBlock ≠ v.ownBlock → VRow w1 base x d := fun hx hne => World.ownsRow.kept hx hg (.inr hne)
  have far1 : ∀ {x : Value} {d : List Vtx}, VRow w base x d → d ≠ [] → x.ownBlock ≠ v.ownBlock → x.ownBlock ≠ v1.ownBlock := by
    intro x d hx hd hne
    rcases hv with hv | ⟨g, hv, hgw⟩
    · rw [hv]; exact hne
    · rw [hv]
      obtain ⟨gx, cx, ex, _, hxl⟩ := World.ownsRow.form hx (List.length_pos_iff.2 hd)
      intro hh
      rw [ex] at hh
      have : gx = g := by simpa [Value.ownBlock] using hh
      omega
  have older : ∀ x ∈ vs, x.ownBlock ≠ some gu := by
    intro x hx hh
    obtain ⟨i, hi, rfl⟩ := List.getElem_of_mem hx
    have := (World.ownsRow.lt (b2 i (by omega) hi).1 gu hh).2
    omega
  refine ⟨vs ++ [u], by simp [e], by simpa using h1, fun i hi hi' => ?_, ?_⟩
  · by_cases hlt : i < o.length
    · obtain ⟨c1, c2, c3⟩ := b2 i hlt (by omega)
      have c1' := VRow.below c1 hb
      rw [List.getElem_append_left (by omega), List.getElem_append_left (by omega)]
      exact ⟨kept c1' c3, c2, far1 c1' c2 c3⟩
    · obtain rfl : i = o.length := by simp at hi; omega
      have e1 : (o ++ [c])[o.length] = c := by simp
      have e2 : (vs ++ [u])[o.length] = u := by simp [← e]
      rw [e1, e2]
      exact ⟨kept hu hne, hc, far1 hu hc hne⟩
  · rw [List.pairwise_append]
    refine ⟨a3, List.pairwise_singleton _ _, fun x hx y hy => ?_⟩
    rw [List.mem_singleton] at hy
    subst hy
    rw [hub]
    exact older x hx

end Go.Proofs.Yteiildeaccngjaa

namespace Go.Proofs.Yteiildeaccngjaa
open Go.RowKit

/-- A variable of one cell. -/
def One (w : World) (g : Nat) (v : Value) : Prop := w.cell? ⟨g, 0, none⟩ = some v ∧ w.frozen? ⟨g, 0, none⟩ = false
theorem One.lt {w : World} {g : Nat} {v : Value} (h : One w g v) : g < w.heap.size := World.block_lt_of_cell? w _ h.1
theorem One.keep {w w' : World} {g : Nat} {v : Value} (h : One w g v) (hb : Below w.heap.size w w') : One w' g v := ⟨(hb.cell (p := ⟨g, 0, none⟩) h.lt).trans h.1, (hb.frozen (p := ⟨g, 0, none⟩) h.lt).trans h.2⟩
theorem One.alloc {w : World} {g : Nat} {v : Value} (h : One w g v) (o : Obj) : One (w.alloc o) g v := h.keep ((Below.refl _ w).alloc (Nat.le_refl _) o)
theorem One.new {w : World} {g : Nat} (v : Value) (t : TypeId) (h : g = w.heap.size) : One (w.alloc (.cells #[v] t)) g v := by subst h; exact ⟨by simp, by simp⟩

theorem One.grown {w w' : World} {g : Nat} {v : Value} {row : Option Nat} (h : One w g v) (hg : w.grownBy w' row) (hne : some g ≠ row) : One w' g v := ⟨(hg.cell_far ⟨g, 0, none⟩ h.lt hne).trans h.1, (hg.frozen_far ⟨g, 0, none⟩ h.lt hne).trans h.2⟩
theorem One.other {w : World} {g k : Nat} {v : Value} (h : One w g v) (x : Value) (hne : g ≠ k) : One (w.setCell ⟨k, 0, none⟩ x) g v := by
  have hb := heap_set w ⟨k, 0, none⟩ x g hne
  exact ⟨(World.cell?_of_block (a := ⟨g, 0, none⟩) hb).trans h.1, (World.frozen?_of_block (a := ⟨g, 0, none⟩) hb).trans h.2⟩
theorem One.set {w : World} {g : Nat} {v : Value} (h : One w g v) (x : Value) (hf : (w.setCell ⟨g, 0, none⟩ x).frozen? ⟨g, 0, none⟩ = false) : One (w.setCell ⟨g, 0, none⟩ x) g x := ⟨World.cell?_setCell_same _ _ _ h.1, hf⟩
theorem run_min3 {P : Program} (ats : Array TypeId) (ty : TypeId) (a b c m : Int) (h : (if c < (if b < a then b else a) then c else if b < a then b else a) = m) (w : World) :
    Sem.run P (Builtin.min_ ats ty #[.int .i64 a, .int .i64 b, .int .i64 c]) w = .ok (.int .i64 m) w := by
  subst h
  simp [Builtin.min_, Builtin.min2]

theorem add_spell (a : Addr) (i j : Nat) (hj : j ≠ 0) : a.add (i + j) = ⟨(a.add i).block, (a.add i).off + j, none⟩ := by
  unfold Addr.add
  by_cases hi : i = 0 <;> simp [hi, hj, Nat.add_assoc]
theorem VRow.own {w : World} {base : Nat} {u : Value} {c : List Vtx} {j : Nat} (h : VRow w base u c) (hl : c.length = j) : w.ownsRow base 106 3 u j (vcells c) := hl ▸ h
theorem heap_two (w : World) (a b : Obj) : ((w.alloc a).alloc b).heap[w.heap.size + 1]? = some b := by
  have h : ∀ (w : World) (o : Obj), (w.alloc o).heap[w.heap.size]? = some o := fun w o => by unfold World.alloc; exact Array.getElem?_push_size
  have := h (w.alloc a) b
  rwa [World.size_alloc] at this
theorem take_push {α : Type} (l : List α) (j : Nat) (d : α) (h : l[j]? = some d) : l.take (j + 1) = l.take j ++ [d] := by rw [List.take_add_one, h]; rfl
theorem drop_push {α : Type} (l : List α) (j : Nat) (d : α) (h : l[j]? = some d) : l.drop j = d :: l.drop (j + 1) := by
  obtain ⟨hj, rfl⟩ := List.getElem?_eq_some_iff.1 h
  exact List.drop_eq_getElem_cons hj
theorem vinfo : (Try.prog.info? 106).map (fun i => (i.zero, i.size, i.bytes)) = some (some (.agg #[.int .i64 0, .int .i64 0, .bool false]), 3, 24) := by kernel_rfl
theorem rinfo : (Try.prog.info? 101).map (fun i => (i.zero, i.size, i.bytes)) = some (some (.slice none 0 0), 1, 24) := by kernel_rfl
theorem infos {P : Program} {t : TypeId} {z : Value} {s b : Nat} (h : (P.info? t).map (fun i => (i.zero, i.size, i.bytes)) = some (some z, s, b)) : ∃ i, P.info? t = some i ∧ i.zero = some z ∧ i.size = s ∧ i.bytes = b := by
  cases hi : P.info? t with
  | none => rw [hi] at h; cases h
  | some i =>
    rw [hi] at h
    simp only [Option.map_some, Option.some.injEq, Prod.mk.injEq] at h
    exact ⟨i, rfl, h.1, h.2.1, h.2.2⟩

set_option maxHeartbeats 400000 in
set_option maxRecDepth 100000 in
theorem outline_any (A : Option Addr) (n cap : Nat) (cs : List (List Dot)) (w : World) (hcs : DotRows w A n cap cs) :
    Calls Try.prog 28 #[.slice A n cap] w fun e w' => ∃ v, e = .returned (.agg #[v]) ∧ Outl w' w.heap.size v (outlineS cs) ∧ Below w.heap.size w w' := by
  have HC := Lib.hid hcs
  obtain ⟨hn, h1, -, -⟩ := hcs
  obtain ⟨k, hk⟩ : ∃ k : Nat, k = min n 8 := ⟨_, rfl⟩
  have hk1 : k ≤ n := by omega
  have H0 : Hid (outlineS cs = [] ++ outS 64 ((cs.take 8).drop 0)) := Lib.hid (by simp [outlineS])
  go_enter Try.func28, Try.ntmps28
  go_upto_region 3 with fail
  go_cut [14, 15, 16] (fun s14 s15 s16 wx => s14 = .slice A k cap ∧ s15 = .int .i64 k ∧ s16 = .int .i64 0 ∧ wx = ((w.alloc (.cells #[.slice none 0 0] 68)).alloc (.cells #[.slice none 0 0] 68)))
  case first =>
    by_cases h8 : n ≤ 8
    · obtain rfl : k = n := by omega
      have h8' : (k : Int) ≤ 8 := by omega
      clear hk hk1 hn
      go_wp2_with fail
      all_goals
        go_meet
        exact ⟨rfl, rfl, rfl, rfl⟩
    · obtain rfl : k = 8 := by omega
      have h8' : (8 : Int) < n := by omega
      clear hk hk1 hn
      go_wp2_with fail
      all_goals
        go_meet
        exact ⟨rfl, rfl, rfl, rfl⟩
  case rest =>
    obtain ⟨rfl, rfl, rfl, rfl⟩ := hcut
    have OR : One ((w.alloc (.cells #[.slice none 0 0] 68)).alloc (.cells #[.slice none 0 0] 68)) w.heap.size _ := (One.new _ _ rfl).alloc _
    have OO : One ((w.alloc (.cells #[.slice none 0 0] 68)).alloc (.cells #[.slice none 0 0] 68)) (w.heap.size + 1) _ := One.new _ _ (by simp)
    have B2 : Below w.heap.size w ((w.alloc (.cells #[.slice none 0 0] 68)).alloc (.cells #[.slice none 0 0] 68)) := ((Below.refl _ w).alloc (Nat.le_refl _) _).alloc (by simp) _
    have S2 : ((w.alloc (.cells #[.slice none 0 0] 68)).alloc (.cells #[.slice none 0 0] 68)).heap.size = w.heap.size + 2 := by simp
    generalize (w.alloc (.cells #[.slice none 0 0] 68)).alloc (.cells #[.slice none 0 0] 68) = w2 at *
    go_wp2_with fail
    go_loopw [16, 4] (fun i l wr => ∃ (r left : Nat) (v : Value) (o : List (List Vtx)), r ≤ k ∧ i = .int .i64 r ∧ l = .int .i64 left ∧ left ≤ 64 ∧ o.length ≤ r ∧ Hid (outlineS cs = o ++ outS left ((cs.take 8).drop r)) ∧ Hid (One wr (w.heap.size + 1) v) ∧ Hid (One wr w.heap.size (.slice none 0 0)) ∧ Hid (Outl wr (w.heap.size + 2) v o) ∧ w.heap.size + 2 ≤ wr.heap.size ∧ Hid (Below w.heap.size w wr)) (fun i _ _ => k - (intOf i).toNat)
    case atStart => exact ⟨0, 64, _, [], Nat.zero_le _, rfl, rfl, Nat.le_refl _, Nat.le_refl _, H0, Lib.hid OO, Lib.hid OR, Lib.hid (Outl.nil _ _), by omega, Lib.hid B2⟩
    case round =>
      obtain ⟨r, left, v, o, hr, rfl, rfl, hleft, hol, HO, O1, O2, HL, hsz, HB⟩ := hrel
      clear OR OO B2 S2 H0
      by_cases hrk : r < k
      · obtain ⟨-, -, -, h3⟩ := HC.out
        obtain ⟨a, vr, rfl, hal, hac, hrow⟩ := h3 r (by omega)
        obtain ⟨A1, cap1, rfl, hcl, hcm, hd⟩ := hrow
        have hac' := (HB.out.cell (p := a.add r) (by rw [block_add]; exact hal)).trans hac
        clear h3 hac
        obtain ⟨c, hc⟩ : ∃ c, c = cs[r] := ⟨_, rfl⟩
        rw [← hc] at hac' hcl hd
        have HCr : Hid (cs[r]? = some c) := Lib.hid (by rw [hc]; exact List.getElem?_eq_getElem _)
        obtain ⟨L, hL⟩ : ∃ L : Nat, c.length = L := ⟨_, rfl⟩
        rw [hL] at hac' hcl
        have HD := Lib.hid hd
        have HLn := Lib.hid hL
        have HK := Lib.hid hk
        obtain ⟨m, hm⟩ : ∃ m : Nat, m = min L (min 12 left) := ⟨_, rfl⟩
        have hrb : decide ((r : Int) < k) = true := by simp; omega
        have hm1 : m ≤ L ∧ m ≤ 12 ∧ m ≤ left := by omega
        clear hc hd hL hk hn hcm
        have hmI : (if (left : Int) < (if (12 : Int) < (L : Int) then 12 else (L : Int)) then (left : Int) else if (12 : Int) < (L : Int) then 12 else (L : Int)) = (m : Int) := by
          split <;> split <;> omega
        have hmR := fun w => run_min3 (P := Try.prog) #[3, 3, 3] 3 _ _ _ _ hmI w
        have HM := Lib.hid hm
        clear hm hmI
        go_wp2_with fail
        obtain ⟨wi, rfl⟩ : ∃ wi, wi = wr := ⟨_, rfl⟩
        have V0 : VRow wi wi.heap.size (.slice none 0 0) ((c.take 0).map dotV) := World.ownsRow_nil _ _ _ _
        go_loopw [27, 7] (fun s27 u wr => ∃ j : Nat, j ≤ m ∧ s27 = .int .i64 j ∧ Hid (VRow wr wi.heap.size u ((c.take j).map dotV)) ∧ Hid (Below wi.heap.size wi wr)) (fun i _ _ => m - (intOf i).toNat)
        case atStart => exact ⟨0, Nat.zero_le _, rfl, Lib.hid V0, Lib.hid (Below.refl _ _)⟩
        case round =>
          obtain ⟨j, hj, rfl, HV, HW⟩ := hrel
          clear V0 hac'
          have hLn := HLn.out
          by_cases hjm : j < m
          · obtain ⟨a1, rfl, ha1, x0, x1, x2, bx, bY⟩ := HD.out j (by omega)
            have kp : ∀ p : Addr, p.block = a1.block → wr.cell? p = w.cell? p := fun p hp => (HW.out.cell (by rw [hp]; omega)).trans (HB.out.cell (by rw [hp]; exact ha1))
            replace x0 := (kp _ (block_add _ _)).trans x0
            replace x1 := (kp _ (block_add _ _)).trans x1
            replace x2 := (kp _ (block_add _ _)).trans x2
            have hjb : decide ((j : Int) < m) = true := by simp; omega
            have hlen : ((c.take j).map dotV).length = j := by rw [List.length_map, List.length_take]; omega
            obtain ⟨d, hdd⟩ : ∃ d, d = c[j] := ⟨_, rfl⟩
            rw [← hdd] at x0 x1 x2 bx bY
            have HDJ : Hid (c[j]? = some d) := Lib.hid (by rw [hdd]; exact List.getElem?_eq_getElem _)
            obtain ⟨dx, dy, don⟩ := d
            simp only [] at x0 x1 x2 bx bY
            rw [add_spell _ _ _ (by omega)] at x1 x2
            clear hdd kp hLn
            obtain ⟨i0, hi0, hz0, hz1, hz2⟩ := infos vinfo
            have HVh := Lib.hid (HV.out.own hlen)
            have hnb : ((wr.alloc (.cells #[.int .i16 dx, .int .i16 dy, .bool don] 104)).alloc (.cells #[.int .i64 (dx.tmod 256), .int .i64 (dy.tmod 256), .bool don] 106)).heap[wr.heap.size + 1]? = some (.cells #[.int .i64 (dx.tmod 256), .int .i64 (dy.tmod 256), .bool don] 106 (0, 0)) := by
              exact heap_two _ _ _
            have HNB := Lib.hid hnb
            have hbz : wi.heap.size ≤ wr.heap.size := HW.out.size
            clear hnb HV
            go_wp2_with (at_builtin; refine wpList_append_lies _ rfl _ _ _ (by rfl) wi.heap.size 106 i0 _ 3 24 Try.underlying101 hi0 hz0 hz1 hz2 (by rfl) (by omega) _ j _ (by rfl) ((HVh.out.alloc _).alloc _) ⟨wr.heap.size + 1, 0, none⟩ 1 1 [.int .i64 (dx.tmod 256), .int .i64 (dy.tmod 256), .bool don] (by rfl) (by rfl) (World.news_of_block HNB.out) (by simp [Value.oneCell']) (by omega) (by simp [maxLen]; omega) (by omega) (by simp; omega) (wr.heap.size + 2) (by simp) ?_; intro g cp w1 hown hgrow hat hlt)
            have et := take_push c j _ HDJ.out
            have VN : VRow w1 wi.heap.size (.slice (some ⟨g, 0, none⟩) (j + 1) cp) ((c.take (j + 1)).map dotV) := by
              unfold VRow
              rw [et, List.map_append, List.map_cons, List.map_nil, vcells_push, List.length_append, hlen]
              exact hown
            have BN : Below wi.heap.size wi w1 := ((HW.out.alloc HW.out.size _).alloc (by simp; omega) _).grown hgrow (by simp; omega) (fun q hq => (HVh.out.lt q hq).1)
            exact ⟨⟨j + 1, by omega, by go_num, Lib.hid VN, Lib.hid BN⟩, by simp [intOf]; omega⟩
          · obtain rfl : j = m := by omega
            have hlen : ((c.take j).map dotV).length = j := by rw [List.length_map, List.length_take]; omega
            have hk8 : k ≤ 8 := by have := HK.out; omega
            have hstep : outS left ((cs.take 8).drop r) = if j = 0 then outS left ((cs.take 8).drop (r + 1)) else (c.take j).map dotV :: outS (left - j) ((cs.take 8).drop (r + 1)) := by
              rw [drop_push (cs.take 8) r c (by rw [List.getElem?_take_of_lt (by omega)]; exact HCr.out)]
              exact outS_step _ _ _ _ (by rw [HLn.out]; exact HM.out)
            have O1' := O1.out.keep HW.out
            have O2' := O2.out.keep HW.out
            have hsz' : w.heap.size + 2 ≤ wr.heap.size := Nat.le_trans hsz HW.out.size
            have BB : Hid (Below w.heap.size w wr) := Lib.hid (HB.out.trans (HW.out.mono HB.out.size))
            have HVh := Lib.hid (HV.out.own hlen)
            have hnx := HV.out
            clear HV hmR HM HLn HCr hrb hjm
            rcases HVh.out.2 with ⟨rfl, rfl⟩ | ⟨gu, capu, cur, rfl, hgu, -⟩
            · have HO' : Hid (outlineS cs = o ++ outS left ((cs.take 8).drop (r + 1))) := Lib.hid (by rw [HO.out, hstep, if_pos rfl])
              have HL' : Hid (Outl wr (w.heap.size + 2) v o) := Lib.hid (HL.out.below HW.out)
              clear hstep hnx
              go_wp2_with fail
              exact ⟨⟨r + 1, left, v, o, by omega, by go_num, rfl, hleft, by omega, HO', Lib.hid O1', Lib.hid O2', HL', hsz', BB⟩, by simp [intOf]; omega⟩
            · by_cases hj0 : j = 0
              · subst hj0
                have HO' : Hid (outlineS cs = o ++ outS left ((cs.take 8).drop (r + 1))) := Lib.hid (by rw [HO.out, hstep, if_pos rfl])
                have HL' : Hid (Outl wr (w.heap.size + 2) v o) := Lib.hid (HL.out.below HW.out)
                clear hstep hnx
                go_wp2_with fail
                exact ⟨⟨r + 1, left, v, o, by omega, by go_num, by go_num, hleft, by omega, HO', Lib.hid O1', Lib.hid O2', HL', hsz', BB⟩, by simp [intOf]; omega⟩
              · have HO' : Hid (outlineS cs = (o ++ [(c.take j).map dotV]) ++ outS (left - j) ((cs.take 8).drop (r + 1))) := Lib.hid (by rw [HO.out, hstep, if_neg hj0, List.append_assoc]; rfl)
                obtain ⟨vs, hOV⟩ := HL.out
                have HOV := Lib.hid hOV
                have hown0 := Lib.hid (own_blocks hOV.2.1 (w' := wr) fun g hg => HW.out.block g (hOV.2.1.lt g hg).2)
                obtain ⟨i0, hi0, hz0, hz1, hz2⟩ := infos rinfo
                obtain ⟨oc, of⟩ := id O1'
                have zO := O1'.lt
                have hnb : (wr.alloc (.cells #[.slice (some ⟨gu, 0, none⟩) j capu] 101)).heap[wr.heap.size]? = some (.cells #[.slice (some ⟨gu, 0, none⟩) j capu] 101 (0, 0)) := heap_alloc_new _ _
                have HNB := Lib.hid hnb
                have hj1 : (0 : Int) < j := by omega
                have HNX := Lib.hid hnx
                have hne1 : some (w.heap.size + 1) ≠ v.ownBlock := fun e => by have := (hown0.out.lt _ e.symm).1; omega
                have hne2 : some w.heap.size ≠ v.ownBlock := fun e => by have := (hown0.out.lt _ e.symm).1; omega
                have HA1 := Lib.hid (O1'.alloc (.cells #[.slice (some ⟨gu, 0, none⟩) j capu] 101))
                have HA2 := Lib.hid (O2'.alloc (.cells #[.slice (some ⟨gu, 0, none⟩) j capu] 101))
                clear hstep hnx hnb hOV O2'
                go_wp2_with (at_builtin; refine wpList_append_lies _ rfl _ _ _ (by rfl) (w.heap.size + 2) 101 i0 _ 1 24 Try.underlying66 hi0 hz0 hz1 hz2 (by rfl) (by omega) _ o.length _ (by rfl) (hown0.out.alloc _) ⟨wr.heap.size, 0, none⟩ 1 1 [.slice (some ⟨gu, 0, none⟩) j capu] (by rfl) (by rfl) (World.news_of_block HNB.out) (by simp [Value.oneCell']) (by omega) (by simp [maxLen]; omega) (by omega) (by simp; omega) (wr.heap.size + 1) (by simp) ?_; intro g cp w1 hown hgrow hat hlt; have O1n := HA1.out.grown hgrow hne1; have O2n := HA2.out.grown hgrow hne2; have oc1 := O1n.1; have of1 := O1n.2; have oz1 := O1n.lt)
                have hcne : (c.take j).map dotV ≠ [] := fun e => hj0 (by rw [← hlen, e]; rfl)
                have BX : Below wi.heap.size wi (wr.alloc (.cells #[.slice (some ⟨gu, 0, none⟩) j capu] 101)) := HW.out.alloc HW.out.size _
                have VX : VRow (wr.alloc (.cells #[.slice (some ⟨gu, 0, none⟩) j capu] 101)) wi.heap.size (.slice (some ⟨gu, 0, none⟩) j capu) ((c.take j).map dotV) := World.ownsRow.alloc HNX.out _
                have LP := Outl.push HOV.out hsz BX VX hcne hgrow (v1 := .slice (some ⟨g, 0, none⟩) (o.length + 1) cp) (by
                  rcases hat with e | e
                  · exact .inl e.symm
                  · exact .inr ⟨g, rfl, by rw [e]; simp⟩) hown
                have LS := LP.set (p := ⟨w.heap.size + 1, 0, none⟩) (Nat.lt_succ_self _) (.slice (some ⟨g, 0, none⟩) (o.length + 1) cp)
                have BN := ((BB.out.alloc BB.out.size _).grown hgrow (by have := BB.out.size; simp; omega) (fun q hq => by have := (hown0.out.lt q hq).1; omega)).setCell (p := ⟨w.heap.size + 1, 0, none⟩) (Nat.le_succ _) (.slice (some ⟨g, 0, none⟩) (o.length + 1) cp)
                have hzz : w.heap.size + 2 ≤ w1.heap.size := by have := hgrow.size; simp at this; omega
                exact ⟨⟨r + 1, left - j, .slice (some ⟨g, 0, none⟩) (o.length + 1) cp, o ++ [(c.take j).map dotV], by omega, by go_num, by rw [Int.natCast_sub (by omega)], by omega, by simp; omega, HO', Lib.hid (O1n.set _ (by simp [of1])), Lib.hid (O2n.other _ (by omega)), Lib.hid LS, by simpa using hzz, Lib.hid BN⟩, by simp [intOf]; omega⟩
      · obtain rfl : r = k := by omega
        have HF : outlineS cs = o := by
          have h8 : (cs.take 8).drop r = [] := List.drop_eq_nil_of_le (by rw [List.length_take]; omega)
          rw [HO.out, h8]; simp [outS]
        clear HO hk
        obtain ⟨oc, of⟩ := O1.out
        obtain ⟨rc, rf⟩ := O2.out
        have zO := O1.out.lt
        have zR := O2.out.lt
        obtain ⟨A9, cap9, rfl⟩ := HL.out.form
        go_wp2_with fail
        have LF := (HL.out.set (p := ⟨w.heap.size, 0, none⟩) (Nat.lt_add_of_pos_right (by omega)) (.slice A9 o.length cap9)).mono (Nat.le_add_right w.heap.size 2)
        have BF := HB.out.setCell (p := ⟨w.heap.size, 0, none⟩) (Nat.le_refl _) (.slice A9 o.length cap9)
        have cF : (wr.setCell ⟨w.heap.size, 0, none⟩ (.slice A9 o.length cap9)).cell? ⟨w.heap.size, 0, none⟩ = some (.slice A9 o.length cap9) := World.cell?_setCell_same _ _ _ rc
        exact bodyPost_ret (v := .agg #[.slice A9 o.length cap9]) (by simp [results, Try.results28, go_sem, cF]) rfl ⟨_, rfl, by rw [HF]; exact LF, BF⟩

end Go.Proofs.Yteiildeaccngjaa

namespace Go.Proofs.Yteiildeaccngjaa
open Go.RowKit

/-- A contour in memory, nil let in; an outline. -/
def VRd (w : World) (v : Value) (c : List Vtx) : Prop :=
  ∃ A cap, v = .slice A c.length cap ∧ c.length ≤ cap ∧ ∀ i (h : i < c.length), ∃ a, A = some a ∧ a.block < w.heap.size ∧ w.cell? (a.add (i * 3)) = some (.int .i64 (c[i]).x) ∧ w.cell? (a.add (i * 3 + 1)) = some (.int .i64 (c[i]).y) ∧ w.cell? (a.add (i * 3 + 2)) = some (.bool (c[i]).on)
def ORd (w : World) (v : Value) (o : List (List Vtx)) : Prop :=
  ∃ A cap, v = .slice A o.length cap ∧ o.length ≤ cap ∧ ∀ r (h : r < o.length), ∃ a u, A = some a ∧ a.block < w.heap.size ∧ w.cell? (a.add r) = some u ∧ VRd w u (o[r])
theorem VRd.keep {w w' : World} {v : Value} {c : List Vtx} (h : VRd w v c) (hb : Below w.heap.size w w') : VRd w' v c := by
  obtain ⟨A, cap, e, h1, h3⟩ := h
  refine ⟨A, cap, e, h1, fun i hi => ?_⟩
  obtain ⟨a, ha, hlt, c0, c1, c2⟩ := h3 i hi
  exact ⟨a, ha, Nat.lt_of_lt_of_le hlt hb.size, by rw [hb.cell (by rw [block_add]; exact hlt)]; exact c0, by rw [hb.cell (by rw [block_add]; exact hlt)]; exact c1, by rw [hb.cell (by rw [block_add]; exact hlt)]; exact c2⟩
theorem ORd.keep {w w' : World} {v : Value} {o : List (List Vtx)} (h : ORd w v o) (hb : Below w.heap.size w w') : ORd w' v o := by
  obtain ⟨A, cap, e, h1, h3⟩ := h
  refine ⟨A, cap, e, h1, fun r hr => ?_⟩
  obtain ⟨a, u, ha, hlt, c, d⟩ := h3 r hr
  exact ⟨a, u, ha, Nat.lt_of_lt_of_le hlt hb.size, by rw [hb.cell (by rw [block_add]; exact hlt)]; exact c, d.keep hb⟩

theorem vcells_at : ∀ (c : List Vtx) (i : Nat) (h : i < c.length), (vcells c)[i * 3]? = some (.int .i64 (c[i]).x) ∧ (vcells c)[i * 3 + 1]? = some (.int .i64 (c[i]).y) ∧ (vcells c)[i * 3 + 2]? = some (.bool (c[i]).on)
  | v :: c, 0, _ => ⟨rfl, rfl, rfl⟩
  | v :: c, i + 1, h => by
    obtain ⟨a, b, d⟩ := vcells_at c i (by simpa using h)
    have e : vcells (v :: c) = .int .i64 v.x :: .int .i64 v.y :: .bool v.on :: vcells c := by simp [vcells]
    rw [e, show (i + 1) * 3 = i * 3 + 1 + 1 + 1 by omega]
    exact ⟨a, b, d⟩
theorem VRow.read {w : World} {base : Nat} {u : Value} {c : List Vtx} (h : VRow w base u c) : VRd w u c := by
  rcases h.2 with ⟨rfl, h0⟩ | ⟨g, cap, cur, rfl, _, hg, hl, _, _, _⟩
  · have : c = [] := List.eq_nil_of_length_eq_zero h0
    subst this
    exact ⟨none, 0, rfl, Nat.le_refl _, fun i hi => absurd hi (Nat.not_lt_zero _)⟩
  · refine ⟨_, cap, rfl, hl, fun i hi => ⟨_, rfl, (World.ownsRow.lt h g rfl).2, ?_⟩⟩
    obtain ⟨a, b, d⟩ := vcells_at c i hi
    exact ⟨World.ownsRow.cells h rfl _ _ a, World.ownsRow.cells h rfl _ _ b, World.ownsRow.cells h rfl _ _ d⟩
theorem Outl.read {w : World} {base : Nat} {v : Value} {o : List (List Vtx)} (h : Outl w base v o) : ORd w v o := by
  obtain ⟨vs, e, h1, h2, _⟩ := h
  have h1' := h1
  rcases h1.2 with ⟨rfl, h0⟩ | ⟨g, cap, cur, rfl, _, hg, hl, _, _, _⟩
  · have : o = [] := List.eq_nil_of_length_eq_zero h0
    subst this
    exact ⟨none, 0, rfl, Nat.le_refl _, fun i hi => absurd hi (Nat.not_lt_zero _)⟩
  · refine ⟨_, cap, rfl, hl, fun r hr => ⟨_, vs[r], rfl, (h1'.lt g rfl).2, ?_, (h2 r hr (by omega)).1.read⟩⟩
    exact h1'.cells rfl r _ (List.getElem?_eq_getElem (by omega))

theorem any_push (c : List Vtx) (i : Nat) (v : Vtx) (h : c[i]? = some v) (h0 : (c.take i).any badV = false) (hv : badV v = false) : (c.take (i + 1)).any badV = false := by
  rw [take_push c i v h, List.any_append, h0]
  simp [hv]
theorem any_bad (c : List Vtx) (i : Nat) (v : Vtx) (h : c[i]? = some v) (hv : badV v = true) : c.any badV = true := by
  obtain ⟨hi, rfl⟩ := List.getElem?_eq_some_iff.1 h
  exact List.any_eq_true.2 ⟨_, List.getElem_mem hi, hv⟩

theorem ne_of_at {α : Type} {a b : List α} {i : Nat} {x y : α} (hx : a[i]? = some x) (hy : b[i]? = some y) (h : x ≠ y) : a ≠ b := fun e => by
  subst e; rw [hx] at hy; injection hy with hy; exact h hy
theorem take_eq_push {α : Type} {a b : List α} {i : Nat} {x : α} (h : a.take i = b.take i) (hx : a[i]? = some x) (hy : b[i]? = some x) : a.take (i + 1) = b.take (i + 1) := by
  rw [take_push a i x hx, take_push b i x hy, h]

theorem keepc {W w' : World} (hb : Below W.heap.size W w') {a : Addr} {v : Value} (h : W.cell? a = some v) : w'.cell? a = some v := by rw [hb.cell (World.block_lt_of_cell? W a h)]; exact h
theorem belowDN {B : Nat} {a w : World} (h : Below B a w) (k : Nat) : Below B a (w.drewN k) := ⟨h.os, h.tape, h.output, h.size, h.block⟩
theorem One.drewN {w : World} {g : Nat} {v : Value} (h : One w g v) (k : Nat) : One (w.drewN k) g v := ⟨h.1, h.2⟩

end Go.Proofs.Yteiildeaccngjaa

namespace Go.Proofs.Yteiildeaccngjaa
open Go.RowKit

/-- A piece's cells; a row of pieces that is ours, one that is read. -/
def scell (s : Sg) : List Value := [.int .i64 s.a.x, .int .i64 s.a.y, .int .i64 s.b.x, .int .i64 s.b.y, .int .i64 s.c.x, .int .i64 s.c.y, .bool s.curve]
def scells (l : List Sg) : List Value := l.flatMap scell
theorem scells_length : ∀ l : List Sg, (scells l).length = l.length * 7
  | [] => rfl
  | s :: l => by
    have := scells_length l
    unfold scells at *
    simp only [List.flatMap_cons, List.length_append, List.length_cons, this]
    simp [scell]
    omega
theorem scells_push (l : List Sg) (s : Sg) : scells (l ++ [s]) = scells l ++ scell s := by simp [scells]
def SRow (w : World) (base : Nat) (u : Value) (l : List Sg) : Prop := w.ownsRow base 119 7 u l.length (scells l)
def SAt (w : World) (a : Addr) (i : Nat) (s : Sg) : Prop :=
  w.cell? (a.add (i * 7)) = some (.int .i64 s.a.x) ∧ w.cell? (a.add (i * 7 + 1)) = some (.int .i64 s.a.y) ∧ w.cell? (a.add (i * 7 + 2)) = some (.int .i64 s.b.x) ∧ w.cell? (a.add (i * 7 + 3)) = some (.int .i64 s.b.y) ∧ w.cell? (a.add (i * 7 + 4)) = some (.int .i64 s.c.x) ∧ w.cell? (a.add (i * 7 + 5)) = some (.int .i64 s.c.y) ∧ w.cell? (a.add (i * 7 + 6)) = some (.bool s.curve)
def SRd (w : World) (v : Value) (l : List Sg) : Prop :=
  ∃ A cap, v = .slice A l.length cap ∧ l.length ≤ cap ∧ ∀ i (h : i < l.length), ∃ a, A = some a ∧ a.block < w.heap.size ∧ SAt w a i (l[i])
theorem SAt.keep {w w' : World} {a : Addr} {i : Nat} {s : Sg} (h : SAt w a i s) (hl : a.block < w.heap.size) (hb : Below w.heap.size w w') : SAt w' a i s := by
  obtain ⟨h0, h1, h2, h3, h4, h5, h6⟩ := h
  have k : ∀ j, w'.cell? (a.add j) = w.cell? (a.add j) := fun j => hb.cell (by rw [block_add]; exact hl)
  exact ⟨(k _).trans h0, (k _).trans h1, (k _).trans h2, (k _).trans h3, (k _).trans h4, (k _).trans h5, (k _).trans h6⟩
theorem SRd.keep {w w' : World} {v : Value} {l : List Sg} (h : SRd w v l) (hb : Below w.heap.size w w') : SRd w' v l := by
  obtain ⟨A, cap, e, h1, h3⟩ := h
  refine ⟨A, cap, e, h1, fun i hi => ?_⟩
  obtain ⟨a, ha, hlt, h⟩ := h3 i hi
  exact ⟨a, ha, Nat.lt_of_lt_of_le hlt hb.size, h.keep hlt hb⟩
theorem scells_at : ∀ (l : List Sg) (i j : Nat) (h : i < l.length), j < 7 → (scells l)[i * 7 + j]? = (scell (l[i]))[j]?
  | s :: l, 0, j, _, hj => by
    have e : scells (s :: l) = scell s ++ scells l := by simp [scells]
    rw [e, Nat.zero_mul, Nat.zero_add, List.getElem?_append_left (by simp [scell]; omega)]
    rfl
  | s :: l, i + 1, j, h, hj => by
    have e : scells (s :: l) = scell s ++ scells l := by simp [scells]
    rw [e, List.getElem?_append_right (by simp [scell]; omega)]
    have := scells_at l i j (by simpa using h) hj
    rw [show (i + 1) * 7 + j - (scell s).length = i * 7 + j by simp [scell]; omega, this]
    rfl
theorem SRow.read {w : World} {base : Nat} {u : Value} {l : List Sg} (h : SRow w base u l) : SRd w u l := by
  rcases h.2 with ⟨rfl, h0⟩ | ⟨g, cap, cur, rfl, _, hg, hl, _, _, _⟩
  · have : l = [] := List.eq_nil_of_length_eq_zero h0
    subst this
    exact ⟨none, 0, rfl, Nat.le_refl _, fun i hi => absurd hi (Nat.not_lt_zero _)⟩
  · refine ⟨_, cap, rfl, hl, fun i hi => ⟨_, rfl, (World.ownsRow.lt h g rfl).2, ?_⟩⟩
    have k := fun j hj => scells_at l i j hi hj
    exact ⟨World.ownsRow.cells h rfl _ _ (k 0 (by omega)), World.ownsRow.cells h rfl _ _ (k 1 (by omega)), World.ownsRow.cells h rfl _ _ (k 2 (by omega)), World.ownsRow.cells h rfl _ _ (k 3 (by omega)), World.ownsRow.cells h rfl _ _ (k 4 (by omega)), World.ownsRow.cells h rfl _ _ (k 5 (by omega)), World.ownsRow.cells h rfl _ _ (k 6 (by omega))⟩
theorem SRow.below {w w' : World} {base : Nat} {u : Value} {l : List Sg} (h : SRow w base u l) (hb : Below w.heap.size w w') : SRow w' base u l :=
  own_blocks h fun g hg => hb.block g (h.lt g hg).2
theorem SRow.own {w : World} {base : Nat} {u : Value} {l : List Sg} {j : Nat} (h : SRow w base u l) (hl : l.length = j) : w.ownsRow base 119 7 u j (scells l) := hl ▸ h
theorem sinfo : (Try.prog.info? 119).map (fun i => (i.zero, i.size, i.bytes)) = some (some (.agg #[.int .i64 0, .int .i64 0, .int .i64 0, .int .i64 0, .int .i64 0, .int .i64 0, .bool false]), 7, 56) := by kernel_rfl

end Go.Proofs.Yteiildeaccngjaa

namespace Go.Proofs.Yteiildeaccngjaa
open Go.RowKit

/-- An edge's cells; a row of edges that is ours, one that is read. -/
def ecell (s : Ed) : List Value := [.int .i64 s.a.x, .int .i64 s.a.y, .int .i64 s.b.x, .int .i64 s.b.y]
def ecells (l : List Ed) : List Value := l.flatMap ecell
theorem ecells_length : ∀ l : List Ed, (ecells l).length = l.length * 4
  | [] => rfl
  | s :: l => by
    have := ecells_length l
    unfold ecells at *
    simp only [List.flatMap_cons, List.length_append, List.length_cons, this]
    simp [ecell]
    omega
theorem ecells_push (l : List Ed) (s : Ed) : ecells (l ++ [s]) = ecells l ++ ecell s := by simp [ecells]
theorem ecells_append (l m : List Ed) : ecells (l ++ m) = ecells l ++ ecells m := by simp [ecells]
theorem ecells_one : ∀ (l : List Ed), ∀ u ∈ ecells l, u.oneCell' = true := by
  intro l u hu
  unfold ecells at hu
  rw [List.mem_flatMap] at hu
  obtain ⟨s, _, hs⟩ := hu
  simp only [ecell, List.mem_cons, List.not_mem_nil, or_false] at hs
  rcases hs with rfl | rfl | rfl | rfl <;> rfl
def ERow (w : World) (base : Nat) (u : Value) (l : List Ed) : Prop := w.ownsRow base 50 4 u l.length (ecells l)
def EAt (w : World) (a : Addr) (i : Nat) (s : Ed) : Prop :=
  w.cell? (a.add (i * 4)) = some (.int .i64 s.a.x) ∧ w.cell? (a.add (i * 4 + 1)) = some (.int .i64 s.a.y) ∧ w.cell? (a.add (i * 4 + 2)) = some (.int .i64 s.b.x) ∧ w.cell? (a.add (i * 4 + 3)) = some (.int .i64 s.b.y)
def ERd (w : World) (v : Value) (l : List Ed) : Prop :=
  ∃ A cap, v = .slice A l.length cap ∧ l.length ≤ cap ∧ ∀ i (h : i < l.length), ∃ a, A = some a ∧ a.block < w.heap.size ∧ EAt w a i (l[i])
theorem EAt.keep {w w' : World} {a : Addr} {i : Nat} {s : Ed} (h : EAt w a i s) (hl : a.block < w.heap.size) (hb : Below w.heap.size w w') : EAt w' a i s := by
  obtain ⟨h0, h1, h2, h3⟩ := h
  have k : ∀ j, w'.cell? (a.add j) = w.cell? (a.add j) := fun j => hb.cell (by rw [block_add]; exact hl)
  exact ⟨(k _).trans h0, (k _).trans h1, (k _).trans h2, (k _).trans h3⟩
theorem ERd.keep {w w' : World} {v : Value} {l : List Ed} (h : ERd w v l) (hb : Below w.heap.size w w') : ERd w' v l := by
  obtain ⟨A, cap, e, h1, h3⟩ := h
  refine ⟨A, cap, e, h1, fun i hi => ?_⟩
  obtain ⟨a, ha, hlt, h⟩ := h3 i hi
  exact ⟨a, ha, Nat.lt_of_lt_of_le hlt hb.size, h.keep hlt hb⟩
theorem ERd.nil (w : World) : ERd w (.slice none 0 0) [] := ⟨none, 0, rfl, Nat.le_refl _, fun _ hi => absurd hi (Nat.not_lt_zero _)⟩
theorem ecells_at : ∀ (l : List Ed) (i j : Nat) (h : i < l.length), j < 4 → (ecells l)[i * 4 + j]? = (ecell (l[i]))[j]?
  | s :: l, 0, j, _, hj => by
    have e : ecells (s :: l) = ecell s ++ ecells l := by simp [ecells]
    rw [e, Nat.zero_mul, Nat.zero_add, List.getElem?_append_left (by simp [ecell]; omega)]
    rfl
  | s :: l, i + 1, j, h, hj => by
    have e : ecells (s :: l) = ecell s ++ ecells l := by simp [ecells]
    rw [e, List.getElem?_append_right (by simp [ecell]; omega)]
    have := ecells_at l i j (by simpa using h) hj
    rw [show (i + 1) * 4 + j - (ecell s).length = i * 4 + j by simp [ecell]; omega, this]
    rfl
theorem ERow.read {w : World} {base : Nat} {u : Value} {l : List Ed} (h : ERow w base u l) : ERd w u l := by
  rcases h.2 with ⟨rfl, h0⟩ | ⟨g, cap, cur, rfl, _, hg, hl, _, _, _⟩
  · have : l = [] := List.eq_nil_of_length_eq_zero h0
    subst this
    exact ⟨none, 0, rfl, Nat.le_refl _, fun i hi => absurd hi (Nat.not_lt_zero _)⟩
  · refine ⟨_, cap, rfl, hl, fun i hi => ⟨_, rfl, (World.ownsRow.lt h g rfl).2, ?_⟩⟩
    have k := fun j hj => ecells_at l i j hi hj
    exact ⟨World.ownsRow.cells h rfl _ _ (k 0 (by omega)), World.ownsRow.cells h rfl _ _ (k 1 (by omega)), World.ownsRow.cells h rfl _ _ (k 2 (by omega)), World.ownsRow.cells h rfl _ _ (k 3 (by omega))⟩
theorem ERow.below {w w' : World} {base : Nat} {u : Value} {l : List Ed} (h : ERow w base u l) (hb : Below w.heap.size w w') : ERow w' base u l :=
  own_blocks h fun g hg => hb.block g (h.lt g hg).2
theorem ERow.own {w : World} {base : Nat} {u : Value} {l : List Ed} {j : Nat} (h : ERow w base u l) (hl : l.length = j) : w.ownsRow base 50 4 u j (ecells l) := hl ▸ h
theorem ERow.heap {w w' : World} {base : Nat} {u : Value} {l : List Ed} (h : ERow w base u l) (hb : ∀ k, base ≤ k → k < w.heap.size → w'.heap[k]? = w.heap[k]?) : ERow w' base u l :=
  own_blocks h fun g hg => hb g (World.ownsRow.lt h g hg).1 (World.ownsRow.lt h g hg).2
theorem ERow.set {w : World} {base : Nat} {u : Value} {l : List Ed} (h : ERow w base u l) {p : Addr} (hp : p.block < base) (x : Value) : ERow (w.setCell p x) base u l := h.heap fun k hk _ => heap_set w p x k (by omega)
theorem ERow.alloc {w : World} {base : Nat} {u : Value} {l : List Ed} (h : ERow w base u l) (o : Obj) : ERow (w.alloc o) base u l := h.below ((Below.refl _ w).alloc (Nat.le_refl _) o)
theorem ERow.form {w : World} {base : Nat} {u : Value} {l : List Ed} (h : ERow w base u l) : ∃ A cap, u = .slice A l.length cap := own_form h
theorem ERow.nil (w : World) (base : Nat) : ERow w base (.slice none 0 0) [] := World.ownsRow_nil _ _ _ _
theorem ERow.mono {w : World} {base b : Nat} {u : Value} {l : List Ed} (h : ERow w base u l) (hb : b ≤ base) : ERow w b u l := World.ownsRow.mono h hb
theorem einfo : (Try.prog.info? 50).map (fun i => (i.zero, i.size, i.bytes)) = some (some (.agg #[.int .i64 0, .int .i64 0, .int .i64 0, .int .i64 0]), 4, 32) := by kernel_rfl
/-- An edge that is read, in the walk's spelling. -/
abbrev EAtS (w : World) (a : Addr) (i : Nat) (s0 s1 s2 s3 : Int) : Prop :=
  w.cell? (a.add (i * 4)) = some (.int .i64 s0) ∧ w.cell? ⟨(a.add (i * 4)).block, (a.add (i * 4)).off + 1, none⟩ = some (.int .i64 s1) ∧ w.cell? ⟨(a.add (i * 4)).block, (a.add (i * 4)).off + 2, none⟩ = some (.int .i64 s2) ∧ w.cell? ⟨(a.add (i * 4)).block, (a.add (i * 4)).off + 3, none⟩ = some (.int .i64 s3)
theorem ERd.at {w : World} {A : Option Addr} {n cap : Nat} {l : List Ed} (h : ERd w (.slice A n cap) l) (i : Nat) (s : Ed) (hs : l[i]? = some s) : ∃ a, A = some a ∧ a.block < w.heap.size ∧ EAtS w a i s.a.x s.a.y s.b.x s.b.y := by
  obtain ⟨A', cap', e, _, h3⟩ := h
  simp only [Value.slice.injEq] at e
  obtain ⟨rfl, -, -⟩ := e
  obtain ⟨hi, rfl⟩ := List.getElem?_eq_some_iff.1 hs
  obtain ⟨a, ha, hlt, p0, p1, p2, p3⟩ := h3 i hi
  rw [add_spell _ _ _ (by omega)] at p1 p2 p3
  exact ⟨a, ha, hlt, p0, p1, p2, p3⟩

end Go.Proofs.Yteiildeaccngjaa
