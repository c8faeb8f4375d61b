/-
  Rows of steps, of bytes that are read, and of bytes that are appended to (no claim is made here).
-/
import Derived.Test.YtgkhpnjfpahlgaaPStp
namespace Go.Proofs.Ytgkhpnjfpahlgaa
open Go.RowKit

/-- A step as the program holds it. -/
structure St where
  f : Nat
  x : Int
  y : Int
def stepsL : Int → Int → List Vtx → List St
  | _, _, [] => []
  | x, y, v :: vs => ⟨flagV (v.x - x) (v.y - y) v.on, v.x - x, v.y - y⟩ :: stepsL v.x v.y vs
theorem stepsL_snoc : ∀ (a : List Vtx) (x y : Int) (v : Vtx), stepsL x y (a ++ [v]) = stepsL x y a ++ [⟨flagV (v.x - (lastOf x y a).1) (v.y - (lastOf x y a).2) v.on, v.x - (lastOf x y a).1, v.y - (lastOf x y a).2⟩]
  | [], _, _, _ => rfl
  | u :: a, x, y, v => by simp only [List.cons_append, stepsL, lastOf]; rw [stepsL_snoc a]
theorem stepsL_flags : ∀ (a : List Vtx) (x y : Int), (stepsL x y a).map St.f = flagsV x y a
  | [], _, _ => rfl
  | u :: a, x, y => by simp [stepsL, flagsV, stepsL_flags a]
theorem stepsL_bytes : ∀ (a : List Vtx) (x y : Int), (stepsL x y a).flatMap (fun s => stepB s.x ++ stepB s.y) = stepsV x y a
  | [], _, _ => rfl
  | u :: a, x, y => by simp [stepsL, stepsV, stepsL_bytes a]
theorem stepsL_length : ∀ (a : List Vtx) (x y : Int), (stepsL x y a).length = a.length
  | [], _, _ => rfl
  | u :: a, x, y => by simp [stepsL, stepsL_length a]
/-- A step's flag tells of its coordinates, which are small. -/
def okSt (s : St) : Prop := s.f < 8 ∧ decide (s.f / 2 % 2 = 1) = far s.x ∧ decide (s.f / 4 % 2 = 1) = far s.y ∧ (-510 ≤ s.x ∧ s.x ≤ 510) ∧ -510 ≤ s.y ∧ s.y ≤ 510
theorem stepsL_ok : ∀ (a : List Vtx) (x y : Int), (-255 ≤ x ∧ x ≤ 255) → (-255 ≤ y ∧ y ≤ 255) → (∀ v ∈ a, inV v) → ∀ s ∈ stepsL x y a, okSt s
  | [], _, _, _, _, _, s, h => by cases h
  | u :: a, x, y, hx, hy, hv, s, h => by
    have hu := hv u (List.mem_cons_self ..)
    rcases List.mem_cons.1 h with rfl | h
    · obtain ⟨⟨a1, a2⟩, a3, a4⟩ := hu
      exact ⟨flagV_lt _ _ _, flagV_x _ _ _, flagV_y _ _ _, ⟨by simp only []; omega, by simp only []; omega⟩, by simp only []; omega, by simp only []; omega⟩
    · exact stepsL_ok a u.x u.y hu.1 hu.2 (fun v h => hv v (List.mem_cons_of_mem _ h)) s h

def scells (c : List St) : List Value := c.flatMap fun s => [.int .u8 (s.f : Int), .int .i64 s.x, .int .i64 s.y]
theorem scells_push (c : List St) (s : St) : scells (c ++ [s]) = scells c ++ [.int .u8 (s.f : Int), .int .i64 s.x, .int .i64 s.y] := by simp [scells]
theorem scells_at : ∀ (c : List St) (i : Nat) (h : i < c.length), (scells c)[i * 3]? = some (.int .u8 (c[i]).f) ∧ (scells c)[i * 3 + 1]? = some (.int .i64 (c[i]).x) ∧ (scells c)[i * 3 + 2]? = some (.int .i64 (c[i]).y)
  | v :: c, 0, _ => ⟨rfl, rfl, rfl⟩
  | v :: c, i + 1, h => by
    obtain ⟨a, b, d⟩ := scells_at c i (by simpa using h)
    have e : scells (v :: c) = .int .u8 (v.f : Int) :: .int .i64 v.x :: .int .i64 v.y :: scells c := by simp [scells]
    rw [e, show (i + 1) * 3 = i * 3 + 1 + 1 + 1 by omega]
    exact ⟨a, b, d⟩
def SRow (w : World) (base : Nat) (u : Value) (c : List St) : Prop := w.ownsRow base 59 3 u c.length (scells c)
theorem SRow.own {w : World} {base : Nat} {u : Value} {c : List St} {j : Nat} (h : SRow w base u c) (hl : c.length = j) : w.ownsRow base 59 3 u j (scells c) := hl ▸ h
theorem SRow.below {w w' : World} {base : Nat} {u : Value} {c : List St} (h : SRow w base u c) (hb : Below w.heap.size w w') : SRow w' base u c :=
  own_blocks h fun g hg => hb.block g (World.ownsRow.lt h g hg).2
/-- Steps that are read. -/
def SRd (w : World) (v : Value) (c : List St) : Prop :=
  ∃ A cap, v = .slice A c.length cap ∧ c.length ≤ cap ∧ ∀ i (h : i < c.length), ∃ a, A = some a ∧ a.block < w.heap.size ∧ w.cell? (a.add (i * 3)) = some (.int .u8 (c[i]).f) ∧ w.cell? (a.add (i * 3 + 1)) = some (.int .i64 (c[i]).x) ∧ w.cell? (a.add (i * 3 + 2)) = some (.int .i64 (c[i]).y)
theorem SRow.read {w : World} {base : Nat} {u : Value} {c : List St} (h : SRow w base u c) : SRd w u c := by
  rcases h.2 with ⟨rfl, h0⟩ | ⟨g, cap, cur, rfl, _, hg, hl, _, _, _⟩
  · have : c = [] := List.eq_nil_of_length_eq_zero h0
    subst this
    exact ⟨none, 0, rfl, Nat.le_refl _, fun i hi => absurd hi (Nat.not_lt_zero _)⟩
  · refine ⟨_, cap, rfl, hl, fun i hi => ⟨_, rfl, (World.ownsRow.lt h g rfl).2, ?_⟩⟩
    obtain ⟨a, b, d⟩ := scells_at c i hi
    exact ⟨World.ownsRow.cells h rfl _ _ a, World.ownsRow.cells h rfl _ _ b, World.ownsRow.cells h rfl _ _ d⟩
theorem SRd.blocks {w w' : World} {v : Value} {c : List St} (h : SRd w v c) (hz : w.heap.size ≤ w'.heap.size) (hb : ∀ g, v.ownBlock = some g → g < w.heap.size → w'.heap[g]? = w.heap[g]?) : SRd w' v c := by
  obtain ⟨A, cap, rfl, h1, h3⟩ := h
  refine ⟨A, cap, rfl, h1, fun i hi => ?_⟩
  obtain ⟨a, rfl, hlt, c0, c1, c2⟩ := h3 i hi
  have e := hb a.block rfl hlt
  have k : ∀ n, w'.cell? (a.add n) = w.cell? (a.add n) := fun n => World.cell?_of_block (a := a.add n) (by rw [block_add]; exact e)
  exact ⟨a, rfl, by omega, (k _).trans c0, (k _).trans c1, (k _).trans c2⟩
theorem SRd.keep {w w' : World} {v : Value} {c : List St} (h : SRd w v c) (hb : Below w.heap.size w w') : SRd w' v c := h.blocks hb.size fun g _ hg => hb.block g hg
theorem SRd.grown {w w' : World} {v : Value} {c : List St} {row : Option Nat} (h : SRd w v c) (hg : w.grownBy w' row) (hne : v.ownBlock = none ∨ v.ownBlock ≠ row) : SRd w' v c :=
  h.blocks hg.size fun g hv hlt => hg.block g hlt (fun e => by
    rcases hne with h | h
    · rw [hv] at h; cases h
    · exact h (hv.trans e))
theorem add_add (a : Addr) (i j : Nat) : (a.add i).add j = a.add (i + j) := by
  unfold Addr.add
  by_cases hi : i = 0 <;> by_cases hj : j = 0 <;> simp [hi, hj, Nat.add_assoc]
theorem SRd.drop {w : World} {a : Addr} {n cap : Nat} {c : List St} (h : SRd w (.slice (some a) n cap) c) (k : Nat) (hk : k ≤ c.length) : SRd w (.slice (some (a.add (k * 3))) (n - k) (cap - k)) (c.drop k) := by
  obtain ⟨A, cap', e, h1, h3⟩ := h
  injection e with e1 e2 e3
  subst e1 e3
  refine ⟨some (a.add (k * 3)), cap - k, ?_, ?_, fun i hi => ?_⟩
  · rw [List.length_drop, e2]
  · rw [List.length_drop]; omega
  · rw [List.length_drop] at hi
    obtain ⟨a', ha, hlt, c0, c1, c2⟩ := h3 (k + i) (by omega)
    injection ha with ha
    subst ha
    have em : ∀ m, k * 3 + (i * 3 + m) = (k + i) * 3 + m := fun m => by omega
    refine ⟨_, rfl, by rw [block_add]; exact hlt, ?_, ?_, ?_⟩
    · rw [add_add, List.getElem_drop, show k * 3 + i * 3 = (k + i) * 3 by omega]; exact c0
    · rw [add_add, List.getElem_drop, em]; exact c1
    · rw [add_add, List.getElem_drop, em]; exact c2

theorem Thr.lt {w : World} {g : Nat} {a b c : Value} (h : Thr w g a b c) : g < w.heap.size := World.block_lt_of_cell? w _ h.1.1
theorem Thr.block {w w' : World} {g : Nat} {a b c : Value} (h : Thr w g a b c) (hb : w'.heap[g]? = w.heap[g]?) : Thr w' g a b c :=
  ⟨⟨(World.cell?_of_block (a := ⟨g, 0, none⟩) hb).trans h.1.1, (World.cell?_of_block (a := ⟨g, 1, none⟩) hb).trans h.1.2.1, (World.cell?_of_block (a := ⟨g, 2, none⟩) hb).trans h.1.2.2⟩,
   (World.frozen?_of_block (a := ⟨g, 0, none⟩) hb).trans h.2.1, (World.frozen?_of_block (a := ⟨g, 1, none⟩) hb).trans h.2.2.1, (World.frozen?_of_block (a := ⟨g, 2, none⟩) hb).trans h.2.2.2⟩
theorem Thr.keep {w w' : World} {g : Nat} {a b c : Value} (h : Thr w g a b c) (hb : Below w.heap.size w w') : Thr w' g a b c := h.block (hb.block g h.lt)
theorem Thr.alloc {w : World} {g : Nat} {a b c : Value} (h : Thr w g a b c) (o : Obj) : Thr (w.alloc o) g a b c := h.keep ((Below.refl _ w).alloc (Nat.le_refl _) o)
theorem Thr.new {w : World} {g : Nat} (a b c : Value) (t : TypeId) (h : g = w.heap.size) : Thr (w.alloc (.cells #[a, b, c] t)) g a b c := by
  subst h; exact ⟨⟨by simp, by simp, by simp⟩, by simp, by simp, by simp⟩
theorem Thr.grown {w w' : World} {g : Nat} {a b c : Value} {row : Option Nat} (h : Thr w g a b c) (hg : w.grownBy w' row) (hne : some g ≠ row) : Thr w' g a b c := h.block (hg.block g h.lt hne)
theorem Thr.other {w : World} {g k : Nat} {a b c : Value} (h : Thr w g a b c) (p : Addr) (x : Value) (hk : p.block = k) (hne : g ≠ k) : Thr (w.setCell p x) g a b c := h.block (heap_set w p x g (by omega))
theorem Thr.store {w : World} {g : Nat} {a b c : Value} (h : Thr w g a b c) (x y z : Value) : Thr (((w.setCell ⟨g, 0, none⟩ x).setCell ⟨g, 1, none⟩ y).setCell ⟨g, 2, none⟩ z) g x y z := by
  obtain ⟨⟨a0, a1, a2⟩, f0, f1, f2⟩ := h
  have o : ∀ (W : World) (i j : Nat) (s : Value), i ≠ j → (W.setCell ⟨g, i, none⟩ s).cell? ⟨g, j, none⟩ = W.cell? ⟨g, j, none⟩ := fun W i j s hij => World.cell?_setCell_other _ _ _ _ (by intro h; simp only [Addr.mk.injEq] at h; omega)
  refine ⟨⟨?_, ?_, ?_⟩, by simp [f0], by simp [f1], by simp [f2]⟩
  · rw [o _ 2 0 _ (by omega), o _ 1 0 _ (by omega)]; exact World.cell?_setCell_same _ _ _ a0
  · rw [o _ 2 1 _ (by omega)]; exact World.cell?_setCell_same _ _ _ (by rw [o _ 0 1 _ (by omega)]; exact a1)
  · exact World.cell?_setCell_same _ _ _ (by rw [o _ 1 2 _ (by omega), o _ 0 2 _ (by omega)]; exact a2)

/-- Two steps, each of which writes one row and makes blocks, are one. -/
theorem grown2 {w w1 w2 : World} {a b : Option Nat} (h1 : w.grownBy w1 a) (h2 : w1.grownBy w2 b) (hb : b = a ∨ ∃ g, b = some g ∧ w.heap.size ≤ g) : w.grownBy w2 a := by
  refine ⟨h2.os.trans h1.os, h2.tape.trans h1.tape, h2.output.trans h1.output, Nat.le_trans h1.size h2.size, fun k hk hne => ?_⟩
  refine (h2.block k (Nat.lt_of_lt_of_le hk h1.size) ?_).trans (h1.block k hk hne)
  rcases hb with rfl | ⟨g, rfl, hg⟩
  · exact hne
  · intro e; injection e with e; omega
theorem grown_of_below {w w' : World} (h : Below w.heap.size w w') (row : Option Nat) : w.grownBy w' row := ⟨h.os, h.tape, h.output, h.size, fun k hk _ => h.block k hk⟩
theorem below_of_grown {w w' : World} {row : Option Nat} {B : Nat} (h : w.grownBy w' row) (hB : B ≤ w.heap.size) (hr : ∀ k, row = some k → B ≤ k) : Below B w w' := (Below.refl B w).grown h hB hr
/-- A row of bytes that was appended to, as a call hands it back. -/
def App (w w' : World) (base : Nat) (v v' : Value) (bs : List Nat) : Prop := BRow w' base v' bs ∧ w.grownBy w' v.ownBlock ∧ (v'.ownBlock = v.ownBlock ∨ ∃ g, v'.ownBlock = some g ∧ w.heap.size ≤ g)
theorem App.trans {w w1 w2 : World} {base : Nat} {v v1 v2 : Value} {bs cs : List Nat} (h : App w w1 base v v1 bs) (k : App w1 w2 base v1 v2 cs) : App w w2 base v v2 cs := by
  obtain ⟨_, h2, h3⟩ := h
  obtain ⟨k1, k2, k3⟩ := k
  refine ⟨k1, grown2 h2 k2 h3, ?_⟩
  rcases k3 with e | ⟨g, e, hg⟩
  · rw [e]; exact h3
  · exact .inr ⟨g, e, Nat.le_trans h2.size hg⟩
theorem App.pre {w w1 w2 : World} {base : Nat} {v v' : Value} {bs : List Nat} (hb : Below w.heap.size w w1) (k : App w1 w2 base v v' bs) : App w w2 base v v' bs := by
  obtain ⟨k1, k2, k3⟩ := k
  refine ⟨k1, grown2 (grown_of_below hb _) k2 (.inl rfl), ?_⟩
  rcases k3 with e | ⟨g, e, hg⟩
  · exact .inl e
  · exact .inr ⟨g, e, Nat.le_trans hb.size hg⟩
theorem App.refl {w : World} {base : Nat} {v : Value} {bs : List Nat} (h : BRow w base v bs) : App w w base v v bs := ⟨h, ⟨rfl, rfl, rfl, Nat.le_refl _, fun _ _ _ => rfl⟩, .inl rfl⟩
theorem App.size {w w' : World} {base : Nat} {v v' : Value} {bs : List Nat} (h : App w w' base v v' bs) : w.heap.size ≤ w'.heap.size := h.2.1.size
/-- An append, as its law hands it back, behind what was made ahead of it. -/
theorem App.of {w w0 w1 : World} {base : Nat} {v : Value} {bs new : List Nat} {g cap k m H : Nat} (hb : Below w.heap.size w w0) (hg : w0.grownBy w1 v.ownBlock) (hat : v.ownBlock = some g ∨ g = H) (hH : w.heap.size ≤ H) (hk : bs.length = k) (hm : new.length = m)
    (hown : w1.ownsRow base 5 1 (.slice (some ⟨g, 0, none⟩) (k + m) cap) (k + m) (bvals bs ++ bvals new)) : App w w1 base v (.slice (some ⟨g, 0, none⟩) (k + m) cap) (bs ++ new) := by
  refine ⟨?_, grown2 (grown_of_below hb _) hg (.inl rfl), ?_⟩
  · unfold BRow
    rw [bvals_append, List.length_append, hk, hm]
    exact hown
  · rcases hat with e | e
    · exact .inl e.symm
    · exact .inr ⟨g, rfl, by omega⟩
theorem App.far {w w' : World} {base : Nat} {v v' u : Value} {bs : List Nat} (h : App w w' base v v' bs) (hu : Apart v u) (hlt : ∀ k, u.ownBlock = some k → k < w.heap.size) : Apart v' u := by
  intro g hg he
  rcases h.2.2 with e | ⟨g', e, hz⟩
  · exact hu g (by rw [← e]; exact hg) he
  · rw [e] at hg
    injection hg with hg
    subst hg
    have := hlt _ he
    omega

/-- Bytes that are read. -/
def BRd (w : World) (v : Value) (bs : List Nat) : Prop :=
  ∃ A cap, v = .slice A bs.length cap ∧ bs.length ≤ cap ∧ cap ≤ maxLen ∧ (∀ b ∈ bs, b < 256) ∧ ∀ i (h : i < bs.length), ∃ a, A = some a ∧ a.block < w.heap.size ∧ w.cell? (a.add i) = some (.int .u8 (bs[i] : Nat))
theorem BRd.blocks {w w' : World} {v : Value} {c : List Nat} (h : BRd w v c) (hz : w.heap.size ≤ w'.heap.size) (hb : ∀ g, v.ownBlock = some g → g < w.heap.size → w'.heap[g]? = w.heap[g]?) : BRd w' v c := by
  obtain ⟨A, cap, rfl, h1, h2, h4, h3⟩ := h
  refine ⟨A, cap, rfl, h1, h2, h4, fun i hi => ?_⟩
  obtain ⟨a, rfl, hlt, c0⟩ := h3 i hi
  have e := hb a.block rfl hlt
  exact ⟨a, rfl, by omega, (World.cell?_of_block (a := a.add i) (by rw [block_add]; exact e)).trans c0⟩
theorem BRd.keep {w w' : World} {v : Value} {c : List Nat} (h : BRd w v c) (hb : Below w.heap.size w w') : BRd w' v c := h.blocks hb.size fun g _ hg => hb.block g hg
theorem BRow.read {w : World} {base : Nat} {u : Value} {c : List Nat} (h : BRow w base u c) (hc : ∀ b ∈ c, b < 256) : BRd w u c := by
  rcases h.2 with ⟨rfl, h0⟩ | ⟨g, cap, cur, rfl, _, hg, hl, hm, _, _⟩
  · have : c = [] := List.eq_nil_of_length_eq_zero h0
    subst this
    exact ⟨none, 0, rfl, Nat.le_refl _, by unfold maxLen; omega, hc, fun i hi => absurd hi (Nat.not_lt_zero _)⟩
  · refine ⟨_, cap, rfl, hl, hm, hc, fun i hi => ⟨_, rfl, (World.ownsRow.lt h g rfl).2, ?_⟩⟩
    exact World.ownsRow.cells h rfl _ _ (by simp [bvals, hi])
theorem BRd.drop {w : World} {a : Addr} {n cap : Nat} {c : List Nat} (h : BRd w (.slice (some a) n cap) c) (k : Nat) (hk : k ≤ c.length) : BRd w (.slice (some (a.add k)) (n - k) (cap - k)) (c.drop k) := by
  obtain ⟨A, cap', e, h1, h2, h4, h3⟩ := h
  injection e with e1 e2 e3
  subst e1 e3
  refine ⟨some (a.add k), cap - k, ?_, ?_, by omega, fun b hb => h4 b (List.mem_of_mem_drop hb), fun i hi => ?_⟩
  · rw [List.length_drop, e2]
  · rw [List.length_drop]; omega
  · rw [List.length_drop] at hi
    obtain ⟨a', ha, hlt, c0⟩ := h3 (k + i) (by omega)
    injection ha with ha
    subst ha
    exact ⟨_, rfl, by rw [block_add]; exact hlt, by rw [add_add, List.getElem_drop]; exact c0⟩
theorem BRd.none {w : World} (A : Option Addr) (cap : Nat) (hc : cap ≤ maxLen) : BRd w (.slice A 0 cap) [] := ⟨A, cap, rfl, Nat.zero_le _, hc, (fun _ h => nomatch h), fun _ hi => absurd hi (Nat.not_lt_zero _)⟩
theorem SRd.none {w : World} (A : Option Addr) (cap : Nat) : SRd w (.slice A 0 cap) [] := ⟨A, cap, rfl, Nat.zero_le _, fun _ hi => absurd hi (Nat.not_lt_zero _)⟩
theorem BRd.take {w : World} {A : Option Addr} {n cap : Nat} {c : List Nat} (h : BRd w (.slice A n cap) c) (k : Nat) (hk : k ≤ c.length) : BRd w (.slice A k cap) (c.take k) := by
  obtain ⟨A', cap', e, h1, h2, h4, h3⟩ := h
  injection e with e1 e2 e3
  subst e1 e3
  refine ⟨A, cap, by rw [List.length_take, Nat.min_eq_left hk], ?_, h2, fun b hb => h4 b (List.mem_of_mem_take hb), fun i hi => ?_⟩
  · rw [List.length_take]; omega
  · rw [List.length_take] at hi
    obtain ⟨a', ha, hlt, c0⟩ := h3 i (by omega)
    exact ⟨a', ha, hlt, by rw [List.getElem_take]; exact c0⟩

theorem sinfo : (Try.prog.info? 59).map (fun i => (i.zero, i.size, i.bytes)) = some (some (.agg #[.int .u8 0, .int .i64 0, .int .i64 0]), 3, 24) := by kernel_rfl

end Go.Proofs.Ytgkhpnjfpahlgaa
