/-
  Points that are read of steps, point by point, and rows of points that are filled (no claim is made here).
-/
import Derived.Test.YtgkhpnjfpahlgaaPFlg
namespace Go.Proofs.Ytgkhpnjfpahlgaa
open Go.RowKit

theorem pointsS_snoc : ∀ (a : List Nat) (x y : Int) (f : Nat) (b : List Nat), pointsS x y (a ++ [f]) b =
    match pointsS x y a b with
    | none => none
    | some (vs, r) =>
      match stepS (decide (f / 2 % 2 = 1)) r with
      | none => none
      | some (dx, r1) =>
        match stepS (decide (f / 4 % 2 = 1)) r1 with
        | none => none
        | some (dy, r2) => some (vs ++ [⟨(lastOf x y vs).1 + dx, (lastOf x y vs).2 + dy, decide (f % 2 = 1)⟩], r2)
  | [], x, y, f, b => by
    simp only [List.nil_append, pointsS, lastOf]
    cases stepS (decide (f / 2 % 2 = 1)) b with
    | none => rfl
    | some p =>
      obtain ⟨dx, r1⟩ := p
      simp only []
      cases stepS (decide (f / 4 % 2 = 1)) r1 with
      | none => rfl
      | some q => rfl
  | e :: a, x, y, f, b => by
    simp only [List.cons_append, pointsS]
    cases stepS (decide (e / 2 % 2 = 1)) b with
    | none => rfl
    | some p =>
      obtain ⟨dx, r1⟩ := p
      simp only []
      cases stepS (decide (e / 4 % 2 = 1)) r1 with
      | none => rfl
      | some q =>
        obtain ⟨dy, r2⟩ := q
        simp only []
        rw [pointsS_snoc a]
        cases pointsS (x + dx) (y + dy) a r2 with
        | none => rfl
        | some v =>
          obtain ⟨vs, r⟩ := v
          simp only [lastOf]
          cases stepS (decide (f / 2 % 2 = 1)) r with
          | none => rfl
          | some p =>
            obtain ⟨dx, r1⟩ := p
            simp only []
            cases stepS (decide (f / 4 % 2 = 1)) r1 with
            | none => rfl
            | some q => rfl
theorem pointsS_cut : ∀ (a c : List Nat) (x y : Int) (b : List Nat), pointsS x y a b = none → pointsS x y (a ++ c) b = none
  | [], c, x, y, b, h => by cases h
  | e :: a, c, x, y, b, h => by
    simp only [List.cons_append, pointsS] at h ⊢
    cases h1 : stepS (decide (e / 2 % 2 = 1)) b with
    | none => rfl
    | some p =>
      obtain ⟨dx, r1⟩ := p
      simp only [h1] at h ⊢
      cases h2 : stepS (decide (e / 4 % 2 = 1)) r1 with
      | none => rfl
      | some q =>
        obtain ⟨dy, r2⟩ := q
        simp only [h2] at h ⊢
        cases h3 : pointsS (x + dx) (y + dy) a r2 with
        | none => rw [pointsS_cut a c _ _ _ h3]
        | some v => simp only [h3] at h; cases h
theorem pointsS_mod : ∀ (a : List Nat) (x y : Int) (b : List Nat), pointsS x y (a.map (· % 8)) b = pointsS x y a b
  | [], _, _, _ => rfl
  | f :: a, x, y, b => by
    have e1 : decide (f % 8 / 2 % 2 = 1) = decide (f / 2 % 2 = 1) := by congr 1; rw [show f % 8 / 2 % 2 = f / 2 % 2 by omega]
    have e2 : decide (f % 8 / 4 % 2 = 1) = decide (f / 4 % 2 = 1) := by congr 1; rw [show f % 8 / 4 % 2 = f / 4 % 2 by omega]
    have e3 : decide (f % 8 % 2 = 1) = decide (f % 2 = 1) := by congr 1; rw [show f % 8 % 2 = f % 2 by omega]
    simp only [List.map_cons, pointsS, e1, e2, e3]
    cases stepS (decide (f / 2 % 2 = 1)) b with
    | none => rfl
    | some p =>
      obtain ⟨dx, r1⟩ := p
      simp only []
      cases stepS (decide (f / 4 % 2 = 1)) r1 with
      | none => rfl
      | some q => simp only [pointsS_mod a]

/-- What was read so far: the points of the first flags, or that some bytes are missing. -/
def PS (fs bs : List Nat) (c : Nat) (vs : List Vtx) (x y : Int) (rest : List Nat) (sh : Bool) : Prop :=
  (sh = false ∧ pointsS 0 0 (fs.take c) bs = some (vs, rest) ∧ lastOf 0 0 vs = (x, y)) ∨ (sh = true ∧ pointsS 0 0 fs bs = none)
theorem PS.step {fs bs : List Nat} {c f : Nat} {vs : List Vtx} {x y d1 d2 : Int} {rest r1 r2 : List Nat} {sh sh1 sh2 : Bool} (h : PS fs bs c vs x y rest sh) (hf : fs[c]? = some f)
    (h1 : (stepS (decide (f / 2 % 2 = 1)) rest = some (d1, r1) ∧ sh1 = sh) ∨ (stepS (decide (f / 2 % 2 = 1)) rest = none ∧ sh1 = true))
    (h2 : (stepS (decide (f / 4 % 2 = 1)) r1 = some (d2, r2) ∧ sh2 = sh1) ∨ (stepS (decide (f / 4 % 2 = 1)) r1 = none ∧ sh2 = true)) :
    PS fs bs (c + 1) (vs ++ [⟨x + d1, y + d2, decide (f % 2 = 1)⟩]) (x + d1) (y + d2) r2 sh2 := by
  have hsn := pointsS_snoc (fs.take c) 0 0 f bs
  rw [← take_push fs c f hf] at hsn
  have hcut : pointsS 0 0 (fs.take (c + 1)) bs = none → pointsS 0 0 fs bs = none := fun h => by
    have := pointsS_cut (fs.take (c + 1)) (fs.drop (c + 1)) 0 0 bs h
    rwa [List.take_append_drop] at this
  rcases h with ⟨rfl, hp, hl⟩ | ⟨rfl, hn⟩
  · rw [hp] at hsn
    simp only [] at hsn
    rcases h1 with ⟨e1, rfl⟩ | ⟨e1, rfl⟩
    · rw [e1] at hsn
      simp only [] at hsn
      rcases h2 with ⟨e2, rfl⟩ | ⟨e2, rfl⟩
      · rw [e2] at hsn
        simp only [hl] at hsn
        exact .inl ⟨rfl, hsn, lastOf_snoc _ _ _ _⟩
      · rw [e2] at hsn
        exact .inr ⟨rfl, hcut hsn⟩
    · rw [e1] at hsn
      refine .inr ⟨?_, hcut hsn⟩
      rcases h2 with ⟨_, h⟩ | ⟨_, h⟩ <;> exact h
  · refine .inr ⟨?_, hn⟩
    have : sh1 = true := by rcases h1 with ⟨_, h⟩ | ⟨_, h⟩ <;> exact h
    rcases h2 with ⟨_, h⟩ | ⟨_, h⟩
    · exact h.trans this
    · exact h

def zeroV : Vtx := ⟨0, 0, false⟩
theorem vcells_append (a b : List Vtx) : vcells (a ++ b) = vcells a ++ vcells b := by simp [vcells]
theorem vcells_set (cv zs : List Vtx) (z v : Vtx) (l : Nat) (h : cv.length = l) : (((vcells (cv ++ z :: zs)).set (l * 3) (.int .i64 v.x)).set (l * 3 + 1) (.int .i64 v.y)).set (l * 3 + 2) (.bool v.on) = vcells ((cv ++ [v]) ++ zs) := by
  have hl := vcells_length cv
  rw [h] at hl
  have e0 : vcells (z :: zs) = .int .i64 z.x :: .int .i64 z.y :: .bool z.on :: vcells zs := by simp [vcells]
  rw [vcells_append, vcells_append, vcells_append, e0]
  rw [List.set_append_right _ _ (by omega), List.set_append_right _ _ (by omega), List.set_append_right _ _ (by omega)]
  rw [hl, show l * 3 - l * 3 = 0 by omega, show l * 3 + 1 - l * 3 = 1 by omega, show l * 3 + 2 - l * 3 = 2 by omega]
  simp [vcells]
theorem made_vtx (s : Nat) : (madeCells (Value.agg #[.int .i64 0, .int .i64 0, .bool false]).cells (s * 3)).toList = vcells (List.replicate s zeroV) := by
  show (madeCells #[.int .i64 0, .int .i64 0, .bool false] (s * 3)).toList = _
  apply List.ext_getElem?
  intro i
  have hs := size_madeCells #[Value.int .i64 0, .int .i64 0, .bool false] (s * 3)
  by_cases hi : i < s * 3
  · have hlhs : (madeCells #[Value.int .i64 0, .int .i64 0, .bool false] (s * 3)).toList[i]? = some (#[Value.int .i64 0, .int .i64 0, .bool false][i % 3]!) := by
      rw [Array.getElem?_toList]
      simp [madeCells, hi]
    rw [hlhs]
    obtain ⟨a, b, d⟩ := vcells_at (List.replicate s zeroV) (i / 3) (by rw [List.length_replicate]; omega)
    rw [List.getElem_replicate] at a b d
    have hm : i % 3 = 0 ∨ i % 3 = 1 ∨ i % 3 = 2 := by omega
    rcases hm with h | h | h
    · rw [show i / 3 * 3 = i by omega] at a; rw [a, h]; rfl
    · rw [show i / 3 * 3 + 1 = i by omega] at b; rw [b, h]; rfl
    · rw [show i / 3 * 3 + 2 = i by omega] at d; rw [d, h]; rfl
  · rw [List.getElem?_eq_none (by rw [Array.length_toList, hs]; omega), List.getElem?_eq_none (by rw [vcells_length, List.length_replicate]; omega)]

/-- But for two blocks nothing is other; no block is new. -/
structure Duo (g p : Nat) (w w' : World) : Prop where
  os : w'.os = w.os
  tape : w'.tape = w.tape
  output : w'.output = w.output
  size : w'.heap.size = w.heap.size
  block : ∀ k, k ≠ g → k ≠ p → w'.heap[k]? = w.heap[k]?
theorem Duo.refl (g p : Nat) (w : World) : Duo g p w w := ⟨rfl, rfl, rfl, rfl, fun _ _ _ => rfl⟩
theorem Duo.trans {g p : Nat} {a b c : World} (h : Duo g p a b) (k : Duo g p b c) : Duo g p a c := ⟨k.os.trans h.os, k.tape.trans h.tape, k.output.trans h.output, k.size.trans h.size, fun i h1 h2 => (k.block i h1 h2).trans (h.block i h1 h2)⟩
theorem Nigh.duo {g : Nat} {w w' : World} (h : Nigh g w w') (p : Nat) : Duo g p w w' := ⟨h.os, h.tape, h.output, h.size, fun k h1 _ => h.block k h1⟩
theorem Duo.set {g p : Nat} {w : World} (a : Addr) (ha : a.block = p) (x : Value) : Duo g p w (w.setCell a x) := ⟨rfl, rfl, rfl, by simp, fun k _ h2 => heap_set w a x k (by omega)⟩
theorem Duo.own {g p : Nat} {w w' : World} {base : Nat} {e : TypeId} {size : Nat} {v : Value} {n : Nat} {xs : List Value} (h : Duo g p w w') (ho : w.ownsRow base e size v n xs) (hg : v.ownBlock ≠ some g) (hp : v.ownBlock ≠ some p) : w'.ownsRow base e size v n xs :=
  own_blocks ho fun k hk => h.block k (fun e => hg (by rw [hk, e])) (fun e => hp (by rw [hk, e]))
theorem VRd.blocks {w w' : World} {v : Value} {c : List Vtx} (h : VRd w v c) (hz : w.heap.size ≤ w'.heap.size) (hb : ∀ g, v.ownBlock = some g → g < w.heap.size → w'.heap[g]? = w.heap[g]?) : VRd w' v c := by
  obtain ⟨A, cap, rfl, h1, h3⟩ := h
  refine ⟨A, cap, rfl, h1, fun i hi => ?_⟩
  obtain ⟨a, rfl, hlt, c0, c1, c2⟩ := h3 i hi
  have e := hb a.block rfl hlt
  have k : ∀ n, w'.cell? (a.add n) = w.cell? (a.add n) := fun n => World.cell?_of_block (a := a.add n) (by rw [block_add]; exact e)
  exact ⟨a, rfl, by omega, (k _).trans c0, (k _).trans c1, (k _).trans c2⟩
theorem oinfo : (Try.prog.info? 27).map (fun i => (i.zero, i.size, i.bytes)) = some (some (.slice none 0 0), 1, 24) := by kernel_rfl
theorem made_rows (n : Nat) : (madeCells (Value.slice none 0 0).cells (n * 1)).toList = List.replicate n (.slice none 0 0) := by
  show (madeCells #[Value.slice none 0 0] (n * 1)).toList = _
  rw [toList_madeCells_one, Nat.mul_one]

end Go.Proofs.Ytgkhpnjfpahlgaa
