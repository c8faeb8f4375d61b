/-
  Contours that are put into a row one by one, empty ones too (no claim is made here).
-/
import Derived.Test.YtgkhpnjfpahlgaaFew
import Derived.Test.YtgkhpnjfpahlgaaEnc1
namespace Go.Proofs.Ytgkhpnjfpahlgaa
open Go.RowKit

/-- An outline that is made, contour by contour. -/
def ORows (w : World) (base : Nat) (v : Value) (us : List Value) (os : List (List Vtx)) : Prop :=
  us.length = os.length ∧ w.ownsRow base 27 1 v os.length us ∧ ∀ i (h : i < us.length) (h' : i < os.length), VRd w us[i] os[i] ∧ ∀ q, us[i].ownBlock = some q → base ≤ q ∧ q < w.heap.size ∧ v.ownBlock ≠ some q
theorem ORows.nil (w : World) (base : Nat) : ORows w base (.slice none 0 0) [] [] := ⟨rfl, World.ownsRow_nil _ _ _ _, fun _ h => absurd h (Nat.not_lt_zero _)⟩
theorem ORows.form {w : World} {base : Nat} {v : Value} {us : List Value} {os : List (List Vtx)} (h : ORows w base v us os) : ∃ A cap, v = .slice A os.length cap := own_form h.2.1
theorem ORows.blocks {w w' : World} {base : Nat} {v : Value} {us : List Value} {os : List (List Vtx)} (h : ORows w base v us os) (hz : w.heap.size ≤ w'.heap.size) (hb : ∀ q, base ≤ q → q < w.heap.size → w'.heap[q]? = w.heap[q]?) : ORows w' base v us os := by
  obtain ⟨h1, h2, h3⟩ := h
  refine ⟨h1, own_blocks h2 fun g hg => hb g (h2.lt g hg).1 (h2.lt g hg).2, fun i hi hi' => ?_⟩
  obtain ⟨a, b⟩ := h3 i hi hi'
  exact ⟨a.blocks hz (fun g hg hlt => hb g (b g hg).1 hlt), fun q hq => ⟨(b q hq).1, by have := (b q hq).2.1; omega, (b q hq).2.2⟩⟩
theorem ORows.read {w : World} {base : Nat} {v : Value} {us : List Value} {os : List (List Vtx)} (h : ORows w base v us os) : ORd w v os := by
  obtain ⟨h1, h2, h3⟩ := h
  rcases h2.2 with ⟨rfl, h0⟩ | ⟨g, cap, cur, rfl, _, hg, hl, _, _, _⟩
  · have : os = [] := List.eq_nil_of_length_eq_zero h0
    subst this
    exact ⟨none, 0, rfl, Nat.le_refl _, fun i hi => absurd hi (Nat.not_lt_zero _)⟩
  · exact ⟨_, cap, rfl, hl, fun r hr => ⟨_, us[r]'(by omega), rfl, (h2.lt g rfl).2, h2.cells rfl r _ (List.getElem?_eq_getElem (by omega)), (h3 r (by omega) hr).1⟩⟩
/-- A contour that was made behind is put behind: the row was appended to. -/
theorem ORows.push {w w1 : World} {base B n g cap H : Nat} {v u : Value} {us : List Value} {os : List (List Vtx)} {c : List Vtx} (h : ORows w base v us os) (hbase : base ≤ B) (hu : VRd w u c) (hub : ∀ q, u.ownBlock = some q → B ≤ q ∧ q < w.heap.size) (hvB : ∀ q, v.ownBlock = some q → q < B) (hg : w.grownBy w1 v.ownBlock) (hat : v.ownBlock = some g ∨ g = H) (hH : w.heap.size ≤ H) (hn : os.length = n)
    (hown : w1.ownsRow base 27 1 (.slice (some ⟨g, 0, none⟩) (n + 1) cap) (n + 1) (us ++ [u])) : ORows w1 base (.slice (some ⟨g, 0, none⟩) (n + 1) cap) (us ++ [u]) (os ++ [c]) := by
  obtain ⟨h1, h2, h3⟩ := h
  have far : ∀ {x : Value} {d : List Vtx}, VRd w x d → (∀ q, x.ownBlock = some q → q < w.heap.size ∧ v.ownBlock ≠ some q) → VRd w1 x d := fun hx hq => hx.blocks hg.size (fun q hqq hlt => hg.block q hlt (fun e => (hq q hqq).2 e.symm))
  have hgq : ∀ q, q < w.heap.size → v.ownBlock ≠ some q → (Value.slice (some ⟨g, 0, none⟩) (n + 1) cap).ownBlock ≠ some q := by
    intro q hlt hne e
    have e' : g = q := by simpa [Value.ownBlock] using e
    subst e'
    rcases hat with h | h
    · exact hne h
    · omega
  have hune : ∀ q, u.ownBlock = some q → v.ownBlock ≠ some q := fun q hq e => by have := (hub q hq).1; have := hvB q e; omega
  refine ⟨by simp [h1], by rw [List.length_append, hn]; exact hown, fun i hi hi' => ?_⟩
  by_cases hlt : i < us.length
  · rw [List.getElem_append_left hlt, List.getElem_append_left (by omega)]
    obtain ⟨a, b⟩ := h3 i hlt (by omega)
    exact ⟨far a (fun q hq => ⟨(b q hq).2.1, (b q hq).2.2⟩), fun q hq => ⟨(b q hq).1, Nat.lt_of_lt_of_le (b q hq).2.1 hg.size, hgq q (b q hq).2.1 (b q hq).2.2⟩⟩
  · obtain rfl : i = us.length := by simp at hi; omega
    have e1 : (us ++ [u])[us.length] = u := by simp
    have e2 : (os ++ [c])[us.length]'hi' = c := by simp [h1]
    rw [e1, e2]
    exact ⟨far hu (fun q hq => ⟨(hub q hq).2, hune q hq⟩), fun q hq => ⟨by have := (hub q hq).1; omega, Nat.lt_of_lt_of_le (hub q hq).2 hg.size, hgq q (hub q hq).2 (hune q hq)⟩⟩

/-- A point's steps, read one after the other. -/
def At6 (tx ty : Bool) (rest0 : List Nat) (x0 y0 : Int) (k : Nat) (rest : List Nat) (x y : Int) : Prop :=
  (k = 0 ∧ rest = rest0 ∧ x = x0 ∧ y = y0) ∨ (k = 1 ∧ ∃ d1, stepS tx rest0 = some (d1, rest) ∧ (-32768 ≤ d1 ∧ d1 ≤ 32767) ∧ x = x0 + d1 ∧ y = y0) ∨
  (k = 2 ∧ ∃ d1 r1 d2, stepS tx rest0 = some (d1, r1) ∧ stepS ty r1 = some (d2, rest) ∧ (-32768 ≤ d1 ∧ d1 ≤ 32767) ∧ (-32768 ≤ d2 ∧ d2 ≤ 32767) ∧ x = x0 + d1 ∧ y = y0 + d2)
theorem At6.next0 {tx ty : Bool} {rest0 : List Nat} {x0 y0 x y d : Int} {rest r : List Nat} (h : At6 tx ty rest0 x0 y0 0 rest x y) (hs : stepS tx rest = some (d, r)) (hd : -32768 ≤ d ∧ d ≤ 32767) : At6 tx ty rest0 x0 y0 1 r (x + d) y := by
  rcases h with ⟨_, rfl, rfl, rfl⟩ | ⟨h, _⟩ | ⟨h, _⟩
  · exact .inr (.inl ⟨rfl, d, hs, hd, rfl, rfl⟩)
  · cases h
  · cases h
theorem At6.next1 {tx ty : Bool} {rest0 : List Nat} {x0 y0 x y d : Int} {rest r : List Nat} (h : At6 tx ty rest0 x0 y0 1 rest x y) (hs : stepS ty rest = some (d, r)) (hd : -32768 ≤ d ∧ d ≤ 32767) : At6 tx ty rest0 x0 y0 2 r x (y + d) := by
  rcases h with ⟨h, _⟩ | ⟨_, d1, h1, hb, rfl, rfl⟩ | ⟨h, _⟩
  · cases h
  · exact .inr (.inr ⟨rfl, d1, rest, d, h1, hs, hb, hd, rfl, rfl⟩)
  · cases h
/-- Where a step is missing the whole is too short. -/
theorem At6.short {tx ty : Bool} {rest0 : List Nat} {x0 y0 x y : Int} {k : Nat} {rest fs bs : List Nat} {c f : Nat} {vs : List Vtx} (h : At6 tx ty rest0 x0 y0 k rest x y) (hk : k < 2) (hs : stepS (if k = 0 then tx else ty) rest = none) (hp : PS fs bs c vs x0 y0 rest0 false) (hf : fs[c]? = some f) (htx : decide (f / 2 % 2 = 1) = tx) (hty : decide (f / 4 % 2 = 1) = ty) : pointsS 0 0 fs bs = none := by
  have key : ∀ (d1 : Int) (r1 : List Nat) (sh1 : Bool), ((stepS tx rest0 = some (d1, r1) ∧ sh1 = false) ∨ (stepS tx rest0 = none ∧ sh1 = true)) → ((stepS ty r1 = none) ∨ stepS tx rest0 = none) → pointsS 0 0 fs bs = none := by
    intro d1 r1 sh1 h1 h2
    rcases h2 with h2 | h2
    · have := hp.step hf (by rw [htx]; exact h1) (r2 := []) (d2 := 0) (sh2 := true) (by rw [hty]; exact .inr ⟨h2, rfl⟩)
      rcases this with ⟨e, _⟩ | ⟨_, e⟩
      · cases e
      · exact e
    · rcases h1 with ⟨e, _⟩ | ⟨_, rfl⟩
      · rw [h2] at e; cases e
      · cases hq : stepS ty r1 with
        | none =>
          have := hp.step hf (by rw [htx]; exact .inr ⟨h2, rfl⟩) (r1 := r1) (r2 := []) (d1 := d1) (d2 := 0) (sh1 := true) (sh2 := true) (by rw [hty]; exact .inr ⟨hq, rfl⟩)
          rcases this with ⟨e, _⟩ | ⟨_, e⟩
          · cases e
          · exact e
        | some p =>
          have := hp.step hf (by rw [htx]; exact .inr ⟨h2, rfl⟩) (r1 := r1) (r2 := p.2) (d1 := d1) (d2 := p.1) (sh1 := true) (sh2 := true) (by rw [hty]; exact .inl ⟨hq, rfl⟩)
          rcases this with ⟨e, _⟩ | ⟨_, e⟩
          · cases e
          · exact e
  rcases h with ⟨rfl, rfl, rfl, rfl⟩ | ⟨rfl, d1, h1, hb, rfl, rfl⟩ | ⟨rfl, _⟩
  · rw [if_pos rfl] at hs
    exact key 0 [] true (.inr ⟨hs, rfl⟩) (.inr hs)
  · rw [if_neg (by decide)] at hs
    exact key d1 rest false (.inl ⟨h1, rfl⟩) (.inl hs)
  · omega
theorem parseT_none (ss X fs r : List Nat) (h : flagsS ss.sum 0 X = .ok (fs.map (· % 8), r)) (hp : pointsS 0 0 fs r = none) : parseT ss X = ([], 1) := by
  unfold parseT
  rw [h]
  simp only []
  rw [pointsS_mod, hp]
theorem bit_gt (b q : Int) (t : Prop) [Decidable t] (hq : 0 < q) (h : b = if t then q else 0) : decide (0 < b) = decide t := by
  subst h
  by_cases ht : t
  · simp [ht, hq]
  · simp [ht]
theorem int8_in (b : Nat) (h : b < 256) : (-128 ≤ int8 b ∧ int8 b ≤ 127) ∧ IntKind.i8.wrap (b : Int) = int8 b ∧ IntKind.i64.wrap (int8 b) = int8 b := by
  have e1 : IntKind.i8.signed = true := rfl
  have e2 : IntKind.i8.bits = 8 := rfl
  refine ⟨by unfold int8; split <;> omega, ?_, by rw [IntKind.wrap_i64]; unfold int8; split <;> omega⟩
  unfold int8
  simp only [IntKind.wrap, e1, e2, Bool.true_and, decide_eq_true_eq]
  split <;> split <;> omega
theorem At6.bounds {tx ty : Bool} {rest0 : List Nat} {x0 y0 x y : Int} {k : Nat} {rest : List Nat} (h : At6 tx ty rest0 x0 y0 k rest x y) : (x0 - 32768 ≤ x ∧ x ≤ x0 + 32767) ∧ y0 - 32768 ≤ y ∧ y ≤ y0 + 32767 := by
  rcases h with ⟨_, _, rfl, rfl⟩ | ⟨_, d1, _, hb, rfl, rfl⟩ | ⟨_, d1, r1, d2, _, _, hb, hb2, rfl, rfl⟩
  · omega
  · omega
  · omega
/-- Both steps were read. -/
theorem At6.done {tx ty : Bool} {rest0 : List Nat} {x0 y0 x y : Int} {rest fs bs : List Nat} {c f : Nat} {vs : List Vtx} (h : At6 tx ty rest0 x0 y0 2 rest x y) (hp : PS fs bs c vs x0 y0 rest0 false) (hf : fs[c]? = some f) (htx : decide (f / 2 % 2 = 1) = tx) (hty : decide (f / 4 % 2 = 1) = ty) : PS fs bs (c + 1) (vs ++ [⟨x, y, decide (f % 2 = 1)⟩]) x y rest false ∧ (x0 - 32768 ≤ x ∧ x ≤ x0 + 32767) ∧ y0 - 32768 ≤ y ∧ y ≤ y0 + 32767 := by
  rcases h with ⟨h, _⟩ | ⟨h, _⟩ | ⟨_, d1, r1, d2, h1, h2, b1, b2, rfl, rfl⟩
  · cases h
  · cases h
  · exact ⟨hp.step hf (by rw [htx]; exact .inl ⟨h1, rfl⟩) (by rw [hty]; exact .inl ⟨h2, rfl⟩), ⟨by omega, by omega⟩, by omega, by omega⟩

end Go.Proofs.Ytgkhpnjfpahlgaa
