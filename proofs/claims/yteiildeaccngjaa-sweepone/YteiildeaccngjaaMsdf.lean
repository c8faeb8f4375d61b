/-
  Sdf0 Sdf1 in one text (no claim is made here).
-/
import Derived.Test.YteiildeaccngjaaByt
import Derived.Test.YteiildeaccngjaaMnum
import Derived.Test.YteiildeaccngjaaMgrd
import Derived.Test.YteiildeaccngjaaMdst
namespace Go.Proofs.Yteiildeaccngjaa
open Go.RowKit

set_option maxRecDepth 100000 in
set_option maxHeartbeats 800000 in
theorem same10_any (u v : Int) (x y : Value) (bs : List Nat) (w : World) (hx : BRd w x bs) (hy : BRd w y bs) :
    Calls Try.prog 23 #[.agg #[.int .i64 u, .int .i64 v, x], .agg #[.int .i64 u, .int .i64 v, y]] w fun e w' => e = .returned (.bool true) ∧ Below w.heap.size w w' := by
  obtain ⟨S, hS⟩ : ∃ S, strOf bs = S := ⟨_, rfl⟩
  have HB0 := Lib.hid (alloc2 w (.cells #[.int .i64 u, .int .i64 v, x] 36) (.cells #[.int .i64 u, .int .i64 v, y] 36))
  have hb0 := alloc2 w (.cells #[.int .i64 u, .int .i64 v, x] 36) (.cells #[.int .i64 u, .int .i64 v, y] 36)
  have h1 := run_strOf (hx.keep hb0)
  have h2 := run_strOf (hy.keep hb0)
  rw [hS] at h1 h2
  obtain ⟨A, ca, rfl, -⟩ := hx
  obtain ⟨B, cb, rfl, -⟩ := hy
  generalize bs.length = n at *
  clear hb0 hS
  go_enter Try.func23, Try.ntmps23
  go_wp2
  go_ret
  exact ⟨rfl, HB0.out⟩

theorem mid_in (x y p c k : Int) (hx : x.natAbs ≤ 300) (hy : y.natAbs ≤ 300) (hp : 1 ≤ p ∧ p ≤ 16) (hc : 0 ≤ c ∧ c ≤ 24) (hk : 0 ≤ k ∧ k ≤ 24) : InP ⟨midG x p c, midG y p k⟩ := by
  have h1 : (c * p).natAbs ≤ 24 * 16 := by rw [Int.natAbs_mul]; exact Nat.mul_le_mul (by omega) (by omega)
  have h2 : (k * p).natAbs ≤ 24 * 16 := by rw [Int.natAbs_mul]; exact Nat.mul_le_mul (by omega) (by omega)
  unfold InP midG
  simp only []
  omega

/-- A field that grows: its block, the row of its bytes, the grid's box. -/
structure FSt (w0 w : World) (g R F : Nat) (x y p s : Int) (u v : Nat) (bs : List Nat) : Prop where
  box : Blk w g 29 [.int .i64 x, .int .i64 y, .int .i64 p, .int .i64 u, .int .i64 v, .int .i64 s]
  res : Blk w R 36 [.int .i64 0, .int .i64 0, .slice none 0 0]
  row : ∃ T, Blk w F 36 [.int .i64 u, .int .i64 v, T] ∧ BRow w (F + 1) T bs
  low : Below w0.heap.size w0 w
theorem FSt.keep {w0 w w' : World} {g R F : Nat} {x y p s : Int} {u v : Nat} {bs : List Nat} (h : FSt w0 w g R F x y p s u v bs) (hb : Below w.heap.size w w') : FSt w0 w' g R F x y p s u v bs := by
  obtain ⟨T, h1, h2⟩ := h.row
  exact ⟨h.box.keep hb, h.res.keep hb, ⟨T, h1.keep hb, h2.below hb⟩, below2 h.low hb⟩
/-- A byte more. -/
theorem FSt.push {w0 w w4 : World} {g R F : Nat} {x y p s : Int} {u v : Nat} {bs : List Nat} {T V : Value} {o : Obj} {c : Nat} (h : FSt w0 w g R F x y p s u v bs) (hT : BRow w (F + 1) T bs) (hF : Blk w F 36 [.int .i64 u, .int .i64 v, T]) (hg : g < F) (hR : R < F) (hw : w0.heap.size ≤ F)
    (hgrow : (w.alloc o).grownBy w4 T.ownBlock) (hV : BRow w4 (F + 1) V (bs ++ [c])) : FSt w0 (w4.setCell ⟨F, 2, none⟩ V) g R F x y p s u v (bs ++ [c]) := by
  have hne : ∀ k, k ≤ F → some k ≠ T.ownBlock := fun k hk e => by have := (hT.ge e.symm).1; omega
  have hFl := hF.lt
  refine ⟨((h.box.alloc o).grown hgrow (hne g (by omega))).other 2 V (by omega), ((h.res.alloc o).grown hgrow (hne R (by omega))).other 2 V (by omega), ⟨V, ((hF.alloc o).grown hgrow (hne F (by omega))).set 2 V, hV.set (Nat.lt_succ_self _) V⟩, ?_⟩
  exact ((h.low.alloc h.low.size o).grown hgrow (by have := h.low.size; simp; omega) (fun q hq => by have := (hT.ge hq).1; omega)).setCell (p := ⟨F, 2, none⟩) hw V

end Go.Proofs.Yteiildeaccngjaa

namespace Go.Proofs.Yteiildeaccngjaa
open Go.RowKit

/-- P10.1, P10.2. -/
structure SdfOK : Prop where
  texel : ∀ (ve : Value) (es : List Ed) (x y p s : Int) (u v i k : Nat) (w : World), ERd w ve es → es.length ≤ 200000 → (∀ s ∈ es, InD s) → checkG x y p u v s = 0 → i < u → k < v →
    Calls Try.prog 60 #[ve, .agg #[.int .i64 x, .int .i64 y, .int .i64 p, .int .i64 u, .int .i64 v, .int .i64 s], .int .i64 i, .int .i64 k] w fun e w' => e = .returned (.int .u8 (texN es s (midP x y p i k) : Nat)) ∧ Below w.heap.size w w'
  row : ∀ (ve : Value) (es : List Ed) (x y p s : Int) (u v k : Nat) (w : World), ERd w ve es → es.length ≤ 200000 → (∀ s ∈ es, InD s) → checkG x y p u v s = 0 → k < v →
    Calls Try.prog 47 #[ve, .agg #[.int .i64 x, .int .i64 y, .int .i64 p, .int .i64 u, .int .i64 v, .int .i64 s], .int .i64 k] w fun e w' => ∃ V, e = .returned V ∧ BRow w' w.heap.size V (rowN es x y p s u k) ∧ Below w.heap.size w w'
  make : ∀ (ve : Value) (es : List Ed) (x y p s : Int) (u v : Nat) (w : World), ERd w ve es → es.length ≤ 200000 → (∀ s ∈ es, InD s) → checkG x y p u v s = 0 →
    Calls Try.prog 21 #[ve, .agg #[.int .i64 x, .int .i64 y, .int .i64 p, .int .i64 u, .int .i64 v, .int .i64 s]] w fun e w' => ∃ V, e = .returned (.tuple #[.agg #[.int .i64 u, .int .i64 v, V], .int .i64 0]) ∧ BRow w' w.heap.size V (fldN es x y p s u (u * v)) ∧ Below w.heap.size w w'
  wrong : ∀ (ve : Value) (es : List Ed) (x y p u v s : Int) (w : World), ERd w ve es → checkG x y p u v s ≠ 0 →
    Calls Try.prog 21 #[ve, .agg #[.int .i64 x, .int .i64 y, .int .i64 p, .int .i64 u, .int .i64 v, .int .i64 s]] w fun e w' => e = .returned (.tuple #[.agg #[.int .i64 0, .int .i64 0, .slice none 0 0], .int .i64 (checkG x y p u v s)]) ∧ Below w.heap.size w w'

/-- The three edges of the document's example. -/
def triE : List Ed := [⟨⟨0, 0⟩, ⟨320, 0⟩⟩, ⟨⟨320, 0⟩, ⟨0, 320⟩⟩, ⟨⟨0, 320⟩, ⟨0, 0⟩⟩]
theorem tri_in : ∀ s ∈ triE, InD s := by unfold triE InD; simp
theorem tri_at0 : (fldN triE (-2) (-2) 2 8 4 16)[0]? = some (texN triE 8 (midP (-2) (-2) 2 0 0)) := fldN_at _ _ _ _ _ _ _ 0 (by decide)
theorem tri_at5 : (fldN triE (-2) (-2) 2 8 4 16)[5]? = some (texN triE 8 (midP (-2) (-2) 2 1 1)) := fldN_at _ _ _ _ _ _ _ 5 (by decide)
theorem tri_dec : texG triE 8 (midP (-2) (-2) 2 0 0) < 128 ∧ 128 < texG triE 8 (midP (-2) (-2) 2 1 1) := by decide
theorem tri_len : (fldN triE (-2) (-2) 2 8 4 16).length = 16 := fldN_length _ _ _ _ _ _ _

/-- A byte of a row that is ours. -/
theorem BRow.byte {w : World} {base n cap : Nat} {A : Option Addr} {bs : List Nat} (h : BRow w base (.slice A n cap) bs) (i : Nat) {b : Nat} (hb : bs[i]? = some b) : n = bs.length ∧ ∃ a, A = some a ∧ a.block < w.heap.size ∧ w.cell? (a.add i) = some (.int .u8 (b : Int)) := by
  obtain ⟨hi, hv⟩ := List.getElem?_eq_some_iff.1 hb
  rcases h.2 with ⟨e, h0⟩ | ⟨g, cp, cur, e, hg, hg2, hl, hm, _, _⟩
  · omega
  · simp only [Value.slice.injEq] at e
    obtain ⟨rfl, rfl, rfl⟩ := e
    refine ⟨rfl, _, rfl, (World.ownsRow.lt h g rfl).2, ?_⟩
    have k := World.ownsRow.cells h rfl i (.int .u8 (b : Int)) (by unfold bvals; rw [List.getElem?_map, hb]; rfl)
    exact k

end Go.Proofs.Yteiildeaccngjaa
