/-
  A grid, a spec of a grid, a row of bytes that come in as arguments, opened: for the frames of layer 9's laws (no claim is made here).
-/
import Derived.Test.YteiildeaccngjaaMgrd
import Derived.Deep.Slices
import Derived.OpenShut
import Derived.Lib.SmallJoins
namespace Go.Proofs.Yteiildeaccngjaa
open Go.ChangeShapes Go.WideShapes Go.Deep Go.RowKit

section
variable {H : Type} {enc : TypeId × Value → H} {w : World} {base : Nat} {held : Bool}

set_option maxRecDepth 100000 in
theorem trod6 {q ft : TypeId} {k : IntKind} {f0 f1 f2 f3 f4 f5 : Field} {fuel : Nat} {cs : List Value} {x : DataW H × List MemPlace} (hq : Try.prog.underlying q = some (.struct #[f0, f1, f2, f3, f4, f5])) (cq : Try.prog.cellsOf q = 6) (hft : Try.prog.underlying ft = some (.int k)) (hc : Try.prog.cellsOf ft = 1)
    (o : f0.offset = 0 ∧ f1.offset = 1 ∧ f2.offset = 2 ∧ f3.offset = 3 ∧ f4.offset = 4 ∧ f5.offset = 5) (t : f0.type = ft ∧ f1.type = ft ∧ f2.type = ft ∧ f3.type = ft ∧ f4.type = ft ∧ f5.type = ft)
    (h : DataW.trod enc Try.prog w base (fun _ => true) held fuel q cs = some x) :
    ∃ a0 a1 a2 a3 a4 a5 : Int, cs = [.int k a0, .int k a1, .int k a2, .int k a3, .int k a4, .int k a5] ∧ ((Lit.int k a0).wf = true ∧ (Lit.int k a1).wf = true ∧ (Lit.int k a2).wf = true ∧ (Lit.int k a3).wf = true ∧ (Lit.int k a4).wf = true ∧ (Lit.int k a5).wf = true) := by
  obtain ⟨xs, n, _, rfl, hl, hlen, hf⟩ := DataW.trod_struct hq h
  rw [cq] at hl
  obtain ⟨o0, o1, o2, o3, o4, o5⟩ := o
  obtain ⟨t0, t1, t2, t3, t4, t5⟩ := t
  match cs, hl, xs, hlen with
  | [v0, v1, v2, v3, v4, v5], _, [y0, y1, y2, y3, y4, y5], _ =>
    have h0 := hf 0 f0 rfl
    have h1 := hf 1 f1 rfl
    have h2 := hf 2 f2 rfl
    have h3 := hf 3 f3 rfl
    have h4 := hf 4 f4 rfl
    have h5 := hf 5 f5 rfl
    rw [t0, o0, hc] at h0
    rw [t1, o1, hc] at h1
    rw [t2, o2, hc] at h2
    rw [t3, o3, hc] at h3
    rw [t4, o4, hc] at h4
    rw [t5, o5, hc] at h5
    simp at h0 h1 h2 h3 h4 h5
    obtain ⟨a0, e0, -, w0⟩ := DataW.trod_int hft h0
    obtain ⟨a1, e1, -, w1⟩ := DataW.trod_int hft h1
    obtain ⟨a2, e2, -, w2⟩ := DataW.trod_int hft h2
    obtain ⟨a3, e3, -, w3⟩ := DataW.trod_int hft h3
    obtain ⟨a4, e4, -, w4⟩ := DataW.trod_int hft h4
    obtain ⟨a5, e5, -, w5⟩ := DataW.trod_int hft h5
    simp at e0 e1 e2 e3 e4 e5
    subst e0 e1 e2 e3 e4 e5
    exact ⟨a0, a1, a2, a3, a4, a5, rfl, w0, w1, w2, w3, w4, w5⟩

set_option maxRecDepth 100000 in
theorem open_grid {r : Reach} {b0 : Nat} {v : Value} {d : DataW H} {p : List MemPlace} (hv : Value.okWide Try.prog w r b0 29 v) (h : DataW.Trod enc Try.prog w base (fun _ => true) held 29 v d p) :
    ∃ a0 a1 a2 a3 a4 a5 : Int, v = .agg #[.int .i64 a0, .int .i64 a1, .int .i64 a2, .int .i64 a3, .int .i64 a4, .int .i64 a5] ∧ ((Lit.int .i64 a0).wf = true ∧ (Lit.int .i64 a1).wf = true ∧ (Lit.int .i64 a2).wf = true ∧ (Lit.int .i64 a3).wf = true ∧ (Lit.int .i64 a4).wf = true ∧ (Lit.int .i64 a5).wf = true) := by
  obtain ⟨cs, rfl, _⟩ := okWide_struct Try.underlying29 hv
  obtain ⟨fuel, hf⟩ := h
  obtain ⟨a0, a1, a2, a3, a4, a5, e, hw⟩ := trod6 Try.underlying29 (by kernel_rfl) Try.underlying3 (by kernel_rfl) ⟨rfl, rfl, rfl, rfl, rfl, rfl⟩ ⟨rfl, rfl, rfl, rfl, rfl, rfl⟩ hf
  refine ⟨a0, a1, a2, a3, a4, a5, ?_, hw⟩
  have e' : cs.toList = _ := e
  rw [← Array.toArray_toList (xs := cs), e']
set_option maxRecDepth 100000 in
theorem open_spec {r : Reach} {b0 : Nat} {v : Value} {d : DataW H} {p : List MemPlace} (hv : Value.okWide Try.prog w r b0 24 v) (h : DataW.Trod enc Try.prog w base (fun _ => true) held 24 v d p) :
    ∃ a0 a1 a2 a3 a4 a5 : Int, v = .agg #[.int .u8 a0, .int .u8 a1, .int .u8 a2, .int .u8 a3, .int .u8 a4, .int .u8 a5] ∧ ((0 ≤ a0 ∧ a0 ≤ 255) ∧ (0 ≤ a1 ∧ a1 ≤ 255) ∧ (0 ≤ a2 ∧ a2 ≤ 255) ∧ (0 ≤ a3 ∧ a3 ≤ 255) ∧ (0 ≤ a4 ∧ a4 ≤ 255) ∧ (0 ≤ a5 ∧ a5 ≤ 255)) := by
  obtain ⟨cs, rfl, _⟩ := okWide_struct Try.underlying24 hv
  obtain ⟨fuel, hf⟩ := h
  obtain ⟨a0, a1, a2, a3, a4, a5, e, h0, h1, h2, h3, h4, h5⟩ := trod6 Try.underlying24 (by kernel_rfl) Try.underlying5 (by kernel_rfl) ⟨rfl, rfl, rfl, rfl, rfl, rfl⟩ ⟨rfl, rfl, rfl, rfl, rfl, rfl⟩ hf
  refine ⟨a0, a1, a2, a3, a4, a5, ?_, bounds_u8 h0, bounds_u8 h1, bounds_u8 h2, bounds_u8 h3, bounds_u8 h4, bounds_u8 h5⟩
  have e' : cs.toList = _ := e
  rw [← Array.toArray_toList (xs := cs), e']

/-- A row of bytes. -/
theorem open_byts {fuel : Nat} {v : Value} {x : DataW H × List MemPlace} (h : DataW.trod enc Try.prog w base (fun _ => true) held fuel 34 [v] = some x) : ∃ (A : Option Addr) (n cap : Nat) (l : List Int), v = .slice A n cap ∧ l.length = n ∧ BtRd w A l ∧ cap ≤ maxLen ∧ n ≤ cap := by
  rcases open_slice Try.underlying34 h with ⟨hv, _⟩ | ⟨a, len, cap, m, n, D, Pl, hv, hb, hl, hm, hmm, _, hx⟩
  · simp at hv
    subst hv
    exact ⟨none, 0, 0, [], rfl, rfl, fun i hi => absurd hi (Nat.not_lt_zero _), Nat.zero_le _, Nat.le_refl _⟩
  · simp only [if_true] at hmm
    subst hmm
    simp at hv
    subst hv
    have each : ∀ i, i < len → ∃ s : Int, w.cell? (a.add i) = some (.int .u8 s) := by
      intro i hi
      obtain ⟨cs', h1, h2⟩ := hx i (by omega)
      rw [show Try.prog.cellsOf 5 = 1 by kernel_rfl] at h1
      obtain ⟨_, _, hcell⟩ := World.cells?_some h1
      obtain ⟨s, e, _⟩ := DataW.trod_int Try.underlying5 h2
      subst e
      have := hcell 0 (by omega)
      rw [add_add] at this
      exact ⟨s, by simpa using this⟩
    obtain ⟨f, hf⟩ := choose_lt each
    refine ⟨some a, len, m, (List.range len).map f, rfl, by simp, fun i hi => ⟨a, rfl, ?_⟩, hm, hl⟩
    have hi' : i < len := by simpa using hi
    have ei : ((List.range len).map f)[i] = f i := by simp
    rw [ei]
    exact hf i hi'
end

end Go.Proofs.Yteiildeaccngjaa
