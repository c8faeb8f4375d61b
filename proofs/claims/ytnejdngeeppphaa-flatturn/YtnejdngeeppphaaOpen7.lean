/-
  Pieces that come in as an argument, opened: for the frames of layer 6's laws (no claim is made here).
-/
import Derived.Test.YtnejdngeeppphaaPthS
import Derived.Test.YtnejdngeeppphaaOpen3
import Derived.Lib.SmallJoins
namespace Go.Proofs.Ytnejdngeeppphaa
open Go.ChangeShapes Go.WideShapes Go.Deep

instance : Inhabited Sg := ⟨⟨⟨0, 0⟩, ⟨0, 0⟩, ⟨0, 0⟩, false⟩⟩

section
variable {H : Type} {enc : TypeId × Value → H} {w : World} {base : Nat} {held : Bool}

theorem trodP {fuel : Nat} {cs : List Value} {x : DataW H × List MemPlace} (h : DataW.trod enc Try.prog w base (fun _ => true) held fuel 23 cs = some x) : ∃ a b : Int, cs = [.int .i64 a, .int .i64 b] := by
  obtain ⟨y0, y1, n, _, hl, h0, h1⟩ := trod_struct2 Try.underlying23 h
  rw [show Try.prog.cellsOf 23 = 2 by kernel_rfl] at hl
  match cs, hl with
  | [v0, v1], _ =>
    rw [show Try.prog.cellsOf 3 = 1 by kernel_rfl] at h0 h1
    simp at h0 h1
    obtain ⟨a, e0, _, _⟩ := DataW.trod_int Try.underlying3 h0
    obtain ⟨b, e1, _, _⟩ := DataW.trod_int Try.underlying3 h1
    simp at e0 e1
    subst e0 e1
    exact ⟨a, b, rfl⟩
theorem trod7 {fuel : Nat} {cs : List Value} {x : DataW H × List MemPlace} (h : DataW.trod enc Try.prog w base (fun _ => true) held fuel 25 cs = some x) : ∃ s : Sg, cs = scell s := by
  obtain ⟨y0, y1, y2, y3, n, _, hl, h0, h1, h2, h3⟩ := Joins.trod_struct4 Try.underlying25 h
  rw [show Try.prog.cellsOf 25 = 7 by kernel_rfl] at hl
  match cs, hl with
  | [v0, v1, v2, v3, v4, v5, v6], _ =>
    rw [show Try.prog.cellsOf 23 = 2 by kernel_rfl] at h0 h1 h2
    rw [show Try.prog.cellsOf 4 = 1 by kernel_rfl] at h3
    simp at h0 h1 h2 h3
    obtain ⟨a0, a1, e0⟩ := trodP h0
    obtain ⟨b0, b1, e1⟩ := trodP h1
    obtain ⟨c0, c1, e2⟩ := trodP h2
    obtain ⟨c, e3, _⟩ := DataW.trod_bool Try.underlying4 h3
    simp at e0 e1 e2 e3
    obtain ⟨rfl, rfl⟩ := e0
    obtain ⟨rfl, rfl⟩ := e1
    obtain ⟨rfl, rfl⟩ := e2
    subst e3
    exact ⟨⟨⟨a0, a1⟩, ⟨b0, b1⟩, ⟨c0, c1⟩, c⟩, rfl⟩
theorem open_seg {r : Reach} {b0 : Nat} {v : Value} {d : DataW H} {p : List MemPlace} (hv : Value.okWide Try.prog w r b0 25 v) (h : DataW.Trod enc Try.prog w base (fun _ => true) held 25 v d p) :
    ∃ (s0 s1 s2 s3 s4 s5 : Int) (s6 : Bool), v = .agg #[.int .i64 s0, .int .i64 s1, .int .i64 s2, .int .i64 s3, .int .i64 s4, .int .i64 s5, .bool s6] := by
  obtain ⟨cs, rfl, _⟩ := okWide_struct Try.underlying25 hv
  obtain ⟨fuel, hf⟩ := h
  obtain ⟨s, hs⟩ := trod7 hf
  refine ⟨s.a.x, s.a.y, s.b.x, s.b.y, s.c.x, s.c.y, s.curve, ?_⟩
  have : cs.toList = scell s := hs
  rw [← Array.toArray_toList (xs := cs), this]
  rfl
theorem open_segs {fuel : Nat} {v : Value} {x : DataW H × List MemPlace} (h : DataW.trod enc Try.prog w base (fun _ => true) held fuel 31 [v] = some x) : ∃ l : List Sg, SRd w v l ∧ ∃ A n cap, v = .slice A n cap ∧ cap ≤ maxLen := by
  rcases open_slice Try.underlying31 h with ⟨hv, _⟩ | ⟨a, len, cap, m, n, D, Pl, hv, hb, hl, hm, hmm, _, hx⟩
  · simp at hv
    subst hv
    exact ⟨[], ⟨none, 0, rfl, Nat.le_refl _, fun i hi => absurd hi (Nat.not_lt_zero _)⟩, none, 0, 0, rfl, Nat.zero_le _⟩
  · simp only [if_true] at hmm
    subst hmm
    simp at hv
    subst hv
    have each : ∀ i, i < len → ∃ s : Sg, SAt w a i s := by
      intro i hi
      obtain ⟨cs', h1, h2⟩ := hx i (by omega)
      rw [show Try.prog.cellsOf 25 = 7 by kernel_rfl] at h1
      obtain ⟨_, _, hcell⟩ := World.cells?_some h1
      obtain ⟨s, rfl⟩ := trod7 h2
      have e : ∀ j, j < 7 → w.cell? (a.add (i * 7 + j)) = (scell s)[j]? := fun j hj => by have := hcell j hj; rwa [add_add] at this
      exact ⟨s, e 0 (by omega), e 1 (by omega), e 2 (by omega), e 3 (by omega), e 4 (by omega), e 5 (by omega), e 6 (by omega)⟩
    obtain ⟨f, hf⟩ := choose_lt each
    refine ⟨(List.range len).map f, ⟨some a, m, by simp, by simp; exact hl, fun i hi => ⟨a, rfl, ?_⟩⟩, some a, len, m, rfl, hm⟩
    have hi' : i < len := by simpa using hi
    have p := hf i hi'
    have ei : ((List.range len).map f)[i] = f i := by simp
    rw [ei]
    have hlt := World.block_lt_of_cell? w _ p.1
    rw [block_add] at hlt
    exact ⟨hlt, p⟩
end
end Go.Proofs.Ytnejdngeeppphaa
