/-
  Rows of rectangles and of boxes that come in as an argument, opened: for the frames of layer 14's laws (no claim is made here).
-/
import Derived.Test.YtklajpadnbeplaaSky6
import Derived.Test.YtklajpadnbeplaaOpen3
import Derived.Lib.SmallJoins
namespace Go.Proofs.Ytklajpadnbeplaa
open Go.ChangeShapes Go.WideShapes Go.Deep

instance : Inhabited Bx := ⟨⟨0, 0, 0, 0, false⟩⟩

section
variable {H : Type} {enc : TypeId × Value → H} {w : World} {base : Nat} {held : Bool}

theorem trodRc {fuel : Nat} {cs : List Value} {x : DataW H × List MemPlace} (h : DataW.trod enc Try.prog w base (fun _ => true) held fuel 31 cs = some x) : ∃ s : Rc, cs = rc4 s := by
  obtain ⟨y0, y1, y2, y3, n, _, hl, h0, h1, h2, h3⟩ := Joins.trod_struct4 Try.underlying31 h
  rw [show Try.prog.cellsOf 31 = 4 by kernel_rfl] at hl
  match cs, hl with
  | [v0, v1, v2, v3], _ =>
    rw [show Try.prog.cellsOf 3 = 1 by kernel_rfl] at h0 h1 h2 h3
    simp at h0 h1 h2 h3
    obtain ⟨a0, e0, _, _⟩ := DataW.trod_int Try.underlying3 h0
    obtain ⟨a1, e1, _, _⟩ := DataW.trod_int Try.underlying3 h1
    obtain ⟨a2, e2, _, _⟩ := DataW.trod_int Try.underlying3 h2
    obtain ⟨a3, e3, _, _⟩ := DataW.trod_int Try.underlying3 h3
    simp at e0 e1 e2 e3
    subst e0 e1 e2 e3
    exact ⟨(a0, a1, a2, a3), rfl⟩
theorem u8nat {a : Int} (h : (Lit.int .u8 a).wf = true) : ∃ n : Nat, a = n ∧ n < 256 := by
  have := bounds_u8 h
  exact ⟨a.toNat, by omega, by omega⟩
theorem trodBx {fuel : Nat} {cs : List Value} {x : DataW H × List MemPlace} (h : DataW.trod enc Try.prog w base (fun _ => true) held fuel 29 cs = some x) : ∃ s : Bx, cs = [.int .u8 s.w, .int .u8 s.h, .int .u8 s.x, .int .u8 s.y, .bool s.free] ∧ (s.w < 256 ∧ s.h < 256 ∧ s.x < 256 ∧ s.y < 256) := by
  obtain ⟨xs, n, _, rfl, hl, hlen, hf⟩ := DataW.trod_struct Try.underlying29 h
  rw [show Try.prog.cellsOf 29 = 5 by kernel_rfl] at hl
  match cs, hl, xs, hlen with
  | [v0, v1, v2, v3, v4], _, [y0, y1, y2, y3, y4], _ =>
    have h0 := hf 0 _ rfl
    have h1 := hf 1 _ rfl
    have h2 := hf 2 _ rfl
    have h3 := hf 3 _ rfl
    have h4 := hf 4 _ rfl
    simp only [List.getElem_toArray, List.getElem_cons_zero, List.getElem_cons_succ] at h0 h1 h2 h3 h4
    rw [show Try.prog.cellsOf 5 = 1 by kernel_rfl] at h0 h1 h2 h3
    rw [show Try.prog.cellsOf 4 = 1 by kernel_rfl] at h4
    simp at h0 h1 h2 h3 h4
    obtain ⟨a0, e0, _, w0⟩ := DataW.trod_int Try.underlying5 h0
    obtain ⟨a1, e1, _, w1⟩ := DataW.trod_int Try.underlying5 h1
    obtain ⟨a2, e2, _, w2⟩ := DataW.trod_int Try.underlying5 h2
    obtain ⟨a3, e3, _, w3⟩ := DataW.trod_int Try.underlying5 h3
    obtain ⟨a4, e4, _⟩ := DataW.trod_bool Try.underlying4 h4
    simp at e0 e1 e2 e3 e4
    subst e0 e1 e2 e3 e4
    obtain ⟨n0, rfl, b0⟩ := u8nat w0
    obtain ⟨n1, rfl, b1⟩ := u8nat w1
    obtain ⟨n2, rfl, b2⟩ := u8nat w2
    obtain ⟨n3, rfl, b3⟩ := u8nat w3
    exact ⟨⟨n0, n1, n2, n3, a4⟩, rfl, b0, b1, b2, b3⟩
theorem open_rects {fuel : Nat} {v : Value} {x : DataW H × List MemPlace} (h : DataW.trod enc Try.prog w base (fun _ => true) held fuel 39 [v] = some x) : ∃ l : List Rc, RRd w v l := by
  rcases open_slice Try.underlying39 h with ⟨hv, _⟩ | ⟨a, len, cap, m, n, D, Pl, hv, hb, hl, hm, hmm, _, hx⟩
  · simp at hv
    subst hv
    exact ⟨[], none, 0, rfl, Nat.le_refl _, fun i hi => absurd hi (Nat.not_lt_zero _)⟩
  · simp only [if_true] at hmm
    subst hmm
    simp at hv
    subst hv
    have each : ∀ i, i < len → ∃ s : Rc, w.cell? (a.add (i * 4)) = some (.int .i64 s.1) ∧ w.cell? (a.add (i * 4 + 1)) = some (.int .i64 s.2.1) ∧ w.cell? (a.add (i * 4 + 2)) = some (.int .i64 s.2.2.1) ∧ w.cell? (a.add (i * 4 + 3)) = some (.int .i64 s.2.2.2) := by
      intro i hi
      obtain ⟨cs', h1, h2⟩ := hx i (by omega)
      rw [show Try.prog.cellsOf 31 = 4 by kernel_rfl] at h1
      obtain ⟨_, _, hcell⟩ := World.cells?_some h1
      obtain ⟨s, rfl⟩ := trodRc h2
      have e : ∀ j, j < 4 → w.cell? (a.add (i * 4 + j)) = (rc4 s)[j]? := fun j hj => by have := hcell j hj; rwa [add_add] at this
      exact ⟨s, e 0 (by omega), e 1 (by omega), e 2 (by omega), e 3 (by omega)⟩
    obtain ⟨f, hf⟩ := choose_lt each
    refine ⟨(List.range len).map f, some a, m, by simp, by simp; exact hl, fun i hi => ⟨a, rfl, ?_⟩⟩
    have hi' : i < len := by simpa using hi
    have p := hf i hi'
    have ei : ((List.range len).map f)[i] = f i := by simp
    rw [ei]
    have hlt := World.block_lt_of_cell? w _ p.1
    rw [block_add] at hlt
    exact ⟨hlt, p⟩
theorem open_boxes {fuel : Nat} {v : Value} {x : DataW H × List MemPlace} (h : DataW.trod enc Try.prog w base (fun _ => true) held fuel 23 [v] = some x) : ∃ l : List Bx, BxRd w v l := by
  rcases open_slice Try.underlying23 h with ⟨hv, _⟩ | ⟨a, len, cap, m, n, D, Pl, hv, hb, hl, hm, hmm, _, hx⟩
  · simp at hv
    subst hv
    exact ⟨[], none, 0, rfl, Nat.le_refl _, (fun b hb => by cases hb), fun i hi => absurd hi (Nat.not_lt_zero _)⟩
  · simp only [if_true] at hmm
    subst hmm
    simp at hv
    subst hv
    have each : ∀ i, i < len → ∃ s : Bx, (s.w < 256 ∧ s.h < 256 ∧ s.x < 256 ∧ s.y < 256) ∧ w.cell? (a.add (i * 5)) = some (.int .u8 (s.w : Nat)) ∧ w.cell? (a.add (i * 5 + 1)) = some (.int .u8 (s.h : Nat)) ∧ w.cell? (a.add (i * 5 + 2)) = some (.int .u8 (s.x : Nat)) ∧ w.cell? (a.add (i * 5 + 3)) = some (.int .u8 (s.y : Nat)) ∧ w.cell? (a.add (i * 5 + 4)) = some (.bool s.free) := by
      intro i hi
      obtain ⟨cs', h1, h2⟩ := hx i (by omega)
      rw [show Try.prog.cellsOf 29 = 5 by kernel_rfl] at h1
      obtain ⟨_, _, hcell⟩ := World.cells?_some h1
      obtain ⟨s, rfl, hb⟩ := trodBx h2
      have e : ∀ j, j < 5 → w.cell? (a.add (i * 5 + j)) = ([Value.int .u8 s.w, .int .u8 s.h, .int .u8 s.x, .int .u8 s.y, .bool s.free])[j]? := fun j hj => by have := hcell j hj; rwa [add_add] at this
      exact ⟨s, hb, e 0 (by omega), e 1 (by omega), e 2 (by omega), e 3 (by omega), e 4 (by omega)⟩
    obtain ⟨f, hf⟩ := choose_lt each
    refine ⟨(List.range len).map f, some a, m, by simp, by simp; exact hl, ?_, fun i hi => ⟨a, rfl, ?_⟩⟩
    · intro b hb
      obtain ⟨i, hi, rfl⟩ := List.mem_map.1 hb
      exact (hf i (List.mem_range.1 hi)).1
    · have hi' : i < len := by simpa using hi
      have p := (hf i hi').2
      have ei : ((List.range len).map f)[i] = f i := by simp
      rw [ei]
      have hlt := World.block_lt_of_cell? w _ p.1
      rw [block_add] at hlt
      exact ⟨hlt, p⟩
end
end Go.Proofs.Ytklajpadnbeplaa
