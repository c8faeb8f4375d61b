/-
  What the law WindOut does to any world (no claim is made here).
-/
import Derived.Test.YtglmgenifjaakaaWnd6
import Derived.Test.YtglmgenifjaakaaFlt13
import Derived.OpenShut
namespace Go.Proofs.Ytglmgenifjaakaa
open Go.RowKit

/-- What is out of the box of closed edges they do not go round. -/
theorem out_box (es : List Ed) (ls : List (List Ed)) (h1 : es = ls.flatten) (h2 : ∀ l ∈ ls, ∃ q, Way q l q) (l0 l1 h0 h1' : Int) (hb : boxS es = (⟨l0, l1⟩, ⟨h0, h1'⟩)) (x y : Int) (hp : ¬ (l0 ≤ x ∧ x ≤ h0 ∧ l1 ≤ y ∧ y ≤ h1')) : numS es ⟨x, y⟩ = 0 ∧ onS es ⟨x, y⟩ = false := by
  by_cases he : es = []
  · subst he
    exact ⟨rfl, rfl⟩
  · have hB := isBox es he
    rw [hb] at hB
    subst h1
    refine out_zero ls h2 ⟨l0, l1⟩ ⟨h0, h1'⟩ ⟨x, y⟩ (fun e hE => ?_) hp
    have k1 := hB.inn e.a (mem_ends.2 ⟨e, hE, Or.inl rfl⟩)
    have k2 := hB.inn e.b (mem_ends.2 ⟨e, hE, Or.inr rfl⟩)
    exact ⟨k1, k2⟩
theorem box_le (es : List Ed) (h : ∀ e ∈ es, leE e) (l0 l1 h0 h1 : Int) (hb : boxS es = (⟨l0, l1⟩, ⟨h0, h1⟩)) : -8160 ≤ h0 ∧ h0 ≤ 8160 := by
  by_cases he : es = []
  · subst he
    injection hb with _ hb
    injection hb with hb _
    omega
  · have hB := isBox es he
    rw [hb] at hB
    have k := hB.right
    simp only [List.any_eq_true, beq_iff_eq] at k
    obtain ⟨p, hp, hpx⟩ := k
    obtain ⟨e, hE, hpe⟩ := mem_ends.1 hp
    obtain ⟨⟨⟨a0, a1⟩, _⟩, ⟨b0, b1⟩, _⟩ := h e hE
    try simp only [] at hpx
    rcases hpe with rfl | rfl <;> omega
theorem in_out (v : Value) (es : List Ed) (p0 p1 : Int) (w : World) (hv : ERd w v es) (hl : es.length ≤ 200000) (hin : ∀ s ∈ es, InD s) (hp : InP ⟨p0, p1⟩) (hz : numS es ⟨p0, p1⟩ = 0 ∧ onS es ⟨p0, p1⟩ = false) :
    Calls Try.prog 16 #[v, .agg #[.int .i64 p0, .int .i64 p1]] w fun e w' => e = .returned (.bool false) ∧ Below w.heap.size w w' := by
  have h := in_any v es p0 p1 w hv hl hin hp
  rw [hz.1, hz.2] at h
  exact h
theorem num_out (v : Value) (es : List Ed) (p0 p1 : Int) (w : World) (hv : ERd w v es) (hl : es.length ≤ 200000) (hin : ∀ s ∈ es, InD s) (hp : InP ⟨p0, p1⟩) (hz : numS es ⟨p0, p1⟩ = 0 ∧ onS es ⟨p0, p1⟩ = false) :
    Calls Try.prog 12 #[v, .agg #[.int .i64 p0, .int .i64 p1]] w fun e w' => e = .returned (.int .i64 0) ∧ Below w.heap.size w w' := by
  have h := number_any v es p0 p1 w hv hl hin hp
  rw [hz.1] at h
  exact h

set_option maxRecDepth 100000 in
set_option maxHeartbeats 6400000 in
theorem windOut_walk (A : Option Addr) (n cap : Nat) (cs : List (List Dot)) (x y : Int) (w : World) (hcs : DotRows w A n cap cs) (hx : -32768 ≤ x ∧ x ≤ 32767) (hy : -32768 ≤ y ∧ y ≤ 32767) :
    Calls Try.prog 6 #[.slice A n cap, .int .i16 x, .int .i16 y] w fun e w' => e = .returned (.bool true) ∧ Below w.heap.size w w' := by
  have HD := Lib.hid hcs
  clear hcs
  go_enter Try.func6, Try.ntmps6
  go_wp2_with fail
  refine (awake7 _).mono ?_
  rintro e w1 ⟨rfl, hb1⟩
  have HB1 := Lib.hid hb1
  have HC := Lib.hid (glyph7 A n cap cs w1 (HD.out.keep HB1.out))
  clear hb1 HD
  go_wp2_with fail
  refine HC.out.mono ?_
  rintro e w2 ⟨u, es, rfl, hu, hln, hin, ⟨ls, hls, hcl, hle⟩, hb2⟩
  have HB2 := Lib.hid (HB1.out.trans (hb2.mono HB1.out.size))
  have HU := Lib.hid (ERow.read hu)
  have HIN := Lib.hid hin
  have hln2 : es.length ≤ 200000 := by omega
  have HLN := Lib.hid hln2
  have hX := box_any u es w2 HU.out hln
  obtain ⟨⟨⟨l0, l1⟩, ⟨h0, h1⟩⟩, hbx⟩ : ∃ b, boxS es = b := ⟨_, rfl⟩
  have HOB := Lib.hid (fun x y => out_box es ls hls hcl l0 l1 h0 h1 hbx x y)
  have hh0 := box_le es (hls ▸ hle) l0 l1 h0 h1 hbx
  rw [hbx] at hX
  simp only [ptA] at hX
  have HX := Lib.hid hX
  obtain ⟨Au, capu, rfl⟩ := hu.form
  obtain ⟨N, hN⟩ : ∃ N, es.length = N := ⟨_, rfl⟩
  rw [hN] at HU HX hln
  rw [hN]
  have HN := Lib.hid hN
  have hcu : N ≤ capu := by obtain ⟨_, _, e, h, _⟩ := HU.out; injection e with _ _ e; omega
  clear hu hin hcl hb2 HC HB1 hN hln2 hX hbx hle hls
  go_wp2_with fail
  refine HX.out.mono ?_
  rintro e w3 ⟨rfl, hb3⟩
  have HB3 := Lib.hid (HB2.out.trans (hb3.mono HB2.out.size))
  have HU3 := Lib.hid (HU.out.keep hb3)
  clear hb3 HX HB2 HU
  go_wp2_with fail
  all_goals
    refine (in_out _ es _ _ _ ?_ HLN.out HIN.out ?_ ?_).mono ?_
    · exact HU3.out.keep (alloc3 _ _ _ _)
    · unfold InP; simp only []; omega
    · exact HOB.out _ _ (by omega)
    rintro e w5 ⟨rfl, hb5⟩
    have HU5 := Lib.hid ((HU3.out.keep (alloc3 _ _ _ _)).keep hb5)
    have HB5 := Lib.hid ((HB3.out.trans ((alloc3 w3 _ _ _).mono HB3.out.size)).trans (hb5.mono (Nat.le_trans HB3.out.size (alloc3 w3 _ _ _).size)))
    obtain ⟨q0, q1, qn⟩ := two_kept (g := w3.heap.size + 1 + 1) (by simp) hb5
    clear hb5
    go_wp2_with fail
    refine (num_out _ es _ _ _ ?_ HLN.out HIN.out ?_ ?_).mono ?_
    · exact HU5.out
    · unfold InP; simp only []; omega
    · exact HOB.out _ _ (by omega)
    rintro e w6 ⟨rfl, hb6⟩
    have HB6 := Lib.hid (HB5.out.trans (hb6.mono HB5.out.size))
    clear hb6
    go_wp2
    go_ret
    exact ⟨rfl, HB6.out⟩

end Go.Proofs.Ytglmgenifjaakaa
