/-
  What plane.Sub, Dot, Cross, Side, Line and Square do to any world, within the document's bounds: contracts (no claim is made here).
-/
import Derived.Test.YtglmgenifjaakaaPlane2
import Derived.Test.YtglmgenifjaakaaPlaneMath
namespace Go.Proofs.Ytglmgenifjaakaa
open Go.RowKit

theorem wI {x : Int} (h1 : -9223372036854775808 ≤ x) (h2 : x ≤ 9223372036854775807) : IntKind.i64.wrap x = x := IntWalk.i64_in _ ⟨h1, h2⟩

theorem sub_any (a0 a1 b0 b1 : Int) (h : a0.natAbs ≤ 65536 ∧ a1.natAbs ≤ 65536 ∧ b0.natAbs ≤ 65536 ∧ b1.natAbs ≤ 65536) (w : World) :
    Calls Try.prog 29 #[.agg #[.int .i64 a0, .int .i64 a1], .agg #[.int .i64 b0, .int .i64 b1]] w fun e w' => e = .returned (.agg #[.int .i64 (a0 - b0), .int .i64 (a1 - b1)]) ∧ Below w.heap.size w w' :=
  sub_raw a0 a1 b0 b1 _ _ (wI (by omega) (by omega)) (wI (by omega) (by omega)) w

theorem dot_any (a0 a1 b0 b1 : Int) (h : a0.natAbs ≤ 65536 ∧ a1.natAbs ≤ 65536 ∧ b0.natAbs ≤ 65536 ∧ b1.natAbs ≤ 65536) (w : World) :
    Calls Try.prog 30 #[.agg #[.int .i64 a0, .int .i64 a1], .agg #[.int .i64 b0, .int .i64 b1]] w fun e w' => e = .returned (.int .i64 (a0 * b0 + a1 * b1)) ∧ Below w.heap.size w w' := by
  have h1 := mulB h.1 h.2.2.1
  have h2 := mulB h.2.1 h.2.2.2
  exact dot_raw a0 a1 b0 b1 _ _ _ (wI (by omega) (by omega)) (wI (by omega) (by omega)) (wI (by omega) (by omega)) w

theorem cross_any (a0 a1 b0 b1 : Int) (h : a0.natAbs ≤ 65536 ∧ a1.natAbs ≤ 65536 ∧ b0.natAbs ≤ 65536 ∧ b1.natAbs ≤ 65536) (w : World) :
    Calls Try.prog 25 #[.agg #[.int .i64 a0, .int .i64 a1], .agg #[.int .i64 b0, .int .i64 b1]] w fun e w' => e = .returned (.int .i64 (a0 * b1 - a1 * b0)) ∧ Below w.heap.size w w' := by
  have h1 := mulB h.1 h.2.2.2
  have h2 := mulB h.2.1 h.2.2.1
  exact cross_raw a0 a1 b0 b1 _ _ _ (wI (by omega) (by omega)) (wI (by omega) (by omega)) (wI (by omega) (by omega)) w

theorem fraction_any (n d : Int) (hn : 0 ≤ n) (hn2 : n < 9223372036854775808) (hd : 1 ≤ d) (hd2 : d < 9223372036854775808) (w : World) :
    Calls Try.prog 40 #[.int .i64 n, .int .i64 d] w fun e w' => e = .returned (.agg #[.int .i64 (frI n d).1, .int .i64 (frI n d).2]) ∧ Below w.heap.size w w' := by
  obtain ⟨n, rfl⟩ := Int.eq_ofNat_of_zero_le hn
  obtain ⟨d, rfl⟩ := Int.eq_ofNat_of_zero_le (show 0 ≤ d by omega)
  exact fraction_raw n d _ _ _ (Lib.hid fun w => of_any n d (by omega) (by omega) (by omega) w) w

theorem frI_one (n : Int) (hn : 0 ≤ n) : frI n 1 = (n, 1) := by
  obtain ⟨n, rfl⟩ := Int.eq_ofNat_of_zero_le hn
  unfold frI
  simp

theorem between_any (a0 a1 p0 p1 : Int) (ha : a0.natAbs ≤ 32768 ∧ a1.natAbs ≤ 32768) (hp : p0.natAbs ≤ 32768 ∧ p1.natAbs ≤ 32768) (w : World) :
    Calls Try.prog 31 #[.agg #[.int .i64 a0, .int .i64 a1], .agg #[.int .i64 p0, .int .i64 p1]] w fun e w' => e = .returned (.agg #[.int .i64 ((p0 - a0) * (p0 - a0) + (p1 - a1) * (p1 - a1)), .int .i64 1]) ∧ Below w.heap.size w w' := by
  have h1 : (p0 - a0).natAbs ≤ 65536 := by omega
  have h2 : (p1 - a1).natAbs ≤ 65536 := by omega
  have g1 := mulB h1 h1
  have g2 := mulB h2 h2
  have n1 := sqNN (p0 - a0)
  have n2 := sqNN (p1 - a1)
  have HF := fun w => fraction_any ((p0 - a0) * (p0 - a0) + (p1 - a1) * (p1 - a1)) 1 (by omega) (by omega) (by omega) (by omega) w
  rw [frI_one _ (by omega)] at HF
  exact between_raw a0 a1 p0 p1 (p0 - a0) (p1 - a1) _ _ _ (Lib.hid fun w => sub_any _ _ _ _ ⟨by omega, by omega, by omega, by omega⟩ w) (Lib.hid fun w => dot_any _ _ _ _ ⟨h1, h2, h1, h2⟩ w) (Lib.hid HF) w

/-- The bounds that the document names. -/
def InE (a0 a1 b0 b1 p0 p1 : Int) : Prop := (a0.natAbs ≤ 8192 ∧ a1.natAbs ≤ 8192) ∧ (b0.natAbs ≤ 8192 ∧ b1.natAbs ≤ 8192) ∧ (p0.natAbs ≤ 32768 ∧ p1.natAbs ≤ 32768)

theorem line_any (a0 a1 b0 b1 p0 p1 : Int) (h : InE a0 a1 b0 b1 p0 p1) (w : World) :
    Calls Try.prog 32 #[.agg #[.int .i64 a0, .int .i64 a1, .int .i64 b0, .int .i64 b1], .agg #[.int .i64 p0, .int .i64 p1]] w fun e w' => e = .returned (.agg #[.int .i64 (lineV (b0 - a0) (b1 - a1) (p0 - a0) (p1 - a1)).1, .int .i64 (lineV (b0 - a0) (b1 - a1) (p0 - a0) (p1 - a1)).2]) ∧ Below w.heap.size w w' := by
  obtain ⟨⟨ha0, ha1⟩, ⟨hb0, hb1⟩, ⟨hp0, hp1⟩⟩ := h
  by_cases hu : b0 - a0 = 0 ∧ b1 - a1 = 0
  · obtain rfl : b0 = a0 := by omega
    obtain rfl : b1 = a1 := by omega
    have e : lineV (b0 - b0) (b1 - b1) (p0 - b0) (p1 - b1) = ((p0 - b0) * (p0 - b0) + (p1 - b1) * (p1 - b1), 1) := by unfold lineV; rw [if_pos hu]
    rw [e]
    exact line_same b0 b1 p0 p1 _ _ (Lib.hid fun w => between_any _ _ _ _ (by omega) (by omega) w) w
  · have e : lineV (b0 - a0) (b1 - a1) (p0 - a0) (p1 - a1) = frI (((b0 - a0) * (p1 - a1) - (b1 - a1) * (p0 - a0)) * ((b0 - a0) * (p1 - a1) - (b1 - a1) * (p0 - a0))) ((b0 - a0) * (b0 - a0) + (b1 - a1) * (b1 - a1)) := by unfold lineV; rw [if_neg hu]
    rw [e]
    have h1 : (b0 - a0).natAbs ≤ 16384 := by omega
    have h2 : (b1 - a1).natAbs ≤ 16384 := by omega
    have h3 : (p0 - a0).natAbs ≤ 40960 := by omega
    have h4 : (p1 - a1).natAbs ≤ 40960 := by omega
    have g1 := mulB h1 h4
    have g2 := mulB h2 h3
    have g3 := mulB h1 h1
    have g4 := mulB h2 h2
    have hc : ((b0 - a0) * (p1 - a1) - (b1 - a1) * (p0 - a0)).natAbs ≤ 1342177280 := by omega
    have g5 := mulB hc hc
    have n5 := sqNN ((b0 - a0) * (p1 - a1) - (b1 - a1) * (p0 - a0))
    have n6 := long_pos hu
    exact line_raw a0 a1 b0 b1 p0 p1 (b0 - a0) (b1 - a1) (p0 - a0) (p1 - a1) _ _ _ _ _ (by omega) (wI (by omega) (by omega))
      (Lib.hid fun w => sub_any _ _ _ _ ⟨by omega, by omega, by omega, by omega⟩ w) (Lib.hid fun w => sub_any _ _ _ _ ⟨by omega, by omega, by omega, by omega⟩ w)
      (Lib.hid fun w => cross_any _ _ _ _ ⟨by omega, by omega, by omega, by omega⟩ w) (Lib.hid fun w => dot_any _ _ _ _ ⟨by omega, by omega, by omega, by omega⟩ w)
      (Lib.hid fun w => fraction_any _ _ n5 (by omega) (by omega) (by omega) w) w

theorem square_any (a0 a1 b0 b1 p0 p1 : Int) (h : InE a0 a1 b0 b1 p0 p1) (w : World) :
    Calls Try.prog 24 #[.agg #[.int .i64 a0, .int .i64 a1, .int .i64 b0, .int .i64 b1], .agg #[.int .i64 p0, .int .i64 p1]] w fun e w' => e = .returned (.agg #[.int .i64 (squareV (b0 - a0) (b1 - a1) (p0 - a0) (p1 - a1)).1, .int .i64 (squareV (b0 - a0) (b1 - a1) (p0 - a0) (p1 - a1)).2]) ∧ Below w.heap.size w w' := by
  have HN := fun w => line_any a0 a1 b0 b1 p0 p1 h w
  obtain ⟨⟨ha0, ha1⟩, ⟨hb0, hb1⟩, ⟨hp0, hp1⟩⟩ := h
  have e1 : p0 - a0 - (b0 - a0) = p0 - b0 := by omega
  have e2 : p1 - a1 - (b1 - a1) = p1 - b1 := by omega
  refine square_raw a0 a1 b0 b1 p0 p1 (b0 - a0) (b1 - a1) (p0 - a0) (p1 - a1) _ _ _ _
      (Lib.hid fun w => sub_any _ _ _ _ ⟨by omega, by omega, by omega, by omega⟩ w) (Lib.hid fun w => sub_any _ _ _ _ ⟨by omega, by omega, by omega, by omega⟩ w)
      (Lib.hid fun w => dot_any _ _ _ _ ⟨by omega, by omega, by omega, by omega⟩ w) (Lib.hid fun w => dot_any _ _ _ _ ⟨by omega, by omega, by omega, by omega⟩ w) ?_ ?_ ?_ w
  · intro hf
    unfold squareV
    rw [if_pos hf]
    exact Lib.hid fun w => between_any _ _ _ _ (by omega) (by omega) w
  · intro hf hL
    unfold squareV
    rw [if_neg (by omega), if_pos hL, e1, e2]
    exact Lib.hid fun w => between_any _ _ _ _ (by omega) (by omega) w
  · intro hf hL
    unfold squareV
    rw [if_neg (by omega), if_neg (by omega)]
    exact Lib.hid HN

theorem side_any (a0 a1 b0 b1 p0 p1 : Int) (h : InE a0 a1 b0 b1 p0 p1) (w : World) :
    Calls Try.prog 28 #[.agg #[.int .i64 a0, .int .i64 a1, .int .i64 b0, .int .i64 b1], .agg #[.int .i64 p0, .int .i64 p1]] w fun e w' => e = .returned (.int .i64 (sideV (b0 - a0) (b1 - a1) (p0 - a0) (p1 - a1))) ∧ Below w.heap.size w w' := by
  obtain ⟨⟨ha0, ha1⟩, ⟨hb0, hb1⟩, ⟨hp0, hp1⟩⟩ := h
  refine side_raw a0 a1 b0 b1 p0 p1 (b0 - a0) (b1 - a1) (p0 - a0) (p1 - a1) _ _ ?_
      (Lib.hid fun w => sub_any _ _ _ _ ⟨by omega, by omega, by omega, by omega⟩ w) (Lib.hid fun w => sub_any _ _ _ _ ⟨by omega, by omega, by omega, by omega⟩ w)
      (Lib.hid fun w => cross_any _ _ _ _ ⟨by omega, by omega, by omega, by omega⟩ w) w
  unfold sideV
  split
  · next h => exact Or.inl ⟨h, rfl⟩
  · split
    · next h k => exact Or.inr (Or.inl ⟨h, k, rfl⟩)
    · next h k => exact Or.inr (Or.inr ⟨h, k, rfl⟩)

end Go.Proofs.Ytglmgenifjaakaa
