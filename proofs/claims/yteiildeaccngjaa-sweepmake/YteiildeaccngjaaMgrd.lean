/-
  Grd1 Grd2 Grd4 in one text (no claim is made here).
-/
import Derived.Test.YteiildeaccngjaaBlk
import Derived.Test.YteiildeaccngjaaMnum
import Derived.BigQuiet
import Derived.Deep.QuietTactic
import Derived.Deep.RegionHeld3
namespace Go.Proofs.Yteiildeaccngjaa
open Go.RowKit

/-- Six cells of a block that is known whole, stored one behind the other. -/
theorem Blk.six {w0 w : World} {B g : Nat} {t : TypeId} {a0 a1 a2 a3 a4 a5 : Value} (h : Blk w g t [a0, a1, a2, a3, a4, a5]) (hb : Below B w0 w) (hg : B ≤ g) (x0 x1 x2 x3 x4 x5 : Value) :
    Blk ((((((w.setCell ⟨g, 0, none⟩ x0).setCell ⟨g, 1, none⟩ x1).setCell ⟨g, 2, none⟩ x2).setCell ⟨g, 3, none⟩ x3).setCell ⟨g, 4, none⟩ x4).setCell ⟨g, 5, none⟩ x5) g t [x0, x1, x2, x3, x4, x5] ∧
    Below B w0 ((((((w.setCell ⟨g, 0, none⟩ x0).setCell ⟨g, 1, none⟩ x1).setCell ⟨g, 2, none⟩ x2).setCell ⟨g, 3, none⟩ x3).setCell ⟨g, 4, none⟩ x4).setCell ⟨g, 5, none⟩ x5) :=
  ⟨(((((h.set 0 x0).set 1 x1).set 2 x2).set 3 x3).set 4 x4).set 5 x5, (((((hb.setCell hg _).setCell hg _).setCell hg _).setCell hg _).setCell hg _).setCell hg _⟩

set_option maxRecDepth 100000 in
theorem within_any (n a b : Int) (w : World) : Calls Try.prog 46 #[.int .i64 n, .int .i64 a, .int .i64 b] w fun e w' => e = .returned (.bool (decide (a ≤ n ∧ n ≤ b))) ∧ w = w' := by
  go_enter Try.func46, Try.ntmps46
  by_cases h1 : a ≤ n <;> by_cases h2 : n ≤ b <;> go_wp2 <;> go_ret <;> exact ⟨by simp [*], rfl⟩

set_option maxRecDepth 100000 in
set_option maxHeartbeats 1600000 in
theorem gcheck_any (x y p u v s : Int) (w : World) : Calls Try.prog 20 #[.agg #[.int .i64 x, .int .i64 y, .int .i64 p, .int .i64 u, .int .i64 v, .int .i64 s]] w fun e w' => e = .returned (.int .i64 (checkG x y p u v s)) ∧ Below w.heap.size w w' := by
  have hB := (Below.refl _ w).alloc (Nat.le_refl _) (.cells #[.int .i64 x, .int .i64 y, .int .i64 p, .int .i64 u, .int .i64 v, .int .i64 s] 29)
  go_enter Try.func20, Try.ntmps20
  go_wp2_with (go_at_call 46; refine (within_any _ _ _ _).mono ?_; rintro e w' ⟨rfl, rfl⟩)
  all_goals go_ret
  all_goals refine ⟨ret_int ?_, hB⟩
  all_goals
    clear hB
    try simp only [Bool.not_eq_true', Bool.not_eq_false', decide_eq_true_eq, decide_eq_false_iff_not] at *
    unfold checkG
    split <;> (try split) <;> omega

set_option maxRecDepth 100000 in
theorem gmiddle_any (x p i : Int) (hx : x.natAbs ≤ 65536) (hp : p.natAbs ≤ 65536) (hi : i.natAbs ≤ 65536) (w : World) : Calls Try.prog 36 #[.int .i64 x, .int .i64 p, .int .i64 i] w fun e w' => e = .returned (.int .i64 (midG x p i)) ∧ w = w' := by
  have h1 : (i * p).natAbs ≤ 65536 * 65536 := by rw [Int.natAbs_mul]; exact Nat.mul_le_mul hi hp
  have e : midG x p i = x * 32 + i * p * 32 + p * 16 := rfl
  obtain ⟨q, hq⟩ : ∃ q, i * p = q := ⟨_, rfl⟩
  rw [hq] at h1 e
  have e1 : IntKind.i64.wrap (i * p) = q := by rw [hq]; exact wI (by omega) (by omega)
  clear hq
  go_enter Try.func36, Try.ntmps36
  go_wp2
  go_ret
  exact ⟨by simp; omega, rfl⟩

end Go.Proofs.Yteiildeaccngjaa

namespace Go.Proofs.Yteiildeaccngjaa
open Go.RowKit

set_option maxRecDepth 100000 in
set_option maxHeartbeats 1600000 in
theorem centre_any (x y p u v s i k : Int) (hx : x.natAbs ≤ 65536) (hy : y.natAbs ≤ 65536) (hp : p.natAbs ≤ 65536) (hi : i.natAbs ≤ 65536) (hk : k.natAbs ≤ 65536) (w : World) :
    Calls Try.prog 15 #[.agg #[.int .i64 x, .int .i64 y, .int .i64 p, .int .i64 u, .int .i64 v, .int .i64 s], .int .i64 i, .int .i64 k] w fun e w' =>
      e = .returned (.agg #[.int .i64 (midG x p i), .int .i64 (midG y p k)]) ∧ Below w.heap.size w w' := by
  have H1 := Lib.hid (fun w => gmiddle_any x p i hx hp hi w)
  have H2 := Lib.hid (fun w => gmiddle_any y p k hy hp hk w)
  generalize midG x p i = m1 at *
  generalize midG y p k = m2 at *
  have HB := Lib.hid (alloc2 w (.cells #[.int .i64 x, .int .i64 y, .int .i64 p, .int .i64 u, .int .i64 v, .int .i64 s] 29) (.cells #[.int .i64 0, .int .i64 0] 41))
  have HG := Lib.hid ((Blk.new w 29 [.int .i64 x, .int .i64 y, .int .i64 p, .int .i64 u, .int .i64 v, .int .i64 s] rfl).alloc (.cells #[.int .i64 0, .int .i64 0] 41))
  have HP := Lib.hid (Blk.new (w.alloc (.cells #[.int .i64 x, .int .i64 y, .int .i64 p, .int .i64 u, .int .i64 v, .int .i64 s] 29)) 41 [.int .i64 0, .int .i64 0] (g := w.heap.size + 1) (by simp))
  clear hx hy hp hi hk
  go_enter Try.func15, Try.ntmps15
  go_wp2_with fail
  generalize hW : (w.alloc (.cells #[.int .i64 x, .int .i64 y, .int .i64 p, .int .i64 u, .int .i64 v, .int .i64 s] 29)).alloc (.cells #[.int .i64 0, .int .i64 0] 41) = W at *
  clear hW
  have c0 : W.drew.cell? ⟨w.heap.size, 0, none⟩ = some (.int .i64 x) ∧ W.drew.cell? ⟨w.heap.size, 1, none⟩ = some (.int .i64 y) ∧ W.drew.cell? ⟨w.heap.size, 2, none⟩ = some (.int .i64 p) := ⟨HG.out.cell 0 rfl, HG.out.cell 1 rfl, HG.out.cell 2 rfl⟩
  have p0 := HP.out.cell 0 rfl
  have p1 := HP.out.cell 1 rfl
  have f0 := HP.out.frozen 0
  have f1 := HP.out.frozen 1
  have hlt := HP.out.lt
  have HG2 := (HG.out.other (k := w.heap.size + 1) 0 (.int .i64 m1) (by omega)).other (k := w.heap.size + 1) 1 (.int .i64 m2) (by omega)
  have HP2 := (HP.out.set 0 (.int .i64 m1)).set 1 (.int .i64 m2)
  have c2 : ((W.setCell ⟨w.heap.size + 1, 0, none⟩ (.int .i64 m1)).setCell ⟨w.heap.size + 1, 1, none⟩ (.int .i64 m2)).drew.cell? ⟨w.heap.size, 0, none⟩ = some (.int .i64 x) ∧ ((W.setCell ⟨w.heap.size + 1, 0, none⟩ (.int .i64 m1)).setCell ⟨w.heap.size + 1, 1, none⟩ (.int .i64 m2)).drew.cell? ⟨w.heap.size, 1, none⟩ = some (.int .i64 y) ∧ ((W.setCell ⟨w.heap.size + 1, 0, none⟩ (.int .i64 m1)).setCell ⟨w.heap.size + 1, 1, none⟩ (.int .i64 m2)).drew.cell? ⟨w.heap.size, 2, none⟩ = some (.int .i64 p) := ⟨HG2.cell 0 rfl, HG2.cell 1 rfl, HG2.cell 2 rfl⟩
  have HPF := Lib.hid HP2
  have HBF := Lib.hid ((HB.out.setCell (p := ⟨w.heap.size + 1, 0, none⟩) (by simp) (.int .i64 m1)).setCell (p := ⟨w.heap.size + 1, 1, none⟩) (by simp) (.int .i64 m2))
  clear HG2 HP2
  go_region_held3 (fun wx => wx.cell? ⟨w.heap.size, 0, none⟩ = some (.int .i64 x) ∧ wx.cell? ⟨w.heap.size, 1, none⟩ = some (.int .i64 y) ∧ wx.cell? ⟨w.heap.size, 2, none⟩ = some (.int .i64 p))
    (first
      | with_reducible assumption
      | fail)
    (first
      | (go_at_call 36; (with_reducible refine (H1.out _).mono ?_); rintro e w2 ⟨rfl, rfl⟩)
      | (go_at_call 36; (with_reducible refine (H2.out _).mono ?_); rintro e w2 ⟨rfl, rfl⟩))
  have q0 := HPF.out.cell 0 rfl
  have q1 := HPF.out.cell 1 rfl
  go_wp2_with fail
  exact bodyPost_ret (v := .agg #[.int .i64 m1, .int .i64 m2]) (by simp [results, Try.results15, go_sem, q0, q1]) rfl ⟨rfl, HBF.out.drew⟩

set_option maxRecDepth 100000 in
set_option maxHeartbeats 1600000 in
theorem code_any (x y p u v s g e : Int) (hs : 1 ≤ s ∧ s ≤ 64) (hg : -1 ≤ g ∧ g ≤ 1) (he : 0 ≤ e ∧ e ≤ 1000000) (w : World) :
    Calls Try.prog 16 #[.agg #[.int .i64 x, .int .i64 y, .int .i64 p, .int .i64 u, .int .i64 v, .int .i64 s], .int .i64 g, .int .i64 e] w fun o w' =>
      o = .returned (.int .u8 (128 + g * stepG s e)) ∧ Below w.heap.size w w' := by
  have hB := (Below.refl _ w).alloc (Nat.le_refl _) (.cells #[.int .i64 x, .int .i64 y, .int .i64 p, .int .i64 u, .int .i64 v, .int .i64 s] 29)
  obtain ⟨n1, n2⟩ := stepG_in s e hs.1 he.1
  have hn : stepG s e = if e < 256 * s then e * 127 / (256 * s) else 127 := rfl
  generalize stepG s e = n at *
  have hgn : -127 ≤ g * n ∧ g * n ≤ 127 := by
    obtain rfl | rfl | rfl : g = -1 ∨ g = 0 ∨ g = 1 := by omega
    all_goals omega
  have hz : (256 * s == 0) = false := by simp; omega
  by_cases h : e < 256 * s
  · rw [if_pos h] at hn
    rw [hn] at n1 n2 hgn
    subst hn
    go_enter Try.func16, Try.ntmps16
    go_wp2
    go_ret
    exact ⟨rfl, hB⟩
  · rw [if_neg h] at hn
    go_enter Try.func16, Try.ntmps16
    go_wp2
    go_ret
    exact ⟨rfl, hB⟩

set_option maxRecDepth 100000 in
theorem each_any (x y p u v s : Int) (w : World) :
    Calls Try.prog 34 #[.agg #[.int .i64 x, .int .i64 y, .int .i64 p, .int .i64 u, .int .i64 v, .int .i64 s]] w fun o w' =>
      o = .returned (.func (.func 54) #[] #[.pointer (some ⟨w.heap.size, 0, none⟩)]) ∧ w' = w.alloc (.cells #[.int .i64 x, .int .i64 y, .int .i64 p, .int .i64 u, .int .i64 v, .int .i64 s] 29) := by
  go_enter Try.func34, Try.ntmps34
  go_wp2
  go_ret
  exact ⟨rfl, rfl⟩

end Go.Proofs.Yteiildeaccngjaa

namespace Go.Proofs.Yteiildeaccngjaa
open Go.RowKit

/-- A row of bytes that is read. -/
def BtRd (w : World) (A : Option Addr) (bs : List Int) : Prop := ∀ i (h : i < bs.length), ∃ a, A = some a ∧ w.cell? (a.add i) = some (.int .u8 bs[i])
theorem BtRd.keep {w w' : World} {A : Option Addr} {bs : List Int} (h : BtRd w A bs) (hb : Below w.heap.size w w') : BtRd w' A bs := fun i hi => by
  obtain ⟨a, e, hc⟩ := h i hi
  exact ⟨a, e, Go.Proofs.Yteiildeaccngjaa.keep hb hc⟩

/-- Which byte of a field a texel is; none: there is none. -/
def atG (u v : Int) (bs : List Int) (i k : Int) : Option Int :=
  if i < 0 ∨ k < 0 ∨ u ≤ i ∨ v ≤ k then none else bs[(k * u + i).toNat]?

theorem ediv_small' (a b : Int) (ha : a.natAbs ≤ 40000) (hb : 1 ≤ b) : (a / b).natAbs ≤ 40000 := by
  have k := Int.mul_le_mul_of_nonneg_left hb (show (0 : Int) ≤ 40000 by omega)
  have h1 : -40000 ≤ a / b := Int.le_ediv_of_mul_le (by omega) (by omega)
  have h2 : a / b ≤ 40000 := Int.ediv_le_of_le_mul (by omega) (by omega)
  omega
theorem down_neg (a b : Int) (hb : 1 ≤ b) : a.tdiv b = a / b ∨ (a.tdiv b - 1 = a / b ∧ a < a.tdiv b * b) := by
  by_cases h : 0 ≤ a
  · exact .inl (Int.tdiv_eq_ediv_of_nonneg h)
  · obtain ⟨h1, h2⟩ := floor_neg a b (by omega) hb
    by_cases hm : 0 ≤ a.tmod b
    · exact .inl (h1 hm)
    · refine .inr ⟨h2 (by omega), ?_⟩
      have := Int.tdiv_mul_add_tmod a b
      omega

set_option maxRecDepth 100000 in
set_option maxHeartbeats 1600000 in
theorem sgrid_any (x y p u v s : Int) (hx : 0 ≤ x ∧ x ≤ 255) (hy : 0 ≤ y ∧ y ≤ 255) (hp : 0 ≤ p ∧ p ≤ 255) (hu : 0 ≤ u ∧ u ≤ 255) (hv : 0 ≤ v ∧ v ≤ 255) (hs : 0 ≤ s ∧ s ≤ 255) (w : World) :
    Calls Try.prog 11 #[.agg #[.int .u8 x, .int .u8 y, .int .u8 p, .int .u8 u, .int .u8 v, .int .u8 s]] w fun e w' =>
      e = .returned (.agg #[.int .i64 (x - 128), .int .i64 (y - 128), .int .i64 (1 + p % 16), .int .i64 (1 + u % 10), .int .i64 (1 + v % 10), .int .i64 (1 + s % 64)]) ∧ Below w.heap.size w w' := by
  have HF := Lib.hid (Blk.new (w.alloc (.cells #[.int .u8 x, .int .u8 y, .int .u8 p, .int .u8 u, .int .u8 v, .int .u8 s] 24)) 29 [.int .i64 (x - 128), .int .i64 (y - 128), .int .i64 (1 + p % 16), .int .i64 (1 + u % 10), .int .i64 (1 + v % 10), .int .i64 (1 + s % 64)] (g := w.heap.size + 1) (by simp))
  have HB := Lib.hid (alloc2 w (.cells #[.int .u8 x, .int .u8 y, .int .u8 p, .int .u8 u, .int .u8 v, .int .u8 s] 24) (.cells #[.int .i64 (x - 128), .int .i64 (y - 128), .int .i64 (1 + p % 16), .int .i64 (1 + u % 10), .int .i64 (1 + v % 10), .int .i64 (1 + s % 64)] 29))
  go_enter Try.func11, Try.ntmps11
  go_wp2
  have q0 := HF.out.cell 0 rfl
  have q1 := HF.out.cell 1 rfl
  have q2 := HF.out.cell 2 rfl
  have q3 := HF.out.cell 3 rfl
  have q4 := HF.out.cell 4 rfl
  have q5 := HF.out.cell 5 rfl
  exact bodyPost_ret (v := .agg #[.int .i64 (x - 128), .int .i64 (y - 128), .int .i64 (1 + p % 16), .int .i64 (1 + u % 10), .int .i64 (1 + v % 10), .int .i64 (1 + s % 64)]) (by simp [results, Try.results11, go_sem, q0, q1, q2, q3, q4, q5]) rfl ⟨rfl, HB.out⟩

end Go.Proofs.Yteiildeaccngjaa
