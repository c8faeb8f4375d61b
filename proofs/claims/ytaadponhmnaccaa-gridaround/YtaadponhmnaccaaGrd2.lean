/-
  What grid.Centre, Code, Each, floor, span and Around do to any world: contracts (no claim is made here).
-/
import Derived.Test.YtaadponhmnaccaaGrd1
import Derived.Deep.RegionHeld3
namespace Go.Proofs.Ytaadponhmnaccaa
open Go.RowKit

set_option maxRecDepth 100000 in
set_option maxHeartbeats 1600000 in
theorem centre_any (x y p u v s i k : Int) (hx : x.natAbs ≤ 65536) (hy : y.natAbs ≤ 65536) (hp : p.natAbs ≤ 65536) (hi : i.natAbs ≤ 65536) (hk : k.natAbs ≤ 65536) (w : World) :
    Calls Try.prog 13 #[.agg #[.int .i64 x, .int .i64 y, .int .i64 p, .int .i64 u, .int .i64 v, .int .i64 s], .int .i64 i, .int .i64 k] w fun e w' =>
      e = .returned (.agg #[.int .i64 (midG x p i), .int .i64 (midG y p k)]) ∧ Below w.heap.size w w' := by
  have H1 := Lib.hid (fun w => middle_any x p i hx hp hi w)
  have H2 := Lib.hid (fun w => middle_any y p k hy hp hk w)
  generalize midG x p i = m1 at *
  generalize midG y p k = m2 at *
  have HB := Lib.hid (alloc2 w (.cells #[.int .i64 x, .int .i64 y, .int .i64 p, .int .i64 u, .int .i64 v, .int .i64 s] 23) (.cells #[.int .i64 0, .int .i64 0] 35))
  have HG := Lib.hid ((Blk.new w 23 [.int .i64 x, .int .i64 y, .int .i64 p, .int .i64 u, .int .i64 v, .int .i64 s] rfl).alloc (.cells #[.int .i64 0, .int .i64 0] 35))
  have HP := Lib.hid (Blk.new (w.alloc (.cells #[.int .i64 x, .int .i64 y, .int .i64 p, .int .i64 u, .int .i64 v, .int .i64 s] 23)) 35 [.int .i64 0, .int .i64 0] (g := w.heap.size + 1) (by simp))
  clear hx hy hp hi hk
  go_enter Try.func13, Try.ntmps13
  go_wp2_with fail
  generalize hW : (w.alloc (.cells #[.int .i64 x, .int .i64 y, .int .i64 p, .int .i64 u, .int .i64 v, .int .i64 s] 23)).alloc (.cells #[.int .i64 0, .int .i64 0] 35) = W at *
  clear hW
  have c0 : W.drew.cell? ⟨w.heap.size, 0, none⟩ = some (.int .i64 x) ∧ W.drew.cell? ⟨w.heap.size, 1, none⟩ = some (.int .i64 y) ∧ W.drew.cell? ⟨w.heap.size, 2, none⟩ = some (.int .i64 p) := ⟨HG.out.cell 0 rfl, HG.out.cell 1 rfl, HG.out.cell 2 rfl⟩
  have p0 := HP.out.cell 0 rfl
  have p1 := HP.out.cell 1 rfl
  have f0 := HP.out.frozen 0
  have f1 := HP.out.frozen 1
  have hlt := HP.out.lt
  have HG2 := (HG.out.other (k := w.heap.size + 1) 0 (.int .i64 m1) (by omega)).other (k := w.heap.size + 1) 1 (.int .i64 m2) (by omega)
  have HP2 := (HP.out.set 0 (.int .i64 m1)).set 1 (.int .i64 m2)
  have c2 : ((W.setCell ⟨w.heap.size + 1, 0, none⟩ (.int .i64 m1)).setCell ⟨w.heap.size + 1, 1, none⟩ (.int .i64 m2)).drew.cell? ⟨w.heap.size, 0, none⟩ = some (.int .i64 x) ∧ ((W.setCell ⟨w.heap.size + 1, 0, none⟩ (.int .i64 m1)).setCell ⟨w.heap.size + 1, 1, none⟩ (.int .i64 m2)).drew.cell? ⟨w.heap.size, 1, none⟩ = some (.int .i64 y) ∧ ((W.setCell ⟨w.heap.size + 1, 0, none⟩ (.int .i64 m1)).setCell ⟨w.heap.size + 1, 1, none⟩ (.int .i64 m2)).drew.cell? ⟨w.heap.size, 2, none⟩ = some (.int .i64 p) := ⟨HG2.cell 0 rfl, HG2.cell 1 rfl, HG2.cell 2 rfl⟩
  have HPF := Lib.hid HP2
  have HBF := Lib.hid ((HB.out.setCell (p := ⟨w.heap.size + 1, 0, none⟩) (by simp) (.int .i64 m1)).setCell (p := ⟨w.heap.size + 1, 1, none⟩) (by simp) (.int .i64 m2))
  clear HG2 HP2
  go_region_held3 (fun wx => wx.cell? ⟨w.heap.size, 0, none⟩ = some (.int .i64 x) ∧ wx.cell? ⟨w.heap.size, 1, none⟩ = some (.int .i64 y) ∧ wx.cell? ⟨w.heap.size, 2, none⟩ = some (.int .i64 p))
    (first
      | with_reducible assumption
      | fail)
    (first
      | (go_at_call 20; (with_reducible refine (H1.out _).mono ?_); rintro e w2 ⟨rfl, rfl⟩)
      | (go_at_call 20; (with_reducible refine (H2.out _).mono ?_); rintro e w2 ⟨rfl, rfl⟩))
  have q0 := HPF.out.cell 0 rfl
  have q1 := HPF.out.cell 1 rfl
  go_wp2_with fail
  exact bodyPost_ret (v := .agg #[.int .i64 m1, .int .i64 m2]) (by simp [results, Try.results13, go_sem, q0, q1]) rfl ⟨rfl, HBF.out.drew⟩

/-- P9.3. -/
def stepG (s e : Int) : Int := if e < 256 * s then e * 127 / (256 * s) else 127
theorem stepG_in (s e : Int) (hs : 1 ≤ s) (he : 0 ≤ e) : 0 ≤ stepG s e ∧ stepG s e ≤ 127 := by
  unfold stepG
  split
  · exact ⟨Int.ediv_nonneg (by omega) (by omega), Int.ediv_le_of_le_mul (by omega) (by omega)⟩
  · omega

set_option maxRecDepth 100000 in
set_option maxHeartbeats 1600000 in
theorem code_any (x y p u v s g e : Int) (hs : 1 ≤ s ∧ s ≤ 64) (hg : -1 ≤ g ∧ g ≤ 1) (he : 0 ≤ e ∧ e ≤ 1000000) (w : World) :
    Calls Try.prog 14 #[.agg #[.int .i64 x, .int .i64 y, .int .i64 p, .int .i64 u, .int .i64 v, .int .i64 s], .int .i64 g, .int .i64 e] w fun o w' =>
      o = .returned (.int .u8 (128 + g * stepG s e)) ∧ Below w.heap.size w w' := by
  have hB := (Below.refl _ w).alloc (Nat.le_refl _) (.cells #[.int .i64 x, .int .i64 y, .int .i64 p, .int .i64 u, .int .i64 v, .int .i64 s] 23)
  obtain ⟨n1, n2⟩ := stepG_in s e hs.1 he.1
  have hn : stepG s e = if e < 256 * s then e * 127 / (256 * s) else 127 := rfl
  generalize stepG s e = n at *
  have hgn : -127 ≤ g * n ∧ g * n ≤ 127 := by
    obtain rfl | rfl | rfl : g = -1 ∨ g = 0 ∨ g = 1 := by omega
    all_goals omega
  have hz : (256 * s == 0) = false := by simp; omega
  by_cases h : e < 256 * s
  · rw [if_pos h] at hn
    rw [hn] at n1 n2 hgn
    subst hn
    go_enter Try.func14, Try.ntmps14
    go_wp2
    go_ret
    exact ⟨rfl, hB⟩
  · rw [if_neg h] at hn
    go_enter Try.func14, Try.ntmps14
    go_wp2
    go_ret
    exact ⟨rfl, hB⟩

set_option maxRecDepth 100000 in
theorem each_any (x y p u v s : Int) (w : World) :
    Calls Try.prog 15 #[.agg #[.int .i64 x, .int .i64 y, .int .i64 p, .int .i64 u, .int .i64 v, .int .i64 s]] w fun o w' =>
      o = .returned (.func (.func 21) #[] #[.pointer (some ⟨w.heap.size, 0, none⟩)]) ∧ w' = w.alloc (.cells #[.int .i64 x, .int .i64 y, .int .i64 p, .int .i64 u, .int .i64 v, .int .i64 s] 23) := by
  go_enter Try.func15, Try.ntmps15
  go_wp2
  go_ret
  exact ⟨rfl, rfl⟩

set_option maxRecDepth 100000 in
theorem gfloor_any (a b : Int) (ha : -9223372036854775808 ≤ a ∧ a ≤ 9223372036854775807) (hb : 1 ≤ b ∧ b ≤ 9223372036854775807) (w : World) :
    Calls Try.prog 23 #[.int .i64 a, .int .i64 b] w fun e w' => e = .returned (.int .i64 (a / b)) ∧ w = w' := by
  obtain ⟨ha1, ha2⟩ := ha
  obtain ⟨hb1, hb2⟩ := hb
  have HB := Lib.hid (ediv_bounds a b ha1 ha2 hb1)
  have hz : (b == 0) = false := by simp; omega
  by_cases h : 0 ≤ a
  · have h2 := Int.emod_nonneg a (show b ≠ 0 by omega)
    go_enter Try.func23, Try.ntmps23
    go_wp2
    go_ret
    exact ⟨rfl, rfl⟩
  · have HF := Lib.hid (floor_neg a b (by omega) hb1)
    by_cases hm : 0 ≤ a.tmod b
    · go_enter Try.func23, Try.ntmps23
      go_wp2
      go_ret
      exact ⟨ret_int (HF.out.1 hm), rfl⟩
    · go_enter Try.func23, Try.ntmps23
      go_wp2
      go_ret
      exact ⟨ret_int (by rw [HF.out.2 (by omega)]; have := HB.out; unfold wrap64; omega), rfl⟩

end Go.Proofs.Ytaadponhmnaccaa
