/-
  What grid.Centre, Code, Each, floor, span and Around do to any world: contracts (no claim is made here).
-/
import Derived.Test.YtlhngelifmjefaaGrd1
import Derived.Deep.RegionHeld3
namespace Go.Proofs.Ytlhngelifmjefaa
open Go.RowKit

set_option maxRecDepth 100000 in
set_option maxHeartbeats 1600000 in
theorem centre_any (x y p u v s i k : Int) (hx : x.natAbs ≤ 65536) (hy : y.natAbs ≤ 65536) (hp : p.natAbs ≤ 65536) (hi : i.natAbs ≤ 65536) (hk : k.natAbs ≤ 65536) (w : World) :
    Calls Try.prog 21 #[.agg #[.int .i64 x, .int .i64 y, .int .i64 p, .int .i64 u, .int .i64 v, .int .i64 s], .int .i64 i, .int .i64 k] w fun e w' =>
      e = .returned (.agg #[.int .i64 (midG x p i), .int .i64 (midG y p k)]) ∧ Below w.heap.size w w' := by
  have H1 := Lib.hid (fun w => gmiddle_any x p i hx hp hi w)
  have H2 := Lib.hid (fun w => gmiddle_any y p k hy hp hk w)
  generalize midG x p i = m1 at *
  generalize midG y p k = m2 at *
  have HB := Lib.hid (alloc2 w (.cells #[.int .i64 x, .int .i64 y, .int .i64 p, .int .i64 u, .int .i64 v, .int .i64 s] 35) (.cells #[.int .i64 0, .int .i64 0] 49))
  have HG := Lib.hid ((Blk.new w 35 [.int .i64 x, .int .i64 y, .int .i64 p, .int .i64 u, .int .i64 v, .int .i64 s] rfl).alloc (.cells #[.int .i64 0, .int .i64 0] 49))
  have HP := Lib.hid (Blk.new (w.alloc (.cells #[.int .i64 x, .int .i64 y, .int .i64 p, .int .i64 u, .int .i64 v, .int .i64 s] 35)) 49 [.int .i64 0, .int .i64 0] (g := w.heap.size + 1) (by simp))
  clear hx hy hp hi hk
  go_enter Try.func21, Try.ntmps21
  go_wp2_with fail
  generalize hW : (w.alloc (.cells #[.int .i64 x, .int .i64 y, .int .i64 p, .int .i64 u, .int .i64 v, .int .i64 s] 35)).alloc (.cells #[.int .i64 0, .int .i64 0] 49) = W at *
  clear hW
  have c0 : W.drew.cell? ⟨w.heap.size, 0, none⟩ = some (.int .i64 x) ∧ W.drew.cell? ⟨w.heap.size, 1, none⟩ = some (.int .i64 y) ∧ W.drew.cell? ⟨w.heap.size, 2, none⟩ = some (.int .i64 p) := ⟨HG.out.cell 0 rfl, HG.out.cell 1 rfl, HG.out.cell 2 rfl⟩
  have p0 := HP.out.cell 0 rfl
  have p1 := HP.out.cell 1 rfl
  have f0 := HP.out.frozen 0
  have f1 := HP.out.frozen 1
  have hlt := HP.out.lt
  have HG2 := (HG.out.other (k := w.heap.size + 1) 0 (.int .i64 m1) (by omega)).other (k := w.heap.size + 1) 1 (.int .i64 m2) (by omega)
  have HP2 := (HP.out.set 0 (.int .i64 m1)).set 1 (.int .i64 m2)
  have c2 : ((W.setCell ⟨w.heap.size + 1, 0, none⟩ (.int .i64 m1)).setCell ⟨w.heap.size + 1, 1, none⟩ (.int .i64 m2)).drew.cell? ⟨w.heap.size, 0, none⟩ = some (.int .i64 x) ∧ ((W.setCell ⟨w.heap.size + 1, 0, none⟩ (.int .i64 m1)).setCell ⟨w.heap.size + 1, 1, none⟩ (.int .i64 m2)).drew.cell? ⟨w.heap.size, 1, none⟩ = some (.int .i64 y) ∧ ((W.setCell ⟨w.heap.size + 1, 0, none⟩ (.int .i64 m1)).setCell ⟨w.heap.size + 1, 1, none⟩ (.int .i64 m2)).drew.cell? ⟨w.heap.size, 2, none⟩ = some (.int .i64 p) := ⟨HG2.cell 0 rfl, HG2.cell 1 rfl, HG2.cell 2 rfl⟩
  have HPF := Lib.hid HP2
  have HBF := Lib.hid ((HB.out.setCell (p := ⟨w.heap.size + 1, 0, none⟩) (by simp) (.int .i64 m1)).setCell (p := ⟨w.heap.size + 1, 1, none⟩) (by simp) (.int .i64 m2))
  clear HG2 HP2
  go_region_held3 (fun wx => wx.cell? ⟨w.heap.size, 0, none⟩ = some (.int .i64 x) ∧ wx.cell? ⟨w.heap.size, 1, none⟩ = some (.int .i64 y) ∧ wx.cell? ⟨w.heap.size, 2, none⟩ = some (.int .i64 p))
    (first
      | with_reducible assumption
      | fail)
    (first
      | (go_at_call 34; (with_reducible refine (H1.out _).mono ?_); rintro e w2 ⟨rfl, rfl⟩)
      | (go_at_call 34; (with_reducible refine (H2.out _).mono ?_); rintro e w2 ⟨rfl, rfl⟩))
  have q0 := HPF.out.cell 0 rfl
  have q1 := HPF.out.cell 1 rfl
  go_wp2_with fail
  exact bodyPost_ret (v := .agg #[.int .i64 m1, .int .i64 m2]) (by simp [results, Try.results21, go_sem, q0, q1]) rfl ⟨rfl, HBF.out.drew⟩

set_option maxRecDepth 100000 in
set_option maxHeartbeats 1600000 in
theorem code_any (x y p u v s g e : Int) (hs : 1 ≤ s ∧ s ≤ 64) (hg : -1 ≤ g ∧ g ≤ 1) (he : 0 ≤ e ∧ e ≤ 1000000) (w : World) :
    Calls Try.prog 27 #[.agg #[.int .i64 x, .int .i64 y, .int .i64 p, .int .i64 u, .int .i64 v, .int .i64 s], .int .i64 g, .int .i64 e] w fun o w' =>
      o = .returned (.int .u8 (128 + g * stepG s e)) ∧ Below w.heap.size w w' := by
  have hB := (Below.refl _ w).alloc (Nat.le_refl _) (.cells #[.int .i64 x, .int .i64 y, .int .i64 p, .int .i64 u, .int .i64 v, .int .i64 s] 35)
  obtain ⟨n1, n2⟩ := stepG_in s e hs.1 he.1
  have hn : stepG s e = if e < 256 * s then e * 127 / (256 * s) else 127 := rfl
  generalize stepG s e = n at *
  have hgn : -127 ≤ g * n ∧ g * n ≤ 127 := by
    obtain rfl | rfl | rfl : g = -1 ∨ g = 0 ∨ g = 1 := by omega
    all_goals omega
  have hz : (256 * s == 0) = false := by simp; omega
  by_cases h : e < 256 * s
  · rw [if_pos h] at hn
    rw [hn] at n1 n2 hgn
    subst hn
    go_enter Try.func27, Try.ntmps27
    go_wp2
    go_ret
    exact ⟨rfl, hB⟩
  · rw [if_neg h] at hn
    go_enter Try.func27, Try.ntmps27
    go_wp2
    go_ret
    exact ⟨rfl, hB⟩

set_option maxRecDepth 100000 in
theorem each_any (x y p u v s : Int) (w : World) :
    Calls Try.prog 19 #[.agg #[.int .i64 x, .int .i64 y, .int .i64 p, .int .i64 u, .int .i64 v, .int .i64 s]] w fun o w' =>
      o = .returned (.func (.func 31) #[] #[.pointer (some ⟨w.heap.size, 0, none⟩)]) ∧ w' = w.alloc (.cells #[.int .i64 x, .int .i64 y, .int .i64 p, .int .i64 u, .int .i64 v, .int .i64 s] 35) := by
  go_enter Try.func19, Try.ntmps19
  go_wp2
  go_ret
  exact ⟨rfl, rfl⟩

end Go.Proofs.Ytlhngelifmjefaa
