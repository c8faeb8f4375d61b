/-
  What the verifier's bits and plus of layer 1 do to any world: contracts (no claim is made here).
-/
import Derived.Test.YtjokpafmkhfdgaaBits1
import Derived.Test.YtjokpafmkhfdgaaBitsMath
namespace Go.Proofs.Ytjokpafmkhfdgaa
open Go.RowKit

theorem bits_any (ph pl : Nat) (hh : ph < 18446744073709551616) (hl : pl < 18446744073709551616) (w : World) :
    Calls Try.prog 11 #[.agg #[.int .u64 ph, .int .u64 pl]] w fun e w' => e = .returned (.agg (bvArr (BitVec.ofNat 128 (ph * 18446744073709551616 + pl)))) ∧ Below w.heap.size w w' := by
  rw [← half_all pl ph hl]
  exact bits_core ph pl w (by omega) (by omega) (fun k => barr (half pl ph k)) (fun k => pl.testBit k) (fun k => ph.testBit k)
    (fun k _ => testBit_and pl k hl) (fun k _ => testBit_and ph k hh) (half_zero pl ph) (fun k hk => half_succ pl ph k hk) (fun k => Barr.size _) (Barr.one _)

/-- What holds of memory while plus goes round: both rows' boxes, the result's block, and the row that is filled. -/
structure PlusW (w : World) (xa ya cs : Array Value) (wr : World) : Prop where
  below : Below w.heap.size w wr
  size : wr.heap.size = w.heap.size + 1 + 1 + 1 + 1
  a : wr.heap[w.heap.size]? = some (.cells xa 24 (0, 0))
  b : wr.heap[w.heap.size + 1]? = some (.cells ya 24 (0, 0))
  out : wr.heap[w.heap.size + 1 + 1]? = some (.cells Z128 24 (0, 0))
  row : wr.heap[w.heap.size + 1 + 1 + 1]? = some (.cells cs 24 (0, 0))

theorem PlusW.set {w : World} {xa ya cs : Array Value} {wr : World} (h : PlusW w xa ya cs wr) (k : Nat) (v : Value) : PlusW w xa ya (cs.setIfInBounds k v) (wr.setCell ⟨w.heap.size + 1 + 1 + 1, k, none⟩ v) := by
  rw [setCell_eq_setRow wr _ k cs _ (0, 0) v h.row]
  refine ⟨below_row h.below (by omega) _, by rw [setRow_size]; exact h.size, ?_, ?_, ?_, setRow_heap _ _ _ _ _ _ h.row⟩
  · rw [setRow_other _ _ _ _ (by omega)]; exact h.a
  · rw [setRow_other _ _ _ _ (by omega)]; exact h.b
  · rw [setRow_other _ _ _ _ (by omega)]; exact h.out
theorem PlusW.drewN {w : World} {xa ya cs : Array Value} {wr : World} (h : PlusW w xa ya cs wr) (n : Nat) : PlusW w xa ya cs (wr.drewN n) :=
  ⟨below_drewN h.below n, h.size, h.a, h.b, h.out, h.row⟩

theorem heap_last (w : World) (o : Obj) (n : Nat) (h : w.heap.size = n) : (w.alloc o).heap[n]? = some o := by
  subst h; show (w.heap.push o)[w.heap.size]? = some o; simp
theorem heap_keep (w : World) (o o' : Obj) (n : Nat) (h : w.heap[n]? = some o') : (w.alloc o).heap[n]? = some o' := by
  rw [Below.heap_alloc w o n (Array.getElem?_eq_some_iff.1 h).1]; exact h

theorem PlusW.start (w : World) (xa ya : Array Value) : PlusW w xa ya Z128 ((((w.alloc (.cells xa 24)).alloc (.cells ya 24)).alloc (.cells Z128 24)).alloc (.cells Z128 24)) := by
  refine ⟨((((Below.refl _ w).alloc (Nat.le_refl _) _).alloc (by simp) _).alloc (by simp; omega) _).alloc (by simp; omega) _, by simp, ?_, ?_, ?_, ?_⟩
  · exact heap_keep _ _ _ _ (heap_keep _ _ _ _ (heap_keep _ _ _ _ (heap_last _ _ _ rfl)))
  · exact heap_keep _ _ _ _ (heap_keep _ _ _ _ (heap_last _ _ _ (by simp)))
  · exact heap_keep _ _ _ _ (heap_last _ _ _ (by simp))
  · exact heap_last _ _ _ (by simp)

set_option maxHeartbeats 4000000 in
set_option maxRecDepth 100000 in
theorem plus_core (F G C : Nat → Bool) (A : Nat → Array Value) (w : World)
    (HC0 : Hid (C 0 = false)) (HC : Hid (∀ k, k < 128 → C (k + 1) = ((F k && G k) || (C k && (F k || G k)))))
    (HA0 : Hid (A 0 = Z128)) (HA : Hid (∀ k, k < 128 → A (k + 1) = (A k).setIfInBounds k (.bool ((F k != G k) != C k)))) (HS : Hid (∀ k, (A k).size = 128)) (HO : Hid ((A 128).all (·.oneCell') = true)) :
    Calls Try.prog 17 #[.agg (barr F), .agg (barr G)] w fun e w' => e = .returned (.tuple #[.agg (A 128), .bool (C 128)]) ∧ Below w.heap.size w w' := by
  have hz := zero128
  have g0 : Hid (∀ k, k < 128 → (barr F)[k]? = some (.bool (F k))) := fun k h => Barr.get F k h
  have g1 : Hid (∀ k, k < 128 → (barr G)[k]? = some (.bool (G k))) := fun k h => Barr.get G k h
  generalize barr F = xa at g0 ⊢
  generalize barr G = ya at g1 ⊢
  go_enter Try.func17, Try.ntmps17
  go_wp2_with fail
  clear hz
  go_loopw [7, 8] (fun c i wr => ∃ k : Nat, k ≤ 128 ∧ i = .int .i64 k ∧ c = .bool (C k) ∧ PlusW w xa ya (A k) wr) (fun _ i _ => 128 - (intOf i).toNat)
  case atStart =>
    exact ⟨0, by omega, rfl, by rw [HC0.out], by rw [HA0.out]; exact PlusW.start w xa ya⟩
  case round =>
    obtain ⟨k, hk, rfl, rfl, hR⟩ := hrel
    by_cases hk3 : k < 128
    · have c0 := cell_of_block hR.a (g0.out k hk3)
      have c1 := cell_of_block hR.b (g1.out k hk3)
      have hC := Lib.hid (HC.out k hk3)
      have hA := Lib.hid (HA.out k hk3)
      have hS := HS.out k
      obtain ⟨v0, d0⟩ : ∃ v0, wr.cell? ⟨w.heap.size + 1 + 1 + 1, k, none⟩ = some v0 := ⟨_, cell_of_block hR.row (Array.getElem?_eq_getElem (by omega))⟩
      have f0 : wr.frozen? ⟨w.heap.size + 1 + 1 + 1, k, none⟩ = false := frozen_of_block hR.row
      have HR := Lib.hid hR
      clear hR hS
      generalize F k = x at c0 hC hA
      generalize G k = y at c1 hC hA
      generalize C k = c at hC hA ⊢
      cases x <;> cases y <;> cases c
      all_goals
        go_wp2_with fail
        go_quiet (fail)
        go_wp2_with fail
        go_roundw
        case rel => exact ⟨k + 1, by omega, by go_num, by rw [hC.out]; rfl, by rw [hA.out]; exact (HR.out.set k _).drewN _⟩
        case measure => simp [intOf]; omega
    · obtain rfl : k = 128 := by omega
      have hrow := Lib.hid hR.row
      have hout := Lib.hid hR.out
      have hb := Lib.hid hR.below
      have hi : Hid ((Try.prog.info? 24).map (·.size) = some (A 128).size) := by rw [HS.out 128]; exact info128
      have ho : Hid (Z128.size = (A 128).size) := by rw [HS.out 128]; exact Z128_size
      have he := Lib.hid (setRow_heap wr (w.heap.size + 1 + 1) Z128 (A 128) 24 (0, 0) hout.out)
      go_wp2_with (first
        | (refine wpList_load_row rfl 24 _ rfl (w.heap.size + 1 + 1 + 1) rfl 24 (A 128) (0, 0) _ hrow.out Try.underlying24 rfl hi.out ?_)
        | (refine wpList_store_row rfl 24 _ _ rfl (w.heap.size + 1 + 1) (A 128) rfl rfl 24 Z128 hout.out hi.out ho.out HO.out ?_))
      refine bodyPost_ret (v := .tuple #[.agg (A 128), .bool (C 128)]) ?_ rfl ⟨rfl, below_row hb.out (by omega) _⟩
      have hl := run_loadVar_row (P := Try.prog) _ (w.heap.size + 1 + 1) 24 24 (A 128) (0, 0) _ he.out Try.underlying24 rfl hi.out
      simp [results, Try.results17, asAddr, hl]

theorem plus128_any (x y : BitVec 128) (w : World) :
    Calls Try.prog 17 #[.agg (bvArr x), .agg (bvArr y)] w fun e w' => e = .returned (.tuple #[.agg (bvArr (x + y)), .bool (decide (340282366920938463463374607431768211456 ≤ x.toNat + y.toNat))]) ∧ Below w.heap.size w w' := by
  rw [← sumTo_all x y, ← carry_all x y]
  exact plus_core (fun i => x.getLsbD i) (fun i => y.getLsbD i) (fun k => BitVec.carry k x y false) (fun k => barr (sumTo x y k)) w
    (carry_zero x y) (fun k _ => carry_next x y k) (sumTo_zero x y) (fun k hk => sumTo_succ x y k hk) (fun k => Barr.size _) (Barr.one _)

end Go.Proofs.Ytjokpafmkhfdgaa
