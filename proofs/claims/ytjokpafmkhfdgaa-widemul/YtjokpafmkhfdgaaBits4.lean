/-
  What the verifier's mul of layer 1 does to any world: a contract (no claim is made here).
-/
import Derived.Test.YtjokpafmkhfdgaaBits2
namespace Go.Proofs.Ytjokpafmkhfdgaa
open Go.RowKit

/-- What holds of memory while mul goes round: the result's block, and the sum's row. -/
structure MulW (w : World) (cs : Array Value) (wr : World) : Prop where
  below : Below w.heap.size w wr
  size : w.heap.size + 1 + 1 ≤ wr.heap.size
  out : wr.heap[w.heap.size]? = some (.cells Z128 24 (0, 0))
  row : wr.heap[w.heap.size + 1]? = some (.cells cs 24 (0, 0))
theorem MulW.start (w : World) : MulW w Z128 ((w.alloc (.cells Z128 24)).alloc (.cells Z128 24)) := by
  refine ⟨((Below.refl _ w).alloc (Nat.le_refl _) _).alloc (by simp) _, by simp, ?_, ?_⟩
  · exact heap_keep _ _ _ _ (heap_last _ _ _ rfl)
  · exact heap_last _ _ _ (by simp)
theorem MulW.below' {w : World} {cs : Array Value} {wr w2 : World} (h : MulW w cs wr) (hb : Below wr.heap.size wr w2) : MulW w cs w2 :=
  ⟨below2 h.below hb, Nat.le_trans h.size hb.size, (hb.block _ (Array.getElem?_eq_some_iff.1 h.out).1).trans h.out, (hb.block _ (Array.getElem?_eq_some_iff.1 h.row).1).trans h.row⟩
theorem MulW.store {w : World} {cs : Array Value} {wr : World} (h : MulW w cs wr) (ds : Array Value) : MulW w ds (wr.setRow (w.heap.size + 1) ds) :=
  ⟨below_row h.below (by omega) _, by rw [setRow_size]; exact h.size, by rw [setRow_other _ _ _ _ (by omega)]; exact h.out, setRow_heap _ _ _ _ _ _ h.row⟩

/-- .. and while the second number's row is laid. -/
structure InW (wo : World) (g : Nat) (xs : Array Value) (wi : World) : Prop where
  below : Below g wo wi
  row : wi.heap[g]? = some (.cells xs 24 (0, 0))
theorem InW.set {wo : World} {g : Nat} {xs : Array Value} {wi : World} (h : InW wo g xs wi) (k : Nat) (v : Value) : InW wo g (xs.setIfInBounds k v) (wi.setCell ⟨g, k, none⟩ v) := by
  rw [setCell_eq_setRow wi _ k xs _ (0, 0) v h.row]
  exact ⟨below_row h.below (Nat.le_refl _) _, setRow_heap _ _ _ _ _ _ h.row⟩

set_option maxHeartbeats 4000000 in
set_option maxRecDepth 100000 in
theorem mul_core (a b : Int) (AB BB CC : Nat → Bool) (A : Nat → Array Value) (X : Nat → Nat → Array Value) (w : World)
    (EA : Hid (∀ i, i < 64 → (bits .and .u64 (a / 2 ^ i) 1 == 1) = AB i)) (EB : Hid (∀ k, k < 64 → (bits .and .u64 (b / 2 ^ k) 1 == 0) = !BB k))
    (HA0 : Hid (A 0 = Z128)) (HAs : Hid (∀ k, k < 64 → BB k = false → A (k + 1) = A k))
    (HX0 : Hid (∀ k, X k 0 = Z128)) (HX : Hid (∀ k i, k < 64 → i < 64 → X k (i + 1) = (X k i).setIfInBounds (i + k) (.bool (AB i)))) (HXs : Hid (∀ k i, (X k i).size = 128))
    (HS : Hid (∀ k, (A k).size = 128)) (HO : Hid (∀ k, (A k).all (·.oneCell') = true))
    (HP : Hid (∀ k, k < 64 → BB k = true → ∀ w, Calls Try.prog 17 #[.agg (A k), .agg (X k 64)] w fun e w' => e = .returned (.tuple #[.agg (A (k + 1)), .bool (CC k)]) ∧ Below w.heap.size w w')) :
    Calls Try.prog 13 #[.int .u64 a, .int .u64 b] w fun e w' => e = .returned (.agg (A 64)) ∧ Below w.heap.size w w' := by
  have hz := zero128
  go_enter Try.func13, Try.ntmps13
  go_wp2_with fail
  go_loopw [6] (fun i wr => ∃ k : Nat, k ≤ 64 ∧ i = .int .i64 k ∧ MulW w (A k) wr) (fun i _ => 64 - (intOf i).toNat)
  case atStart =>
    exact ⟨0, by omega, rfl, by rw [HA0.out]; exact MulW.start w⟩
  case round =>
    obtain ⟨k, hk, rfl, hR⟩ := hrel
    obtain ⟨wo, rfl⟩ : ∃ wo : World, wo = wr := ⟨_, rfl⟩
    by_cases hk3 : k < 64
    · have eB := EB.out k hk3
      generalize hbk : BB k = bk at eB
      cases bk
      · have HA := Lib.hid (HAs.out k hk3 hbk)
        clear hbk
        go_wp2_with fail
        go_roundw
        case rel => exact ⟨k + 1, by omega, by go_num, by rw [HA.out]; exact hR⟩
        case measure => simp [intOf]; omega
      · have HPk := Lib.hid (HP.out k hk3 hbk)
        have hkb : decide ((k : Int) < 64) = true := by simp; omega
        clear hbk
        go_wp2_with fail
        go_loopw [8] (fun i wr => ∃ j : Nat, j ≤ 64 ∧ i = .int .i64 j ∧ InW wo wo.heap.size (X k j) wr) (fun i _ => 64 - (intOf i).toNat)
        case atStart =>
          exact ⟨0, by omega, rfl, by rw [HX0.out]; exact ⟨(Below.refl _ _).alloc (Nat.le_refl _) _, heap_last _ _ _ rfl⟩⟩
        case round =>
          obtain ⟨j, hj, rfl, hI⟩ := hrel
          by_cases hj3 : j < 64
          · have eA := EA.out j hj3
            have hX := Lib.hid (HX.out k j hk3 hj3)
            have hS := HXs.out k j
            generalize AB j = aj at eA hX
            obtain ⟨v0, d0⟩ : ∃ v0, wr.cell? ⟨wo.heap.size, j + k, none⟩ = some v0 := ⟨_, cell_of_block hI.row (Array.getElem?_eq_getElem (by omega))⟩
            have f0 : wr.frozen? ⟨wo.heap.size, j + k, none⟩ = false := frozen_of_block hI.row
            have HI := Lib.hid (hI.set (j + k) (.bool aj))
            clear hI hS
            go_wp2_with fail
            go_roundw
            case rel => exact ⟨j + 1, by omega, by go_num, by rw [hX.out]; exact HI.out⟩
            case measure => simp [intOf]; omega
          · obtain rfl : j = 64 := by omega
            have M2 := hR.below' (hI.below)
            have hx := Lib.hid hI.row
            have hrow := Lib.hid M2.row
            have hi : Hid ((Try.prog.info? 24).map (·.size) = some (A k).size) := by rw [HS.out k]; exact info128
            have hix : Hid ((Try.prog.info? 24).map (·.size) = some (X k 64).size) := by rw [HXs.out k]; exact info128
            have hi1 : Hid ((Try.prog.info? 24).map (·.size) = some (A (k + 1)).size) := by rw [HS.out]; exact info128
            have hsz : Hid ((A k).size = (A (k + 1)).size) := by rw [HS.out, HS.out]; rfl
            have hone := Lib.hid (HO.out (k + 1))
            have HM := Lib.hid M2
            clear M2 hI hR
            go_wp2_with (first
              | (refine wpList_load_row rfl 24 (Operand.tmp 5) rfl (w.heap.size + 1) rfl 24 (A k) (0, 0) _ hrow.out Try.underlying24 rfl hi.out ?_)
              | (refine wpList_load_row rfl 24 (Operand.tmp 7) rfl wo.heap.size rfl 24 (X k 64) (0, 0) _ hx.out Try.underlying24 rfl hix.out ?_))
            refine (HPk.out _).mono ?_
            rintro e w3 ⟨rfl, hb3⟩
            have M3 := HM.out.below' hb3
            have hrow3 := Lib.hid M3.row
            have HM3 := Lib.hid (M3.store (A (k + 1)))
            clear M3
            go_wp2_with (refine wpList_store_row rfl 24 _ _ rfl (w.heap.size + 1) (A (k + 1)) rfl rfl 24 (A k) hrow3.out hi1.out hsz.out hone.out ?_)
            go_roundw
            case rel => exact ⟨k + 1, by omega, by go_num, HM3.out⟩
            case measure => simp [intOf]; omega
    · obtain rfl : k = 64 := by omega
      have hrow := Lib.hid hR.row
      have hout := Lib.hid hR.out
      have hb := Lib.hid hR.below
      have hi : Hid ((Try.prog.info? 24).map (·.size) = some (A 64).size) := by rw [HS.out 64]; exact info128
      have ho : Hid (Z128.size = (A 64).size) := by rw [HS.out 64]; exact Z128_size
      have hone := Lib.hid (HO.out 64)
      have he := Lib.hid (setRow_heap wo w.heap.size Z128 (A 64) 24 (0, 0) hout.out)
      clear hR
      go_wp2_with (first
        | (refine wpList_load_row rfl 24 _ rfl (w.heap.size + 1) rfl 24 (A 64) (0, 0) _ hrow.out Try.underlying24 rfl hi.out ?_)
        | (refine wpList_store_row rfl 24 _ _ rfl w.heap.size (A 64) rfl rfl 24 Z128 hout.out hi.out ho.out hone.out ?_))
      exact bodyPost_ret (results_cell_row Try.results13 _ _ w.heap.size 24 (A 64) (0, 0) _ rfl he.out Try.underlying24 rfl hi.out) rfl ⟨rfl, below_row hb.out (Nat.le_refl _) _⟩

end Go.Proofs.Ytjokpafmkhfdgaa
