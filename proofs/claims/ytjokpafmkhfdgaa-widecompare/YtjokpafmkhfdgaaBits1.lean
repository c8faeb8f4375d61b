/-
  What the verifier's bits, plus, compare, mul of layer 1 do to any world: contracts (no claim is made here).
-/
import Derived.Test.YtjokpafmkhfdgaaAwake1
import Derived.Deep.CutBlock
import Derived.Deep.DeepCutAuto
import Derived.BigRegion
import Derived.Laws.Rows
namespace Go.Proofs.Ytjokpafmkhfdgaa
open Go.RowKit

/-- 128 bools that are false. -/
def Z128 : Array Value := Array.replicate 128 (.bool false)
theorem zero128 (w : World) : (zeroValue 24).run Try.prog w = .ok (.agg Z128) w := by kernel_rfl

theorem Z128_size : Z128.size = 128 := by simp [Z128]
theorem info128 : (Try.prog.info? 24).map (·.size) = some 128 := by kernel_rfl

/-- What holds of memory while bits goes round: the pair's box, the result's block, and the row that is filled. -/
structure BitsW (w : World) (ph pl : Int) (cs : Array Value) (wr : World) : Prop where
  below : Below w.heap.size w wr
  size : wr.heap.size = w.heap.size + 1 + 1 + 1
  hi : wr.cell? ⟨w.heap.size, 0, none⟩ = some (.int .u64 ph)
  lo : wr.cell? ⟨w.heap.size, 1, none⟩ = some (.int .u64 pl)
  out : wr.heap[w.heap.size + 1]? = some (.cells Z128 24 (0, 0))
  row : wr.heap[w.heap.size + 1 + 1]? = some (.cells cs 24 (0, 0))

theorem cell_of_block {w : World} {g j : Nat} {cs : Array Value} {t : TypeId} {v : Value} (h : w.heap[g]? = some (.cells cs t (0, 0))) (hv : cs[j]? = some v) : w.cell? ⟨g, j, none⟩ = some v := by
  rw [cell_of_row w g j cs t (0, 0) h]; exact hv
theorem frozen_of_block {w : World} {g j : Nat} {cs : Array Value} {t : TypeId} (h : w.heap[g]? = some (.cells cs t (0, 0))) : w.frozen? ⟨g, j, none⟩ = false := by
  simp [World.frozen?, h]

theorem below_row {B g : Nat} {w0 w : World} (hb : Below B w0 w) (hBg : B ≤ g) (cs : Array Value) : Below B w0 (w.setRow g cs) :=
  ⟨hb.os, hb.tape, hb.output, by rw [setRow_size]; exact hb.size, fun k hk => by rw [setRow_other _ _ _ _ (by omega)]; exact hb.block k hk⟩

theorem BitsW.set {w : World} {ph pl : Int} {cs : Array Value} {wr : World} (h : BitsW w ph pl cs wr) (k : Nat) (v : Value) : BitsW w ph pl (cs.setIfInBounds k v) (wr.setCell ⟨w.heap.size + 1 + 1, k, none⟩ v) := by
  rw [setCell_eq_setRow wr _ k cs _ (0, 0) v h.row]
  refine ⟨below_row h.below (by omega) _, by rw [setRow_size]; exact h.size, ?_, ?_, ?_, setRow_heap _ _ _ _ _ _ h.row⟩
  · rw [cell_setRow_other _ _ _ _ (by show w.heap.size ≠ w.heap.size + 1 + 1; omega)]; exact h.hi
  · rw [cell_setRow_other _ _ _ _ (by show w.heap.size ≠ w.heap.size + 1 + 1; omega)]; exact h.lo
  · rw [setRow_other _ _ _ _ (by omega)]; exact h.out
theorem BitsW.drew {w : World} {ph pl : Int} {cs : Array Value} {wr : World} (h : BitsW w ph pl cs wr) : BitsW w ph pl cs wr.drew :=
  ⟨h.below.drew, h.size, h.hi, h.lo, h.out, h.row⟩

theorem BitsW.start (w : World) (ph pl : Int) : BitsW w ph pl Z128 (((w.alloc (.cells #[.int .u64 ph, .int .u64 pl] 27)).alloc (.cells Z128 24)).alloc (.cells Z128 24)) := by
  refine ⟨(((Below.refl _ w).alloc (Nat.le_refl _) _).alloc (by simp) _).alloc (by simp; omega) _, by simp, ?_, ?_, ?_, ?_⟩
  · exact keepAlloc _ (keepAlloc _ (by simp))
  · exact keepAlloc _ (keepAlloc _ (by simp))
  · have h := Below.heap_alloc ((w.alloc (.cells #[.int .u64 ph, .int .u64 pl] 27)).alloc (.cells Z128 24)) (.cells Z128 24) (w.heap.size + 1) (by simp)
    rw [h]
    exact heap_alloc2_new w _ _
  · have h := heap_alloc_new ((w.alloc (.cells #[.int .u64 ph, .int .u64 pl] 27)).alloc (.cells Z128 24)) (.cells Z128 24)
    have e : ((w.alloc (.cells #[.int .u64 ph, .int .u64 pl] 27)).alloc (.cells Z128 24)).heap.size = w.heap.size + 1 + 1 := by simp
    rw [e] at h
    exact h

set_option maxHeartbeats 1000000 in
set_option maxRecDepth 100000 in
theorem bits_core (ph pl : Int) (w : World) (_hpl : 0 ≤ pl) (_hph : 0 ≤ ph) (A : Nat → Array Value) (BL BH : Nat → Bool)
    (EL : Hid (∀ k, k < 64 → (bits .and .u64 (pl / 2 ^ k) 1 == 1) = BL k)) (EH : Hid (∀ k, k < 64 → (bits .and .u64 (ph / 2 ^ k) 1 == 1) = BH k))
    (HA0 : Hid (A 0 = Z128)) (HA : Hid (∀ k, k < 64 → A (k + 1) = ((A k).setIfInBounds k (.bool (BL k))).setIfInBounds (64 + k) (.bool (BH k)))) (HS : Hid (∀ k, (A k).size = 128)) (HO : Hid ((A 64).all (·.oneCell') = true)) :
    Calls Try.prog 11 #[.agg #[.int .u64 ph, .int .u64 pl]] w fun e w' => e = .returned (.agg (A 64)) ∧ Below w.heap.size w w' := by
  have hz := zero128
  go_enter Try.func11, Try.ntmps11
  go_wp2_with fail
  clear hz
  go_loopw [4] (fun i wr => ∃ k : Nat, k ≤ 64 ∧ i = .int .i64 k ∧ BitsW w ph pl (A k) wr) (fun i _ => 64 - (intOf i).toNat)
  case atStart =>
    exact ⟨0, by omega, rfl, by rw [HA0.out]; exact BitsW.start w ph pl⟩
  case round =>
    obtain ⟨k, hk, rfl, hR⟩ := hrel
    by_cases hk3 : k < 64
    · have c0 := hR.hi
      have c1 := hR.lo
      have eL := EL.out k hk3
      have eH := EH.out k hk3
      have hA := Lib.hid (HA.out k hk3)
      have hS := HS.out k
      generalize BL k = bl at eL hA
      generalize BH k = bh at eH hA
      obtain ⟨v0, d0⟩ : ∃ v0, wr.cell? ⟨w.heap.size + 1 + 1, k, none⟩ = some v0 := ⟨_, cell_of_block hR.row (Array.getElem?_eq_getElem (by omega))⟩
      obtain ⟨v1, d1⟩ : ∃ v0, wr.cell? ⟨w.heap.size + 1 + 1, 64 + k, none⟩ = some v0 := ⟨_, cell_of_block hR.row (Array.getElem?_eq_getElem (by omega))⟩
      have f0 : wr.frozen? ⟨w.heap.size + 1 + 1, k, none⟩ = false := frozen_of_block hR.row
      have f1 : wr.frozen? ⟨w.heap.size + 1 + 1, 64 + k, none⟩ = false := frozen_of_block hR.row
      have HR := Lib.hid (((hR.set k (.bool bl)).set (64 + k) (.bool bh)).drew)
      clear hR hS
      go_wp2_with fail
      go_region
      go_wp2_with fail
      go_roundw
      case rel => exact ⟨k + 1, by omega, by go_num, by rw [hA.out]; exact HR.out⟩
      case measure => simp [intOf]; omega
    · obtain rfl : k = 64 := by omega
      have hrow := Lib.hid hR.row
      have hout := Lib.hid hR.out
      have hb := Lib.hid hR.below
      have hi : Hid ((Try.prog.info? 24).map (·.size) = some (A 64).size) := by rw [HS.out 64]; exact info128
      have ho : Hid (Z128.size = (A 64).size) := by rw [HS.out 64]; exact Z128_size
      have he := Lib.hid (setRow_heap wr (w.heap.size + 1) Z128 (A 64) 24 (0, 0) hout.out)
      go_wp2_with (first
        | (refine wpList_load_row rfl 24 _ rfl (w.heap.size + 1 + 1) rfl 24 (A 64) (0, 0) _ hrow.out Try.underlying24 rfl hi.out ?_)
        | (refine wpList_store_row rfl 24 _ _ rfl (w.heap.size + 1) (A 64) rfl rfl 24 Z128 hout.out hi.out ho.out HO.out ?_))
      exact bodyPost_ret (results_cell_row Try.results11 _ _ (w.heap.size + 1) 24 (A 64) (0, 0) _ rfl he.out Try.underlying24 rfl hi.out) rfl ⟨rfl, below_row hb.out (by omega) _⟩

end Go.Proofs.Ytjokpafmkhfdgaa
