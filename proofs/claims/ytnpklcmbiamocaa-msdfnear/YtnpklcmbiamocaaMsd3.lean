/-
  What the closure of the law MsdfNear does to any world: a contract (no claim is made here).
-/
import Derived.Test.YtnpklcmbiamocaaMsd0
namespace Go.Proofs.Ytnpklcmbiamocaa
open Go.RowKit

theorem e8_sq_small (e : Ed) (p : Pt) (h : InD e) (hp : InP p) : e8 (sqF e p) ≤ 1000000 := by
  obtain ⟨l1, l2, l3⟩ := sq_small e p h hp
  obtain ⟨a0, a1, _⟩ := e8_spec l1.1 l2.1 (by omega)
  rcases Int.lt_or_le 1000000 (e8 (sqF e p)) with k | k
  · exfalso
    have m : (1000001 : Int) * 1000001 ≤ e8 (sqF e p) * e8 (sqF e p) := Int.mul_le_mul (by omega) (by omega) (by omega) (by omega)
    have m2 := Int.mul_le_mul_of_nonneg_right m (Int.le_of_lt l2.1)
    omega
  · exact k
theorem shr_bit : ∀ x : Fin 16, ∀ d : Fin 3, (bits BinOp.and IntKind.i64 (((x : Nat) : Int) / 2 ^ (d : Nat)) 1 == 1) = (x : Nat).testBit (d : Nat) := of_decide_eq_true (by kernel_rfl)
set_option maxRecDepth 100000 in
set_option maxHeartbeats 1600000 in
theorem near1_any (k gl gc N capl : Nat) (Al : Option Addr) (l : List Nat) (c : Int) (w : World) (hc : 0 ≤ c ∧ c ≤ 255) (hl : NRd w (.slice Al N capl) l) (hlb : ∀ x ∈ l, x < 16) (hk : k < N) (h0 : w.cell? ⟨gl, 0, none⟩ = some (.slice Al N capl)) (h1 : w.cell? ⟨gc, 0, none⟩ = some (.int .u8 c)) (hg : gl < w.heap.size ∧ gc < w.heap.size) :
    Calls Try.prog 25 #[.int .i64 k, .pointer (some ⟨gl, 0, none⟩), .pointer (some ⟨gc, 0, none⟩)] w fun e w' => e = .returned (.bool (inC l (c % 3).toNat k)) ∧ Below w.heap.size w w' := by
  obtain ⟨x, hx⟩ : ∃ x, l[k]? = some x := ⟨_, List.getElem?_eq_getElem (by have := hl.len.1; omega)⟩
  have hxb := hlb x (List.mem_of_getElem? hx)
  obtain ⟨a, rfl, hal, hax⟩ := hl.at k x hx
  have HR : Hid (inC l (c % 3).toNat k = x.testBit (c % 3).toNat) := Lib.hid (by unfold inC; rw [decide_eq_true (by have := hl.len.1; omega), Bool.true_and, List.getD_eq_getElem?_getD, hx]; rfl)
  obtain ⟨d, hd⟩ : ∃ d : Nat, c % 3 = d := ⟨(c % 3).toNat, by omega⟩
  have hd3 : d < 3 := by omega
  have hcd : c.tmod 3 = (d : Int) := by rw [Int.tmod_eq_emod_of_nonneg hc.1]; exact hd
  rw [hd, Int.toNat_natCast] at HR
  rw [hd, Int.toNat_natCast]
  obtain ⟨h01, h02⟩ := hg
  clear hl hlb hx hd
  go_enter Try.func25, Try.ntmps25
  go_wp2_with fail
  go_region
  go_wp2_with fail
  go_ret
  exact ⟨ret_bool ((shr_bit ⟨x, hxb⟩ ⟨d, hd3⟩).trans HR.out.symm), (Below.refl _ w).drew⟩

end Go.Proofs.Ytnpklcmbiamocaa
