/-
  What the program's steps of layer 4 do to any world: isShort, stepTo (no claim is made here).
-/
import Derived.Test.YtgkhpnjfpahlgaaBrows
import Derived.Test.YtgkhpnjfpahlgaaEnc0
namespace Go.Proofs.Ytgkhpnjfpahlgaa
open Go.RowKit

set_option maxHeartbeats 400000 in
theorem short_any (d : Int) (w : World) : Calls Try.prog 37 #[.int .i64 d] w fun e w' => e = .returned (.bool (!far d)) ∧ w = w' := by
  go_enter Try.func37, Try.ntmps37
  go_wp2
  all_goals
    go_ret
    refine ⟨?_, rfl⟩
    refine congrArg (fun b => Ending.returned (Value.bool b)) ?_
    rw [Bool.eq_iff_iff]
    simp [far]
    omega

/-- A block of three cells that may be written. -/
def Thr (w : World) (g : Nat) (a b c : Value) : Prop := (w.cell? ⟨g, 0, none⟩ = some a ∧ w.cell? ⟨g, 1, none⟩ = some b ∧ w.cell? ⟨g, 2, none⟩ = some c) ∧ w.frozen? ⟨g, 0, none⟩ = false ∧ w.frozen? ⟨g, 1, none⟩ = false ∧ w.frozen? ⟨g, 2, none⟩ = false

set_option maxHeartbeats 800000 in
theorem stepTo_any (x y px py : Int) (on pon : Bool) (fx fy : Bool) (hx : -255 ≤ x ∧ x ≤ 255) (hy : -255 ≤ y ∧ y ≤ 255) (hpx : -255 ≤ px ∧ px ≤ 255) (hpy : -255 ≤ py ∧ py ≤ 255) (h1 : far (x - px) = fx) (h2 : far (y - py) = fy) (w : World) :
    Calls Try.prog 32 #[.agg #[.int .i64 x, .int .i64 y, .bool on], .agg #[.int .i64 px, .int .i64 py, .bool pon]] w fun e w' => e = .returned (.agg #[.int .u8 (flagV (x - px) (y - py) on : Nat), .int .i64 (x - px), .int .i64 (y - py)]) ∧ Below w.heap.size w w' := by
  have HX := Lib.hid (short_any (x - px))
  have HY := Lib.hid (short_any (y - py))
  have HF : Hid (flagV (x - px) (y - py) on = (if on = true then 1 else 0) + (if fx = true then 2 else 0) + (if fy = true then 4 else 0)) := Lib.hid (by unfold flagV; rw [h1, h2])
  rw [h1] at HX
  rw [h2] at HY
  obtain ⟨dx, hdx⟩ : ∃ dx, x - px = dx := ⟨_, rfl⟩
  obtain ⟨dy, hdy⟩ : ∃ dy, y - py = dy := ⟨_, rfl⟩
  have wx : IntKind.i64.wrap (x - px) = dx := by rw [hdx]; rw [IntKind.wrap_i64]; omega
  have wy : IntKind.i64.wrap (y - py) = dy := by rw [hdy]; rw [IntKind.wrap_i64]; omega
  rw [hdx] at HX HF
  rw [hdy] at HY HF
  rw [hdx, hdy]
  clear h1 h2 hdx hdy hx hy hpx hpy
  obtain ⟨F, hF⟩ : ∃ F, flagV dx dy on = F := ⟨_, rfl⟩
  rw [hF] at HF
  rw [hF]
  clear hF
  have o1 : bits BinOp.or IntKind.u8 0 1 = 1 := by rfl
  have o2 : bits BinOp.or IntKind.u8 0 2 = 2 := by rfl
  have o3 : bits BinOp.or IntKind.u8 1 2 = 3 := by rfl
  have o4 : bits BinOp.or IntKind.u8 0 4 = 4 := by rfl
  have o5 : bits BinOp.or IntKind.u8 1 4 = 5 := by rfl
  have o6 : bits BinOp.or IntKind.u8 2 4 = 6 := by rfl
  have o7 : bits BinOp.or IntKind.u8 3 4 = 7 := by rfl
  go_enter Try.func32, Try.ntmps32
  cases on <;> cases fx <;> cases fy
  all_goals
    have hF := HF.out
    simp only [if_true, Bool.false_eq_true, if_false, Nat.zero_add, Nat.add_zero] at hF
    subst hF
    clear HF
    go_wp2_with fail
    refine (HX.out _).mono ?_
    rintro e w1 ⟨rfl, rfl⟩
    go_wp2_with fail
    refine (HY.out _).mono ?_
    rintro e w1 ⟨rfl, rfl⟩
    go_wp2_with fail
  all_goals
    refine bodyPost_ret (v := .agg #[.int .u8 _, .int .i64 dx, .int .i64 dy]) (by simp [results, Try.results32, go_sem]) rfl ⟨rfl, ?_⟩
    exact ((((Below.refl _ w).alloc (Nat.le_refl _) _).alloc (by simp) _).alloc (by simp; omega) _).alloc (by simp; omega) _

end Go.Proofs.Ytgkhpnjfpahlgaa
