/-
  The walk of the law PlaneMove, with what it asks supplied (no claim is made here: the row is PlaneMove).
-/
import Derived.Test.YtdbmbppmgeabkaaPlaneMoveWalk
namespace Go.Proofs.Ytdbmbppmgeabkaa
open Go.RowKit

theorem small_in (x : Int) : (x.tmod 8193).natAbs ≤ 8192 := by
  have h1 := Int.natAbs_tmod x 8193
  have h2 := Nat.mod_lt x.natAbs (show 0 < (8193 : Int).natAbs by decide)
  rw [h1]
  have : (8193 : Int).natAbs = 8193 := rfl
  omega
theorem half_in (x : Int) (n : Nat) (h : x.natAbs ≤ 2 * n) : (x.tdiv 2).natAbs ≤ n := by
  rw [Int.natAbs_tdiv]
  show x.natAbs / 2 ≤ n
  omega

set_option maxHeartbeats 2000000 in
theorem planeMove_walk (a0 a1 b0 b1 p0 p1 dx dy : Int) (w0 : (Lit.int .i16 a0).wf = true) (w1 : (Lit.int .i16 a1).wf = true) (w2 : (Lit.int .i16 b0).wf = true) (w3 : (Lit.int .i16 b1).wf = true) (w4 : (Lit.int .i16 p0).wf = true) (w5 : (Lit.int .i16 p1).wf = true) (w6 : (Lit.int .i8 dx).wf = true) (w7 : (Lit.int .i8 dy).wf = true) (w : World) :
    Calls Try.prog 5 #[.agg #[.int .i16 a0, .int .i16 a1], .agg #[.int .i16 b0, .int .i16 b1], .agg #[.int .i16 p0, .int .i16 p1], .int .i8 dx, .int .i8 dy] w fun e w' => e = .returned (.bool true) ∧ Below w.heap.size w w' := by
  have g0 := bounds_i16 w0
  have g1 := bounds_i16 w1
  have g2 := bounds_i16 w2
  have g3 := bounds_i16 w3
  have g4 := bounds_i16 w4
  have g5 := bounds_i16 w5
  have g6 := bounds_i8 w6
  have g7 := bounds_i8 w7
  have HE := fun w => edge_any a0 a1 b0 b1 ⟨by omega, by omega⟩ ⟨by omega, by omega⟩ w
  have s0 := small_in a0
  have s1 := small_in a1
  have s2 := small_in b0
  have s3 := small_in b1
  clear g0 g1 g2 g3 w0 w1 w2 w3 w4 w5 w6 w7
  generalize a0.tmod 8193 = x0 at *
  generalize a1.tmod 8193 = x1 at *
  generalize b0.tmod 8193 = y0 at *
  generalize b1.tmod 8193 = y1 at *
  have q0 : p0.natAbs ≤ 32768 := by omega
  have q1 : p1.natAbs ≤ 32768 := by omega
  clear g4 g5
  have HNA := fun w => half_any x0 x1 (by omega) (by omega) w
  have HNB := fun w => half_any y0 y1 (by omega) (by omega) w
  have HNP := fun w => half_any p0 p1 q0 q1 w
  have h0 := half_in x0 4096 (by omega)
  have h1 := half_in x1 4096 (by omega)
  have h2 := half_in y0 4096 (by omega)
  have h3 := half_in y1 4096 (by omega)
  have h4 := half_in p0 16384 (by omega)
  have h5 := half_in p1 16384 (by omega)
  have HMA := fun gx gy w => move_raw x0 x1 dx dy _ _ (x0.tdiv 2 + dx) (x1.tdiv 2 + dy) gx gy (by omega) (by omega) rfl rfl g6 g7 (wI (by omega) (by omega)) (wI (by omega) (by omega)) w
  have HMB := fun gx gy w => move_raw y0 y1 dx dy _ _ (y0.tdiv 2 + dx) (y1.tdiv 2 + dy) gx gy (by omega) (by omega) rfl rfl g6 g7 (wI (by omega) (by omega)) (wI (by omega) (by omega)) w
  have HMP := fun gx gy w => move_raw p0 p1 dx dy _ _ (p0.tdiv 2 + dx) (p1.tdiv 2 + dy) gx gy (by omega) (by omega) rfl rfl g6 g7 (wI (by omega) (by omega)) (wI (by omega) (by omega)) w
  generalize x0.tdiv 2 = c0 at *
  generalize x1.tdiv 2 = c1 at *
  generalize y0.tdiv 2 = d0 at *
  generalize y1.tdiv 2 = d1 at *
  generalize p0.tdiv 2 = e0 at *
  generalize p1.tdiv 2 = e1 at *
  clear s0 s1 s2 s3
  have IF : InE (c0 + dx) (c1 + dy) (d0 + dx) (d1 + dy) (e0 + dx) (e1 + dy) := ⟨⟨by omega, by omega⟩, ⟨by omega, by omega⟩, ⟨by omega, by omega⟩⟩
  have IG : InE c0 c1 d0 d1 e0 e1 := ⟨⟨by omega, by omega⟩, ⟨by omega, by omega⟩, ⟨by omega, by omega⟩⟩
  have HQf := fun w => square_any _ _ _ _ _ _ IF w
  have HLf := fun w => line_any _ _ _ _ _ _ IF w
  have HSf := fun w => side_any _ _ _ _ _ _ IF w
  have u0 : d0 + dx - (c0 + dx) = d0 - c0 := by omega
  have u1 : d1 + dy - (c1 + dy) = d1 - c1 := by omega
  have v0 : e0 + dx - (c0 + dx) = e0 - c0 := by omega
  have v1 : e1 + dy - (c1 + dy) = e1 - c1 := by omega
  rw [u0, u1, v0, v1] at HQf HLf HSf
  exact planeMove_core a0 a1 b0 b1 p0 p1 dx dy x0 x1 y0 y1 _ _ _ _ _ _ _ _ _ _ _ _ _ _ _ _ _ w (Lib.hid HE) (Lib.hid fun w => point_any p0 p1 q0 q1 w) (fun gx gy => Lib.hid (HMA gx gy)) (fun gx gy => Lib.hid (HMB gx gy)) (fun gx gy => Lib.hid (HMP gx gy))
    (Lib.hid HNA) (Lib.hid HNB) (Lib.hid HNP) (Lib.hid HQf) (Lib.hid fun w => square_any _ _ _ _ _ _ IG w) (Lib.hid HLf) (Lib.hid fun w => line_any _ _ _ _ _ _ IG w) (Lib.hid HSf) (Lib.hid fun w => side_any _ _ _ _ _ _ IG w)

end Go.Proofs.Ytdbmbppmgeabkaa
