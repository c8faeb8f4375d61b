/-
  What the function that PlaneMove makes does to any world in which its two variables lie: a contract (no claim is made here).
-/
import Derived.Test.YtdbmbppmgeabkaaAwake3
namespace Go.Proofs.Ytdbmbppmgeabkaa
open Go.RowKit

set_option maxHeartbeats 400000 in
theorem move_raw (x y dx dy h0 h1 r0 r1 : Int) (gx gy : Nat) (hh0 : -32768 ≤ h0 ∧ h0 ≤ 32768) (hh1 : -32768 ≤ h1 ∧ h1 ≤ 32768) (eh0 : x.tdiv 2 = h0) (eh1 : y.tdiv 2 = h1) (hd0 : -128 ≤ dx ∧ dx ≤ 127) (hd1 : -128 ≤ dy ∧ dy ≤ 127)
    (er0 : IntKind.i64.wrap (h0 + dx) = r0) (er1 : IntKind.i64.wrap (h1 + dy) = r1) (w : World) (hX : w.cell? ⟨gx, 0, none⟩ = some (.int .i8 dx)) (hY : w.cell? ⟨gy, 0, none⟩ = some (.int .i8 dy)) :
    Calls Try.prog 13 #[.agg #[.int .i64 x, .int .i64 y], .pointer (some ⟨gx, 0, none⟩), .pointer (some ⟨gy, 0, none⟩)] w fun e w' => e = .returned (.agg #[.int .i64 r0, .int .i64 r1]) ∧ Below w.heap.size w w' := by
  have zX := World.block_lt_of_cell? w _ hX
  have zY := World.block_lt_of_cell? w _ hY
  go_enter Try.func13, Try.ntmps13
  go_wp2
  exact bodyPost_ret (v := .agg #[.int .i64 r0, .int .i64 r1]) (by simp [results, Try.results13, go_sem]) rfl ⟨rfl, alloc2 _ _ _⟩

end Go.Proofs.Ytdbmbppmgeabkaa
