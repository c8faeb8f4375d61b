/-
  Wide1 Cmp1 Keep1 Frac1 Plane1 Plane2 Plane3 in one text (no claim is made here).
-/
import Derived.Test.YtbnjajhhbcnepaaBlk
import Derived.Test.YtbnjajhhbcnepaaRows
import Derived.WalkKit
import Derived.WalkSpells
import Derived.WalkLawsBesides
import Derived.Lib.Mul64
import Derived.Laws.Bits64b
import Derived.Laws.Externs
import Derived.Lib.Hide
import Derived.Deep.QuietTactic
import Derived.BigQuiet
import Derived.Test.YtbnjajhhbcnepaaMth
import Derived.IntWalk
import Derived.BigRegion
import Derived.Deep.RegionHeld3
namespace Go.Proofs.Ytbnjajhhbcnepaa
open Go.RowKit

namespace W
theorem maskN (a : Nat) (ha : a < 18446744073709551616) : bits .and .u64 (a : Int) 4294967295 = ((a % 4294967296 : Nat) : Int) := by
  have h := bits_and_u64_nat a 4294967295 ha (by omega)
  have e : a &&& 4294967295 = a % 4294967296 := Nat.and_two_pow_sub_one_eq_mod a 32
  rw [e] at h
  exact h
theorem divN (a : Nat) : (a : Int) / 4294967296 = ((a / 4294967296 : Nat) : Int) := by omega
theorem mulN (a b : Nat) : (a : Int) * (b : Int) = ((a * b : Nat) : Int) := (Int.natCast_mul a b).symm
theorem addN (a b : Nat) : (a : Int) + (b : Int) = ((a + b : Nat) : Int) := (Int.natCast_add a b).symm
theorem wrapN (a : Nat) (ha : a < 18446744073709551616) : IntKind.u64.wrap (a : Int) = (a : Int) := by rw [IntKind.wrap_u64]; omega
theorem wrapM (a : Nat) : IntKind.u64.wrap (a : Int) = ((a % 18446744073709551616 : Nat) : Int) := by rw [IntKind.wrap_u64]; omega
end W

set_option maxHeartbeats 1000000 in
set_option maxRecDepth 100000 in
theorem mul64_any (x y : Nat) (hx : x < 18446744073709551616) (hy : y < 18446744073709551616) (w : World) :
    Calls Try.prog 44 #[.int .u64 x, .int .u64 y] w fun e w' => e = .returned (.tuple #[.int .u64 ((x * y / 18446744073709551616 : Nat) : Int), .int .u64 ((x * y % 18446744073709551616 : Nat) : Int)]) ∧ w = w' := by
  obtain ⟨bd, bt, bw, hhi⟩ := Lib.mul64_hi x y hx hy
  have ba := Lib.half_mul_le (a := x / 4294967296) (b := y / 4294967296) (by omega) (by omega)
  have bb := Lib.half_mul_le (a := x / 4294967296) (b := y % 4294967296) (by omega) (by omega)
  have bc := Lib.half_mul_le (a := x % 4294967296) (b := y / 4294967296) (by omega) (by omega)
  have ba' : x / 4294967296 * (y / 4294967296) < 18446744073709551616 := by omega
  have bb' : x / 4294967296 * (y % 4294967296) < 18446744073709551616 := by omega
  have bc' : x % 4294967296 * (y / 4294967296) < 18446744073709551616 := by omega
  have bh1 : x / 4294967296 * (y / 4294967296) + (x / 4294967296 * (y % 4294967296) + x % 4294967296 * (y % 4294967296) / 4294967296) / 4294967296 < 18446744073709551616 := by omega
  have bh : x / 4294967296 * (y / 4294967296) + (x / 4294967296 * (y % 4294967296) + x % 4294967296 * (y % 4294967296) / 4294967296) / 4294967296 + ((x / 4294967296 * (y % 4294967296) + x % 4294967296 * (y % 4294967296) / 4294967296) % 4294967296 + x % 4294967296 * (y / 4294967296)) / 4294967296 < 18446744073709551616 := by omega
  go_enter Try.func44, Try.ntmps44
  go_wp2
  simp only [W.maskN x hx, W.maskN y hy, W.divN, W.mulN, W.addN, W.wrapN _ bd, W.wrapN _ bb', W.wrapN _ bt, W.maskN _ bt, W.wrapN _ bc', W.wrapN _ bw, W.wrapN _ ba', W.wrapN _ bh1, W.wrapN _ bh, W.wrapM (x * y)]
  rw [hhi]
  go_ret2
  exact ⟨rfl, rfl⟩

end Go.Proofs.Ytbnjajhhbcnepaa

namespace Go.Proofs.Ytbnjajhhbcnepaa
open Go.RowKit

def cmpN (a b : Nat) : Int := if a < b then -1 else if b < a then 1 else 0

theorem cmpN_pair_hi (ph pl qh ql : Nat) (h1 : pl < 18446744073709551616) (h2 : ql < 18446744073709551616) (h : ¬ ph = qh) :
    cmpN (ph * 18446744073709551616 + pl) (qh * 18446744073709551616 + ql) = cmpN ph qh := by
  unfold cmpN
  rcases Nat.lt_trichotomy ph qh with g | g | g
  · rw [if_pos g, if_pos (by omega)]
  · exact absurd g h
  · rw [if_neg (by omega), if_pos (by omega), if_neg (by omega), if_pos (by omega)]
theorem cmpN_pair_lo (ph pl ql : Nat) :
    cmpN (ph * 18446744073709551616 + pl) (ph * 18446744073709551616 + ql) = cmpN pl ql := by
  unfold cmpN
  rcases Nat.lt_trichotomy pl ql with g | g | g
  · rw [if_pos g, if_pos (by omega)]
  · subst g; simp
  · rw [if_neg (by omega), if_pos (by omega), if_neg (by omega), if_pos (by omega)]

end Go.Proofs.Ytbnjajhhbcnepaa

namespace Go.Proofs.Ytbnjajhhbcnepaa
open Go.RowKit

end Go.Proofs.Ytbnjajhhbcnepaa

namespace Go.Proofs.Ytbnjajhhbcnepaa
open Go.RowKit

end Go.Proofs.Ytbnjajhhbcnepaa

namespace Go.Proofs.Ytbnjajhhbcnepaa
open Go.RowKit

set_option maxHeartbeats 400000 in
set_option maxRecDepth 100000 in
theorem sub_raw (a0 a1 b0 b1 x y : Int) (ex : IntKind.i64.wrap (a0 - b0) = x) (ey : IntKind.i64.wrap (a1 - b1) = y) (w : World) :
    Calls Try.prog 22 #[.agg #[.int .i64 a0, .int .i64 a1], .agg #[.int .i64 b0, .int .i64 b1]] w fun e w' => e = .returned (.agg #[.int .i64 x, .int .i64 y]) ∧ Below w.heap.size w w' := by
  go_enter Try.func22, Try.ntmps22
  go_wp2
  exact bodyPost_ret (v := .agg #[.int .i64 x, .int .i64 y]) (by simp [results, Try.results22, go_sem]) rfl ⟨rfl, alloc3 _ _ _ _⟩

set_option maxHeartbeats 400000 in
set_option maxRecDepth 100000 in
theorem dot_raw (a0 a1 b0 b1 x y z : Int) (ex : IntKind.i64.wrap (a0 * b0) = x) (ey : IntKind.i64.wrap (a1 * b1) = y) (ez : IntKind.i64.wrap (x + y) = z) (w : World) :
    Calls Try.prog 24 #[.agg #[.int .i64 a0, .int .i64 a1], .agg #[.int .i64 b0, .int .i64 b1]] w fun e w' => e = .returned (.int .i64 z) ∧ Below w.heap.size w w' := by
  go_enter Try.func24, Try.ntmps24
  go_wp2
  go_ret
  exact ⟨rfl, alloc2 _ _ _⟩

set_option maxHeartbeats 400000 in
set_option maxRecDepth 100000 in
theorem cross_raw (a0 a1 b0 b1 x y z : Int) (ex : IntKind.i64.wrap (a0 * b1) = x) (ey : IntKind.i64.wrap (a1 * b0) = y) (ez : IntKind.i64.wrap (x - y) = z) (w : World) :
    Calls Try.prog 23 #[.agg #[.int .i64 a0, .int .i64 a1], .agg #[.int .i64 b0, .int .i64 b1]] w fun e w' => e = .returned (.int .i64 z) ∧ Below w.heap.size w w' := by
  go_enter Try.func23, Try.ntmps23
  go_wp2
  go_ret
  exact ⟨rfl, alloc2 _ _ _⟩

/-- A block of two cells that may be written. -/
def Two (w : World) (g : Nat) (u v : Value) : Prop := w.cell? ⟨g, 0, none⟩ = some u ∧ w.cell? ⟨g, 1, none⟩ = some v ∧ w.frozen? ⟨g, 0, none⟩ = false ∧ w.frozen? ⟨g, 1, none⟩ = false
theorem Two.lt {w : World} {g : Nat} {u v : Value} (h : Two w g u v) : g < w.heap.size := World.block_lt_of_cell? w _ h.1
theorem Two.keep {W w : World} {g : Nat} {u v : Value} (h : Two W g u v) (hb : Below W.heap.size W w) : Two w g u v :=
  ⟨Go.Proofs.Ytbnjajhhbcnepaa.keep hb h.1, Go.Proofs.Ytbnjajhhbcnepaa.keep hb h.2.1, (hb.frozen (p := ⟨g, 0, none⟩) h.lt).trans h.2.2.1, (hb.frozen (p := ⟨g, 1, none⟩) h.lt).trans h.2.2.2⟩
theorem Two.alloc {W : World} {g : Nat} {u v : Value} (h : Two W g u v) (o : Obj) : Two (W.alloc o) g u v := h.keep ((Below.refl _ W).alloc (Nat.le_refl _) o)
theorem Two.new {W : World} {g : Nat} (u v : Value) (t : TypeId) (h : g = W.heap.size) : Two (W.alloc (.cells #[u, v] t)) g u v := by
  subst h; exact ⟨by simp, by simp, by simp, by simp⟩
/-- A result of two cells, stored into a block that is new, behind which a call may end. -/
theorem Two.ret {w W : World} {g : Nat} {u v : Value} (h : Two W g u v) (s0 s1 : Value) (hb : Below w.heap.size w W) (hg : w.heap.size ≤ g) :
    ((W.setCell ⟨g, 0, none⟩ s0).setCell ⟨g, 1, none⟩ s1).cell? ⟨g, 0, none⟩ = some s0 ∧ ((W.setCell ⟨g, 0, none⟩ s0).setCell ⟨g, 1, none⟩ s1).cell? ⟨g, 1, none⟩ = some s1 ∧ Below w.heap.size w ((W.setCell ⟨g, 0, none⟩ s0).setCell ⟨g, 1, none⟩ s1) :=
  pair_stored s0 s1 hb hg h.1 h.2.1

end Go.Proofs.Ytbnjajhhbcnepaa

namespace Go.Proofs.Ytbnjajhhbcnepaa
open Go.RowKit

/-- A block of four cells. -/
def Four (w : World) (g : Nat) (u v x y : Value) : Prop := w.cell? ⟨g, 0, none⟩ = some u ∧ w.cell? ⟨g, 1, none⟩ = some v ∧ w.cell? ⟨g, 2, none⟩ = some x ∧ w.cell? ⟨g, 3, none⟩ = some y
theorem Four.lt {w : World} {g : Nat} {u v x y : Value} (h : Four w g u v x y) : g < w.heap.size := World.block_lt_of_cell? w _ h.1
theorem Four.keep {W w : World} {g : Nat} {u v x y : Value} (h : Four W g u v x y) (hb : Below W.heap.size W w) : Four w g u v x y :=
  ⟨Go.Proofs.Ytbnjajhhbcnepaa.keep hb h.1, Go.Proofs.Ytbnjajhhbcnepaa.keep hb h.2.1, Go.Proofs.Ytbnjajhhbcnepaa.keep hb h.2.2.1, Go.Proofs.Ytbnjajhhbcnepaa.keep hb h.2.2.2⟩
theorem Four.alloc {W : World} {g : Nat} {u v x y : Value} (h : Four W g u v x y) (o : Obj) : Four (W.alloc o) g u v x y := h.keep ((Below.refl _ W).alloc (Nat.le_refl _) o)
theorem Four.new {W : World} {g : Nat} (u v x y : Value) (t : TypeId) (h : g = W.heap.size) : Four (W.alloc (.cells #[u, v, x, y] t)) g u v x y := by
  subst h; exact ⟨by simp, by simp, by simp, by simp⟩
/-- Three pairs of cells of ws, and that nothing of ws has turned. -/
theorem six_of {ws W : World} {g h k : Nat} {a b c d e f : Value} (x0 : ws.cell? ⟨g, 0, none⟩ = some a) (x1 : ws.cell? ⟨g, 1, none⟩ = some b) (y0 : ws.cell? ⟨h, 0, none⟩ = some c) (y1 : ws.cell? ⟨h, 1, none⟩ = some d)
    (z0 : ws.cell? ⟨k, 0, none⟩ = some e) (z1 : ws.cell? ⟨k, 1, none⟩ = some f) (hb : Below ws.heap.size ws W) :
    W.cell? ⟨g, 0, none⟩ = some a ∧ W.cell? ⟨g, 1, none⟩ = some b ∧ W.cell? ⟨h, 0, none⟩ = some c ∧ W.cell? ⟨h, 1, none⟩ = some d ∧ W.cell? ⟨k, 0, none⟩ = some e ∧ W.cell? ⟨k, 1, none⟩ = some f ∧ Below ws.heap.size ws W :=
  ⟨keep hb x0, keep hb x1, keep hb y0, keep hb y1, keep hb z0, keep hb z1, hb⟩

theorem sixE_of {ws W : World} {h k : Nat} {c d e f g i : Value} (y0 : ws.cell? ⟨h, 0, none⟩ = some c) (y1 : ws.cell? ⟨h, 1, none⟩ = some d)
    (z0 : ws.cell? ⟨k, 0, none⟩ = some e) (z1 : ws.cell? ⟨k, 1, none⟩ = some f) (z2 : ws.cell? ⟨k, 2, none⟩ = some g) (z3 : ws.cell? ⟨k, 3, none⟩ = some i) (hb : Below ws.heap.size ws W) :
    W.cell? ⟨h, 0, none⟩ = some c ∧ W.cell? ⟨h, 1, none⟩ = some d ∧ W.cell? ⟨k, 0, none⟩ = some e ∧ W.cell? ⟨k, 1, none⟩ = some f ∧ W.cell? ⟨k, 2, none⟩ = some g ∧ W.cell? ⟨k, 3, none⟩ = some i ∧ Below ws.heap.size ws W :=
  ⟨keep hb y0, keep hb y1, keep hb z0, keep hb z1, keep hb z2, keep hb z3, hb⟩

end Go.Proofs.Ytbnjajhhbcnepaa

namespace Go.Proofs.Ytbnjajhhbcnepaa
open Go.RowKit

theorem sub_any (a0 a1 b0 b1 : Int) (h : a0.natAbs ≤ 65536 ∧ a1.natAbs ≤ 65536 ∧ b0.natAbs ≤ 65536 ∧ b1.natAbs ≤ 65536) (w : World) :
    Calls Try.prog 22 #[.agg #[.int .i64 a0, .int .i64 a1], .agg #[.int .i64 b0, .int .i64 b1]] w fun e w' => e = .returned (.agg #[.int .i64 (a0 - b0), .int .i64 (a1 - b1)]) ∧ Below w.heap.size w w' :=
  sub_raw a0 a1 b0 b1 _ _ (wI (by omega) (by omega)) (wI (by omega) (by omega)) w

theorem dot_any (a0 a1 b0 b1 : Int) (h : a0.natAbs ≤ 65536 ∧ a1.natAbs ≤ 65536 ∧ b0.natAbs ≤ 65536 ∧ b1.natAbs ≤ 65536) (w : World) :
    Calls Try.prog 24 #[.agg #[.int .i64 a0, .int .i64 a1], .agg #[.int .i64 b0, .int .i64 b1]] w fun e w' => e = .returned (.int .i64 (a0 * b0 + a1 * b1)) ∧ Below w.heap.size w w' := by
  have h1 := mulB h.1 h.2.2.1
  have h2 := mulB h.2.1 h.2.2.2
  exact dot_raw a0 a1 b0 b1 _ _ _ (wI (by omega) (by omega)) (wI (by omega) (by omega)) (wI (by omega) (by omega)) w

theorem cross_any (a0 a1 b0 b1 : Int) (h : a0.natAbs ≤ 65536 ∧ a1.natAbs ≤ 65536 ∧ b0.natAbs ≤ 65536 ∧ b1.natAbs ≤ 65536) (w : World) :
    Calls Try.prog 23 #[.agg #[.int .i64 a0, .int .i64 a1], .agg #[.int .i64 b0, .int .i64 b1]] w fun e w' => e = .returned (.int .i64 (a0 * b1 - a1 * b0)) ∧ Below w.heap.size w w' := by
  have h1 := mulB h.1 h.2.2.2
  have h2 := mulB h.2.1 h.2.2.1
  exact cross_raw a0 a1 b0 b1 _ _ _ (wI (by omega) (by omega)) (wI (by omega) (by omega)) (wI (by omega) (by omega)) w

theorem frI_one (n : Int) (hn : 0 ≤ n) : frI n 1 = (n, 1) := by
  obtain ⟨n, rfl⟩ := Int.eq_ofNat_of_zero_le hn
  unfold frI
  simp

/-- The bounds that the document names. -/
def InE (a0 a1 b0 b1 p0 p1 : Int) : Prop := (a0.natAbs ≤ 8192 ∧ a1.natAbs ≤ 8192) ∧ (b0.natAbs ≤ 8192 ∧ b1.natAbs ≤ 8192) ∧ (p0.natAbs ≤ 32768 ∧ p1.natAbs ≤ 32768)

end Go.Proofs.Ytbnjajhhbcnepaa
