/-
  Wide1 Cmp1 Keep1 Frac1 Plane1 Plane2 Plane3 in one text (no claim is made here).
-/
import Derived.Test.YteiildeaccngjaaBlk
import Derived.Test.YteiildeaccngjaaRows
import Derived.WalkKit
import Derived.WalkSpells
import Derived.WalkLawsBesides
import Derived.Lib.Mul64
import Derived.Laws.Bits64b
import Derived.Laws.Externs
import Derived.Lib.Hide
import Derived.Deep.QuietTactic
import Derived.BigQuiet
import Derived.Test.YteiildeaccngjaaMth
import Derived.IntWalk
import Derived.BigRegion
import Derived.Deep.RegionHeld3
namespace Go.Proofs.Yteiildeaccngjaa
open Go.RowKit

namespace W
theorem maskN (a : Nat) (ha : a < 18446744073709551616) : bits .and .u64 (a : Int) 4294967295 = ((a % 4294967296 : Nat) : Int) := by
  have h := bits_and_u64_nat a 4294967295 ha (by omega)
  have e : a &&& 4294967295 = a % 4294967296 := Nat.and_two_pow_sub_one_eq_mod a 32
  rw [e] at h
  exact h
theorem divN (a : Nat) : (a : Int) / 4294967296 = ((a / 4294967296 : Nat) : Int) := by omega
theorem mulN (a b : Nat) : (a : Int) * (b : Int) = ((a * b : Nat) : Int) := (Int.natCast_mul a b).symm
theorem addN (a b : Nat) : (a : Int) + (b : Int) = ((a + b : Nat) : Int) := (Int.natCast_add a b).symm
theorem wrapN (a : Nat) (ha : a < 18446744073709551616) : IntKind.u64.wrap (a : Int) = (a : Int) := by rw [IntKind.wrap_u64]; omega
theorem wrapM (a : Nat) : IntKind.u64.wrap (a : Int) = ((a % 18446744073709551616 : Nat) : Int) := by rw [IntKind.wrap_u64]; omega
end W

set_option maxHeartbeats 1000000 in
set_option maxRecDepth 100000 in
theorem mul64_any (x y : Nat) (hx : x < 18446744073709551616) (hy : y < 18446744073709551616) (w : World) :
    Calls Try.prog 56 #[.int .u64 x, .int .u64 y] w fun e w' => e = .returned (.tuple #[.int .u64 ((x * y / 18446744073709551616 : Nat) : Int), .int .u64 ((x * y % 18446744073709551616 : Nat) : Int)]) ∧ w = w' := by
  obtain ⟨bd, bt, bw, hhi⟩ := Lib.mul64_hi x y hx hy
  have ba := Lib.half_mul_le (a := x / 4294967296) (b := y / 4294967296) (by omega) (by omega)
  have bb := Lib.half_mul_le (a := x / 4294967296) (b := y % 4294967296) (by omega) (by omega)
  have bc := Lib.half_mul_le (a := x % 4294967296) (b := y / 4294967296) (by omega) (by omega)
  have ba' : x / 4294967296 * (y / 4294967296) < 18446744073709551616 := by omega
  have bb' : x / 4294967296 * (y % 4294967296) < 18446744073709551616 := by omega
  have bc' : x % 4294967296 * (y / 4294967296) < 18446744073709551616 := by omega
  have bh1 : x / 4294967296 * (y / 4294967296) + (x / 4294967296 * (y % 4294967296) + x % 4294967296 * (y % 4294967296) / 4294967296) / 4294967296 < 18446744073709551616 := by omega
  have bh : x / 4294967296 * (y / 4294967296) + (x / 4294967296 * (y % 4294967296) + x % 4294967296 * (y % 4294967296) / 4294967296) / 4294967296 + ((x / 4294967296 * (y % 4294967296) + x % 4294967296 * (y % 4294967296) / 4294967296) % 4294967296 + x % 4294967296 * (y / 4294967296)) / 4294967296 < 18446744073709551616 := by omega
  go_enter Try.func56, Try.ntmps56
  go_wp2
  simp only [W.maskN x hx, W.maskN y hy, W.divN, W.mulN, W.addN, W.wrapN _ bd, W.wrapN _ bb', W.wrapN _ bt, W.maskN _ bt, W.wrapN _ bc', W.wrapN _ bw, W.wrapN _ ba', W.wrapN _ bh1, W.wrapN _ bh, W.wrapM (x * y)]
  rw [hhi]
  go_ret2
  exact ⟨rfl, rfl⟩

set_option maxHeartbeats 400000 in
set_option maxRecDepth 100000 in
theorem mul_any (x y : Nat) (hx : x < 18446744073709551616) (hy : y < 18446744073709551616) (w : World) :
    Calls Try.prog 39 #[.int .u64 x, .int .u64 y] w fun e w' => e = .returned (.agg #[.int .u64 ((x * y / 18446744073709551616 : Nat) : Int), .int .u64 ((x * y % 18446744073709551616 : Nat) : Int)]) ∧ Below w.heap.size w w' := by
  go_enter Try.func39, Try.ntmps39
  go_wp2_with (go_at_call 56; refine (mul64_any _ _ hx hy _).mono ?_; rintro e w' ⟨rfl, rfl⟩)
  refine bodyPost_ret (v := .agg #[.int .u64 ((x * y / 18446744073709551616 : Nat) : Int), .int .u64 ((x * y % 18446744073709551616 : Nat) : Int)]) (by simp [results, Try.results39, go_sem]) rfl ⟨rfl, ?_⟩
  exact (Below.refl _ _).alloc (Nat.le_refl _) _

end Go.Proofs.Yteiildeaccngjaa

namespace Go.Proofs.Yteiildeaccngjaa
open Go.RowKit

def cmpN (a b : Nat) : Int := if a < b then -1 else if b < a then 1 else 0

set_option maxHeartbeats 400000 in
set_option maxRecDepth 100000 in
theorem cmp_any (x y : Nat) (w : World) :
    Calls Try.prog 75 #[.int .u64 x, .int .u64 y] w fun e w' => e = .returned (.int .i64 (cmpN x y)) ∧ w = w' := by
  rcases Nat.lt_trichotomy x y with h | h | h
  · have e1 : cmpN x y = -1 := by unfold cmpN; rw [if_pos h]
    rw [e1]; clear e1
    go_enter Try.func75, Try.ntmps75
    go_wp2
    go_ret
    exact ⟨rfl, rfl⟩
  · subst h
    have e1 : cmpN x x = 0 := by unfold cmpN; simp
    rw [e1]; clear e1
    go_enter Try.func75, Try.ntmps75
    go_wp2
    go_ret
    exact ⟨rfl, rfl⟩
  · have e1 : cmpN x y = 1 := by unfold cmpN; rw [if_neg (by omega), if_pos h]
    have h2 : ¬ x < y := by omega
    rw [e1]; clear e1
    go_enter Try.func75, Try.ntmps75
    go_wp2
    go_ret
    exact ⟨rfl, rfl⟩

theorem cmpN_pair_hi (ph pl qh ql : Nat) (h1 : pl < 18446744073709551616) (h2 : ql < 18446744073709551616) (h : ¬ ph = qh) :
    cmpN (ph * 18446744073709551616 + pl) (qh * 18446744073709551616 + ql) = cmpN ph qh := by
  unfold cmpN
  rcases Nat.lt_trichotomy ph qh with g | g | g
  · rw [if_pos g, if_pos (by omega)]
  · exact absurd g h
  · rw [if_neg (by omega), if_pos (by omega), if_neg (by omega), if_pos (by omega)]
theorem cmpN_pair_lo (ph pl ql : Nat) :
    cmpN (ph * 18446744073709551616 + pl) (ph * 18446744073709551616 + ql) = cmpN pl ql := by
  unfold cmpN
  rcases Nat.lt_trichotomy pl ql with g | g | g
  · rw [if_pos g, if_pos (by omega)]
  · subst g; simp
  · rw [if_neg (by omega), if_pos (by omega), if_neg (by omega), if_pos (by omega)]

set_option maxHeartbeats 400000 in
set_option maxRecDepth 100000 in
theorem compare_any (ph pl qh ql : Nat) (h1 : pl < 18446744073709551616) (h2 : ql < 18446744073709551616) (w : World) :
    Calls Try.prog 61 #[.agg #[.int .u64 ph, .int .u64 pl], .agg #[.int .u64 qh, .int .u64 ql]] w fun e w' =>
      e = .returned (.int .i64 (cmpN (ph * 18446744073709551616 + pl) (qh * 18446744073709551616 + ql))) ∧ Below w.heap.size w w' := by
  by_cases h : ph = qh
  · subst h
    rw [cmpN_pair_lo]
    clear h1 h2
    go_enter Try.func61, Try.ntmps61
    go_wp2_with (go_at_call 75; refine (cmp_any _ _ _).mono ?_; rintro e w' ⟨rfl, rfl⟩)
    go_ret
    exact ⟨rfl, ((Below.refl _ _).alloc (Nat.le_refl _) _).alloc (by simp) _⟩
  · rw [cmpN_pair_hi _ _ _ _ h1 h2 h]
    clear h1 h2
    go_enter Try.func61, Try.ntmps61
    go_wp2_with (go_at_call 75; refine (cmp_any _ _ _).mono ?_; rintro e w' ⟨rfl, rfl⟩)
    go_ret
    exact ⟨rfl, ((Below.refl _ _).alloc (Nat.le_refl _) _).alloc (by simp) _⟩

set_option maxHeartbeats 400000 in
set_option maxRecDepth 100000 in
theorem less_any (a b c d : Nat) (ha : a < 9223372036854775808) (hb : b < 9223372036854775808) (hc : c < 9223372036854775808) (hd : d < 9223372036854775808) (w : World) :
    Calls Try.prog 49 #[.int .i64 a, .int .i64 b, .int .i64 c, .int .i64 d] w fun e w' => e = .returned (.int .i64 (cmpN (a * d) (c * b))) ∧ Below w.heap.size w w' := by
  have e1 := Nat.div_add_mod' (a * d) 18446744073709551616
  have e2 := Nat.div_add_mod' (c * b) 18446744073709551616
  have m1 : a * d % 18446744073709551616 < 18446744073709551616 := Nat.mod_lt _ (by omega)
  have m2 : c * b % 18446744073709551616 < 18446744073709551616 := Nat.mod_lt _ (by omega)
  have HC := fun w => compare_any (a * d / 18446744073709551616) (a * d % 18446744073709551616) (c * b / 18446744073709551616) (c * b % 18446744073709551616) m1 m2 w
  rw [e1, e2] at HC
  have HM1 := fun w => mul_any a d (by omega) (by omega) w
  have HM2 := fun w => mul_any c b (by omega) (by omega) w
  clear e1 e2 m1 m2
  have H1 := Lib.hid HC
  have H2 := Lib.hid HM1
  have H3 := Lib.hid HM2
  clear HC HM1 HM2
  go_enter Try.func49, Try.ntmps49
  go_wp2_with fail
  refine (H2.out _).mono ?_
  rintro e w1 ⟨rfl, hb1⟩
  go_wp2_with fail
  refine (H3.out _).mono ?_
  rintro e w2 ⟨rfl, hb2⟩
  go_wp2_with fail
  refine (H1.out _).mono ?_
  rintro e w3 ⟨rfl, hb3⟩
  go_wp2_with fail
  go_ret
  exact ⟨rfl, (hb1.trans (hb2.mono hb1.size)).trans (hb3.mono (Nat.le_trans hb1.size hb2.size))⟩

end Go.Proofs.Yteiildeaccngjaa

namespace Go.Proofs.Yteiildeaccngjaa
open Go.RowKit

end Go.Proofs.Yteiildeaccngjaa

namespace Go.Proofs.Yteiildeaccngjaa
open Go.RowKit

set_option maxHeartbeats 400000 in
set_option maxRecDepth 100000 in
theorem commonDivisor_any (a b : Nat) (ha : a < 9223372036854775808) (hb : b < 9223372036854775808) (w : World) :
    Calls Try.prog 80 #[.int .i64 a, .int .i64 b] w fun e w' => e = .returned (.int .i64 (Nat.gcd a b : Nat)) ∧ w = w' := by
  generalize hg : Nat.gcd a b = g
  have HG := Lib.hid hg
  clear hg
  go_enter Try.func80, Try.ntmps80
  go_wp2_with fail
  go_loop [0, 1] (fun x y => ∃ A B : Nat, x = .int .i64 A ∧ y = .int .i64 B ∧ A < 9223372036854775808 ∧ B < 9223372036854775808 ∧ Hid (Nat.gcd A B = g)) (fun x _ => (intOf x).toNat)
  case atStart => exact ⟨a, b, rfl, rfl, ha, hb, HG⟩
  case round =>
    obtain ⟨A, B, rfl, rfl, hA, hB, HR⟩ := hrel
    by_cases h0 : 0 < A
    · have hm : B % A < A := Nat.mod_lt _ h0
      have hz : ((A : Int) == 0) = false := by simp; omega
      have em : (B : Int) % A = ((B % A : Nat) : Int) := (Int.natCast_emod B A).symm
      have HN : Hid (Nat.gcd (B % A) A = g) := (gcd_round A B).trans HR.out
      generalize B % A = M at *
      have EM := Lib.hid em
      clear em
      go_wp2_with fail
      exact ⟨⟨M, A, congrArg _ EM.out, rfl, by omega, hA, HN⟩, by simp only [intOf]; rw [EM.out]; omega⟩
    · obtain rfl : A = 0 := by omega
      have HR' : Hid (B = g) := (Nat.gcd_zero_left B).symm.trans HR.out
      clear HR
      go_wp2
      go_ret
      exact ⟨ret_int (by rw [HR'.out]), rfl⟩

set_option maxHeartbeats 400000 in
set_option maxRecDepth 100000 in
theorem of_wrong (a b : Int) (h : a < 0 ∨ b < 1) (w : World) :
    Calls Try.prog 73 #[.int .i64 a, .int .i64 b] w fun e w' => e = .returned (.tuple #[.agg #[.int .i64 0, .int .i64 0], .int .i64 4]) ∧ Below w.heap.size w w' := by
  by_cases h1 : a < 0
  · clear h
    go_enter Try.func73, Try.ntmps73
    go_wp2
    refine bodyPost_ret (v := .tuple #[.agg #[.int .i64 0, .int .i64 0], .int .i64 4]) (by simp [results, Try.results73, go_sem]) rfl ⟨rfl, ?_⟩
    exact (Below.refl _ _).alloc (Nat.le_refl _) _
  · have h2 : b < 1 := by omega
    clear h
    go_enter Try.func73, Try.ntmps73
    go_wp2
    refine bodyPost_ret (v := .tuple #[.agg #[.int .i64 0, .int .i64 0], .int .i64 4]) (by simp [results, Try.results73, go_sem]) rfl ⟨rfl, ?_⟩
    exact (Below.refl _ _).alloc (Nat.le_refl _) _

set_option maxHeartbeats 400000 in
set_option maxRecDepth 100000 in
theorem of_raw (a b g : Nat) (hb : 1 ≤ b) (hg : 0 < g) (p q : Nat) (_hp : p < 9223372036854775808) (_hq : q < 9223372036854775808) (ep : (a : Int) / g = p) (eq : (b : Int) / g = q)
    (HG : Hid (∀ w, Calls Try.prog 80 #[.int .i64 a, .int .i64 b] w fun e w' => e = .returned (.int .i64 g) ∧ w = w')) (w : World) :
    Calls Try.prog 73 #[.int .i64 a, .int .i64 b] w fun e w' => e = .returned (.tuple #[.agg #[.int .i64 p, .int .i64 q], .int .i64 0]) ∧ Below w.heap.size w w' := by
  have hz : ((g : Int) == 0) = false := by simp; omega
  go_enter Try.func73, Try.ntmps73
  go_wp2_with fail
  refine (HG.out _).mono ?_
  rintro e w1 ⟨rfl, rfl⟩
  go_wp2_with fail
  go_region
  go_wp2
  exact bodyPost_ret (v := .tuple #[.agg #[.int .i64 p, .int .i64 q], .int .i64 0]) (by simp [results, Try.results73, go_sem]) rfl ⟨rfl, ((Below.refl _ _).alloc (Nat.le_refl _) _).drew⟩

theorem of_any (a b : Nat) (ha : a < 9223372036854775808) (hb : b < 9223372036854775808) (h1 : 1 ≤ b) (w : World) :
    Calls Try.prog 73 #[.int .i64 a, .int .i64 b] w fun e w' => e = .returned (.tuple #[.agg #[.int .i64 (a / Nat.gcd a b : Nat), .int .i64 (b / Nat.gcd a b : Nat)], .int .i64 0]) ∧ Below w.heap.size w w' :=
  of_raw a b (Nat.gcd a b) h1 (Nat.gcd_pos_of_pos_right a h1) _ _ (Nat.lt_of_le_of_lt (Nat.div_le_self _ _) ha) (Nat.lt_of_le_of_lt (Nat.div_le_self _ _) hb) (Int.natCast_ediv _ _).symm (Int.natCast_ediv _ _).symm (Lib.hid fun w => commonDivisor_any a b ha hb w) w

set_option maxHeartbeats 400000 in
set_option maxRecDepth 100000 in
theorem rcompare_any (a b c d : Nat) (ha : a < 9223372036854775808) (hb : b < 9223372036854775808) (hc : c < 9223372036854775808) (hd : d < 9223372036854775808) (w : World) :
    Calls Try.prog 24 #[.agg #[.int .i64 a, .int .i64 b], .agg #[.int .i64 c, .int .i64 d]] w fun e w' => e = .returned (.int .i64 (cmpN (a * d) (c * b))) ∧ Below w.heap.size w w' := by
  have H := Lib.hid (fun w => less_any a b c d ha hb hc hd w)
  generalize cmpN (a * d) (c * b) = r at *
  clear ha hb hc hd
  go_enter Try.func24, Try.ntmps24
  go_wp2_with fail
  refine (H.out _).mono ?_
  rintro e w1 ⟨rfl, hb1⟩
  go_wp2
  go_ret
  exact ⟨rfl, below2 (((Below.refl _ _).alloc (Nat.le_refl _) _).alloc (by simp) _) hb1⟩

end Go.Proofs.Yteiildeaccngjaa

namespace Go.Proofs.Yteiildeaccngjaa
open Go.RowKit

set_option maxHeartbeats 400000 in
set_option maxRecDepth 100000 in
theorem sub_raw (a0 a1 b0 b1 x y : Int) (ex : IntKind.i64.wrap (a0 - b0) = x) (ey : IntKind.i64.wrap (a1 - b1) = y) (w : World) :
    Calls Try.prog 42 #[.agg #[.int .i64 a0, .int .i64 a1], .agg #[.int .i64 b0, .int .i64 b1]] w fun e w' => e = .returned (.agg #[.int .i64 x, .int .i64 y]) ∧ Below w.heap.size w w' := by
  go_enter Try.func42, Try.ntmps42
  go_wp2
  exact bodyPost_ret (v := .agg #[.int .i64 x, .int .i64 y]) (by simp [results, Try.results42, go_sem]) rfl ⟨rfl, alloc3 _ _ _ _⟩

set_option maxHeartbeats 400000 in
set_option maxRecDepth 100000 in
theorem dot_raw (a0 a1 b0 b1 x y z : Int) (ex : IntKind.i64.wrap (a0 * b0) = x) (ey : IntKind.i64.wrap (a1 * b1) = y) (ez : IntKind.i64.wrap (x + y) = z) (w : World) :
    Calls Try.prog 43 #[.agg #[.int .i64 a0, .int .i64 a1], .agg #[.int .i64 b0, .int .i64 b1]] w fun e w' => e = .returned (.int .i64 z) ∧ Below w.heap.size w w' := by
  go_enter Try.func43, Try.ntmps43
  go_wp2
  go_ret
  exact ⟨rfl, alloc2 _ _ _⟩

set_option maxHeartbeats 400000 in
set_option maxRecDepth 100000 in
theorem cross_raw (a0 a1 b0 b1 x y z : Int) (ex : IntKind.i64.wrap (a0 * b1) = x) (ey : IntKind.i64.wrap (a1 * b0) = y) (ez : IntKind.i64.wrap (x - y) = z) (w : World) :
    Calls Try.prog 59 #[.agg #[.int .i64 a0, .int .i64 a1], .agg #[.int .i64 b0, .int .i64 b1]] w fun e w' => e = .returned (.int .i64 z) ∧ Below w.heap.size w w' := by
  go_enter Try.func59, Try.ntmps59
  go_wp2
  go_ret
  exact ⟨rfl, alloc2 _ _ _⟩

/-- A block of two cells that may be written. -/
def Two (w : World) (g : Nat) (u v : Value) : Prop := w.cell? ⟨g, 0, none⟩ = some u ∧ w.cell? ⟨g, 1, none⟩ = some v ∧ w.frozen? ⟨g, 0, none⟩ = false ∧ w.frozen? ⟨g, 1, none⟩ = false
theorem Two.lt {w : World} {g : Nat} {u v : Value} (h : Two w g u v) : g < w.heap.size := World.block_lt_of_cell? w _ h.1
theorem Two.keep {W w : World} {g : Nat} {u v : Value} (h : Two W g u v) (hb : Below W.heap.size W w) : Two w g u v :=
  ⟨Go.Proofs.Yteiildeaccngjaa.keep hb h.1, Go.Proofs.Yteiildeaccngjaa.keep hb h.2.1, (hb.frozen (p := ⟨g, 0, none⟩) h.lt).trans h.2.2.1, (hb.frozen (p := ⟨g, 1, none⟩) h.lt).trans h.2.2.2⟩
theorem Two.alloc {W : World} {g : Nat} {u v : Value} (h : Two W g u v) (o : Obj) : Two (W.alloc o) g u v := h.keep ((Below.refl _ W).alloc (Nat.le_refl _) o)
theorem Two.new {W : World} {g : Nat} (u v : Value) (t : TypeId) (h : g = W.heap.size) : Two (W.alloc (.cells #[u, v] t)) g u v := by
  subst h; exact ⟨by simp, by simp, by simp, by simp⟩
/-- A result of two cells, stored into a block that is new, behind which a call may end. -/
theorem Two.ret {w W : World} {g : Nat} {u v : Value} (h : Two W g u v) (s0 s1 : Value) (hb : Below w.heap.size w W) (hg : w.heap.size ≤ g) :
    ((W.setCell ⟨g, 0, none⟩ s0).setCell ⟨g, 1, none⟩ s1).cell? ⟨g, 0, none⟩ = some s0 ∧ ((W.setCell ⟨g, 0, none⟩ s0).setCell ⟨g, 1, none⟩ s1).cell? ⟨g, 1, none⟩ = some s1 ∧ Below w.heap.size w ((W.setCell ⟨g, 0, none⟩ s0).setCell ⟨g, 1, none⟩ s1) :=
  pair_stored s0 s1 hb hg h.1 h.2.1

set_option maxHeartbeats 400000 in
set_option maxRecDepth 100000 in
theorem fraction_raw (n d p q e : Int)
    (HO : Hid (∀ w, Calls Try.prog 73 #[.int .i64 n, .int .i64 d] w fun e' w' => e' = .returned (.tuple #[.agg #[.int .i64 p, .int .i64 q], .int .i64 e]) ∧ Below w.heap.size w w')) (w : World) :
    Calls Try.prog 58 #[.int .i64 n, .int .i64 d] w fun e w' => e = .returned (.agg #[.int .i64 p, .int .i64 q]) ∧ Below w.heap.size w w' := by
  go_enter Try.func58, Try.ntmps58
  go_wp2_with fail
  refine (HO.out _).mono ?_
  rintro e w1 ⟨rfl, hb1⟩
  have B1 := Lib.hid (below2 ((Below.refl _ w).alloc (Nat.le_refl _) _) hb1)
  have T := (Two.new _ _ _ rfl).keep hb1
  have z1 := T.lt
  obtain ⟨c0, c1, f0, f1⟩ := id T
  clear hb1
  go_wp2_with fail
  obtain ⟨q0, q1, q2⟩ := T.ret (.int .i64 p) (.int .i64 q) B1.out (Nat.le_refl _)
  have k0 := keepAlloc (.cells #[.int .i64 p, .int .i64 q] 47) q0
  have k1 := keepAlloc (.cells #[.int .i64 p, .int .i64 q] 47) q1
  exact bodyPost_ret (v := .agg #[.int .i64 p, .int .i64 q]) (by simp [results, Try.results58, go_sem, k0, k1]) rfl ⟨rfl, q2.alloc q2.size _⟩

set_option maxHeartbeats 400000 in
set_option maxRecDepth 100000 in
theorem between_raw (a0 a1 p0 p1 u0 u1 n p q : Int)
    (HS : Hid (∀ w, Calls Try.prog 42 #[.agg #[.int .i64 p0, .int .i64 p1], .agg #[.int .i64 a0, .int .i64 a1]] w fun e w' => e = .returned (.agg #[.int .i64 u0, .int .i64 u1]) ∧ Below w.heap.size w w'))
    (HD : Hid (∀ w, Calls Try.prog 43 #[.agg #[.int .i64 u0, .int .i64 u1], .agg #[.int .i64 u0, .int .i64 u1]] w fun e w' => e = .returned (.int .i64 n) ∧ Below w.heap.size w w'))
    (HF : Hid (∀ w, Calls Try.prog 58 #[.int .i64 n, .int .i64 1] w fun e w' => e = .returned (.agg #[.int .i64 p, .int .i64 q]) ∧ Below w.heap.size w w')) (w : World) :
    Calls Try.prog 44 #[.agg #[.int .i64 a0, .int .i64 a1], .agg #[.int .i64 p0, .int .i64 p1]] w fun e w' => e = .returned (.agg #[.int .i64 p, .int .i64 q]) ∧ Below w.heap.size w w' := by
  go_enter Try.func44, Try.ntmps44
  go_wp2_with fail
  refine (HS.out _).mono ?_
  rintro e w1 ⟨rfl, hb1⟩
  have T1 : Two w1 (w.heap.size + 1 + 1) _ _ := (Two.new _ _ _ (by simp)).keep hb1
  have B1 := below2 (alloc3 w _ _ _) hb1
  clear hb1
  go_wp2_with fail
  refine (HD.out _).mono ?_
  rintro e w2 ⟨rfl, hb2⟩
  have T2 := (T1.alloc _).keep hb2
  have B2 := below2 (B1.alloc B1.size _) hb2
  clear hb2 T1 B1
  go_wp2_with fail
  refine (HF.out _).mono ?_
  rintro e w3 ⟨rfl, hb3⟩
  have T3 := T2.keep hb3
  have B3 := Lib.hid (below2 B2 hb3)
  clear hb3 T2 B2
  obtain ⟨c0, c1, f0, f1⟩ := id T3
  have z := T3.lt
  go_wp2_with fail
  obtain ⟨q0, q1, q2⟩ := T3.ret (.int .i64 p) (.int .i64 q) B3.out (by omega)
  exact bodyPost_ret (v := .agg #[.int .i64 p, .int .i64 q]) (by simp [results, Try.results44, go_sem, q0, q1]) rfl ⟨rfl, q2⟩

end Go.Proofs.Yteiildeaccngjaa

namespace Go.Proofs.Yteiildeaccngjaa
open Go.RowKit

/-- A block of four cells. -/
def Four (w : World) (g : Nat) (u v x y : Value) : Prop := w.cell? ⟨g, 0, none⟩ = some u ∧ w.cell? ⟨g, 1, none⟩ = some v ∧ w.cell? ⟨g, 2, none⟩ = some x ∧ w.cell? ⟨g, 3, none⟩ = some y
theorem Four.lt {w : World} {g : Nat} {u v x y : Value} (h : Four w g u v x y) : g < w.heap.size := World.block_lt_of_cell? w _ h.1
theorem Four.keep {W w : World} {g : Nat} {u v x y : Value} (h : Four W g u v x y) (hb : Below W.heap.size W w) : Four w g u v x y :=
  ⟨Go.Proofs.Yteiildeaccngjaa.keep hb h.1, Go.Proofs.Yteiildeaccngjaa.keep hb h.2.1, Go.Proofs.Yteiildeaccngjaa.keep hb h.2.2.1, Go.Proofs.Yteiildeaccngjaa.keep hb h.2.2.2⟩
theorem Four.alloc {W : World} {g : Nat} {u v x y : Value} (h : Four W g u v x y) (o : Obj) : Four (W.alloc o) g u v x y := h.keep ((Below.refl _ W).alloc (Nat.le_refl _) o)
theorem Four.new {W : World} {g : Nat} (u v x y : Value) (t : TypeId) (h : g = W.heap.size) : Four (W.alloc (.cells #[u, v, x, y] t)) g u v x y := by
  subst h; exact ⟨by simp, by simp, by simp, by simp⟩
/-- Three pairs of cells of ws, and that nothing of ws has turned. -/
theorem six_of {ws W : World} {g h k : Nat} {a b c d e f : Value} (x0 : ws.cell? ⟨g, 0, none⟩ = some a) (x1 : ws.cell? ⟨g, 1, none⟩ = some b) (y0 : ws.cell? ⟨h, 0, none⟩ = some c) (y1 : ws.cell? ⟨h, 1, none⟩ = some d)
    (z0 : ws.cell? ⟨k, 0, none⟩ = some e) (z1 : ws.cell? ⟨k, 1, none⟩ = some f) (hb : Below ws.heap.size ws W) :
    W.cell? ⟨g, 0, none⟩ = some a ∧ W.cell? ⟨g, 1, none⟩ = some b ∧ W.cell? ⟨h, 0, none⟩ = some c ∧ W.cell? ⟨h, 1, none⟩ = some d ∧ W.cell? ⟨k, 0, none⟩ = some e ∧ W.cell? ⟨k, 1, none⟩ = some f ∧ Below ws.heap.size ws W :=
  ⟨keep hb x0, keep hb x1, keep hb y0, keep hb y1, keep hb z0, keep hb z1, hb⟩

theorem sixE_of {ws W : World} {h k : Nat} {c d e f g i : Value} (y0 : ws.cell? ⟨h, 0, none⟩ = some c) (y1 : ws.cell? ⟨h, 1, none⟩ = some d)
    (z0 : ws.cell? ⟨k, 0, none⟩ = some e) (z1 : ws.cell? ⟨k, 1, none⟩ = some f) (z2 : ws.cell? ⟨k, 2, none⟩ = some g) (z3 : ws.cell? ⟨k, 3, none⟩ = some i) (hb : Below ws.heap.size ws W) :
    W.cell? ⟨h, 0, none⟩ = some c ∧ W.cell? ⟨h, 1, none⟩ = some d ∧ W.cell? ⟨k, 0, none⟩ = some e ∧ W.cell? ⟨k, 1, none⟩ = some f ∧ W.cell? ⟨k, 2, none⟩ = some g ∧ W.cell? ⟨k, 3, none⟩ = some i ∧ Below ws.heap.size ws W :=
  ⟨keep hb y0, keep hb y1, keep hb z0, keep hb z1, keep hb z2, keep hb z3, hb⟩

set_option maxHeartbeats 800000 in
set_option maxRecDepth 100000 in
theorem square_raw (a0 a1 b0 b1 p0 p1 u0 u1 v0 v1 f L p q : Int)
    (HS : Hid (∀ w, Calls Try.prog 42 #[.agg #[.int .i64 b0, .int .i64 b1], .agg #[.int .i64 a0, .int .i64 a1]] w fun e w' => e = .returned (.agg #[.int .i64 u0, .int .i64 u1]) ∧ Below w.heap.size w w'))
    (HT : Hid (∀ w, Calls Try.prog 42 #[.agg #[.int .i64 p0, .int .i64 p1], .agg #[.int .i64 a0, .int .i64 a1]] w fun e w' => e = .returned (.agg #[.int .i64 v0, .int .i64 v1]) ∧ Below w.heap.size w w'))
    (HD : Hid (∀ w, Calls Try.prog 43 #[.agg #[.int .i64 u0, .int .i64 u1], .agg #[.int .i64 v0, .int .i64 v1]] w fun e w' => e = .returned (.int .i64 f) ∧ Below w.heap.size w w'))
    (HL : Hid (∀ w, Calls Try.prog 43 #[.agg #[.int .i64 u0, .int .i64 u1], .agg #[.int .i64 u0, .int .i64 u1]] w fun e w' => e = .returned (.int .i64 L) ∧ Below w.heap.size w w'))
    (HA : f ≤ 0 → Hid (∀ w, Calls Try.prog 44 #[.agg #[.int .i64 a0, .int .i64 a1], .agg #[.int .i64 p0, .int .i64 p1]] w fun e w' => e = .returned (.agg #[.int .i64 p, .int .i64 q]) ∧ Below w.heap.size w w'))
    (HB : 0 < f → L ≤ f → Hid (∀ w, Calls Try.prog 44 #[.agg #[.int .i64 b0, .int .i64 b1], .agg #[.int .i64 p0, .int .i64 p1]] w fun e w' => e = .returned (.agg #[.int .i64 p, .int .i64 q]) ∧ Below w.heap.size w w'))
    (HN : 0 < f → f < L → Hid (∀ w, Calls Try.prog 45 #[.agg #[.int .i64 a0, .int .i64 a1, .int .i64 b0, .int .i64 b1], .agg #[.int .i64 p0, .int .i64 p1]] w fun e w' => e = .returned (.agg #[.int .i64 p, .int .i64 q]) ∧ Below w.heap.size w w')) (w : World) :
    Calls Try.prog 19 #[.agg #[.int .i64 a0, .int .i64 a1, .int .i64 b0, .int .i64 b1], .agg #[.int .i64 p0, .int .i64 p1]] w fun e w' => e = .returned (.agg #[.int .i64 p, .int .i64 q]) ∧ Below w.heap.size w w' := by
  go_enter Try.func19, Try.ntmps19
  go_wp2_with fail
  refine (HS.out _).mono ?_
  rintro e w1 ⟨rfl, hb1⟩
  have TR1 : Two w1 (w.heap.size + 1 + 1) _ _ := (Two.new _ _ _ (by simp)).keep hb1
  have TP1 : Two w1 (w.heap.size + 1) _ _ := ((Two.new _ _ _ (by simp)).alloc _).keep hb1
  have TE1 : Four w1 w.heap.size _ _ _ _ := (((Four.new _ _ _ _ _ rfl).alloc _).alloc _).keep hb1
  have B1 := below2 (alloc3 w _ _ _) hb1
  clear hb1
  go_wp2_with fail
  have TR := TR1.alloc (.cells #[.int .i64 u0, .int .i64 u1] 41)
  have TP := TP1.alloc (.cells #[.int .i64 u0, .int .i64 u1] 41)
  have TE := TE1.alloc (.cells #[.int .i64 u0, .int .i64 u1] 41)
  have TU : Two (w1.alloc (.cells #[.int .i64 u0, .int .i64 u1] 41)) w1.heap.size _ _ := Two.new _ _ _ rfl
  have BS := B1.alloc B1.size (.cells #[.int .i64 u0, .int .i64 u1] 41)
  clear TR1 TP1 TE1 B1
  generalize w1.alloc (.cells #[.int .i64 u0, .int .i64 u1] 41) = ws at *
  generalize w1.heap.size = gu at *
  generalize hgr : w.heap.size + 1 + 1 = gr at *
  generalize hgp : w.heap.size + 1 = gp at *
  generalize hge : w.heap.size = ge at *
  have hlt : ge ≤ gr := by omega
  clear hgr hgp
  obtain ⟨u0c, u1c, -, -⟩ := id TU
  obtain ⟨p0c, p1c, -, -⟩ := id TP
  obtain ⟨a0c, a1c, -, -⟩ := id TE
  go_region_held3 (fun wx => wx.cell? ⟨gu, 0, none⟩ = some (.int .i64 u0) ∧ wx.cell? ⟨gu, 1, none⟩ = some (.int .i64 u1) ∧ wx.cell? ⟨gp, 0, none⟩ = some (.int .i64 p0) ∧ wx.cell? ⟨gp, 1, none⟩ = some (.int .i64 p1) ∧ wx.cell? ⟨ge, 0, none⟩ = some (.int .i64 a0) ∧ wx.cell? ⟨ge, 1, none⟩ = some (.int .i64 a1) ∧ Below ws.heap.size ws wx)
    (first | assumption | exact six_of u0c u1c p0c p1c a0c a1c (Below.drew (Below.refl _ _)))
    (first
      | (go_at_call 42; with_reducible refine (HT.out _).mono ?_; rintro e w2 ⟨rfl, hb2⟩; replace hb2 := undrew hb2; have hS2 := six_of u0c u1c p0c p1c a0c a1c hb2)
      | (go_at_call 43; with_reducible refine (HD.out _).mono ?_; rintro e w3 ⟨rfl, hb3⟩; have A3 := below2 hb2 hb3; have hS3 := six_of u0c u1c p0c p1c a0c a1c A3))
  have TR3 := TR.keep A3
  have TP3 := TP.keep A3
  have TE3 := TE.keep A3
  have TU3 := TU.keep A3
  subst hge
  have B3 := below2 BS A3
  clear hS2 hS3 hb2 hb3 A3 TR TP TE TU BS
  try clear u0c u1c
  clear p0c p1c a0c a1c
  by_cases hf : f ≤ 0
  · replace HA := HA hf
    clear HB HN
    obtain ⟨p0c, p1c, -, -⟩ := id TP3
    obtain ⟨a0c, a1c, -, -⟩ := id TE3
    go_wp2_with fail
    refine (HA.out _).mono ?_
    rintro e w4 ⟨rfl, hb4⟩
    have T4 := TR3.keep hb4
    have B4 := Lib.hid (below2 B3 hb4)
    clear hb4 TR3 B3 TP3 TE3 TU3
    obtain ⟨c0, c1, f0, f1⟩ := id T4
    have z := T4.lt
    go_wp2_with fail
    obtain ⟨q0, q1, q2⟩ := T4.ret (.int .i64 p) (.int .i64 q) B4.out hlt
    exact bodyPost_ret (v := .agg #[.int .i64 p, .int .i64 q]) (by simp [results, Try.results19, go_sem, q0, q1]) rfl ⟨rfl, q2⟩
  · clear HA
    obtain ⟨u0c, u1c, -, -⟩ := id TU3
    go_wp2_with fail
    refine (HL.out _).mono ?_
    rintro e w4 ⟨rfl, hb4⟩
    have TR4 := TR3.keep hb4
    have TP4 := TP3.keep hb4
    have TE4 := TE3.keep hb4
    have B4 := below2 B3 hb4
    clear hb4 TR3 TP3 TE3 B3 TU3
    by_cases hL : L ≤ f
    · replace HB := HB (by omega) hL
      clear HN
      obtain ⟨p0c, p1c, -, -⟩ := id TP4
      obtain ⟨-, -, b0c, b1c⟩ := id TE4
      go_wp2_with fail
      refine (HB.out _).mono ?_
      rintro e w5 ⟨rfl, hb5⟩
      have T5 := TR4.keep hb5
      have B5 := Lib.hid (below2 B4 hb5)
      clear hb5 TR4 B4 TP4 TE4
      obtain ⟨c0, c1, f0, f1⟩ := id T5
      have z := T5.lt
      go_wp2_with fail
      obtain ⟨q0, q1, q2⟩ := T5.ret (.int .i64 p) (.int .i64 q) B5.out hlt
      exact bodyPost_ret (v := .agg #[.int .i64 p, .int .i64 q]) (by simp [results, Try.results19, go_sem, q0, q1]) rfl ⟨rfl, q2⟩
    · replace HN := HN (by omega) (by omega)
      clear HB
      obtain ⟨p0c, p1c, -, -⟩ := id TP4
      obtain ⟨a0c, a1c, b0c, b1c⟩ := id TE4
      go_wp2_with fail
      refine (HN.out _).mono ?_
      rintro e w5 ⟨rfl, hb5⟩
      have T5 := TR4.keep hb5
      have B5 := Lib.hid (below2 B4 hb5)
      clear hb5 TR4 B4 TP4 TE4
      obtain ⟨c0, c1, f0, f1⟩ := id T5
      have z := T5.lt
      go_wp2_with fail
      obtain ⟨q0, q1, q2⟩ := T5.ret (.int .i64 p) (.int .i64 q) B5.out hlt
      exact bodyPost_ret (v := .agg #[.int .i64 p, .int .i64 q]) (by simp [results, Try.results19, go_sem, q0, q1]) rfl ⟨rfl, q2⟩

set_option maxHeartbeats 800000 in
set_option maxRecDepth 100000 in
theorem line_same (a0 a1 p0 p1 p q : Int)
    (HA : Hid (∀ w, Calls Try.prog 44 #[.agg #[.int .i64 a0, .int .i64 a1], .agg #[.int .i64 p0, .int .i64 p1]] w fun e w' => e = .returned (.agg #[.int .i64 p, .int .i64 q]) ∧ Below w.heap.size w w')) (w : World) :
    Calls Try.prog 45 #[.agg #[.int .i64 a0, .int .i64 a1, .int .i64 a0, .int .i64 a1], .agg #[.int .i64 p0, .int .i64 p1]] w fun e w' => e = .returned (.agg #[.int .i64 p, .int .i64 q]) ∧ Below w.heap.size w w' := by
  go_enter Try.func45, Try.ntmps45
  go_wp2_with fail
  refine (HA.out _).mono ?_
  rintro e w1 ⟨rfl, hb1⟩
  have T : Two w1 (w.heap.size + 1 + 1) _ _ := (Two.new _ _ _ (by simp)).keep hb1
  have B := Lib.hid (below2 (alloc3 w _ _ _) hb1)
  clear hb1
  obtain ⟨c0, c1, f0, f1⟩ := id T
  have z := T.lt
  go_wp2_with fail
  obtain ⟨q0, q1, q2⟩ := T.ret (.int .i64 p) (.int .i64 q) B.out (by omega)
  exact bodyPost_ret (v := .agg #[.int .i64 p, .int .i64 q]) (by simp [results, Try.results45, go_sem, q0, q1]) rfl ⟨rfl, q2⟩

set_option maxHeartbeats 800000 in
set_option maxRecDepth 100000 in
theorem line_raw (a0 a1 b0 b1 p0 p1 u0 u1 v0 v1 c cc L p q : Int) (hab : ¬ a0 = b0 ∨ (a0 = b0 ∧ ¬ a1 = b1)) (ec : IntKind.i64.wrap (c * c) = cc)
    (HS : Hid (∀ w, Calls Try.prog 42 #[.agg #[.int .i64 b0, .int .i64 b1], .agg #[.int .i64 a0, .int .i64 a1]] w fun e w' => e = .returned (.agg #[.int .i64 u0, .int .i64 u1]) ∧ Below w.heap.size w w'))
    (HT : Hid (∀ w, Calls Try.prog 42 #[.agg #[.int .i64 p0, .int .i64 p1], .agg #[.int .i64 a0, .int .i64 a1]] w fun e w' => e = .returned (.agg #[.int .i64 v0, .int .i64 v1]) ∧ Below w.heap.size w w'))
    (HD : Hid (∀ w, Calls Try.prog 59 #[.agg #[.int .i64 u0, .int .i64 u1], .agg #[.int .i64 v0, .int .i64 v1]] w fun e w' => e = .returned (.int .i64 c) ∧ Below w.heap.size w w'))
    (HL : Hid (∀ w, Calls Try.prog 43 #[.agg #[.int .i64 u0, .int .i64 u1], .agg #[.int .i64 u0, .int .i64 u1]] w fun e w' => e = .returned (.int .i64 L) ∧ Below w.heap.size w w'))
    (HF : Hid (∀ w, Calls Try.prog 58 #[.int .i64 cc, .int .i64 L] w fun e w' => e = .returned (.agg #[.int .i64 p, .int .i64 q]) ∧ Below w.heap.size w w')) (w : World) :
    Calls Try.prog 45 #[.agg #[.int .i64 a0, .int .i64 a1, .int .i64 b0, .int .i64 b1], .agg #[.int .i64 p0, .int .i64 p1]] w fun e w' => e = .returned (.agg #[.int .i64 p, .int .i64 q]) ∧ Below w.heap.size w w' := by
  go_enter Try.func45, Try.ntmps45
  rcases hab with h0 | ⟨rfl, h0⟩
  all_goals
    go_wp2_with fail
    refine (HS.out _).mono ?_
    rintro e w1 ⟨rfl, hb1⟩
    have TR1 : Two w1 (w.heap.size + 1 + 1) _ _ := (Two.new _ _ _ (by simp)).keep hb1
    have TP1 : Two w1 (w.heap.size + 1) _ _ := ((Two.new _ _ _ (by simp)).alloc _).keep hb1
    have TE1 : Four w1 w.heap.size _ _ _ _ := (((Four.new _ _ _ _ _ rfl).alloc _).alloc _).keep hb1
    have B1 := below2 (alloc3 w _ _ _) hb1
    clear hb1
    go_wp2_with fail
    have TR := TR1.alloc (.cells #[.int .i64 u0, .int .i64 u1] 41)
    have TP := TP1.alloc (.cells #[.int .i64 u0, .int .i64 u1] 41)
    have TE := TE1.alloc (.cells #[.int .i64 u0, .int .i64 u1] 41)
    have TU : Two (w1.alloc (.cells #[.int .i64 u0, .int .i64 u1] 41)) w1.heap.size _ _ := Two.new _ _ _ rfl
    have BS := B1.alloc B1.size (.cells #[.int .i64 u0, .int .i64 u1] 41)
    clear TR1 TP1 TE1 B1
    generalize w1.alloc (.cells #[.int .i64 u0, .int .i64 u1] 41) = ws at *
    generalize w1.heap.size = gu at *
    generalize hgr : w.heap.size + 1 + 1 = gr at *
    generalize hgp : w.heap.size + 1 = gp at *
    generalize hge : w.heap.size = ge at *
    have hlt : ge ≤ gr := by omega
    clear hgr hgp
    obtain ⟨u0c, u1c, -, -⟩ := id TU
    obtain ⟨p0c, p1c, -, -⟩ := id TP
    obtain ⟨a0c, a1c, -, -⟩ := id TE
    go_region_held3 (fun wx => wx.cell? ⟨gu, 0, none⟩ = some (.int .i64 u0) ∧ wx.cell? ⟨gu, 1, none⟩ = some (.int .i64 u1) ∧ wx.cell? ⟨gp, 0, none⟩ = some (.int .i64 p0) ∧ wx.cell? ⟨gp, 1, none⟩ = some (.int .i64 p1) ∧ wx.cell? ⟨ge, 0, none⟩ = some (.int .i64 a0) ∧ wx.cell? ⟨ge, 1, none⟩ = some (.int .i64 a1) ∧ Below ws.heap.size ws wx)
      (first | assumption | exact six_of u0c u1c p0c p1c a0c a1c (Below.drew (Below.refl _ _)))
      (first
        | (go_at_call 42; with_reducible refine (HT.out _).mono ?_; rintro e w2 ⟨rfl, hb2⟩; replace hb2 := undrew hb2; have hS2 := six_of u0c u1c p0c p1c a0c a1c hb2)
        | (go_at_call 59; with_reducible refine (HD.out _).mono ?_; rintro e w3 ⟨rfl, hb3⟩; have A3 := below2 hb2 hb3; have hS3 := six_of u0c u1c p0c p1c a0c a1c A3))
    have TR3 := TR.keep A3
    have TU3 := TU.keep A3
    subst hge
    have B3 := below2 BS A3
    clear hS2 hS3 hb2 hb3 A3 TR TP TE TU BS
    try clear u0c u1c
    clear p0c p1c a0c a1c
    obtain ⟨u0c, u1c, -, -⟩ := id TU3
    go_wp2_with fail
    refine (HL.out _).mono ?_
    rintro e w4 ⟨rfl, hb4⟩
    have TR4 := TR3.keep hb4
    have B4 := below2 B3 hb4
    clear hb4 TR3 B3 TU3
    go_wp2_with fail
    refine (HF.out _).mono ?_
    rintro e w5 ⟨rfl, hb5⟩
    have T5 := TR4.keep hb5
    have B5 := Lib.hid (below2 B4 hb5)
    clear hb5 TR4 B4
    obtain ⟨c0, c1, f0, f1⟩ := id T5
    have z := T5.lt
    go_wp2_with fail
    obtain ⟨q0, q1, q2⟩ := T5.ret (.int .i64 p) (.int .i64 q) B5.out hlt
    exact bodyPost_ret (v := .agg #[.int .i64 p, .int .i64 q]) (by simp [results, Try.results45, go_sem, q0, q1]) rfl ⟨rfl, q2⟩

set_option maxHeartbeats 800000 in
set_option maxRecDepth 100000 in
theorem side_raw (a0 a1 b0 b1 p0 p1 u0 u1 v0 v1 c r : Int) (hr : (0 < c ∧ r = 1) ∨ (¬ 0 < c ∧ c < 0 ∧ r = -1) ∨ (¬ 0 < c ∧ ¬ c < 0 ∧ r = 0))
    (HS : Hid (∀ w, Calls Try.prog 42 #[.agg #[.int .i64 b0, .int .i64 b1], .agg #[.int .i64 a0, .int .i64 a1]] w fun e w' => e = .returned (.agg #[.int .i64 u0, .int .i64 u1]) ∧ Below w.heap.size w w'))
    (HT : Hid (∀ w, Calls Try.prog 42 #[.agg #[.int .i64 p0, .int .i64 p1], .agg #[.int .i64 a0, .int .i64 a1]] w fun e w' => e = .returned (.agg #[.int .i64 v0, .int .i64 v1]) ∧ Below w.heap.size w w'))
    (HD : Hid (∀ w, Calls Try.prog 59 #[.agg #[.int .i64 u0, .int .i64 u1], .agg #[.int .i64 v0, .int .i64 v1]] w fun e w' => e = .returned (.int .i64 c) ∧ Below w.heap.size w w')) (w : World) :
    Calls Try.prog 71 #[.agg #[.int .i64 a0, .int .i64 a1, .int .i64 b0, .int .i64 b1], .agg #[.int .i64 p0, .int .i64 p1]] w fun e w' => e = .returned (.int .i64 r) ∧ Below w.heap.size w w' := by
  go_enter Try.func71, Try.ntmps71
  go_wp2_with fail
  have TP : Two ((w.alloc (.cells #[.int .i64 a0, .int .i64 a1, .int .i64 b0, .int .i64 b1] 50)).alloc (.cells #[.int .i64 p0, .int .i64 p1] 41)) (w.heap.size + 1) _ _ := Two.new _ _ _ (by simp)
  have TE : Four ((w.alloc (.cells #[.int .i64 a0, .int .i64 a1, .int .i64 b0, .int .i64 b1] 50)).alloc (.cells #[.int .i64 p0, .int .i64 p1] 41)) w.heap.size _ _ _ _ := (Four.new _ _ _ _ _ rfl).alloc _
  have BS := Lib.hid (alloc2 w (.cells #[.int .i64 a0, .int .i64 a1, .int .i64 b0, .int .i64 b1] 50) (.cells #[.int .i64 p0, .int .i64 p1] 41))
  generalize (w.alloc (.cells #[.int .i64 a0, .int .i64 a1, .int .i64 b0, .int .i64 b1] 50)).alloc (.cells #[.int .i64 p0, .int .i64 p1] 41) = ws at *
  generalize w.heap.size + 1 = gp at *
  generalize hge : w.heap.size = ge at *
  obtain ⟨p0c, p1c, -, -⟩ := TP
  obtain ⟨a0c, a1c, b0c, b1c⟩ := TE
  go_region_held3 (fun wx => wx.cell? ⟨gp, 0, none⟩ = some (.int .i64 p0) ∧ wx.cell? ⟨gp, 1, none⟩ = some (.int .i64 p1) ∧ wx.cell? ⟨ge, 0, none⟩ = some (.int .i64 a0) ∧ wx.cell? ⟨ge, 1, none⟩ = some (.int .i64 a1) ∧ wx.cell? ⟨ge, 2, none⟩ = some (.int .i64 b0) ∧ wx.cell? ⟨ge, 3, none⟩ = some (.int .i64 b1) ∧ Below ws.heap.size ws wx)
    (first | assumption | exact sixE_of p0c p1c a0c a1c b0c b1c (Below.drew (Below.refl _ _)))
    (first
      | (go_at_call 42; with_reducible refine (HS.out _).mono ?_; rintro e w2 ⟨rfl, hb2⟩; replace hb2 := undrew hb2; have hS2 := sixE_of p0c p1c a0c a1c b0c b1c hb2)
      | (go_at_call 42; with_reducible refine (HT.out _).mono ?_; rintro e w3 ⟨rfl, hb3⟩; have A3 := below2 hb2 hb3; have hS3 := sixE_of p0c p1c a0c a1c b0c b1c A3)
      | (go_at_call 59; with_reducible refine (HD.out _).mono ?_; rintro e w4 ⟨rfl, hb4⟩; have A4 := below2 A3 hb4; have hS4 := sixE_of p0c p1c a0c a1c b0c b1c A4))
  subst hge
  have BF := Lib.hid (below2 BS.out A4)
  clear hS2 hS3 hS4 hb2 hb3 hb4 A3 A4
  rcases hr with ⟨h1, rfl⟩ | ⟨h1, h2, rfl⟩ | ⟨h1, h2, rfl⟩
  all_goals
    go_wp2_with fail
    go_ret
    exact ⟨rfl, BF.out⟩

end Go.Proofs.Yteiildeaccngjaa

namespace Go.Proofs.Yteiildeaccngjaa
open Go.RowKit

theorem sub_any (a0 a1 b0 b1 : Int) (h : a0.natAbs ≤ 65536 ∧ a1.natAbs ≤ 65536 ∧ b0.natAbs ≤ 65536 ∧ b1.natAbs ≤ 65536) (w : World) :
    Calls Try.prog 42 #[.agg #[.int .i64 a0, .int .i64 a1], .agg #[.int .i64 b0, .int .i64 b1]] w fun e w' => e = .returned (.agg #[.int .i64 (a0 - b0), .int .i64 (a1 - b1)]) ∧ Below w.heap.size w w' :=
  sub_raw a0 a1 b0 b1 _ _ (wI (by omega) (by omega)) (wI (by omega) (by omega)) w

theorem dot_any (a0 a1 b0 b1 : Int) (h : a0.natAbs ≤ 65536 ∧ a1.natAbs ≤ 65536 ∧ b0.natAbs ≤ 65536 ∧ b1.natAbs ≤ 65536) (w : World) :
    Calls Try.prog 43 #[.agg #[.int .i64 a0, .int .i64 a1], .agg #[.int .i64 b0, .int .i64 b1]] w fun e w' => e = .returned (.int .i64 (a0 * b0 + a1 * b1)) ∧ Below w.heap.size w w' := by
  have h1 := mulB h.1 h.2.2.1
  have h2 := mulB h.2.1 h.2.2.2
  exact dot_raw a0 a1 b0 b1 _ _ _ (wI (by omega) (by omega)) (wI (by omega) (by omega)) (wI (by omega) (by omega)) w

theorem cross_any (a0 a1 b0 b1 : Int) (h : a0.natAbs ≤ 65536 ∧ a1.natAbs ≤ 65536 ∧ b0.natAbs ≤ 65536 ∧ b1.natAbs ≤ 65536) (w : World) :
    Calls Try.prog 59 #[.agg #[.int .i64 a0, .int .i64 a1], .agg #[.int .i64 b0, .int .i64 b1]] w fun e w' => e = .returned (.int .i64 (a0 * b1 - a1 * b0)) ∧ Below w.heap.size w w' := by
  have h1 := mulB h.1 h.2.2.2
  have h2 := mulB h.2.1 h.2.2.1
  exact cross_raw a0 a1 b0 b1 _ _ _ (wI (by omega) (by omega)) (wI (by omega) (by omega)) (wI (by omega) (by omega)) w

theorem fraction_any (n d : Int) (hn : 0 ≤ n) (hn2 : n < 9223372036854775808) (hd : 1 ≤ d) (hd2 : d < 9223372036854775808) (w : World) :
    Calls Try.prog 58 #[.int .i64 n, .int .i64 d] w fun e w' => e = .returned (.agg #[.int .i64 (frI n d).1, .int .i64 (frI n d).2]) ∧ Below w.heap.size w w' := by
  obtain ⟨n, rfl⟩ := Int.eq_ofNat_of_zero_le hn
  obtain ⟨d, rfl⟩ := Int.eq_ofNat_of_zero_le (show 0 ≤ d by omega)
  exact fraction_raw n d _ _ _ (Lib.hid fun w => of_any n d (by omega) (by omega) (by omega) w) w

theorem frI_one (n : Int) (hn : 0 ≤ n) : frI n 1 = (n, 1) := by
  obtain ⟨n, rfl⟩ := Int.eq_ofNat_of_zero_le hn
  unfold frI
  simp

theorem between_any (a0 a1 p0 p1 : Int) (ha : a0.natAbs ≤ 32768 ∧ a1.natAbs ≤ 32768) (hp : p0.natAbs ≤ 32768 ∧ p1.natAbs ≤ 32768) (w : World) :
    Calls Try.prog 44 #[.agg #[.int .i64 a0, .int .i64 a1], .agg #[.int .i64 p0, .int .i64 p1]] w fun e w' => e = .returned (.agg #[.int .i64 ((p0 - a0) * (p0 - a0) + (p1 - a1) * (p1 - a1)), .int .i64 1]) ∧ Below w.heap.size w w' := by
  have h1 : (p0 - a0).natAbs ≤ 65536 := by omega
  have h2 : (p1 - a1).natAbs ≤ 65536 := by omega
  have g1 := mulB h1 h1
  have g2 := mulB h2 h2
  have n1 := sqNN (p0 - a0)
  have n2 := sqNN (p1 - a1)
  have HF := fun w => fraction_any ((p0 - a0) * (p0 - a0) + (p1 - a1) * (p1 - a1)) 1 (by omega) (by omega) (by omega) (by omega) w
  rw [frI_one _ (by omega)] at HF
  exact between_raw a0 a1 p0 p1 (p0 - a0) (p1 - a1) _ _ _ (Lib.hid fun w => sub_any _ _ _ _ ⟨by omega, by omega, by omega, by omega⟩ w) (Lib.hid fun w => dot_any _ _ _ _ ⟨h1, h2, h1, h2⟩ w) (Lib.hid HF) w

/-- The bounds that the document names. -/
def InE (a0 a1 b0 b1 p0 p1 : Int) : Prop := (a0.natAbs ≤ 8192 ∧ a1.natAbs ≤ 8192) ∧ (b0.natAbs ≤ 8192 ∧ b1.natAbs ≤ 8192) ∧ (p0.natAbs ≤ 32768 ∧ p1.natAbs ≤ 32768)

theorem line_any (a0 a1 b0 b1 p0 p1 : Int) (h : InE a0 a1 b0 b1 p0 p1) (w : World) :
    Calls Try.prog 45 #[.agg #[.int .i64 a0, .int .i64 a1, .int .i64 b0, .int .i64 b1], .agg #[.int .i64 p0, .int .i64 p1]] w fun e w' => e = .returned (.agg #[.int .i64 (lineV (b0 - a0) (b1 - a1) (p0 - a0) (p1 - a1)).1, .int .i64 (lineV (b0 - a0) (b1 - a1) (p0 - a0) (p1 - a1)).2]) ∧ Below w.heap.size w w' := by
  obtain ⟨⟨ha0, ha1⟩, ⟨hb0, hb1⟩, ⟨hp0, hp1⟩⟩ := h
  by_cases hu : b0 - a0 = 0 ∧ b1 - a1 = 0
  · obtain rfl : b0 = a0 := by omega
    obtain rfl : b1 = a1 := by omega
    have e : lineV (b0 - b0) (b1 - b1) (p0 - b0) (p1 - b1) = ((p0 - b0) * (p0 - b0) + (p1 - b1) * (p1 - b1), 1) := by unfold lineV; rw [if_pos hu]
    rw [e]
    exact line_same b0 b1 p0 p1 _ _ (Lib.hid fun w => between_any _ _ _ _ (by omega) (by omega) w) w
  · have e : lineV (b0 - a0) (b1 - a1) (p0 - a0) (p1 - a1) = frI (((b0 - a0) * (p1 - a1) - (b1 - a1) * (p0 - a0)) * ((b0 - a0) * (p1 - a1) - (b1 - a1) * (p0 - a0))) ((b0 - a0) * (b0 - a0) + (b1 - a1) * (b1 - a1)) := by unfold lineV; rw [if_neg hu]
    rw [e]
    have h1 : (b0 - a0).natAbs ≤ 16384 := by omega
    have h2 : (b1 - a1).natAbs ≤ 16384 := by omega
    have h3 : (p0 - a0).natAbs ≤ 40960 := by omega
    have h4 : (p1 - a1).natAbs ≤ 40960 := by omega
    have g1 := mulB h1 h4
    have g2 := mulB h2 h3
    have g3 := mulB h1 h1
    have g4 := mulB h2 h2
    have hc : ((b0 - a0) * (p1 - a1) - (b1 - a1) * (p0 - a0)).natAbs ≤ 1342177280 := by omega
    have g5 := mulB hc hc
    have n5 := sqNN ((b0 - a0) * (p1 - a1) - (b1 - a1) * (p0 - a0))
    have n6 := long_pos hu
    exact line_raw a0 a1 b0 b1 p0 p1 (b0 - a0) (b1 - a1) (p0 - a0) (p1 - a1) _ _ _ _ _ (by omega) (wI (by omega) (by omega))
      (Lib.hid fun w => sub_any _ _ _ _ ⟨by omega, by omega, by omega, by omega⟩ w) (Lib.hid fun w => sub_any _ _ _ _ ⟨by omega, by omega, by omega, by omega⟩ w)
      (Lib.hid fun w => cross_any _ _ _ _ ⟨by omega, by omega, by omega, by omega⟩ w) (Lib.hid fun w => dot_any _ _ _ _ ⟨by omega, by omega, by omega, by omega⟩ w)
      (Lib.hid fun w => fraction_any _ _ n5 (by omega) (by omega) (by omega) w) w

theorem square_any (a0 a1 b0 b1 p0 p1 : Int) (h : InE a0 a1 b0 b1 p0 p1) (w : World) :
    Calls Try.prog 19 #[.agg #[.int .i64 a0, .int .i64 a1, .int .i64 b0, .int .i64 b1], .agg #[.int .i64 p0, .int .i64 p1]] w fun e w' => e = .returned (.agg #[.int .i64 (squareV (b0 - a0) (b1 - a1) (p0 - a0) (p1 - a1)).1, .int .i64 (squareV (b0 - a0) (b1 - a1) (p0 - a0) (p1 - a1)).2]) ∧ Below w.heap.size w w' := by
  have HN := fun w => line_any a0 a1 b0 b1 p0 p1 h w
  obtain ⟨⟨ha0, ha1⟩, ⟨hb0, hb1⟩, ⟨hp0, hp1⟩⟩ := h
  have e1 : p0 - a0 - (b0 - a0) = p0 - b0 := by omega
  have e2 : p1 - a1 - (b1 - a1) = p1 - b1 := by omega
  refine square_raw a0 a1 b0 b1 p0 p1 (b0 - a0) (b1 - a1) (p0 - a0) (p1 - a1) _ _ _ _
      (Lib.hid fun w => sub_any _ _ _ _ ⟨by omega, by omega, by omega, by omega⟩ w) (Lib.hid fun w => sub_any _ _ _ _ ⟨by omega, by omega, by omega, by omega⟩ w)
      (Lib.hid fun w => dot_any _ _ _ _ ⟨by omega, by omega, by omega, by omega⟩ w) (Lib.hid fun w => dot_any _ _ _ _ ⟨by omega, by omega, by omega, by omega⟩ w) ?_ ?_ ?_ w
  · intro hf
    unfold squareV
    rw [if_pos hf]
    exact Lib.hid fun w => between_any _ _ _ _ (by omega) (by omega) w
  · intro hf hL
    unfold squareV
    rw [if_neg (by omega), if_pos hL, e1, e2]
    exact Lib.hid fun w => between_any _ _ _ _ (by omega) (by omega) w
  · intro hf hL
    unfold squareV
    rw [if_neg (by omega), if_neg (by omega)]
    exact Lib.hid HN

theorem side_any (a0 a1 b0 b1 p0 p1 : Int) (h : InE a0 a1 b0 b1 p0 p1) (w : World) :
    Calls Try.prog 71 #[.agg #[.int .i64 a0, .int .i64 a1, .int .i64 b0, .int .i64 b1], .agg #[.int .i64 p0, .int .i64 p1]] w fun e w' => e = .returned (.int .i64 (sideV (b0 - a0) (b1 - a1) (p0 - a0) (p1 - a1))) ∧ Below w.heap.size w w' := by
  obtain ⟨⟨ha0, ha1⟩, ⟨hb0, hb1⟩, ⟨hp0, hp1⟩⟩ := h
  refine side_raw a0 a1 b0 b1 p0 p1 (b0 - a0) (b1 - a1) (p0 - a0) (p1 - a1) _ _ ?_
      (Lib.hid fun w => sub_any _ _ _ _ ⟨by omega, by omega, by omega, by omega⟩ w) (Lib.hid fun w => sub_any _ _ _ _ ⟨by omega, by omega, by omega, by omega⟩ w)
      (Lib.hid fun w => cross_any _ _ _ _ ⟨by omega, by omega, by omega, by omega⟩ w) w
  unfold sideV
  split
  · next h => exact Or.inl ⟨h, rfl⟩
  · split
    · next h k => exact Or.inr (Or.inl ⟨h, k, rfl⟩)
    · next h k => exact Or.inr (Or.inr ⟨h, k, rfl⟩)

end Go.Proofs.Yteiildeaccngjaa
