/-
  What grid.At, the law's down and Spec.Grid do to any world: contracts (no claim is made here).
-/
import Derived.Test.YtlhngelifmjefaaGrd1
namespace Go.Proofs.Ytlhngelifmjefaa
open Go.RowKit

/-- A row of bytes that is read. -/
def BtRd (w : World) (A : Option Addr) (bs : List Int) : Prop := ∀ i (h : i < bs.length), ∃ a, A = some a ∧ w.cell? (a.add i) = some (.int .u8 bs[i])
theorem BtRd.keep {w w' : World} {A : Option Addr} {bs : List Int} (h : BtRd w A bs) (hb : Below w.heap.size w w') : BtRd w' A bs := fun i hi => by
  obtain ⟨a, e, hc⟩ := h i hi
  exact ⟨a, e, Go.Proofs.Ytlhngelifmjefaa.keep hb hc⟩

/-- Which byte of a field a texel is; none: there is none. -/
def atG (u v : Int) (bs : List Int) (i k : Int) : Option Int :=
  if i < 0 ∨ k < 0 ∨ u ≤ i ∨ v ≤ k then none else bs[(k * u + i).toNat]?

theorem ediv_small' (a b : Int) (ha : a.natAbs ≤ 40000) (hb : 1 ≤ b) : (a / b).natAbs ≤ 40000 := by
  have k := Int.mul_le_mul_of_nonneg_left hb (show (0 : Int) ≤ 40000 by omega)
  have h1 : -40000 ≤ a / b := Int.le_ediv_of_mul_le (by omega) (by omega)
  have h2 : a / b ≤ 40000 := Int.ediv_le_of_le_mul (by omega) (by omega)
  omega
theorem down_neg (a b : Int) (hb : 1 ≤ b) : a.tdiv b = a / b ∨ (a.tdiv b - 1 = a / b ∧ a < a.tdiv b * b) := by
  by_cases h : 0 ≤ a
  · exact .inl (Int.tdiv_eq_ediv_of_nonneg h)
  · obtain ⟨h1, h2⟩ := floor_neg a b (by omega) hb
    by_cases hm : 0 ≤ a.tmod b
    · exact .inl (h1 hm)
    · refine .inr ⟨h2 (by omega), ?_⟩
      have := Int.tdiv_mul_add_tmod a b
      omega

set_option maxRecDepth 100000 in
set_option maxHeartbeats 1600000 in
theorem sgrid_any (x y p u v s : Int) (hx : 0 ≤ x ∧ x ≤ 255) (hy : 0 ≤ y ∧ y ≤ 255) (hp : 0 ≤ p ∧ p ≤ 255) (hu : 0 ≤ u ∧ u ≤ 255) (hv : 0 ≤ v ∧ v ≤ 255) (hs : 0 ≤ s ∧ s ≤ 255) (w : World) :
    Calls Try.prog 13 #[.agg #[.int .u8 x, .int .u8 y, .int .u8 p, .int .u8 u, .int .u8 v, .int .u8 s]] w fun e w' =>
      e = .returned (.agg #[.int .i64 (x - 128), .int .i64 (y - 128), .int .i64 (1 + p % 16), .int .i64 (1 + u % 10), .int .i64 (1 + v % 10), .int .i64 (1 + s % 64)]) ∧ Below w.heap.size w w' := by
  have HF := Lib.hid (Blk.new (w.alloc (.cells #[.int .u8 x, .int .u8 y, .int .u8 p, .int .u8 u, .int .u8 v, .int .u8 s] 24)) 35 [.int .i64 (x - 128), .int .i64 (y - 128), .int .i64 (1 + p % 16), .int .i64 (1 + u % 10), .int .i64 (1 + v % 10), .int .i64 (1 + s % 64)] (g := w.heap.size + 1) (by simp))
  have HB := Lib.hid (alloc2 w (.cells #[.int .u8 x, .int .u8 y, .int .u8 p, .int .u8 u, .int .u8 v, .int .u8 s] 24) (.cells #[.int .i64 (x - 128), .int .i64 (y - 128), .int .i64 (1 + p % 16), .int .i64 (1 + u % 10), .int .i64 (1 + v % 10), .int .i64 (1 + s % 64)] 35))
  go_enter Try.func13, Try.ntmps13
  go_wp2
  have q0 := HF.out.cell 0 rfl
  have q1 := HF.out.cell 1 rfl
  have q2 := HF.out.cell 2 rfl
  have q3 := HF.out.cell 3 rfl
  have q4 := HF.out.cell 4 rfl
  have q5 := HF.out.cell 5 rfl
  exact bodyPost_ret (v := .agg #[.int .i64 (x - 128), .int .i64 (y - 128), .int .i64 (1 + p % 16), .int .i64 (1 + u % 10), .int .i64 (1 + v % 10), .int .i64 (1 + s % 64)]) (by simp [results, Try.results13, go_sem, q0, q1, q2, q3, q4, q5]) rfl ⟨rfl, HB.out⟩

set_option maxRecDepth 100000 in
set_option maxHeartbeats 1600000 in
theorem gat_any (u v : Int) (A : Option Addr) (n cap : Nat) (bs : List Int) (i k : Int) (w : World) (hn : bs.length = n) (hB : BtRd w A bs) (hu : u.natAbs ≤ 65536) (hi : i.natAbs ≤ 65536) (hk : k.natAbs ≤ 65536) :
    Calls Try.prog 22 #[.agg #[.int .i64 u, .int .i64 v, .slice A n cap], .int .i64 i, .int .i64 k] w fun e w' =>
      e = .returned (.tuple #[.int .u8 ((atG u v bs i k).getD 0), .bool (atG u v bs i k).isSome]) ∧ Below w.heap.size w w' := by
  have HB0 := Lib.hid ((Below.refl _ w).alloc (Nat.le_refl _) (.cells #[.int .i64 u, .int .i64 v, .slice A n cap] 30))
  by_cases ho : i < 0 ∨ k < 0 ∨ u ≤ i ∨ v ≤ k
  · have e : atG u v bs i k = none := if_pos ho
    rw [e]
    clear e
    go_enter Try.func22, Try.ntmps22
    go_wp2
    all_goals exact bodyPost_ret (v := .tuple #[.int .u8 0, .bool false]) (by simp [results, Try.results22, go_sem]) rfl ⟨rfl, HB0.out⟩
  · have e : atG u v bs i k = bs[(k * u + i).toNat]? := if_neg ho
    rw [e]
    have hku : 0 ≤ k * u := Int.mul_nonneg (by omega) (by omega)
    have hkb : (k * u).natAbs ≤ 65536 * 65536 := by rw [Int.natAbs_mul]; exact Nat.mul_le_mul hk hu
    obtain ⟨z, hz⟩ : ∃ z : Nat, k * u = z := ⟨(k * u).toNat, by omega⟩
    have hw : IntKind.i64.wrap (k * u) = z := by rw [hz]; exact wI (by omega) (by omega)
    rw [hz]
    obtain ⟨j, hj⟩ : ∃ j : Nat, (z : Int) + i = j := ⟨((z : Int) + i).toNat, by omega⟩
    have hjw : IntKind.i64.wrap ((z : Int) + i) = j := by rw [hj]; exact wI (by omega) (by omega)
    rw [hj, Int.toNat_natCast]
    have hjb : (j : Int) ≤ 5000000000 := by omega
    have hzb : (z : Int) ≤ 5000000000 := by omega
    obtain ⟨o1, o2, o3, o4⟩ : 0 ≤ i ∧ 0 ≤ k ∧ i < u ∧ k < v := by omega
    clear hz e ho hku hkb hj
    by_cases hjn : j < n
    · obtain ⟨a, rfl, ha⟩ := hB j (by omega)
      have e2 : bs[j]? = some (bs[j]'(by omega)) := List.getElem?_eq_getElem _
      rw [e2]
      generalize bs[j] = c at *
      have ha2 := keepAlloc (.cells #[.int .i64 u, .int .i64 v, .slice (some a) n cap] 30) ha
      go_enter Try.func22, Try.ntmps22
      go_wp2
      exact bodyPost_ret (v := .tuple #[.int .u8 c, .bool true]) (by simp [results, Try.results22, go_sem]) rfl ⟨rfl, HB0.out⟩
    · have e2 : bs[j]? = none := List.getElem?_eq_none (by omega)
      rw [e2]
      go_enter Try.func22, Try.ntmps22
      go_wp2
      exact bodyPost_ret (v := .tuple #[.int .u8 0, .bool false]) (by simp [results, Try.results22, go_sem]) rfl ⟨rfl, HB0.out⟩

end Go.Proofs.Ytlhngelifmjefaa
