/-
  Layer 8: what other layers' functions answer, in its words (no claim is made here).
-/
import Derived.Test.YtlhngelifmjefaaMwnd
import Derived.Test.YtlhngelifmjefaaMdiv
import Derived.Test.YtlhngelifmjefaaDistMath
namespace Go.Proofs.Ytlhngelifmjefaa
open Go.RowKit

def cmpI (a b : Int) : Int := if a < b then -1 else if b < a then 1 else 0
theorem cmpI_cast (a b : Nat) : cmpN a b = cmpI a b := by unfold cmpN cmpI; split <;> split <;> (try split) <;> (try split) <;> omega
theorem less_int (a b c d : Int) (ha : 0 ≤ a ∧ a < 9223372036854775808) (hb : 0 ≤ b ∧ b < 9223372036854775808) (hc : 0 ≤ c ∧ c < 9223372036854775808) (hd : 0 ≤ d ∧ d < 9223372036854775808) (w : World) :
    Calls Try.prog 66 #[.int .i64 a, .int .i64 b, .int .i64 c, .int .i64 d] w fun e w' => e = .returned (.int .i64 (cmpI (a * d) (c * b))) ∧ Below w.heap.size w w' := by
  obtain ⟨a, rfl⟩ := Int.eq_ofNat_of_zero_le ha.1
  obtain ⟨b, rfl⟩ := Int.eq_ofNat_of_zero_le hb.1
  obtain ⟨c, rfl⟩ := Int.eq_ofNat_of_zero_le hc.1
  obtain ⟨d, rfl⟩ := Int.eq_ofNat_of_zero_le hd.1
  have h := less_any a b c d (by omega) (by omega) (by omega) (by omega) w
  rw [cmpI_cast, Int.natCast_mul, Int.natCast_mul] at h
  exact h
theorem rcompare_int (a b c d : Int) (ha : 0 ≤ a ∧ a < 9223372036854775808) (hb : 0 ≤ b ∧ b < 9223372036854775808) (hc : 0 ≤ c ∧ c < 9223372036854775808) (hd : 0 ≤ d ∧ d < 9223372036854775808) (w : World) :
    Calls Try.prog 60 #[.agg #[.int .i64 a, .int .i64 b], .agg #[.int .i64 c, .int .i64 d]] w fun e w' => e = .returned (.int .i64 (cmpI (a * d) (c * b))) ∧ Below w.heap.size w w' := by
  obtain ⟨a, rfl⟩ := Int.eq_ofNat_of_zero_le ha.1
  obtain ⟨b, rfl⟩ := Int.eq_ofNat_of_zero_le hb.1
  obtain ⟨c, rfl⟩ := Int.eq_ofNat_of_zero_le hc.1
  obtain ⟨d, rfl⟩ := Int.eq_ofNat_of_zero_le hd.1
  have h := rcompare_any a b c d (by omega) (by omega) (by omega) (by omega) w
  rw [cmpI_cast, Int.natCast_mul, Int.natCast_mul] at h
  exact h
/-- Eight times the root of a fraction that is no more than so many. -/
theorem scaled_e8 (n d : Int) (hn : 0 ≤ n ∧ n < 9223372036854775808) (hd : 0 < d ∧ d < 9223372036854775808) (hb : n ≤ d * 3355443200) (w : World) :
    Calls Try.prog 38 #[.agg #[.int .i64 n, .int .i64 d], .int .i64 8] w fun e w' => e = .returned (.int .i64 (e8 (n, d))) ∧ Below w.heap.size w w' := by
  obtain ⟨n, rfl⟩ := Int.eq_ofNat_of_zero_le hn.1
  obtain ⟨d, rfl⟩ := Int.eq_ofNat_of_zero_le (Int.le_of_lt hd.1)
  have h := scaled_any n d 8 (by omega) (by omega) (by omega) (by omega) w
  have hq : n * (8 * 8) / d ≤ 4611686018427387904 := by
    refine Nat.le_trans ((Nat.div_le_iff_le_mul_add_pred (by omega)).2 (?_ : n * (8 * 8) ≤ d * 4611686018427387904 + (d - 1))) (Nat.le_refl _)
    omega
  have e : scaledN n d 8 = e8 ((n : Int), (d : Int)) := by
    unfold scaledN e8
    rw [if_pos hq]
    rfl
  rw [e] at h
  exact h
/-- The nearest edge's fraction is small. -/
theorem near_small {es : List Ed} {p : Pt} {n d k : Int} (h : Near es p (n, d) k) (hk : 0 ≤ k) (hin : ∀ s ∈ es, InD s) (hp : InP p) : (0 ≤ n ∧ n ≤ 1801439850948198400) ∧ (0 < d ∧ d ≤ 536870912) ∧ n ≤ d * 3355443200 := by
  obtain ⟨j, e, h1, h2, h3, h4⟩ := h.some hk
  have := sq_small e p (hin e (List.mem_of_getElem? h2)) hp
  rw [← h3] at this
  exact this
theorem fit_of {es : List Ed} {p : Pt} (hin : ∀ s ∈ es, InD s) (hp : InP p) : Fit es p := by
  intro e he
  have h := sq_small e p (hin e he) hp
  omega
/-- Eight times a distance is no more than so much. -/
theorem E8.small {es : List Ed} {p : Pt} {d : Int} (h : E8 es p d) (hin : ∀ s ∈ es, InD s) (hp : InP p) : -1 ≤ d ∧ d ≤ 463409 := by
  rcases h with ⟨_, rfl⟩ | ⟨h0, ⟨e, he, rfl⟩, _⟩
  · omega
  · have h := sq_small e p (hin e he) hp
    obtain ⟨p0, p1, p2⟩ := e8_spec h.1.1 h.2.1.1 (fit_of hin hp e he)
    generalize e8 (sqF e p) = x at *
    refine ⟨by omega, ?_⟩
    have k1 : x * x * (sqF e p).2 ≤ (sqF e p).2 * 214748364800 := by omega
    have k2 : x * x ≤ 214748364800 := by
      refine Int.le_of_mul_le_mul_left (a := (sqF e p).2) ?_ h.2.1.1
      rw [Int.mul_comm (sqF e p).2 (x * x)]
      exact k1
    have k3 : x * x < 463410 * 463410 := by omega
    have := sq_lt_of (by omega) k3
    omega
/-- Four cells of two blocks, and Below. -/
theorem S4_of {w W : World} {j k : Nat} {v0 v1 u0 u1 : Value} (h0 : w.cell? ⟨j, 0, none⟩ = some v0) (h1 : w.cell? ⟨j, 1, none⟩ = some v1) (h2 : w.cell? ⟨k, 0, none⟩ = some u0) (h3 : w.cell? ⟨k, 1, none⟩ = some u1) (hb : Below w.heap.size w W) : W.cell? ⟨j, 0, none⟩ = some v0 ∧ W.cell? ⟨j, 1, none⟩ = some v1 ∧ W.cell? ⟨k, 0, none⟩ = some u0 ∧ W.cell? ⟨k, 1, none⟩ = some u1 ∧ Below w.heap.size w W := ⟨keep hb h0, keep hb h1, keep hb h2, keep hb h3, hb⟩
theorem S8_of {w W : World} {a : Addr} {j k : Nat} {e0 e1 e2 e3 v0 v1 u0 u1 : Value} (g0 : w.cell? a = some e0) (g1 : w.cell? ⟨a.block, a.off + 1, none⟩ = some e1) (g2 : w.cell? ⟨a.block, a.off + 2, none⟩ = some e2) (g3 : w.cell? ⟨a.block, a.off + 3, none⟩ = some e3) (h0 : w.cell? ⟨j, 0, none⟩ = some v0) (h1 : w.cell? ⟨j, 1, none⟩ = some v1) (h2 : w.cell? ⟨k, 0, none⟩ = some u0) (h3 : w.cell? ⟨k, 1, none⟩ = some u1) (hb : Below w.heap.size w W) :
    W.cell? a = some e0 ∧ W.cell? ⟨a.block, a.off + 1, none⟩ = some e1 ∧ W.cell? ⟨a.block, a.off + 2, none⟩ = some e2 ∧ W.cell? ⟨a.block, a.off + 3, none⟩ = some e3 ∧ W.cell? ⟨j, 0, none⟩ = some v0 ∧ W.cell? ⟨j, 1, none⟩ = some v1 ∧ W.cell? ⟨k, 0, none⟩ = some u0 ∧ W.cell? ⟨k, 1, none⟩ = some u1 ∧ Below w.heap.size w W := ⟨keep hb g0, keep hb g1, keep hb g2, keep hb g3, keep hb h0, keep hb h1, keep hb h2, keep hb h3, hb⟩
theorem S8b_of {w W : World} {i j k : Nat} {e0 e1 e2 e3 v0 v1 u0 u1 : Value} (g0 : w.cell? ⟨i, 0, none⟩ = some e0) (g1 : w.cell? ⟨i, 1, none⟩ = some e1) (g2 : w.cell? ⟨i, 2, none⟩ = some e2) (g3 : w.cell? ⟨i, 3, none⟩ = some e3) (h0 : w.cell? ⟨j, 0, none⟩ = some v0) (h1 : w.cell? ⟨j, 1, none⟩ = some v1) (h2 : w.cell? ⟨k, 0, none⟩ = some u0) (h3 : w.cell? ⟨k, 1, none⟩ = some u1) (hb : Below w.heap.size w W) :
    W.cell? ⟨i, 0, none⟩ = some e0 ∧ W.cell? ⟨i, 1, none⟩ = some e1 ∧ W.cell? ⟨i, 2, none⟩ = some e2 ∧ W.cell? ⟨i, 3, none⟩ = some e3 ∧ W.cell? ⟨j, 0, none⟩ = some v0 ∧ W.cell? ⟨j, 1, none⟩ = some v1 ∧ W.cell? ⟨k, 0, none⟩ = some u0 ∧ W.cell? ⟨k, 1, none⟩ = some u1 ∧ Below w.heap.size w W := ⟨keep hb g0, keep hb g1, keep hb g2, keep hb g3, keep hb h0, keep hb h1, keep hb h2, keep hb h3, hb⟩
end Go.Proofs.Ytlhngelifmjefaa
