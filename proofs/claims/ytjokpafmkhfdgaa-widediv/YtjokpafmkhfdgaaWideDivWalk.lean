/-
  The walk of the law WideDiv (no claim is made here: the row is WideDiv).
-/
import Derived.Test.YtjokpafmkhfdgaaAwake1
import Derived.OpenShut
namespace Go.Proofs.Ytjokpafmkhfdgaa
open Go.RowKit

/-- A division that does not go over: what it tells, multiplied and added, is what was divided. -/
theorem div_back (ph pl x : Nat) (h : ph < x) (hx : x < 18446744073709551616) (hl : pl < 18446744073709551616) : ∃ q r p1 p0 : Int, r < x ∧
    Hid (∀ w, Calls Try.prog 18 #[.agg #[.int .u64 ph, .int .u64 pl], .int .u64 x] w fun e w' => e = .returned (.tuple #[.int .u64 q, .int .u64 r, .int .i64 0]) ∧ Below w.heap.size w w') ∧
    Hid (∀ w, Calls Try.prog 12 #[.int .u64 q, .int .u64 x] w fun e w' => e = .returned (.agg #[.int .u64 p1, .int .u64 p0]) ∧ Below w.heap.size w w') ∧
    Hid (∀ w, Calls Try.prog 16 #[.agg #[.int .u64 p1, .int .u64 p0], .agg #[.int .u64 0, .int .u64 r]] w fun e w' => e = .returned (.tuple #[.agg #[.int .u64 ph, .int .u64 pl], .bool false]) ∧ Below w.heap.size w w') := by
  have hr : (ph * 18446744073709551616 + pl) % x < x := Nat.mod_lt _ (by omega)
  have hq : (ph * 18446744073709551616 + pl) / x < 18446744073709551616 := by
    rw [Nat.div_lt_iff_lt_mul (by omega)]
    have h1 : (ph + 1) * 18446744073709551616 ≤ x * 18446744073709551616 := Nat.mul_le_mul_right _ h
    omega
  have he := Nat.div_add_mod' (ph * 18446744073709551616 + pl) x
  refine ⟨_, _, _, _, Int.ofNat_lt.2 hr, fun w => div_ok ph pl x h hx hl w, fun w => mul_any _ x hq hx w, fun w => ?_⟩
  generalize (ph * 18446744073709551616 + pl) / x = q at hq he ⊢
  generalize (ph * 18446744073709551616 + pl) % x = r at hr he ⊢
  have p := plus_any (q * x / 18446744073709551616) (q * x % 18446744073709551616) 0 r (Nat.mod_lt _ (by omega)) (by omega) w
  have f1 : q * x / 18446744073709551616 + 0 + (q * x % 18446744073709551616 + r) / 18446744073709551616 = ph := by omega
  have f2 : (q * x % 18446744073709551616 + r) % 18446744073709551616 = pl := by omega
  have f3 : ph % 18446744073709551616 = ph := Nat.mod_eq_of_lt (by omega)
  rw [f1, f2, f3, decide_eq_false (by omega)] at p
  exact p

set_option maxHeartbeats 1000000 in
set_option maxRecDepth 100000 in
theorem wideDiv_core (ph pl : Nat) (d s : Int) (w : World) (hl : pl < 18446744073709551616) (hs : 0 ≤ s ∧ s ≤ 255) (hd : 0 ≤ d ∧ d < 18446744073709551616) :
    Calls Try.prog 6 #[.agg #[.int .u64 ph, .int .u64 pl], .int .u64 d, .int .u8 s] w fun e w' => e = .returned (.bool true) ∧ Below w.heap.size w w' := by
  have hx1 : 0 ≤ d / 2 ^ (s % 64).toNat ∧ d / 2 ^ (s % 64).toNat < 18446744073709551616 := by
    obtain ⟨n, rfl⟩ := Int.eq_ofNat_of_zero_le hd.1
    have : ((n : Int) / 2 ^ (s % 64).toNat) = ((n / 2 ^ (s % 64).toNat : Nat) : Int) := by simp
    have h2 := Nat.div_le_self n (2 ^ (s % 64).toNat)
    rw [this]
    generalize n / 2 ^ (s % 64).toNat = m at h2
    omega
  have HL := Lib.hid hl
  clear hl
  generalize hx : d / 2 ^ (s % 64).toNat = x1 at hx1
  go_enter Try.func6, Try.ntmps6
  go_wp2_with fail
  refine (awake_any _).mono ?_
  rintro e w1 ⟨rfl, hb1⟩
  have s1 : w.heap.size < w1.heap.size := by have := hb1.size; simp at this; omega
  have B1 : Below w.heap.size w w1 := below2 ((Below.refl _ w).alloc (Nat.le_refl _) _) hb1
  have c0 : w1.cell? ⟨w.heap.size, 0, none⟩ = some (.int .u64 ph) := (hb1.cell (p := ⟨w.heap.size, 0, none⟩) (by simp)).trans (by simp)
  have c1 : w1.cell? ⟨w.heap.size, 1, none⟩ = some (.int .u64 pl) := (hb1.cell (p := ⟨w.heap.size, 1, none⟩) (by simp)).trans (by simp)
  clear hb1
  go_wp2_with fail
  obtain ⟨w2, hw2⟩ : ∃ w2, w2 = w1.alloc (.cells #[.int .u64 d, .int .u64 x1, .int .u64 s] 22) := ⟨_, rfl⟩
  have s2 : w2.heap.size = w1.heap.size + 1 := by rw [hw2]; simp
  have B2 : Below w.heap.size w w2 := by rw [hw2]; exact B1.alloc B1.size _
  have d0 : w2.cell? ⟨w.heap.size, 0, none⟩ = some (.int .u64 ph) := by rw [hw2]; exact keepAlloc _ c0
  have d1 : w2.cell? ⟨w.heap.size, 1, none⟩ = some (.int .u64 pl) := by rw [hw2]; exact keepAlloc _ c1
  have x0c : w2.cell? ⟨w1.heap.size, 0, none⟩ = some (.int .u64 d) := by rw [hw2]; simp
  have x1c : w2.cell? ⟨w1.heap.size, 1, none⟩ = some (.int .u64 x1) := by rw [hw2]; simp
  have x2c : w2.cell? ⟨w1.heap.size, 2, none⟩ = some (.int .u64 s) := by rw [hw2]; simp
  rw [← hw2]
  clear hw2 c0 c1
  have S2 := Lib.hid s2
  clear s2
  go_loopw [25] (fun i wr => ∃ k : Nat, k ≤ 3 ∧ i = .int .i64 k ∧ Below w2.heap.size w2 wr) (fun i _ => 3 - (intOf i).toNat)
  case atStart => exact ⟨0, by omega, rfl, Below.refl _ _⟩
  case round =>
    obtain ⟨k, hk, rfl, hr⟩ := hrel
    have t0 : wr.cell? ⟨w.heap.size, 0, none⟩ = some (.int .u64 ph) := keep hr d0
    have t1 : wr.cell? ⟨w.heap.size, 1, none⟩ = some (.int .u64 pl) := keep hr d1
    by_cases hk3 : k < 3
    · obtain ⟨x, hxc, hx0⟩ : ∃ x : Nat, wr.cell? ⟨w1.heap.size, k, none⟩ = some (.int .u64 x) ∧ x < 18446744073709551616 := by
        rcases (by omega : k = 0 ∨ k = 1 ∨ k = 2) with rfl | rfl | rfl
        · exact ⟨d.toNat, by rw [Int.toNat_of_nonneg hd.1]; exact keep hr x0c, by omega⟩
        · exact ⟨x1.toNat, by rw [Int.toNat_of_nonneg hx1.1]; exact keep hr x1c, by omega⟩
        · exact ⟨s.toNat, by rw [Int.toNat_of_nonneg hs.1]; exact keep hr x2c, by omega⟩
      by_cases ho : x ≤ ph
      · clear d0 d1 x0c x1c x2c
        go_wp2_with fail
        refine (div_over ph pl x ho _).mono ?_
        rintro e w3 ⟨rfl, hb3⟩
        have r0 : w3.cell? ⟨w.heap.size, 0, none⟩ = some (.int .u64 ph) := keep hb3 t0
        go_wp2_with fail
        go_roundw
        case rel => exact ⟨k + 1, by omega, by go_num, below2 hr hb3⟩
        case measure => simp [intOf]; omega
      · obtain ⟨q, r, p1, p0, hrx, HD, HM, HP⟩ := div_back ph pl x (by omega) hx0 HL.out
        clear d0 d1 x0c x1c x2c
        go_wp2_with fail
        refine (HD.out _).mono ?_
        rintro e w3 ⟨rfl, hb3⟩
        have r0 : w3.cell? ⟨w.heap.size, 0, none⟩ = some (.int .u64 ph) := keep hb3 t0
        have r1 : w3.cell? ⟨w.heap.size, 1, none⟩ = some (.int .u64 pl) := keep hb3 t1
        go_wp2_with fail
        refine (HM.out _).mono ?_
        rintro e w4 ⟨rfl, hb4⟩
        go_wp2_with fail
        refine (HP.out _).mono ?_
        rintro e w5 ⟨rfl, hb5⟩
        have B5 := below2 (below2 hb3 hb4) hb5
        have v0 := keepAlloc (.cells #[.int .u64 (ph : Int), .int .u64 (pl : Int)] 27) (keep B5 t0)
        have v1 := keepAlloc (.cells #[.int .u64 (ph : Int), .int .u64 (pl : Int)] 27) (keep B5 t1)
        have B6 := Lib.hid (below2 hr B5)
        clear t0 t1 r0 r1 hb3 hb4 hb5 B5 hr hxc
        go_wp2_with fail
        go_roundw
        case rel => exact ⟨k + 1, by omega, by go_num, B6.out.alloc B6.out.size _⟩
        case measure => simp [intOf]; omega
    · go_wp2
      go_ret
      exact ⟨rfl, B2.trans (hr.mono B2.size)⟩

theorem wideDiv_walk (ph pl d s : Int) (w0 : (Lit.int .u64 ph).wf = true) (w1 : (Lit.int .u64 pl).wf = true) (w2 : (Lit.int .u64 d).wf = true) (w3 : (Lit.int .u8 s).wf = true) (w : World) :
    Calls Try.prog 6 #[.agg #[.int .u64 ph, .int .u64 pl], .int .u64 d, .int .u8 s] w fun e w' => e = .returned (.bool true) ∧ Below w.heap.size w w' := by
  have b0 := bounds_u64 w0
  have b1 := bounds_u64 w1
  have b2 := bounds_u64 w2
  have b3 := bounds_u8 w3
  obtain ⟨a, rfl⟩ := Int.eq_ofNat_of_zero_le b0.1
  obtain ⟨b, rfl⟩ := Int.eq_ofNat_of_zero_le b1.1
  exact wideDiv_core a b d s w (by omega) b3 ⟨b2.1, by omega⟩

end Go.Proofs.Ytjokpafmkhfdgaa
