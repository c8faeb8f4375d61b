/-
  Dst0 Dst1 in one text (no claim is made here).
-/
import Derived.Test.YteiildeaccngjaaMwnd
import Derived.Test.YteiildeaccngjaaMdiv
import Derived.Test.YteiildeaccngjaaMnum
namespace Go.Proofs.Yteiildeaccngjaa
open Go.RowKit

def cmpI (a b : Int) : Int := if a < b then -1 else if b < a then 1 else 0
theorem cmpI_cast (a b : Nat) : cmpN a b = cmpI a b := by unfold cmpN cmpI; split <;> split <;> (try split) <;> (try split) <;> omega
theorem less_int (a b c d : Int) (ha : 0 ≤ a ∧ a < 9223372036854775808) (hb : 0 ≤ b ∧ b < 9223372036854775808) (hc : 0 ≤ c ∧ c < 9223372036854775808) (hd : 0 ≤ d ∧ d < 9223372036854775808) (w : World) :
    Calls Try.prog 49 #[.int .i64 a, .int .i64 b, .int .i64 c, .int .i64 d] w fun e w' => e = .returned (.int .i64 (cmpI (a * d) (c * b))) ∧ Below w.heap.size w w' := by
  obtain ⟨a, rfl⟩ := Int.eq_ofNat_of_zero_le ha.1
  obtain ⟨b, rfl⟩ := Int.eq_ofNat_of_zero_le hb.1
  obtain ⟨c, rfl⟩ := Int.eq_ofNat_of_zero_le hc.1
  obtain ⟨d, rfl⟩ := Int.eq_ofNat_of_zero_le hd.1
  have h := less_any a b c d (by omega) (by omega) (by omega) (by omega) w
  rw [cmpI_cast, Int.natCast_mul, Int.natCast_mul] at h
  exact h
theorem rcompare_int (a b c d : Int) (ha : 0 ≤ a ∧ a < 9223372036854775808) (hb : 0 ≤ b ∧ b < 9223372036854775808) (hc : 0 ≤ c ∧ c < 9223372036854775808) (hd : 0 ≤ d ∧ d < 9223372036854775808) (w : World) :
    Calls Try.prog 24 #[.agg #[.int .i64 a, .int .i64 b], .agg #[.int .i64 c, .int .i64 d]] w fun e w' => e = .returned (.int .i64 (cmpI (a * d) (c * b))) ∧ Below w.heap.size w w' := by
  obtain ⟨a, rfl⟩ := Int.eq_ofNat_of_zero_le ha.1
  obtain ⟨b, rfl⟩ := Int.eq_ofNat_of_zero_le hb.1
  obtain ⟨c, rfl⟩ := Int.eq_ofNat_of_zero_le hc.1
  obtain ⟨d, rfl⟩ := Int.eq_ofNat_of_zero_le hd.1
  have h := rcompare_any a b c d (by omega) (by omega) (by omega) (by omega) w
  rw [cmpI_cast, Int.natCast_mul, Int.natCast_mul] at h
  exact h
/-- Eight times the root of a fraction that is no more than so many. -/
theorem scaled_e8 (n d : Int) (hn : 0 ≤ n ∧ n < 9223372036854775808) (hd : 0 < d ∧ d < 9223372036854775808) (hb : n ≤ d * 3355443200) (w : World) :
    Calls Try.prog 18 #[.agg #[.int .i64 n, .int .i64 d], .int .i64 8] w fun e w' => e = .returned (.int .i64 (e8 (n, d))) ∧ Below w.heap.size w w' := by
  obtain ⟨n, rfl⟩ := Int.eq_ofNat_of_zero_le hn.1
  obtain ⟨d, rfl⟩ := Int.eq_ofNat_of_zero_le (Int.le_of_lt hd.1)
  have h := scaled_any n d 8 (by omega) (by omega) (by omega) (by omega) w
  have hq : n * (8 * 8) / d ≤ 4611686018427387904 := by
    refine Nat.le_trans ((Nat.div_le_iff_le_mul_add_pred (by omega)).2 (?_ : n * (8 * 8) ≤ d * 4611686018427387904 + (d - 1))) (Nat.le_refl _)
    omega
  have e : scaledN n d 8 = e8 ((n : Int), (d : Int)) := by
    unfold scaledN e8
    rw [if_pos hq]
    rfl
  rw [e] at h
  exact h
/-- The nearest edge's fraction is small. -/
theorem near_small {es : List Ed} {p : Pt} {n d k : Int} (h : Near es p (n, d) k) (hk : 0 ≤ k) (hin : ∀ s ∈ es, InD s) (hp : InP p) : (0 ≤ n ∧ n ≤ 1801439850948198400) ∧ (0 < d ∧ d ≤ 536870912) ∧ n ≤ d * 3355443200 := by
  obtain ⟨j, e, h1, h2, h3, h4⟩ := h.some hk
  have := sq_small e p (hin e (List.mem_of_getElem? h2)) hp
  rw [← h3] at this
  exact this
theorem fit_of {es : List Ed} {p : Pt} (hin : ∀ s ∈ es, InD s) (hp : InP p) : Fit es p := by
  intro e he
  have h := sq_small e p (hin e he) hp
  omega
/-- Eight times a distance is no more than so much. -/
theorem E8.small {es : List Ed} {p : Pt} {d : Int} (h : E8 es p d) (hin : ∀ s ∈ es, InD s) (hp : InP p) : -1 ≤ d ∧ d ≤ 463409 := by
  rcases h with ⟨_, rfl⟩ | ⟨h0, ⟨e, he, rfl⟩, _⟩
  · omega
  · have h := sq_small e p (hin e he) hp
    obtain ⟨p0, p1, p2⟩ := e8_spec h.1.1 h.2.1.1 (fit_of hin hp e he)
    generalize e8 (sqF e p) = x at *
    refine ⟨by omega, ?_⟩
    have k1 : x * x * (sqF e p).2 ≤ (sqF e p).2 * 214748364800 := by omega
    have k2 : x * x ≤ 214748364800 := by
      refine Int.le_of_mul_le_mul_left (a := (sqF e p).2) ?_ h.2.1.1
      rw [Int.mul_comm (sqF e p).2 (x * x)]
      exact k1
    have k3 : x * x < 463410 * 463410 := by omega
    have := sq_lt_of (by omega) k3
    omega
/-- Four cells of two blocks, and Below. -/
theorem S4_of {w W : World} {j k : Nat} {v0 v1 u0 u1 : Value} (h0 : w.cell? ⟨j, 0, none⟩ = some v0) (h1 : w.cell? ⟨j, 1, none⟩ = some v1) (h2 : w.cell? ⟨k, 0, none⟩ = some u0) (h3 : w.cell? ⟨k, 1, none⟩ = some u1) (hb : Below w.heap.size w W) : W.cell? ⟨j, 0, none⟩ = some v0 ∧ W.cell? ⟨j, 1, none⟩ = some v1 ∧ W.cell? ⟨k, 0, none⟩ = some u0 ∧ W.cell? ⟨k, 1, none⟩ = some u1 ∧ Below w.heap.size w W := ⟨keep hb h0, keep hb h1, keep hb h2, keep hb h3, hb⟩
theorem S8_of {w W : World} {a : Addr} {j k : Nat} {e0 e1 e2 e3 v0 v1 u0 u1 : Value} (g0 : w.cell? a = some e0) (g1 : w.cell? ⟨a.block, a.off + 1, none⟩ = some e1) (g2 : w.cell? ⟨a.block, a.off + 2, none⟩ = some e2) (g3 : w.cell? ⟨a.block, a.off + 3, none⟩ = some e3) (h0 : w.cell? ⟨j, 0, none⟩ = some v0) (h1 : w.cell? ⟨j, 1, none⟩ = some v1) (h2 : w.cell? ⟨k, 0, none⟩ = some u0) (h3 : w.cell? ⟨k, 1, none⟩ = some u1) (hb : Below w.heap.size w W) :
    W.cell? a = some e0 ∧ W.cell? ⟨a.block, a.off + 1, none⟩ = some e1 ∧ W.cell? ⟨a.block, a.off + 2, none⟩ = some e2 ∧ W.cell? ⟨a.block, a.off + 3, none⟩ = some e3 ∧ W.cell? ⟨j, 0, none⟩ = some v0 ∧ W.cell? ⟨j, 1, none⟩ = some v1 ∧ W.cell? ⟨k, 0, none⟩ = some u0 ∧ W.cell? ⟨k, 1, none⟩ = some u1 ∧ Below w.heap.size w W := ⟨keep hb g0, keep hb g1, keep hb g2, keep hb g3, keep hb h0, keep hb h1, keep hb h2, keep hb h3, hb⟩
theorem S8b_of {w W : World} {i j k : Nat} {e0 e1 e2 e3 v0 v1 u0 u1 : Value} (g0 : w.cell? ⟨i, 0, none⟩ = some e0) (g1 : w.cell? ⟨i, 1, none⟩ = some e1) (g2 : w.cell? ⟨i, 2, none⟩ = some e2) (g3 : w.cell? ⟨i, 3, none⟩ = some e3) (h0 : w.cell? ⟨j, 0, none⟩ = some v0) (h1 : w.cell? ⟨j, 1, none⟩ = some v1) (h2 : w.cell? ⟨k, 0, none⟩ = some u0) (h3 : w.cell? ⟨k, 1, none⟩ = some u1) (hb : Below w.heap.size w W) :
    W.cell? ⟨i, 0, none⟩ = some e0 ∧ W.cell? ⟨i, 1, none⟩ = some e1 ∧ W.cell? ⟨i, 2, none⟩ = some e2 ∧ W.cell? ⟨i, 3, none⟩ = some e3 ∧ W.cell? ⟨j, 0, none⟩ = some v0 ∧ W.cell? ⟨j, 1, none⟩ = some v1 ∧ W.cell? ⟨k, 0, none⟩ = some u0 ∧ W.cell? ⟨k, 1, none⟩ = some u1 ∧ Below w.heap.size w W := ⟨keep hb g0, keep hb g1, keep hb g2, keep hb g3, keep hb h0, keep hb h1, keep hb h2, keep hb h3, hb⟩
end Go.Proofs.Yteiildeaccngjaa

namespace Go.Proofs.Yteiildeaccngjaa
open Go.RowKit

/-- The less one of two squares, with its edge. -/
def nearV (n d k a b j : Int) : Int × Int × Int := if k = -1 ∨ a * d < n * b then (a, b, j) else (n, d, k)

set_option maxHeartbeats 800000 in
set_option maxRecDepth 100000 in
theorem nearer_any (n d k a b j : Int) (hn : 0 ≤ n ∧ n < 9223372036854775808) (hd : 0 ≤ d ∧ d < 9223372036854775808) (ha : 0 ≤ a ∧ a < 9223372036854775808) (hb : 0 ≤ b ∧ b < 9223372036854775808) (w : World) :
    Calls Try.prog 84 #[.agg #[.int .i64 n, .int .i64 d], .int .i64 k, .agg #[.int .i64 a, .int .i64 b], .int .i64 j] w fun e w' => e = .returned (.tuple #[.agg #[.int .i64 (nearV n d k a b j).1, .int .i64 (nearV n d k a b j).2.1], .int .i64 (nearV n d k a b j).2.2]) ∧ Below w.heap.size w w' := by
  have HC := Lib.hid (rcompare_int a b n d ha hb hn hd)
  by_cases hk : k = -1
  · have e : nearV n d k a b j = (a, b, j) := by unfold nearV; rw [if_pos (.inl hk)]
    rw [e]
    subst hk
    clear e HC hn hd ha hb
    go_enter Try.func84, Try.ntmps84
    go_wp2
    exact bodyPost_ret (v := .tuple #[.agg #[.int .i64 a, .int .i64 b], .int .i64 j]) (by simp [results, Try.results84, go_sem]) rfl ⟨rfl, below2 (alloc2 w _ _) ((Below.refl _ _).alloc (Nat.le_refl _) _)⟩
  · have hkb : (k == -1) = false := by simp; omega
    have HB0 := Lib.hid (below2 (alloc2 w (.cells #[.int .i64 n, .int .i64 d] 47) (.cells #[.int .i64 a, .int .i64 b] 47)) ((Below.refl _ _).alloc (Nat.le_refl _) (.cells #[.int .i64 0, .int .i64 0] 47)))
    have HP0 := Lib.hid (((Blk.new w 47 [.int .i64 n, .int .i64 d] rfl).alloc (.cells #[.int .i64 a, .int .i64 b] 47)).alloc (.cells #[.int .i64 0, .int .i64 0] 47))
    have HQ0 := Lib.hid ((Blk.new (w.alloc (.cells #[.int .i64 n, .int .i64 d] 47)) 47 [.int .i64 a, .int .i64 b] (g := w.heap.size + 1) (by simp)).alloc (.cells #[.int .i64 0, .int .i64 0] 47))
    have HR0 := Lib.hid (Blk.new ((w.alloc (.cells #[.int .i64 n, .int .i64 d] 47)).alloc (.cells #[.int .i64 a, .int .i64 b] 47)) 47 [.int .i64 0, .int .i64 0] (g := w.heap.size + 1 + 1) (by simp))
    have HZ := Lib.hid (show nearV n d k a b j = if a * d < n * b then (a, b, j) else (n, d, k) by unfold nearV; by_cases h : a * d < n * b <;> simp [h, hk])
    have hc : cmpI (a * d) (n * b) < 0 ↔ a * d < n * b := by unfold cmpI; split <;> (try split) <;> omega
    clear hn hd ha hb
    generalize cmpI (a * d) (n * b) = c at *
    generalize nearV n d k a b j = R at *
    obtain ⟨R0, R1, R2⟩ := R
    go_enter Try.func84, Try.ntmps84
    go_wp2_with fail
    refine (HC.out _).mono ?_
    rintro e w1 ⟨rfl, hb1⟩
    have HB1 := Lib.hid (below2 HB0.out hb1)
    have HP1 := (HP0.out.keep hb1)
    have HQ1 := (HQ0.out.keep hb1)
    have HR1 := (HR0.out.keep hb1)
    clear hb1 HB0 HP0 HQ0 HR0 HC
    have p0 := HP1.cell 0 rfl
    have p1 := HP1.cell 1 rfl
    have q0 := HQ1.cell 0 rfl
    have q1 := HQ1.cell 1 rfl
    have r0 := HR1.cell 0 rfl
    have r1 := HR1.cell 1 rfl
    have rn := HR1.lt
    have rf := HR1.frozen
    have yA := (HR1.set 0 (.int .i64 a)).cell 0 rfl
    have yB := (HR1.set 0 (.int .i64 n)).cell 0 rfl
    have RA := Lib.hid ((HR1.set 0 (.int .i64 a)).set 1 (.int .i64 b))
    have RB := Lib.hid ((HR1.set 0 (.int .i64 n)).set 1 (.int .i64 d))
    have BA := Lib.hid ((HB1.out.setCell (p := ⟨w.heap.size + 1 + 1, 0, none⟩) (by simp; omega) (.int .i64 a)).setCell (p := ⟨w.heap.size + 1 + 1, 1, none⟩) (by simp; omega) (.int .i64 b))
    have BB := Lib.hid ((HB1.out.setCell (p := ⟨w.heap.size + 1 + 1, 0, none⟩) (by simp; omega) (.int .i64 n)).setCell (p := ⟨w.heap.size + 1 + 1, 1, none⟩) (by simp; omega) (.int .i64 d))
    by_cases hl : a * d < n * b
    · have hcb : decide (c < 0) = true := by simp; omega
      have e := HZ.out
      rw [if_pos hl] at e
      injection e with e0 e
      injection e with e1 e2
      subst e0 e1 e2
      clear hl hc HZ HP1 HQ1 HR1
      go_wp2
      have x1 := RA.out.cell 1 rfl
      exact bodyPost_ret (v := .tuple #[.agg #[.int .i64 R0, .int .i64 R1], .int .i64 R2]) (by simp [results, Try.results84, go_sem, yA, x1]) rfl ⟨rfl, BA.out⟩
    · have hcb : decide (c < 0) = false := by simp; omega
      have e := HZ.out
      rw [if_neg hl] at e
      injection e with e0 e
      injection e with e1 e2
      subst e0 e1 e2
      clear hl hc HZ HP1 HQ1 HR1
      go_wp2
      have x1 := RB.out.cell 1 rfl
      exact bodyPost_ret (v := .tuple #[.agg #[.int .i64 R0, .int .i64 R1], .int .i64 R2]) (by simp [results, Try.results84, go_sem, yB, x1]) rfl ⟨rfl, BB.out⟩

theorem Best.small {es : List Ed} {p : Pt} {T : Nat → Bool} {f : Int × Int} {k : Int} (h : Best es p T f k) (hin : ∀ s ∈ es, InD s) (hp : InP p) : (0 ≤ f.1 ∧ f.1 < 9223372036854775808) ∧ (0 ≤ f.2 ∧ f.2 < 9223372036854775808) := by
  rcases h with ⟨_, rfl, _⟩ | ⟨j, e, _, h2, _, rfl, _⟩
  · simp
  · have := sq_small e p (hin e (List.mem_of_getElem? h2)) hp
    omega
theorem Near.ge {es : List Ed} {p : Pt} {f : Int × Int} {k : Int} (h : Near es p f k) : -1 ≤ k := by
  rcases h with ⟨h, _⟩ | ⟨j, _, h, _⟩ <;> omega
/-- A step of the loop. -/
theorem Best.step {es : List Ed} {p : Pt} {T : Nat → Bool} {n d k : Int} {r : Nat} {e : Ed} (h : Best (es.take r) p T (n, d) k) (he : es[r]? = some e) (hT : T r = true) :
    Best (es.take (r + 1)) p T ((nearV n d k (sqF e p).1 (sqF e p).2 r).1, (nearV n d k (sqF e p).1 (sqF e p).2 r).2.1) (nearV n d k (sqF e p).1 (sqF e p).2 r).2.2 := by
  by_cases hk : k = -1
  · have e1 : nearV n d k (sqF e p).1 (sqF e p).2 r = ((sqF e p).1, (sqF e p).2, (r : Int)) := by unfold nearV; rw [if_pos (.inl hk)]
    rw [e1]
    subst hk
    exact h.new he hT
  · by_cases hl : ltF (sqF e p) (n, d)
    · have e1 : nearV n d k (sqF e p).1 (sqF e p).2 r = ((sqF e p).1, (sqF e p).2, (r : Int)) := by unfold nearV; rw [if_pos (.inr hl)]
      rw [e1]
      exact h.less hk he hT hl
    · have e1 : nearV n d k (sqF e p).1 (sqF e p).2 r = (n, d, k) := by unfold nearV; rw [if_neg (by rintro (h | h); exact hk h; exact hl h)]
      rw [e1]
      exact h.keep hk he hl

set_option maxHeartbeats 1600000 in
set_option maxRecDepth 100000 in
theorem near_any (v : Value) (es : List Ed) (p0 p1 : Int) (w : World) (hv : ERd w v es) (hl : es.length ≤ 200000) (hin : ∀ s ∈ es, InD s) (hp : InP ⟨p0, p1⟩) :
    Calls Try.prog 81 #[v, .agg #[.int .i64 p0, .int .i64 p1]] w fun e w' => ∃ n d k, e = .returned (.tuple #[.agg #[.int .i64 n, .int .i64 d], .int .i64 k]) ∧ Near es ⟨p0, p1⟩ (n, d) k ∧ Below w.heap.size w w' := by
  have HV := Lib.hid hv
  have HI := Lib.hid hin
  have HP := Lib.hid hp
  obtain ⟨A, cap, rfl, hc, -⟩ := hv
  obtain ⟨N, hN⟩ : ∃ n : Nat, es.length = n := ⟨_, rfl⟩
  rw [hN] at HV hl hc
  rw [hN]
  have HN := Lib.hid hN
  have HB0 := Lib.hid (below2 (alloc2 w (.cells #[.int .i64 p0, .int .i64 p1] 41) (.cells #[.int .i64 0, .int .i64 0] 47)) ((Below.refl _ _).alloc (Nat.le_refl _) (.cells #[.int .i64 0, .int .i64 0] 47)))
  have HP0 := Lib.hid (((Blk.new w 41 [.int .i64 p0, .int .i64 p1] rfl).alloc (.cells #[.int .i64 0, .int .i64 0] 47)).alloc (.cells #[.int .i64 0, .int .i64 0] 47))
  have HR0 := Lib.hid ((Blk.new (w.alloc (.cells #[.int .i64 p0, .int .i64 p1] 41)) 47 [.int .i64 0, .int .i64 0] (g := w.heap.size + 1) (by simp)).alloc (.cells #[.int .i64 0, .int .i64 0] 47))
  have HL0 := Lib.hid (Blk.new ((w.alloc (.cells #[.int .i64 p0, .int .i64 p1] 41)).alloc (.cells #[.int .i64 0, .int .i64 0] 47)) 47 [.int .i64 0, .int .i64 0] (g := w.heap.size + 1 + 1) (by simp))
  clear hN hin hp
  go_enter Try.func81, Try.ntmps81
  go_wp2_with fail
  go_loopw [13, 7] (fun i u wr => ∃ (r : Nat) (n d k : Int), r ≤ N ∧ i = .int .i64 r ∧ u = .int .i64 k ∧ Hid (Near (es.take r) ⟨p0, p1⟩ (n, d) k) ∧ Hid (Blk wr w.heap.size 41 [.int .i64 p0, .int .i64 p1]) ∧ Hid (Blk wr (w.heap.size + 1) 47 [.int .i64 0, .int .i64 0]) ∧ Hid (Blk wr (w.heap.size + 1 + 1) 47 [.int .i64 n, .int .i64 d]) ∧ Hid (Below w.heap.size w wr)) (fun i _ _ => N - (intOf i).toNat)
  case atStart => exact ⟨0, 0, 0, -1, Nat.zero_le _, rfl, rfl, Lib.hid (Best.nil _ _), HP0, HR0, HL0, HB0⟩
  case round =>
    obtain ⟨r, n, d, k, hr, rfl, rfl, HK, HPb, HRb, HLb, HB⟩ := hrel
    clear HP0 HR0 HL0 HB0
    have hsm := (HK.out).small (fun s hs => HI.out s (List.mem_of_mem_take hs)) HP.out
    simp only [] at hsm
    have l0 := HLb.out.cell 0 rfl
    have l1 := HLb.out.cell 1 rfl
    have ln := HLb.out.lt
    have lf := HLb.out.frozen
    by_cases hrn : r < N
    · have hrb : decide ((r : Int) < N) = true := by simp; omega
      obtain ⟨s, hs⟩ : ∃ s, es[r]? = some s := ⟨_, List.getElem?_eq_getElem (by rw [HN.out]; exact hrn)⟩
      obtain ⟨a, rfl, ha, x0, x1, x2, x3⟩ := (HV.out.keep HB.out).at r s hs
      have HT := Lib.hid (HK.out.step hs rfl)
      have HIS := HI.out s (List.mem_of_getElem? hs)
      have q0 := HPb.out.cell 0 rfl
      have q1 := HPb.out.cell 1 rfl
      have qn := HPb.out.lt
      have hsq := sq_small s ⟨p0, p1⟩ HIS HP.out
      obtain ⟨⟨s0, s1⟩, s2, s3⟩ := s
      simp only [] at x0 x1 x2 x3
      have hC := fun w => square_any s0 s1 s2 s3 p0 p1 ⟨HIS.1, HIS.2, HP.out⟩ w
      have hqe : sqF ⟨⟨s0, s1⟩, s2, s3⟩ ⟨p0, p1⟩ = squareV (s2 - s0) (s3 - s1) (p0 - s0) (p1 - s1) := rfl
      rw [← hqe] at hC
      generalize sqF ⟨⟨s0, s1⟩, s2, s3⟩ ⟨p0, p1⟩ = V at *
      obtain ⟨V1, V2⟩ := V
      simp only [] at hsq
      have HC := Lib.hid hC
      have HN1 := Lib.hid (nearer_any n d k V1 V2 r hsm.1 hsm.2 (by omega) (by omega))
      simp only [] at HT
      generalize nearV n d k V1 V2 r = R at *
      obtain ⟨R0, R1, R2⟩ := R
      have HB1 := Lib.hid (HB.out.alloc HB.out.size (.cells #[.int .i64 s0, .int .i64 s1, .int .i64 s2, .int .i64 s3] 50))
      have HP1 := Lib.hid (HPb.out.alloc (.cells #[.int .i64 s0, .int .i64 s1, .int .i64 s2, .int .i64 s3] 50))
      have HR1 := Lib.hid (HRb.out.alloc (.cells #[.int .i64 s0, .int .i64 s1, .int .i64 s2, .int .i64 s3] 50))
      have HL1 := Lib.hid (HLb.out.alloc (.cells #[.int .i64 s0, .int .i64 s1, .int .i64 s2, .int .i64 s3] 50))
      have HE1 := Lib.hid (Blk.new wr 50 [.int .i64 s0, .int .i64 s1, .int .i64 s2, .int .i64 s3] rfl)
      clear hs HIS HPb HB HRb HLb hC hqe hsm hsq HK
      go_wp2_with fail
      have nE : wr.heap.size ≠ w.heap.size + 1 + 1 := by omega
      clear l0 l1 ln lf q0 q1 qn x0 x1 x2 x3 ha HV
      have l0 := HL1.out.cell 0 rfl
      have l1 := HL1.out.cell 1 rfl
      generalize hge : wr.heap.size = ge at *
      generalize hWr : wr.alloc (.cells #[.int .i64 s0, .int .i64 s1, .int .i64 s2, .int .i64 s3] 50) = W1 at *
      clear hge hWr
      have AB := HB1.out.drew
      replace HE1 := Lib.hid (HE1.out.drew)
      replace HP1 := Lib.hid (HP1.out.drew)
      replace HR1 := Lib.hid (HR1.out.drew)
      replace HL1 := Lib.hid (HL1.out.drew)
      refine wp_region_held_drew (S := fun wx => wx.cell? ⟨ge, 0, none⟩ = some (.int .i64 s0) ∧ wx.cell? ⟨ge, 1, none⟩ = some (.int .i64 s1) ∧ wx.cell? ⟨ge, 2, none⟩ = some (.int .i64 s2) ∧ wx.cell? ⟨ge, 3, none⟩ = some (.int .i64 s3) ∧ wx.cell? ⟨w.heap.size, 0, none⟩ = some (.int .i64 p0) ∧ wx.cell? ⟨w.heap.size, 1, none⟩ = some (.int .i64 p1)) (by kernel_rfl) (⟨HE1.out.cell 0 rfl, HE1.out.cell 1 rfl, HE1.out.cell 2 rfl, HE1.out.cell 3 rfl, HP1.out.cell 0 rfl, HP1.out.cell 1 rfl⟩) (fun hHeld => ?_)
      refine wpAnyH_take (i := 1) (v := ?_) rfl (by kernel_rfl) (by kernel_rfl) (by kernel_rfl) (fun _ _ _ h => h) (Or.inl ⟨by rfl, ?_⟩) hHeld ?_
      rotate_left
      · intro w hSw
        (try dsimp only at hSw)
        (try simp only [List.getElem_toArray, List.getElem_cons_zero, List.getElem_cons_succ])
        go_simp
        all_goals with_reducible rfl
      try simp only [List.getElem_toArray, List.getElem_cons_zero, List.getElem_cons_succ, Act.put, List.setIfInBounds_toArray, List.set_cons_zero, List.set_cons_succ]
      refine wpAnyH_take (i := 2) (v := ?_) rfl (by kernel_rfl) (by kernel_rfl) (by kernel_rfl) (fun _ _ _ h => h) (Or.inl ⟨by rfl, ?_⟩) hHeld ?_
      rotate_left
      · intro w hSw
        (try dsimp only at hSw)
        (try simp only [List.getElem_toArray, List.getElem_cons_zero, List.getElem_cons_succ])
        go_simp
        all_goals with_reducible rfl
      try simp only [List.getElem_toArray, List.getElem_cons_zero, List.getElem_cons_succ, Act.put, List.setIfInBounds_toArray, List.set_cons_zero, List.set_cons_succ]
      refine wpAnyH_take (i := 3) (v := ?_) rfl (by kernel_rfl) (by kernel_rfl) (by kernel_rfl) (fun _ _ _ h => h) (Or.inl ⟨by rfl, ?_⟩) hHeld ?_
      rotate_left
      · intro w hSw
        (try dsimp only at hSw)
        (try simp only [List.getElem_toArray, List.getElem_cons_zero, List.getElem_cons_succ])
        go_simp
        all_goals with_reducible rfl
      try simp only [List.getElem_toArray, List.getElem_cons_zero, List.getElem_cons_succ, Act.put, List.setIfInBounds_toArray, List.set_cons_zero, List.set_cons_succ]
      refine wpAnyH_take (i := 5) (v := ?_) rfl (by kernel_rfl) (by kernel_rfl) (by kernel_rfl) (fun _ _ _ h => h) (Or.inl ⟨by rfl, ?_⟩) hHeld ?_
      rotate_left
      · intro w hSw
        (try dsimp only at hSw)
        (try simp only [List.getElem_toArray, List.getElem_cons_zero, List.getElem_cons_succ])
        go_simp
        all_goals with_reducible rfl
      try simp only [List.getElem_toArray, List.getElem_cons_zero, List.getElem_cons_succ, Act.put, List.setIfInBounds_toArray, List.set_cons_zero, List.set_cons_succ]
      refine wpAnyH_ready (rs := [0, 4]) (by kernel_rfl) (by simp) ?_
      refine AllReadyH.cons rfl (fun K hK => ?_) (AllReadyH.cons rfl (fun K hK => ?_) AllReadyH.nil)
      · try simp only [List.getElem_toArray, List.getElem_cons_zero]
        go_simp
        refine hK.out _ _ (⟨HE1.out.cell 0 rfl, HE1.out.cell 1 rfl, HE1.out.cell 2 rfl, HE1.out.cell 3 rfl, HP1.out.cell 0 rfl, HP1.out.cell 1 rfl⟩) (fun hHeld => ?_)
        clear hK K
        try simp only [List.getElem_toArray, List.getElem_cons_zero, List.getElem_cons_succ, Act.put, List.setIfInBounds_toArray, List.set_cons_zero, List.set_cons_succ]
        refine wpAnyH_ready (rs := [4]) (by kernel_rfl) (by simp) ?_
        refine AllReadyH.cons rfl (fun K hK => ?_) AllReadyH.nil
        try simp only [List.getElem_toArray, List.getElem_cons_zero, List.getElem_cons_succ]
        go_simp
        refine (HC.out _).mono ?_
        rintro e wn ⟨rfl, hbn⟩
        have AB := AB.trans (hbn.mono (AB.size))
        replace HE1 := Lib.hid (HE1.out.keep hbn)
        replace HP1 := Lib.hid (HP1.out.keep hbn)
        replace HR1 := Lib.hid (HR1.out.keep hbn)
        replace HL1 := Lib.hid (HL1.out.keep hbn)
        have l0 := HL1.out.cell 0 rfl
        have l1 := HL1.out.cell 1 rfl
        have ln := HL1.out.lt
        have lf := HL1.out.frozen
        clear hbn
        go_wp2_with fail
        refine hK.out _ _ (⟨HE1.out.cell 0 rfl, HE1.out.cell 1 rfl, HE1.out.cell 2 rfl, HE1.out.cell 3 rfl, HP1.out.cell 0 rfl, HP1.out.cell 1 rfl⟩) (fun hHeld => ?_)
        clear hK K
        try simp only [List.getElem_toArray, List.getElem_cons_zero, List.getElem_cons_succ, Act.put, List.setIfInBounds_toArray, List.set_cons_zero, List.set_cons_succ]
        refine wpAnyH_ready (rs := [6]) (by kernel_rfl) (by simp) ?_
        refine AllReadyH.cons rfl (fun K hK => ?_) AllReadyH.nil
        try simp only [List.getElem_toArray, List.getElem_cons_zero, List.getElem_cons_succ]
        go_simp
        refine (HN1.out _).mono ?_
        rintro e wn ⟨rfl, hbn⟩
        have AB := AB.trans (hbn.mono (AB.size))
        replace HE1 := Lib.hid (HE1.out.keep hbn)
        replace HP1 := Lib.hid (HP1.out.keep hbn)
        replace HR1 := Lib.hid (HR1.out.keep hbn)
        replace HL1 := Lib.hid (HL1.out.keep hbn)
        have l0 := HL1.out.cell 0 rfl
        have l1 := HL1.out.cell 1 rfl
        have ln := HL1.out.lt
        have lf := HL1.out.frozen
        clear hbn
        go_wp2_with fail
        refine hK.out _ _ (⟨HE1.out.cell 0 rfl, HE1.out.cell 1 rfl, HE1.out.cell 2 rfl, HE1.out.cell 3 rfl, HP1.out.cell 0 rfl, HP1.out.cell 1 rfl⟩) (fun hHeld => ?_)
        clear hK K
        try simp only [List.getElem_toArray, List.getElem_cons_zero, List.getElem_cons_succ, Act.put, List.setIfInBounds_toArray, List.set_cons_zero, List.set_cons_succ]
        refine wpAnyH_take (i := 7) (v := ?_) rfl (by kernel_rfl) (by kernel_rfl) (by kernel_rfl) (fun _ _ _ h => h) (Or.inl ⟨by rfl, ?_⟩) hHeld ?_
        rotate_left
        · intro w hSw
          (try dsimp only at hSw)
          (try simp only [List.getElem_toArray, List.getElem_cons_zero, List.getElem_cons_succ])
          go_simp
          all_goals with_reducible rfl
        try simp only [List.getElem_toArray, List.getElem_cons_zero, List.getElem_cons_succ, Act.put, List.setIfInBounds_toArray, List.set_cons_zero, List.set_cons_succ]
        refine wpAnyH_take (i := 8) (v := ?_) rfl (by kernel_rfl) (by kernel_rfl) (by kernel_rfl) (fun _ _ _ h => h) (Or.inl ⟨by rfl, ?_⟩) hHeld ?_
        rotate_left
        · intro w hSw
          (try dsimp only at hSw)
          (try simp only [List.getElem_toArray, List.getElem_cons_zero, List.getElem_cons_succ])
          go_simp
          all_goals with_reducible rfl
        try simp only [List.getElem_toArray, List.getElem_cons_zero, List.getElem_cons_succ, Act.put, List.setIfInBounds_toArray, List.set_cons_zero, List.set_cons_succ]
        refine wpAnyH_take (i := 9) (v := ?_) rfl (by kernel_rfl) (by kernel_rfl) (by kernel_rfl) (fun _ _ _ h => h) (Or.inl ⟨by rfl, ?_⟩) hHeld ?_
        rotate_left
        · intro w hSw
          (try dsimp only at hSw)
          (try simp only [List.getElem_toArray, List.getElem_cons_zero, List.getElem_cons_succ])
          go_simp
          all_goals with_reducible rfl
        try simp only [List.getElem_toArray, List.getElem_cons_zero, List.getElem_cons_succ, Act.put, List.setIfInBounds_toArray, List.set_cons_zero, List.set_cons_succ]
        refine wpAnyH_ready (rs := [10]) (by kernel_rfl) (by simp) ?_
        refine AllReadyH.cons rfl (fun K hK => ?_) AllReadyH.nil
        try simp only [List.getElem_toArray, List.getElem_cons_zero, List.getElem_cons_succ]
        go_simp
        replace HL1 := Lib.hid ((HL1.out.set 0 (.int .i64 R0)).set 1 (.int .i64 R1))
        replace HE1 := Lib.hid ((HE1.out.other 0 (.int .i64 R0) nE).other 1 (.int .i64 R1) nE)
        replace HP1 := Lib.hid ((HP1.out.other (k := w.heap.size + 1 + 1) 0 (.int .i64 R0) (by omega)).other (k := w.heap.size + 1 + 1) 1 (.int .i64 R1) (by omega))
        replace HR1 := Lib.hid ((HR1.out.other (k := w.heap.size + 1 + 1) 0 (.int .i64 R0) (by omega)).other (k := w.heap.size + 1 + 1) 1 (.int .i64 R1) (by omega))
        replace AB := (AB.setCell (p := ⟨w.heap.size + 1 + 1, 0, none⟩) (by simp; omega) (.int .i64 R0)).setCell (p := ⟨w.heap.size + 1 + 1, 1, none⟩) (by simp; omega) (.int .i64 R1)
        refine hK.out _ _ (⟨HE1.out.cell 0 rfl, HE1.out.cell 1 rfl, HE1.out.cell 2 rfl, HE1.out.cell 3 rfl, HP1.out.cell 0 rfl, HP1.out.cell 1 rfl⟩) (fun hHeld => ?_)
        clear hK K
        try simp only [List.getElem_toArray, List.getElem_cons_zero, List.getElem_cons_succ, Act.put, List.setIfInBounds_toArray, List.set_cons_zero, List.set_cons_succ]
        refine wpAnyH_take (i := 11) (v := ?_) rfl (by kernel_rfl) (by kernel_rfl) (by kernel_rfl) (fun _ _ _ h => h) (Or.inl ⟨by rfl, ?_⟩) hHeld ?_
        rotate_left
        · intro w hSw
          (try dsimp only at hSw)
          (try simp only [List.getElem_toArray, List.getElem_cons_zero, List.getElem_cons_succ])
          go_simp
          all_goals with_reducible rfl
        try simp only [List.getElem_toArray, List.getElem_cons_zero, List.getElem_cons_succ, Act.put, List.setIfInBounds_toArray, List.set_cons_zero, List.set_cons_succ]
        refine wpAnyH_done (by kernel_rfl) ?_ _
        have HBz := Lib.hid AB
        clear AB hHeld
        go_wp2_with fail
        exact ⟨⟨r + 1, R0, R1, R2, by omega, by go_num, rfl, HT, HP1, HR1, HL1, HBz⟩, by simp [intOf]; omega⟩
      · try simp only [List.getElem_toArray, List.getElem_cons_zero, List.getElem_cons_succ]
        go_simp
        refine (HC.out _).mono ?_
        rintro e wn ⟨rfl, hbn⟩
        have AB := AB.trans (hbn.mono (AB.size))
        replace HE1 := Lib.hid (HE1.out.keep hbn)
        replace HP1 := Lib.hid (HP1.out.keep hbn)
        replace HR1 := Lib.hid (HR1.out.keep hbn)
        replace HL1 := Lib.hid (HL1.out.keep hbn)
        have l0 := HL1.out.cell 0 rfl
        have l1 := HL1.out.cell 1 rfl
        have ln := HL1.out.lt
        have lf := HL1.out.frozen
        clear hbn
        go_wp2_with fail
        refine hK.out _ _ (⟨HE1.out.cell 0 rfl, HE1.out.cell 1 rfl, HE1.out.cell 2 rfl, HE1.out.cell 3 rfl, HP1.out.cell 0 rfl, HP1.out.cell 1 rfl⟩) (fun hHeld => ?_)
        clear hK K
        try simp only [List.getElem_toArray, List.getElem_cons_zero, List.getElem_cons_succ, Act.put, List.setIfInBounds_toArray, List.set_cons_zero, List.set_cons_succ]
        refine wpAnyH_ready (rs := [0]) (by kernel_rfl) (by simp) ?_
        refine AllReadyH.cons rfl (fun K hK => ?_) AllReadyH.nil
        try simp only [List.getElem_toArray, List.getElem_cons_zero]
        go_simp
        refine hK.out _ _ (⟨HE1.out.cell 0 rfl, HE1.out.cell 1 rfl, HE1.out.cell 2 rfl, HE1.out.cell 3 rfl, HP1.out.cell 0 rfl, HP1.out.cell 1 rfl⟩) (fun hHeld => ?_)
        clear hK K
        try simp only [List.getElem_toArray, List.getElem_cons_zero, List.getElem_cons_succ, Act.put, List.setIfInBounds_toArray, List.set_cons_zero, List.set_cons_succ]
        refine wpAnyH_ready (rs := [6]) (by kernel_rfl) (by simp) ?_
        refine AllReadyH.cons rfl (fun K hK => ?_) AllReadyH.nil
        try simp only [List.getElem_toArray, List.getElem_cons_zero, List.getElem_cons_succ]
        go_simp
        refine (HN1.out _).mono ?_
        rintro e wn ⟨rfl, hbn⟩
        have AB := AB.trans (hbn.mono (AB.size))
        replace HE1 := Lib.hid (HE1.out.keep hbn)
        replace HP1 := Lib.hid (HP1.out.keep hbn)
        replace HR1 := Lib.hid (HR1.out.keep hbn)
        replace HL1 := Lib.hid (HL1.out.keep hbn)
        have l0 := HL1.out.cell 0 rfl
        have l1 := HL1.out.cell 1 rfl
        have ln := HL1.out.lt
        have lf := HL1.out.frozen
        clear hbn
        go_wp2_with fail
        refine hK.out _ _ (⟨HE1.out.cell 0 rfl, HE1.out.cell 1 rfl, HE1.out.cell 2 rfl, HE1.out.cell 3 rfl, HP1.out.cell 0 rfl, HP1.out.cell 1 rfl⟩) (fun hHeld => ?_)
        clear hK K
        try simp only [List.getElem_toArray, List.getElem_cons_zero, List.getElem_cons_succ, Act.put, List.setIfInBounds_toArray, List.set_cons_zero, List.set_cons_succ]
        refine wpAnyH_take (i := 7) (v := ?_) rfl (by kernel_rfl) (by kernel_rfl) (by kernel_rfl) (fun _ _ _ h => h) (Or.inl ⟨by rfl, ?_⟩) hHeld ?_
        rotate_left
        · intro w hSw
          (try dsimp only at hSw)
          (try simp only [List.getElem_toArray, List.getElem_cons_zero, List.getElem_cons_succ])
          go_simp
          all_goals with_reducible rfl
        try simp only [List.getElem_toArray, List.getElem_cons_zero, List.getElem_cons_succ, Act.put, List.setIfInBounds_toArray, List.set_cons_zero, List.set_cons_succ]
        refine wpAnyH_take (i := 8) (v := ?_) rfl (by kernel_rfl) (by kernel_rfl) (by kernel_rfl) (fun _ _ _ h => h) (Or.inl ⟨by rfl, ?_⟩) hHeld ?_
        rotate_left
        · intro w hSw
          (try dsimp only at hSw)
          (try simp only [List.getElem_toArray, List.getElem_cons_zero, List.getElem_cons_succ])
          go_simp
          all_goals with_reducible rfl
        try simp only [List.getElem_toArray, List.getElem_cons_zero, List.getElem_cons_succ, Act.put, List.setIfInBounds_toArray, List.set_cons_zero, List.set_cons_succ]
        refine wpAnyH_take (i := 9) (v := ?_) rfl (by kernel_rfl) (by kernel_rfl) (by kernel_rfl) (fun _ _ _ h => h) (Or.inl ⟨by rfl, ?_⟩) hHeld ?_
        rotate_left
        · intro w hSw
          (try dsimp only at hSw)
          (try simp only [List.getElem_toArray, List.getElem_cons_zero, List.getElem_cons_succ])
          go_simp
          all_goals with_reducible rfl
        try simp only [List.getElem_toArray, List.getElem_cons_zero, List.getElem_cons_succ, Act.put, List.setIfInBounds_toArray, List.set_cons_zero, List.set_cons_succ]
        refine wpAnyH_ready (rs := [10]) (by kernel_rfl) (by simp) ?_
        refine AllReadyH.cons rfl (fun K hK => ?_) AllReadyH.nil
        try simp only [List.getElem_toArray, List.getElem_cons_zero, List.getElem_cons_succ]
        go_simp
        replace HL1 := Lib.hid ((HL1.out.set 0 (.int .i64 R0)).set 1 (.int .i64 R1))
        replace HE1 := Lib.hid ((HE1.out.other 0 (.int .i64 R0) nE).other 1 (.int .i64 R1) nE)
        replace HP1 := Lib.hid ((HP1.out.other (k := w.heap.size + 1 + 1) 0 (.int .i64 R0) (by omega)).other (k := w.heap.size + 1 + 1) 1 (.int .i64 R1) (by omega))
        replace HR1 := Lib.hid ((HR1.out.other (k := w.heap.size + 1 + 1) 0 (.int .i64 R0) (by omega)).other (k := w.heap.size + 1 + 1) 1 (.int .i64 R1) (by omega))
        replace AB := (AB.setCell (p := ⟨w.heap.size + 1 + 1, 0, none⟩) (by simp; omega) (.int .i64 R0)).setCell (p := ⟨w.heap.size + 1 + 1, 1, none⟩) (by simp; omega) (.int .i64 R1)
        refine hK.out _ _ (⟨HE1.out.cell 0 rfl, HE1.out.cell 1 rfl, HE1.out.cell 2 rfl, HE1.out.cell 3 rfl, HP1.out.cell 0 rfl, HP1.out.cell 1 rfl⟩) (fun hHeld => ?_)
        clear hK K
        try simp only [List.getElem_toArray, List.getElem_cons_zero, List.getElem_cons_succ, Act.put, List.setIfInBounds_toArray, List.set_cons_zero, List.set_cons_succ]
        refine wpAnyH_take (i := 11) (v := ?_) rfl (by kernel_rfl) (by kernel_rfl) (by kernel_rfl) (fun _ _ _ h => h) (Or.inl ⟨by rfl, ?_⟩) hHeld ?_
        rotate_left
        · intro w hSw
          (try dsimp only at hSw)
          (try simp only [List.getElem_toArray, List.getElem_cons_zero, List.getElem_cons_succ])
          go_simp
          all_goals with_reducible rfl
        try simp only [List.getElem_toArray, List.getElem_cons_zero, List.getElem_cons_succ, Act.put, List.setIfInBounds_toArray, List.set_cons_zero, List.set_cons_succ]
        refine wpAnyH_done (by kernel_rfl) ?_ _
        have HBz := Lib.hid AB
        clear AB hHeld
        go_wp2_with fail
        exact ⟨⟨r + 1, R0, R1, R2, by omega, by go_num, rfl, HT, HP1, HR1, HL1, HBz⟩, by simp [intOf]; omega⟩
    · obtain rfl : r = N := by omega
      have HF := Lib.hid (show Near es ⟨p0, p1⟩ (n, d) k by have h := HK.out; rwa [List.take_of_length_le (by rw [HN.out]; exact Nat.le_refl _)] at h)
      have r0 := HRb.out.cell 0 rfl
      have r1 := HRb.out.cell 1 rfl
      have rn := HRb.out.lt
      have rf := HRb.out.frozen
      have y0 := (HRb.out.set 0 (.int .i64 n)).cell 0 rfl
      have y1 := ((HRb.out.set 0 (.int .i64 n)).set 1 (.int .i64 d)).cell 1 rfl
      have HBz := Lib.hid ((HB.out.setCell (p := ⟨w.heap.size + 1, 0, none⟩) (by simp) (.int .i64 n)).setCell (p := ⟨w.heap.size + 1, 1, none⟩) (by simp) (.int .i64 d))
      go_wp2
      exact bodyPost_ret (v := .tuple #[.agg #[.int .i64 n, .int .i64 d], .int .i64 k]) (by simp [results, Try.results81, go_sem, y0, y1]) rfl ⟨n, d, k, rfl, HF.out, HBz.out⟩

theorem But.then {ks : Nat → Prop} {a b c : World} (h : But ks a b) (k : Below a.heap.size b c) : But ks a c :=
  ⟨k.os.trans h.os, k.tape.trans h.tape, k.output.trans h.output, Nat.le_trans h.size k.size, fun g hlt hk => (k.block g hlt).trans (h.block g hlt hk)⟩
theorem cell_eqb {w w' : World} {p : Addr} (h : w'.heap[p.block]? = w.heap[p.block]?) : w'.cell? p = w.cell? p := by unfold World.cell?; rw [h]
theorem ERd.but {ks : Nat → Prop} {w w' : World} {v : Value} {l : List Ed} (h : ERd w v l) (hb : But ks w w') (hk : ∀ g, v.ownBlock = some g → ¬ ks g) : ERd w' v l := by
  obtain ⟨A, cap, rfl, h1, h3⟩ := h
  refine ⟨A, cap, rfl, h1, fun i hi => ?_⟩
  obtain ⟨a, rfl, hlt, c0, c1, c2, c3⟩ := h3 i hi
  have hb' := hb.block a.block hlt (hk a.block rfl)
  have e : ∀ j, w'.cell? (a.add j) = w.cell? (a.add j) := fun j => cell_eqb (by rw [block_add]; exact hb')
  exact ⟨a, rfl, Nat.lt_of_lt_of_le hlt hb.size, (e _).trans c0, (e _).trans c1, (e _).trans c2, (e _).trans c3⟩
theorem Blk.but {ks : Nat → Prop} {w w' : World} {g : Nat} {t : TypeId} {vs : List Value} (h : Blk w g t vs) (hb : But ks w w') (hk : ¬ ks g) : Blk w' g t vs := h.heap (hb.block g h.lt hk)

set_option maxHeartbeats 800000 in
set_option maxRecDepth 100000 in
theorem eight_any (v : Value) (es : List Ed) (p0 p1 : Int) (w : World) (hv : ERd w v es) (hl : es.length ≤ 200000) (hin : ∀ s ∈ es, InD s) (hp : InP ⟨p0, p1⟩) :
    Calls Try.prog 74 #[v, .agg #[.int .i64 p0, .int .i64 p1]] w fun e w' => e = .returned (.int .i64 (eightS es ⟨p0, p1⟩)) ∧ Below w.heap.size w w' := by
  have HV := Lib.hid hv
  have HB0 := Lib.hid ((Below.refl _ w).alloc (Nat.le_refl _) (.cells #[.int .i64 p0, .int .i64 p1] 41))
  have HC := Lib.hid (fun w (h : ERd w v es) => near_any v es p0 p1 w h hl hin hp)
  have HK := Lib.hid (fun n d k (h : Near es ⟨p0, p1⟩ (n, d) k) => (E8.is es ⟨p0, p1⟩).unique (h.eight (fit_of hin hp)))
  have HS := Lib.hid (fun n d k (h : Near es ⟨p0, p1⟩ (n, d) k) (hk : 0 ≤ k) => near_small h hk hin hp)
  have HJ := Lib.hid (fun n d k (h : Near es ⟨p0, p1⟩ (n, d) k) => Near.ge h)
  generalize eightS es ⟨p0, p1⟩ = R at *
  obtain ⟨A, cap, rfl, -, -⟩ := hv
  have HV1 := Lib.hid (HV.out.keep ((Below.refl _ w).alloc (Nat.le_refl _) (.cells #[.int .i64 p0, .int .i64 p1] 41)))
  clear hin hp hl HV
  go_enter Try.func74, Try.ntmps74
  go_wp2_with fail
  refine (HC.out _ HV1.out).mono ?_
  rintro e w1 ⟨n, d, k, rfl, hk, hb1⟩
  have HB1 := Lib.hid (below2 HB0.out hb1)
  have hR := HK.out n d k hk
  have hs := HS.out n d k hk
  have hge := HJ.out n d k hk
  clear hb1 HB0 HC HK HS HV1 hk HJ
  by_cases hk0 : k = -1
  · subst hk0
    rw [if_pos (by omega)] at hR
    subst hR
    have HB2 := Lib.hid (HB1.out.alloc HB1.out.size (.cells #[.int .i64 n, .int .i64 d] 47))
    clear hs hge
    go_wp2
    go_ret
    exact ⟨rfl, HB2.out⟩
  · have hkb : (k == -1) = false := by simp; omega
    rw [if_neg (by omega)] at hR
    have hs := hs (by omega)
    have HZ := Lib.hid (scaled_e8 n d (by omega) (by omega) hs.2.2)
    rw [← hR] at HZ
    have HB2 := Lib.hid (HB1.out.alloc HB1.out.size (.cells #[.int .i64 n, .int .i64 d] 47))
    clear hs hge hR
    go_wp2_with fail
    refine (HZ.out _).mono ?_
    rintro e w2 ⟨rfl, hb2⟩
    have HB3 := Lib.hid (HB2.out.trans (hb2.mono HB2.out.size))
    clear hb2
    go_wp2
    go_ret
    exact ⟨rfl, HB3.out⟩

set_option maxHeartbeats 800000 in
set_option maxRecDepth 100000 in
theorem sign_any (v : Value) (es : List Ed) (p0 p1 : Int) (w : World) (hv : ERd w v es) (hl : es.length ≤ 200000) (hin : ∀ s ∈ es, InD s) (hp : InP ⟨p0, p1⟩) :
    Calls Try.prog 17 #[v, .agg #[.int .i64 p0, .int .i64 p1]] w fun e w' => e = .returned (.int .i64 (sgS es ⟨p0, p1⟩)) ∧ Below w.heap.size w w' := by
  have HV := Lib.hid hv
  have HB0 := Lib.hid ((Below.refl _ w).alloc (Nat.le_refl _) (.cells #[.int .i64 p0, .int .i64 p1] 41))
  have HP0 := Lib.hid (Blk.new w 41 [.int .i64 p0, .int .i64 p1] rfl)
  have HO := Lib.hid (fun w (h : ERd w v es) => on_any v es p0 p1 w h hl hin hp)
  have HN := Lib.hid (fun w (h : ERd w v es) => number_any v es p0 p1 w h hl hin hp)
  obtain ⟨R, hR⟩ : ∃ R, R = sgS es ⟨p0, p1⟩ := ⟨_, rfl⟩
  rw [← hR]
  unfold sgS at hR
  generalize onS es ⟨p0, p1⟩ = o at *
  generalize numS es ⟨p0, p1⟩ = m at *
  have HR := Lib.hid hR
  obtain ⟨A, cap, rfl, -, -⟩ := hv
  have HV1 := Lib.hid (HV.out.keep ((Below.refl _ w).alloc (Nat.le_refl _) (.cells #[.int .i64 p0, .int .i64 p1] 41)))
  clear hin hp hl HV hR
  go_enter Try.func17, Try.ntmps17
  go_wp2_with fail
  refine (HO.out _ HV1.out).mono ?_
  rintro e w1 ⟨rfl, hb1⟩
  have HB1 := Lib.hid (below2 HB0.out hb1)
  have HP1 := HP0.out.keep hb1
  have q0 := HP1.cell 0 rfl
  have q1 := HP1.cell 1 rfl
  have qn := HP1.lt
  have HV2 := Lib.hid (HV1.out.keep hb1)
  clear hb1 HB0 HO HV1 HP1 HP0
  cases o with
  | true =>
    obtain rfl : R = 0 := HR.out
    go_wp2
    go_ret
    exact ⟨rfl, HB1.out⟩
  | false =>
    go_wp2_with fail
    refine (HN.out _ HV2.out).mono ?_
    rintro e w2 ⟨rfl, hb2⟩
    have HB2 := Lib.hid (HB1.out.trans (hb2.mono HB1.out.size))
    clear hb2 HV2 HN
    by_cases hm : m = 0
    · subst hm
      obtain rfl : R = -1 := HR.out
      go_wp2
      go_ret
      exact ⟨rfl, HB2.out⟩
    · have hmb : (m == 0) = false := by simp; omega
      obtain rfl : R = 1 := by rw [HR.out]; simp [hm]
      go_wp2
      go_ret
      exact ⟨rfl, HB2.out⟩

end Go.Proofs.Yteiildeaccngjaa
