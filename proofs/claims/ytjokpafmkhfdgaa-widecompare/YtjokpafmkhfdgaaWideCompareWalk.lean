/-
  The walk of the law WideCompare (no claim is made here: the row is WideCompare).
-/
import Derived.Test.YtjokpafmkhfdgaaBits3
import Derived.Deep.RegionHeld3
import Derived.OpenShut
namespace Go.Proofs.Ytjokpafmkhfdgaa
open Go.RowKit

/-- Two pairs in two blocks, and that nothing below w has turned: said again behind a call. -/
theorem two_keep {w W w2 : World} {g h : Nat} {a b c d : Value} (hb : Below W.heap.size W w2)
    (k : W.cell? ⟨g, 0, none⟩ = some a ∧ W.cell? ⟨g, 1, none⟩ = some b ∧ W.cell? ⟨h, 0, none⟩ = some c ∧ W.cell? ⟨h, 1, none⟩ = some d ∧ Below w.heap.size w W) :
    w2.cell? ⟨g, 0, none⟩ = some a ∧ w2.cell? ⟨g, 1, none⟩ = some b ∧ w2.cell? ⟨h, 0, none⟩ = some c ∧ w2.cell? ⟨h, 1, none⟩ = some d ∧ Below w.heap.size w w2 :=
  ⟨keep hb k.1, keep hb k.2.1, keep hb k.2.2.1, keep hb k.2.2.2.1, below2 k.2.2.2.2 hb⟩
theorem two_below {w W : World} {g h : Nat} {a b c d : Value}
    (k : W.cell? ⟨g, 0, none⟩ = some a ∧ W.cell? ⟨g, 1, none⟩ = some b ∧ W.cell? ⟨h, 0, none⟩ = some c ∧ W.cell? ⟨h, 1, none⟩ = some d ∧ Below w.heap.size w W) : Below w.heap.size w W := k.2.2.2.2
theorem two_drew {w W : World} {g h : Nat} {a b c d : Value}
    (k : W.cell? ⟨g, 0, none⟩ = some a ∧ W.cell? ⟨g, 1, none⟩ = some b ∧ W.cell? ⟨h, 0, none⟩ = some c ∧ W.cell? ⟨h, 1, none⟩ = some d ∧ Below w.heap.size w W) :
    W.drew.cell? ⟨g, 0, none⟩ = some a ∧ W.drew.cell? ⟨g, 1, none⟩ = some b ∧ W.drew.cell? ⟨h, 0, none⟩ = some c ∧ W.drew.cell? ⟨h, 1, none⟩ = some d ∧ Below w.heap.size w W.drew :=
  ⟨k.1, k.2.1, k.2.2.1, k.2.2.2.1, k.2.2.2.2.drew⟩

set_option maxHeartbeats 4000000 in
set_option maxRecDepth 100000 in
theorem wideCompare_core (ph pl qh ql qq k : Int) (same : Bool) (xa ya : Array Value) (w : World) (hk : -1 ≤ k ∧ k ≤ 1) (Hq : Hid (qq = if same then ph else qh))
    (C1 : Hid (∀ w, Calls Try.prog 14 #[.agg #[.int .u64 ph, .int .u64 pl], .agg #[.int .u64 qq, .int .u64 ql]] w fun e w' => e = .returned (.int .i64 k) ∧ Below w.heap.size w w'))
    (C2 : Hid (∀ w, Calls Try.prog 14 #[.agg #[.int .u64 qq, .int .u64 ql], .agg #[.int .u64 ph, .int .u64 pl]] w fun e w' => e = .returned (.int .i64 (-k)) ∧ Below w.heap.size w w'))
    (C3 : Hid (∀ w, Calls Try.prog 14 #[.agg #[.int .u64 ph, .int .u64 pl], .agg #[.int .u64 ph, .int .u64 pl]] w fun e w' => e = .returned (.int .i64 0) ∧ Below w.heap.size w w'))
    (B1 : Hid (∀ w, Calls Try.prog 11 #[.agg #[.int .u64 ph, .int .u64 pl]] w fun e w' => e = .returned (.agg xa) ∧ Below w.heap.size w w'))
    (B2 : Hid (∀ w, Calls Try.prog 11 #[.agg #[.int .u64 qq, .int .u64 ql]] w fun e w' => e = .returned (.agg ya) ∧ Below w.heap.size w w'))
    (L1 : Hid (∀ w, Calls Try.prog 15 #[.agg xa, .agg ya] w fun e w' => e = .returned (.int .i64 k) ∧ Below w.heap.size w w')) :
    Calls Try.prog 4 #[.agg #[.int .u64 ph, .int .u64 pl], .agg #[.int .u64 qh, .int .u64 ql], .bool same] w fun e w' => e = .returned (.bool true) ∧ Below w.heap.size w w' := by
  go_enter Try.func4, Try.ntmps4
  go_wp2_with fail
  refine (awake_any _).mono ?_
  rintro e w1 ⟨rfl, hb1⟩
  have B0 : Below w.heap.size w w1 := below2 (((Below.refl _ w).alloc (Nat.le_refl _) _).alloc (by simp) _) hb1
  have c0 : w1.cell? ⟨w.heap.size, 0, none⟩ = some (.int .u64 ph) := keep hb1 (keepAlloc _ (by simp))
  have c1 : w1.cell? ⟨w.heap.size, 1, none⟩ = some (.int .u64 pl) := keep hb1 (keepAlloc _ (by simp))
  have d0 : w1.cell? ⟨w.heap.size + 1, 0, none⟩ = some (.int .u64 qh) := keep hb1 (by simp)
  have d1 : w1.cell? ⟨w.heap.size + 1, 1, none⟩ = some (.int .u64 ql) := keep hb1 (by simp)
  have f0 : w1.frozen? ⟨w.heap.size + 1, 0, none⟩ = false := (hb1.frozen (p := ⟨w.heap.size + 1, 0, none⟩) (by simp)).trans (by simp)
  clear hb1
  go_upto_if 9 with fail
  go_cut [] (fun wx => wx.cell? ⟨w.heap.size, 0, none⟩ = some (.int .u64 ph) ∧ wx.cell? ⟨w.heap.size, 1, none⟩ = some (.int .u64 pl) ∧ wx.cell? ⟨w.heap.size + 1, 0, none⟩ = some (.int .u64 qq) ∧ wx.cell? ⟨w.heap.size + 1, 1, none⟩ = some (.int .u64 ql) ∧ Below w.heap.size w wx)
  case first =>
    cases same
    · have E : qq = qh := Hq.out
      have E' := Lib.hid E
      clear E
      go_wp2_with fail
      go_meet
      exact ⟨c0, c1, by rw [E'.out]; exact d0, d1, B0⟩
    · have E : qq = ph := Hq.out
      have E' := Lib.hid E
      clear E
      go_wp2_with fail
      go_meet
      refine ⟨?_, ?_, ?_, ?_, B0.setCell (by simp) _⟩
      · rw [World.cell?_setCell_other _ _ _ _ (by simp)]; exact c0
      · rw [World.cell?_setCell_other _ _ _ _ (by simp)]; exact c1
      · rw [E'.out]; exact World.cell?_setCell_same _ _ _ d0
      · rw [World.cell?_setCell_other _ _ _ _ (by simp)]; exact d1
  case rest =>
    have hcut' := hcut
    obtain ⟨e0, e1, e2, e3, e4⟩ := hcut
    have hwk : IntKind.i64.wrap k = k := by rw [IntKind.wrap_i64]; omega
    clear c0 c1 d0 d1 f0 B0
    go_wp2_with fail
    go_region_held3 (fun wx => wx.cell? ⟨w.heap.size, 0, none⟩ = some (.int .u64 ph) ∧ wx.cell? ⟨w.heap.size, 1, none⟩ = some (.int .u64 pl) ∧ wx.cell? ⟨w.heap.size + 1, 0, none⟩ = some (.int .u64 qq) ∧ wx.cell? ⟨w.heap.size + 1, 1, none⟩ = some (.int .u64 ql) ∧ Below w.heap.size w wx)
      (first | assumption | exact two_drew hcut')
      (first
        | (go_at_call 14; with_reducible refine (C1.out _).mono ?_; rintro e w2 ⟨rfl, hb2⟩; have hS := two_keep hb2 (by assumption))
        | (go_at_call 14; with_reducible refine (C2.out _).mono ?_; rintro e w2 ⟨rfl, hb2⟩; have hS := two_keep hb2 (by assumption))
        | (go_at_call 14; with_reducible refine (C3.out _).mono ?_; rintro e w2 ⟨rfl, hb2⟩; have hS := two_keep hb2 (by assumption))
        | (go_at_call 11; with_reducible refine (B1.out _).mono ?_; rintro e w2 ⟨rfl, hb2⟩; have hS := two_keep hb2 (by assumption))
        | (go_at_call 11; with_reducible refine (B2.out _).mono ?_; rintro e w2 ⟨rfl, hb2⟩; have hS := two_keep hb2 (by assumption))
        | (go_at_call 15; with_reducible refine (L1.out _).mono ?_; rintro e w2 ⟨rfl, hb2⟩; have hS := two_keep hb2 (by assumption)))
    go_wp2
    go_ret
    refine ⟨rfl, two_below (g := w.heap.size) (h := w.heap.size + 1) (a := .int .u64 ph) (b := .int .u64 pl) (c := .int .u64 qq) (d := .int .u64 ql) ?_⟩
    assumption

theorem cmpN_neg' (a b : Nat) : cmpN a b = -cmpN b a := by
  unfold cmpN
  rcases Nat.lt_trichotomy a b with h | h | h
  · rw [if_pos h, if_neg (by omega), if_pos h]
  · subst h; simp
  · rw [if_neg (by omega), if_pos h, if_pos h, Int.neg_neg]
theorem cmpN_self' (a : Nat) : cmpN a a = 0 := by unfold cmpN; simp
theorem cmpN_bd' (a b : Nat) : -1 ≤ cmpN a b ∧ cmpN a b ≤ 1 := by unfold cmpN; split <;> (try split) <;> omega
theorem toNat128 (h l : Nat) (hh : h < 18446744073709551616) (hl : l < 18446744073709551616) : (BitVec.ofNat 128 (h * 18446744073709551616 + l)).toNat = h * 18446744073709551616 + l := by
  rw [BitVec.toNat_ofNat]
  exact Nat.mod_eq_of_lt (by omega)

theorem wideCompare_walk (p1 p0 q1 q0 : Int) (same : Bool) (w0 : (Lit.int .u64 p1).wf = true) (w1 : (Lit.int .u64 p0).wf = true) (w2 : (Lit.int .u64 q1).wf = true) (w3 : (Lit.int .u64 q0).wf = true) (w : World) :
    Calls Try.prog 4 #[.agg #[.int .u64 p1, .int .u64 p0], .agg #[.int .u64 q1, .int .u64 q0], .bool same] w fun e w' => e = .returned (.bool true) ∧ Below w.heap.size w w' := by
  have b0 := bounds_u64 w0
  have b1 := bounds_u64 w1
  have b2 := bounds_u64 w2
  have b3 := bounds_u64 w3
  obtain ⟨ph, rfl⟩ := Int.eq_ofNat_of_zero_le b0.1
  obtain ⟨pl, rfl⟩ := Int.eq_ofNat_of_zero_le b1.1
  obtain ⟨qh, rfl⟩ := Int.eq_ofNat_of_zero_le b2.1
  obtain ⟨ql, rfl⟩ := Int.eq_ofNat_of_zero_le b3.1
  obtain ⟨qq, hq⟩ : ∃ qq : Nat, (qq : Int) = if same then (ph : Int) else qh := by cases same; exact ⟨qh, rfl⟩; exact ⟨ph, rfl⟩
  have hqq : qq < 18446744073709551616 := by cases same <;> simp at hq <;> omega
  have hph : ph < 18446744073709551616 := by omega
  have hpl : pl < 18446744073709551616 := by omega
  have hql : ql < 18446744073709551616 := by omega
  refine wideCompare_core ph pl qh ql qq (cmpN (ph * 18446744073709551616 + pl) (qq * 18446744073709551616 + ql)) same _ _ w (cmpN_bd' _ _) hq
    (fun w => compare_any ph pl qq ql hpl hql w) (fun w => by rw [← cmpN_neg']; exact compare_any qq ql ph pl hql hpl w) (fun w => by rw [← cmpN_self' (ph * 18446744073709551616 + pl)]; exact compare_any ph pl ph pl hpl hpl w)
    (fun w => bits_any ph pl hph hpl w) (fun w => bits_any qq ql hqq hql w) (fun w => ?_)
  have h := comp128_any (BitVec.ofNat 128 (ph * 18446744073709551616 + pl)) (BitVec.ofNat 128 (qq * 18446744073709551616 + ql)) w
  rw [toNat128 ph pl hph hpl, toNat128 qq ql hqq hql] at h
  exact h

end Go.Proofs.Ytjokpafmkhfdgaa
