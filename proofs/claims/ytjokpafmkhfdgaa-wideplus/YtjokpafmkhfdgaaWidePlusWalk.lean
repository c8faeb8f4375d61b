/-
  The walk of the law WidePlus (no claim is made here: the row is WidePlus).
-/
import Derived.Test.YtjokpafmkhfdgaaBits5
import Derived.Deep.RegionHeld3
import Derived.OpenShut
namespace Go.Proofs.Ytjokpafmkhfdgaa
open Go.RowKit

/-- A row of 128 cells that can be stored whole. -/
def Row128 (arr : Array Value) : Prop := arr.size = 128 ∧ arr.all (·.oneCell') = true
theorem row128 (x : BitVec 128) : Row128 (bvArr x) := ⟨Barr.size _, Barr.one _⟩

/-- Block g is a row of 128 bools that are false. -/
def IsZ (w : World) (g : Nat) : Prop := w.heap[g]? = some (.cells Z128 24 (0, 0))
theorem isZ_new (w : World) : IsZ (w.alloc (.cells Z128 24)) w.heap.size := heap_last w _ _ rfl

/-- Two pairs in two blocks of ws, and that nothing of ws has turned. -/
theorem six_of {ws W : World} {g h : Nat} {a b c d : Value} (c0 : ws.cell? ⟨g, 0, none⟩ = some a) (c1 : ws.cell? ⟨g, 1, none⟩ = some b) (d0 : ws.cell? ⟨h, 0, none⟩ = some c) (d1 : ws.cell? ⟨h, 1, none⟩ = some d) (hb : Below ws.heap.size ws W) :
    W.cell? ⟨g, 0, none⟩ = some a ∧ W.cell? ⟨g, 1, none⟩ = some b ∧ W.cell? ⟨h, 0, none⟩ = some c ∧ W.cell? ⟨h, 1, none⟩ = some d ∧ Below ws.heap.size ws W :=
  ⟨keep hb c0, keep hb c1, keep hb d0, keep hb d1, hb⟩
theorem below_cells {B g : Nat} {w0 : World} (hg : B ≤ g) : ∀ (vs : List Value) (o : Nat) (w : World), Below B w0 w → Below B w0 (w.setCells g o vs)
  | [], _, _, h => h
  | v :: vs, o, w, h => by rw [World.setCells]; exact below_cells hg vs (o + 1) _ (h.setCell hg v)
theorem fin128 {w ws W : World} {g s : Nat} {zs : List Value} {a b : Value} (BS : Below w.heap.size w ws) (A : Below ws.heap.size ws W) (hg : ws.heap.size ≤ g) (hz : W.there g 0 128) (hl : zs.length = 128) (e0 : ws.cell? ⟨s, 0, none⟩ = some a) (e1 : ws.cell? ⟨s, 1, none⟩ = some b) :
    (W.setCells g 0 zs).rangeAt g 0 zs ∧ (W.setCells g 0 zs).cell? ⟨s, 0, none⟩ = some a ∧ (W.setCells g 0 zs).cell? ⟨s, 1, none⟩ = some b ∧ Below w.heap.size w (W.setCells g 0 zs) :=
  have A' := below_cells hg zs 0 W A
  ⟨World.rangeAt_setCells_same W g 0 zs (by rw [hl]; exact hz), keep A' e0, keep A' e1, below2 BS A'⟩
theorem keepRange {W w' : World} (hb : Below W.heap.size W w') {g o : Nat} {cs : List Value} (h : W.rangeAt g o cs) : w'.rangeAt g o cs := by
  unfold World.rangeAt at *
  exact fun j v hv => keep hb (h j v hv)
theorem there_new (W : World) : (W.alloc (.cells Z128 24)).there W.heap.size 0 128 := by
  unfold World.there
  intro j hj
  have h : (W.alloc (.cells Z128 24)).heap[W.heap.size]? = some (.cells Z128 24 (0, 0)) := isZ_new W
  rw [Nat.zero_add, cell_of_row _ _ _ _ _ _ h, frozen_of_block h]
  have := Z128_size
  exact ⟨by rw [Array.getElem?_eq_getElem (by omega)]; rfl, rfl⟩
theorem there_below {W w' : World} (hb : Below W.heap.size W w') {g o n : Nat} (h : W.there g o n) : w'.there g o n := by
  unfold World.there at *
  intro j hj
  obtain ⟨a, b⟩ := h j hj
  obtain ⟨v, hv⟩ := Option.isSome_iff_exists.1 a
  exact ⟨by rw [keep hb hv]; rfl, (hb.frozen (World.block_lt_of_cell? W _ hv)).trans b⟩
theorem undrew {W w' : World} (h : Below W.drew.heap.size W.drew w') : Below W.heap.size W w' := ⟨h.os, h.tape, h.output, h.size, h.block⟩


set_option maxHeartbeats 4000000 in
set_option maxRecDepth 100000 in
theorem widePlus_core (ph pl qh ql sh sl : Int) (k : Bool) (xa ya za : Array Value) (w : World) (hr : Row128 za) (hr' : za.size = 128)
    (heq : ∀ w, (Op.equalIn 10000 24 (.agg za) (.agg za)).run Try.prog w = .ok true w)
    (P1 : Hid (∀ w, Calls Try.prog 16 #[.agg #[.int .u64 ph, .int .u64 pl], .agg #[.int .u64 qh, .int .u64 ql]] w fun e w' => e = .returned (.tuple #[.agg #[.int .u64 sh, .int .u64 sl], .bool k]) ∧ Below w.heap.size w w'))
    (B1 : Hid (∀ w, Calls Try.prog 11 #[.agg #[.int .u64 ph, .int .u64 pl]] w fun e w' => e = .returned (.agg xa) ∧ Below w.heap.size w w'))
    (B2 : Hid (∀ w, Calls Try.prog 11 #[.agg #[.int .u64 qh, .int .u64 ql]] w fun e w' => e = .returned (.agg ya) ∧ Below w.heap.size w w'))
    (B3 : Hid (∀ w, Calls Try.prog 11 #[.agg #[.int .u64 sh, .int .u64 sl]] w fun e w' => e = .returned (.agg za) ∧ Below w.heap.size w w'))
    (L1 : Hid (∀ w, Calls Try.prog 17 #[.agg xa, .agg ya] w fun e w' => e = .returned (.tuple #[.agg za, .bool k]) ∧ Below w.heap.size w w')) :
    Calls Try.prog 5 #[.agg #[.int .u64 ph, .int .u64 pl], .agg #[.int .u64 qh, .int .u64 ql]] w fun e w' => e = .returned (.bool true) ∧ Below w.heap.size w w' := by
  have hz := zero128
  go_enter Try.func5, Try.ntmps5
  go_wp2_with fail
  refine (awake_any _).mono ?_
  rintro e w1 ⟨rfl, hb1⟩
  have B0 : Below w.heap.size w w1 := below2 (((Below.refl _ w).alloc (Nat.le_refl _) _).alloc (by simp) _) hb1
  have c0 : w1.cell? ⟨w.heap.size, 0, none⟩ = some (.int .u64 ph) := keep hb1 (keepAlloc _ (by simp))
  have c1 : w1.cell? ⟨w.heap.size, 1, none⟩ = some (.int .u64 pl) := keep hb1 (keepAlloc _ (by simp))
  have d0 : w1.cell? ⟨w.heap.size + 1, 0, none⟩ = some (.int .u64 qh) := keep hb1 (by simp)
  have d1 : w1.cell? ⟨w.heap.size + 1, 1, none⟩ = some (.int .u64 ql) := keep hb1 (by simp)
  clear hb1
  go_wp2_with fail
  refine (P1.out _).mono ?_
  rintro e w2 ⟨rfl, hb2⟩
  have B2' := below2 B0 hb2
  have c0' := keep hb2 c0
  have c1' := keep hb2 c1
  have d0' := keep hb2 d0
  have d1' := keep hb2 d1
  clear c0 c1 d0 d1
  go_upto_region 4 with fail
  obtain ⟨ws, hws⟩ : ∃ ws, ws = w2.alloc (.cells #[.int .u64 sh, .int .u64 sl] 27) := ⟨_, rfl⟩
  have c0 : ws.cell? ⟨w.heap.size, 0, none⟩ = some (.int .u64 ph) := by rw [hws]; exact keepAlloc _ c0'
  have c1 : ws.cell? ⟨w.heap.size, 1, none⟩ = some (.int .u64 pl) := by rw [hws]; exact keepAlloc _ c1'
  have d0 : ws.cell? ⟨w.heap.size + 1, 0, none⟩ = some (.int .u64 qh) := by rw [hws]; exact keepAlloc _ d0'
  have d1 : ws.cell? ⟨w.heap.size + 1, 1, none⟩ = some (.int .u64 ql) := by rw [hws]; exact keepAlloc _ d1'
  have e0 : ws.cell? ⟨w2.heap.size, 0, none⟩ = some (.int .u64 sh) := by rw [hws]; simp
  have e1 : ws.cell? ⟨w2.heap.size, 1, none⟩ = some (.int .u64 sl) := by rw [hws]; simp
  have BS : Below w.heap.size w ws := by rw [hws]; exact B2'.alloc B2'.size _
  rw [← hws]
  obtain ⟨h0, hh0⟩ : ∃ h0, h0 = w.heap.size + 1 := ⟨_, rfl⟩
  rw [← hh0] at d0 d1 ⊢
  clear hh0
  have n0 : w.heap.size < ws.heap.size := World.block_lt_of_cell? ws _ c0
  have n1 : h0 < ws.heap.size := World.block_lt_of_cell? ws _ d0
  clear hws c0' c1' d0' d1' B2' B0 hb2
  go_cut [7, 8] (fun s7 s8 wx => ∃ g : Nat, s7 = .pointer (some ⟨g, 0, none⟩) ∧ s8 = .bool k ∧ wx.rangeAt g 0 za.toList ∧ wx.cell? ⟨w2.heap.size, 0, none⟩ = some (.int .u64 sh) ∧ wx.cell? ⟨w2.heap.size, 1, none⟩ = some (.int .u64 sl) ∧ Below w.heap.size w wx)
  case first =>
    have hi : (Try.prog.info? 24).map (·.size) = some za.toList.length := by rw [Array.length_toList, hr']; exact info128
    have hl : za.toList.length = 128 := by rw [Array.length_toList, hr']
    have ho : ∀ v ∈ za.toList, v.oneCell' = true := fun v hv => (Array.all_eq_true_iff_forall_mem.1 hr.2) v (by simpa using hv)
    have hT := there_new
    go_region_held3 (fun wx => wx.cell? ⟨w.heap.size, 0, none⟩ = some (.int .u64 ph) ∧ wx.cell? ⟨w.heap.size, 1, none⟩ = some (.int .u64 pl) ∧ wx.cell? ⟨h0, 0, none⟩ = some (.int .u64 qh) ∧ wx.cell? ⟨h0, 1, none⟩ = some (.int .u64 ql) ∧ Below ws.heap.size ws wx)
      (first
        | assumption
        | exact six_of c0 c1 d0 d1 (Below.drew (Below.refl _ _))
        | exact six_of c0 c1 d0 d1 (Below.alloc (Below.drew (Below.refl _ _)) (Nat.le_refl _) _)
        | exact six_of c0 c1 d0 d1 (Below.drew (Below.alloc (Below.refl _ _) (Nat.le_refl _) _))
        | exact six_of c0 c1 d0 d1 (Below.alloc A3 A3.size _)
        | exact six_of c0 c1 d0 d1 (Below.alloc A4 A4.size _)
        | exact six_of c0 c1 d0 d1 (Below.alloc A5 A5.size _)
        | exact six_of c0 c1 d0 d1 (below_cells (Nat.le_refl _) _ _ _ A5)
        | exact six_of c0 c1 d0 d1 (below_cells A3.size _ _ _ A5)
        | exact six_of c0 c1 d0 d1 (below_cells A4.size _ _ _ A5)
        | exact six_of c0 c1 d0 d1 (below_cells A5.size _ _ _ (A5.alloc A5.size _)))
      (first
        | (go_at_call 11; with_reducible refine (B1.out _).mono ?_; rintro e w3 ⟨rfl, hb3⟩; replace hb3 := undrew hb3; (first | have A3 := below2 (Below.refl _ ws) hb3 | have A3 := below2 ((Below.refl _ ws).alloc (Nat.le_refl _) _) hb3); have hS3 := six_of c0 c1 d0 d1 A3; (first | have zz := there_below hb3 (there_new _) | skip))
        | (go_at_call 11; with_reducible refine (B2.out _).mono ?_; rintro e w4 ⟨rfl, hb4⟩; (first | have A4 := below2 A3 hb4 | have A4 := below2 (A3.alloc A3.size _) hb4); have hS4 := six_of c0 c1 d0 d1 A4; (first | have zz := there_below hb4 (there_new _) | have zz := there_below hb4 zz | skip))
        | (go_at_call 17; with_reducible refine (L1.out _).mono ?_; rintro e w5 ⟨rfl, hb5⟩; (first | have A5 := below2 A4 hb5 | have A5 := below2 (A4.alloc A4.size _) hb5); have hS5 := six_of c0 c1 d0 d1 A5; (first | have zz := there_below hb5 (there_new _) | have zz := there_below hb5 zz | skip)))
    all_goals
      go_wp2_with fail
      go_meet
      first
        | exact ⟨ws.heap.size, rfl, rfl, fin128 BS A5 (Nat.le_refl _) zz hl e0 e1⟩
        | exact ⟨w3.heap.size, rfl, rfl, fin128 BS A5 A3.size zz hl e0 e1⟩
        | exact ⟨w4.heap.size, rfl, rfl, fin128 BS A5 A4.size zz hl e0 e1⟩
        | exact ⟨w5.heap.size, rfl, rfl, fin128 BS (A5.alloc A5.size _) A5.size (there_new _) hl e0 e1⟩
  case rest =>
    obtain ⟨g, rfl, rfl, hrg, f0, f1, BX⟩ := hcut
    have hi : (Try.prog.info? 24).map (·.size) = some za.toList.length := by rw [Array.length_toList, hr']; exact info128
    have hu := Try.underlying24
    clear c0 c1 d0 d1 e0 e1 n0 n1 BS hz
    go_wp2_with fail
    go_region_held3 (fun wx => wx.cell? ⟨w2.heap.size, 0, none⟩ = some (.int .u64 sh) ∧ wx.cell? ⟨w2.heap.size, 1, none⟩ = some (.int .u64 sl) ∧ wx.rangeAt g 0 za.toList ∧ Below w.heap.size w wx)
      (first | assumption | exact ⟨f0, f1, hrg, BX.drew⟩)
      (first
        | (go_at_call 11; with_reducible refine (B3.out _).mono ?_; rintro e w6 ⟨rfl, hb6⟩; replace hb6 := undrew hb6; have hS6 : w6.cell? ⟨w2.heap.size, 0, none⟩ = some (.int .u64 sh) ∧ w6.cell? ⟨w2.heap.size, 1, none⟩ = some (.int .u64 sl) ∧ w6.rangeAt g 0 za.toList ∧ Below w.heap.size w w6 := ⟨keep hb6 f0, keep hb6 f1, keepRange hb6 hrg, below2 BX hb6⟩))
    have BF := Lib.hid hS6.2.2.2
    go_wp2
    go_ret
    exact ⟨rfl, BF.out⟩

theorem plus_facts (ph pl qh ql : Nat) (h1 : ph < 18446744073709551616) (h2 : pl < 18446744073709551616) (h3 : qh < 18446744073709551616) (h4 : ql < 18446744073709551616) :
    BitVec.ofNat 128 ((ph + qh + (pl + ql) / 18446744073709551616) % 18446744073709551616 * 18446744073709551616 + (pl + ql) % 18446744073709551616) = BitVec.ofNat 128 (ph * 18446744073709551616 + pl) + BitVec.ofNat 128 (qh * 18446744073709551616 + ql) ∧
    decide (18446744073709551616 ≤ ph + qh + (pl + ql) / 18446744073709551616) = decide (340282366920938463463374607431768211456 ≤ (BitVec.ofNat 128 (ph * 18446744073709551616 + pl)).toNat + (BitVec.ofNat 128 (qh * 18446744073709551616 + ql)).toNat) := by
  have e1 : (BitVec.ofNat 128 (ph * 18446744073709551616 + pl)).toNat = ph * 18446744073709551616 + pl := by rw [BitVec.toNat_ofNat]; exact Nat.mod_eq_of_lt (by omega)
  have e2 : (BitVec.ofNat 128 (qh * 18446744073709551616 + ql)).toNat = qh * 18446744073709551616 + ql := by rw [BitVec.toNat_ofNat]; exact Nat.mod_eq_of_lt (by omega)
  constructor
  · apply BitVec.eq_of_toNat_eq
    rw [BitVec.toNat_add, e1, e2, BitVec.toNat_ofNat]
    show _ % 340282366920938463463374607431768211456 = _ % 340282366920938463463374607431768211456
    omega
  · rw [e1, e2, Bool.eq_iff_iff]
    simp only [decide_eq_true_eq]
    omega

theorem widePlus_walk (p1 p0 q1 q0 : Int) (w0 : (Lit.int .u64 p1).wf = true) (w1 : (Lit.int .u64 p0).wf = true) (w2 : (Lit.int .u64 q1).wf = true) (w3 : (Lit.int .u64 q0).wf = true) (w : World) :
    Calls Try.prog 5 #[.agg #[.int .u64 p1, .int .u64 p0], .agg #[.int .u64 q1, .int .u64 q0]] w fun e w' => e = .returned (.bool true) ∧ Below w.heap.size w w' := by
  have b0 := bounds_u64 w0
  have b1 := bounds_u64 w1
  have b2 := bounds_u64 w2
  have b3 := bounds_u64 w3
  obtain ⟨ph, rfl⟩ := Int.eq_ofNat_of_zero_le b0.1
  obtain ⟨pl, rfl⟩ := Int.eq_ofNat_of_zero_le b1.1
  obtain ⟨qh, rfl⟩ := Int.eq_ofNat_of_zero_le b2.1
  obtain ⟨ql, rfl⟩ := Int.eq_ofNat_of_zero_le b3.1
  have h1 : ph < 18446744073709551616 := by omega
  have h2 : pl < 18446744073709551616 := by omega
  have h3 : qh < 18446744073709551616 := by omega
  have h4 : ql < 18446744073709551616 := by omega
  obtain ⟨f1, f2⟩ := plus_facts ph pl qh ql h1 h2 h3 h4
  refine widePlus_core ph pl qh ql _ _ _ _ _ _ w (row128 _) (row128 _).1 (eq128 _) (fun w => plus_any ph pl qh ql h2 h4 w) (fun w => bits_any ph pl h1 h2 w) (fun w => bits_any qh ql h3 h4 w)
    (fun w => bits_any _ _ (Nat.mod_lt _ (by omega)) (Nat.mod_lt _ (by omega)) w) (fun w => ?_)
  rw [f1, f2]
  exact plus128_any _ _ w

end Go.Proofs.Ytjokpafmkhfdgaa
