/-
  What the law's Spot and awake do to any world (no claim is made here).
-/
import Derived.Test.YtglmgenifjaakaaWnd3
import Derived.Test.YtglmgenifjaakaaPlace1
namespace Go.Proofs.Ytglmgenifjaakaa
open Go.RowKit

theorem tdiv2_in {x : Int} (h : -16384 ≤ x ∧ x ≤ 16384) : -8192 ≤ x.tdiv 2 ∧ x.tdiv 2 ≤ 8192 := by
  rcases Int.le_total 0 x with h0 | h0
  · rw [Int.tdiv_eq_ediv_of_nonneg h0]; omega
  · obtain ⟨y, rfl⟩ : ∃ y, x = -y := ⟨-x, by omega⟩
    rw [Int.neg_tdiv, Int.tdiv_eq_ediv_of_nonneg (by omega)]; omega
theorem tmod3_in (x : Int) : -2 ≤ x.tmod 3 ∧ x.tmod 3 ≤ 2 := by
  rcases Int.le_total 0 x with h0 | h0
  · rw [Int.tmod_eq_emod_of_nonneg h0]; omega
  · obtain ⟨y, rfl⟩ : ∃ y, x = -y := ⟨-x, by omega⟩
    rw [Int.neg_tmod, Int.tmod_eq_emod_of_nonneg (by omega)]; omega

set_option maxRecDepth 100000 in
set_option maxHeartbeats 1600000 in
theorem spot_zero (A : Option Addr) (n cap : Nat) (m p0 p1 : Int) (w : World) (hm : 0 ≤ m ∧ m < 65536) (hp : p0.natAbs ≤ 32768 ∧ p1.natAbs ≤ 32768) (hz : n = 0 ∨ m % 4 = 0) :
    Calls Try.prog 11 #[.slice A n cap, .int .u16 m, .agg #[.int .i16 p0, .int .i16 p1]] w fun e w' => e = .returned (.agg #[.int .i64 p0, .int .i64 p1]) ∧ Below w.heap.size w w' := by
  have HO := Lib.hid (fun w => point_any p0 p1 hp.1 hp.2 w)
  have hz' : (((n : Int) == 0) || m % 4 == 0) = true := by
    rcases hz with h | h
    · simp [h]
    · simp [h]
  have HT := Lib.hid (Two.new (W := w.alloc (.cells #[.int .i16 p0, .int .i16 p1] 26)) (g := w.heap.size + 1) (.int .i64 0) (.int .i64 0) 31 (by simp))
  have HB := Lib.hid (alloc2 w (.cells #[.int .i16 p0, .int .i16 p1] 26) (.cells #[.int .i64 0, .int .i64 0] 31))
  go_enter Try.func11, Try.ntmps11
  go_wp2_with fail
  all_goals
    refine (HO.out _).mono ?_
    rintro e w2 ⟨rfl, hb2⟩
    have T2 := HT.out.keep hb2
    have B2 := below2 HB.out hb2
    have HR := Lib.hid (T2.ret (.int .i64 p0) (.int .i64 p1) B2 (Nat.le_succ _))
    obtain ⟨c0, c1, c2, c3⟩ := T2
    clear hb2 B2
    go_wp2
    obtain ⟨r0, r1, r2⟩ := HR.out
    exact bodyPost_ret (v := .agg #[.int .i64 p0, .int .i64 p1]) (by simp [results, Try.results11, go_sem, r0, r1]) rfl ⟨rfl, r2⟩

set_option maxRecDepth 100000 in
set_option maxHeartbeats 1600000 in
theorem spot_one (a : Addr) (n cap : Nat) (s0 s1 s2 s3 : Int) (k : Nat) (m p0 p1 q t0 t1 r0 r1 : Int) (w : World) (_hc : n ≤ cap) (hk : k < n) (hq : 0 ≤ q ∧ q < 16384) (e1 : IntKind.u16.wrap (m.tdiv 4) = q) (e2 : q.tmod (n : Int) = (k : Int)) (hi : (k : Int) < n)
    (f0 : (s0 + s2).tdiv 2 = t0) (f1 : (s1 + s3).tdiv 2 = t1) (b0 : -8192 ≤ t0 ∧ t0 ≤ 8192) (b1 : -8192 ≤ t1 ∧ t1 ≤ 8192) (f2 : p0.tmod 3 = r0) (f3 : p1.tmod 3 = r1) (b2 : -2 ≤ r0 ∧ r0 ≤ 2) (b3 : -2 ≤ r1 ∧ r1 ≤ 2)
    (_ha : a.block < w.heap.size) (hx : EAtS w a k s0 s1 s2 s3) (hs : InD ⟨⟨s0, s1⟩, s2, s3⟩) (hm : 0 ≤ m ∧ m < 65536) (hz : ¬ m % 4 = 0) :
    Calls Try.prog 11 #[.slice (some a) n cap, .int .u16 m, .agg #[.int .i16 p0, .int .i16 p1]] w fun e w' => ∃ x y, e = .returned (.agg #[.int .i64 x, .int .i64 y]) ∧ InP ⟨x, y⟩ ∧ Below w.heap.size w w' := by
  obtain ⟨x0, x1, x2, x3⟩ := hx
  obtain ⟨⟨g0, g1⟩, g2, g3⟩ := hs
  simp only [] at g0 g1 g2 g3
  have BA := alloc2 w (.cells #[.int .i16 p0, .int .i16 p1] 26) (.cells #[.int .i64 0, .int .i64 0] 31)
  replace x0 := keep BA x0
  replace x1 := keep BA x1
  replace x2 := keep BA x2
  replace x3 := keep BA x3
  have hz' : (((n : Int) == 0) || m % 4 == 0) = false := by simp; omega
  clear BA
  have hz3 : (m % 4 == 0) = false := by simp; omega
  have hn0 : ¬ (n : Int) = 0 := by omega
  have hn1 : ¬ n = 0 := by omega
  by_cases h1 : m % 4 = 1
  · have h1' : (m % 4 == 1) = true := by simp [h1]
    go_enter Try.func11, Try.ntmps11
    go_wp2_with fail
    exact bodyPost_ret (v := .agg #[.int .i64 (s0 + r0), .int .i64 (s1 + r1)]) (by simp [results, Try.results11, go_sem]) rfl ⟨_, _, rfl, by unfold InP; simp only []; omega, below2 (alloc2 w _ _) (alloc2 _ _ _)⟩
  · have h1' : (m % 4 == 1) = false := by simp [h1]
    go_enter Try.func11, Try.ntmps11
    go_wp2_with fail
    exact bodyPost_ret (v := .agg #[.int .i64 (t0 + r0), .int .i64 (t1 + r1)]) (by simp [results, Try.results11, go_sem]) rfl ⟨_, _, rfl, by unfold InP; simp only []; omega, below2 (alloc2 w _ _) (alloc2 _ _ _)⟩

theorem spot_any (v : Value) (es : List Ed) (m p0 p1 : Int) (w : World) (hv : ERd w v es) (hin : ∀ s ∈ es, InD s) (hm : 0 ≤ m ∧ m < 65536) (hp : p0.natAbs ≤ 32768 ∧ p1.natAbs ≤ 32768) :
    Calls Try.prog 11 #[v, .int .u16 m, .agg #[.int .i16 p0, .int .i16 p1]] w fun e w' => ∃ x y, e = .returned (.agg #[.int .i64 x, .int .i64 y]) ∧ InP ⟨x, y⟩ ∧ Below w.heap.size w w' := by
  have hv' := hv
  obtain ⟨A, cap, rfl, hc, -⟩ := hv'
  by_cases hz : es.length = 0 ∨ m % 4 = 0
  · refine (spot_zero A es.length cap m p0 p1 w hm hp hz).mono ?_
    rintro e w' ⟨rfl, hb⟩
    exact ⟨_, _, rfl, hp, hb⟩
  · have hn : 0 < es.length := by omega
    obtain ⟨k, hk⟩ : ∃ k : Nat, (m / 4) % (es.length : Int) = k := ⟨((m / 4) % (es.length : Int)).toNat, by have := Int.emod_nonneg (m / 4) (show (es.length : Int) ≠ 0 by omega); omega⟩
    have hk2 : k < es.length := by have := Int.emod_lt_of_pos (m / 4) (show (0 : Int) < es.length by omega); omega
    have hm4 : 0 ≤ m / 4 ∧ m / 4 < 16384 := by omega
    obtain ⟨s, hs⟩ : ∃ s, es[k]? = some s := ⟨_, List.getElem?_eq_getElem hk2⟩
    obtain ⟨a, rfl, ha, hx⟩ := hv.at k s hs
    have hD := hin s (List.mem_of_getElem? hs)
    have hD' := hD
    obtain ⟨⟨g0, g1⟩, g2, g3⟩ := hD'
    have t0 : -8192 ≤ (s.a.x + s.b.x).tdiv 2 ∧ (s.a.x + s.b.x).tdiv 2 ≤ 8192 := tdiv2_in (by omega)
    have t1 : -8192 ≤ (s.a.y + s.b.y).tdiv 2 ∧ (s.a.y + s.b.y).tdiv 2 ≤ 8192 := tdiv2_in (by omega)
    have r0 : -2 ≤ p0.tmod 3 ∧ p0.tmod 3 ≤ 2 := tmod3_in p0
    have r1 : -2 ≤ p1.tmod 3 ∧ p1.tmod 3 ≤ 2 := tmod3_in p1
    refine spot_one a es.length cap s.a.x s.a.y s.b.x s.b.y k m p0 p1 (m / 4) _ _ _ _ w hc hk2 hm4 ?_ ?_ (by omega) rfl rfl t0 t1 rfl rfl r0 r1 ha hx hD hm (by omega)
    · rw [Int.tdiv_eq_ediv_of_nonneg hm.1, IntKind.wrap_u16]; omega
    · rw [Int.tmod_eq_emod_of_nonneg hm4.1, hk]

def sqE : List Ed := [⟨⟨0, 0⟩, ⟨9, 0⟩⟩, ⟨⟨9, 0⟩, ⟨9, 9⟩⟩, ⟨⟨9, 9⟩, ⟨0, 9⟩⟩, ⟨⟨0, 9⟩, ⟨0, 0⟩⟩]
theorem sq_in : ∀ s ∈ sqE, InD s := by
  intro s hs
  simp only [sqE, List.mem_cons, List.not_mem_nil, or_false] at hs
  rcases hs with rfl | rfl | rfl | rfl <;> (unfold InD; simp)
theorem erd_blk {w : World} {g : Nat} {t : TypeId} {l : List Ed} {n : Nat} (h : Blk w g t (ecells l)) (hn : l.length = n) : ERd w (.slice (some ⟨g, 0, none⟩) n n) l := by
  subst hn
  refine ⟨_, _, rfl, Nat.le_refl _, fun i hi => ⟨_, rfl, h.lt, ?_⟩⟩
  have k := fun j hj => ecells_at l i j hi hj
  have z : ∀ j, (⟨g, 0, none⟩ : Addr).add j = ⟨g, j, none⟩ := fun j => by simp [Addr.add] <;> omega
  unfold EAt
  rw [z, z, z, z]
  exact ⟨h.cell _ (k 0 (by omega)), h.cell _ (k 1 (by omega)), h.cell _ (k 2 (by omega)), h.cell _ (k 3 (by omega))⟩

set_option maxRecDepth 100000 in
set_option maxHeartbeats 1600000 in
theorem awake7 (w : World) : Calls Try.prog 9 #[] w fun e w' => e = .returned (.bool true) ∧ Below w.heap.size w w' := by
  have hN : ∀ w v, ERd w v sqE → Calls Try.prog 12 #[v, .agg #[.int .i64 3, .int .i64 4]] w fun e w' => e = .returned (.int .i64 1) ∧ Below w.heap.size w w' := fun w v h => number_any v sqE 3 4 w h (by decide) sq_in (by unfold InP; simp)
  have hM : ∀ w v, ERd w v sqE → Calls Try.prog 12 #[v, .agg #[.int .i64 10, .int .i64 4]] w fun e w' => e = .returned (.int .i64 0) ∧ Below w.heap.size w w' := fun w v h => number_any v sqE 10 4 w h (by decide) sq_in (by unfold InP; simp)
  have hO : ∀ w v, ERd w v sqE → Calls Try.prog 14 #[v, .agg #[.int .i64 9, .int .i64 4]] w fun e w' => e = .returned (.bool true) ∧ Below w.heap.size w w' := fun w v h => on_any v sqE 9 4 w h (by decide) sq_in (by unfold InP; simp)
  have hI : ∀ w v, ERd w v sqE → Calls Try.prog 16 #[v, .agg #[.int .i64 1, .int .i64 1]] w fun e w' => e = .returned (.bool true) ∧ Below w.heap.size w w' := fun w v h => in_any v sqE 1 1 w h (by decide) sq_in (by unfold InP; simp)
  have hA : ∀ w v, ERd w v sqE → Calls Try.prog 17 #[v] w fun e w' => e = .returned (.int .i64 162) ∧ Below w.heap.size w w' := fun w v h => area_any v sqE w h (by decide) sq_in
  have HN := Lib.hid hN
  have HM := Lib.hid hM
  have HO := Lib.hid hO
  have HI := Lib.hid hI
  have HA := Lib.hid hA
  clear hN hM hO hI hA
  go_enter Try.func9, Try.ntmps9
  go_wp2_with fail
  have HE1 : Hid (ERd ((((((w.alloc (.cells #[.int .i64 0, .int .i64 0] 31)).alloc (.cells #[.int .i64 9, .int .i64 0] 31)).alloc (.cells #[.int .i64 9, .int .i64 9] 31)).alloc (.cells #[.int .i64 0, .int .i64 9] 31))).alloc (.cells #[.int .i64 0, .int .i64 0, .int .i64 9, .int .i64 0, .int .i64 9, .int .i64 0, .int .i64 9, .int .i64 9, .int .i64 9, .int .i64 9, .int .i64 0, .int .i64 9, .int .i64 0, .int .i64 9, .int .i64 0, .int .i64 0] 37)) (.slice (some ⟨w.heap.size + 1 + 1 + 1 + 1, 0, none⟩) 4 4) sqE) := Lib.hid (erd_blk (Blk.new _ 37 (ecells sqE) (by simp)) rfl)
  have HB1 : Hid (Below w.heap.size w ((((((w.alloc (.cells #[.int .i64 0, .int .i64 0] 31)).alloc (.cells #[.int .i64 9, .int .i64 0] 31)).alloc (.cells #[.int .i64 9, .int .i64 9] 31)).alloc (.cells #[.int .i64 0, .int .i64 9] 31))).alloc (.cells #[.int .i64 0, .int .i64 0, .int .i64 9, .int .i64 0, .int .i64 9, .int .i64 0, .int .i64 9, .int .i64 9, .int .i64 9, .int .i64 9, .int .i64 0, .int .i64 9, .int .i64 0, .int .i64 9, .int .i64 0, .int .i64 0] 37))) := Lib.hid (below2 (below2 (alloc2 w _ _) (alloc2 _ _ _)) ((Below.refl _ _).alloc (Nat.le_refl _) _))
  refine (HN.out _ _ HE1.out).mono ?_
  rintro e w1 ⟨rfl, hb1⟩
  have HE2 := Lib.hid (HE1.out.keep hb1)
  have HB2 := Lib.hid (below2 HB1.out hb1)
  clear hb1 HE1 HB1 HN
  go_wp2_with fail
  refine (HM.out _ _ HE2.out).mono ?_
  rintro e w2 ⟨rfl, hb1⟩
  have HE3 := Lib.hid (HE2.out.keep hb1)
  have HB3 := Lib.hid (below2 HB2.out hb1)
  clear hb1 HE2 HB2 HM
  go_wp2_with fail
  refine (HO.out _ _ HE3.out).mono ?_
  rintro e w3 ⟨rfl, hb1⟩
  have HE4 := Lib.hid (HE3.out.keep hb1)
  have HB4 := Lib.hid (below2 HB3.out hb1)
  clear hb1 HE3 HB3 HO
  go_wp2_with fail
  refine (HI.out _ _ HE4.out).mono ?_
  rintro e w4 ⟨rfl, hb1⟩
  have HE5 := Lib.hid (HE4.out.keep hb1)
  have HB5 := Lib.hid (below2 HB4.out hb1)
  clear hb1 HE4 HB4 HI
  go_wp2_with fail
  refine (HA.out _ _ HE5.out).mono ?_
  rintro e w5 ⟨rfl, hb1⟩
  have HB6 := Lib.hid (below2 HB5.out hb1)
  clear hb1 HE5 HB5 HA
  go_wp2
  go_ret
  exact ⟨rfl, HB6.out⟩

end Go.Proofs.Ytglmgenifjaakaa
