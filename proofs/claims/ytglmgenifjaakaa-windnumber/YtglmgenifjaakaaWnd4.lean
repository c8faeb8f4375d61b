/-
  What the law's own on and Spot do to any world (no claim is made here).
-/
import Derived.Test.YtglmgenifjaakaaWnd2
import Derived.Test.YtglmgenifjaakaaPlace1
namespace Go.Proofs.Ytglmgenifjaakaa
open Go.RowKit

theorem cr_steps4 {s0 s1 s2 s3 p0 p1 : Int} (h : InE s0 s1 s2 s3 p0 p1) : ∃ u0 v1 u1 v0 x y c : Int, IntKind.i64.wrap (s2 - s0) = u0 ∧ IntKind.i64.wrap (p1 - s1) = v1 ∧ IntKind.i64.wrap (u0 * v1) = x ∧ IntKind.i64.wrap (s3 - s1) = u1 ∧ IntKind.i64.wrap (p0 - s0) = v0 ∧ IntKind.i64.wrap (u1 * v0) = y ∧ IntKind.i64.wrap (x - y) = c ∧ c = crE ⟨⟨s0, s1⟩, s2, s3⟩ ⟨p0, p1⟩ := by
  obtain ⟨⟨ha0, ha1⟩, ⟨hb0, hb1⟩, ⟨hp0, hp1⟩⟩ := h
  have h1 : (s2 - s0).natAbs ≤ 16384 := by omega
  have h2 : (s3 - s1).natAbs ≤ 16384 := by omega
  have h3 : (p0 - s0).natAbs ≤ 40960 := by omega
  have h4 : (p1 - s1).natAbs ≤ 40960 := by omega
  have g1 := mulB h1 h4
  have g2 := mulB h2 h3
  exact ⟨s2 - s0, p1 - s1, s3 - s1, p0 - s0, _, _, _, wI (by omega) (by omega), wI (by omega) (by omega), wI (by omega) (by omega), wI (by omega) (by omega), wI (by omega) (by omega), wI (by omega) (by omega), wI (by omega) (by omega), rfl⟩

theorem run_min2i {P : Program} (ats : Array TypeId) (ty : TypeId) (a b : Int) (w : World) : Sem.run P (Builtin.min_ ats ty #[.int .i64 a, .int .i64 b]) w = .ok (.int .i64 (min a b)) w := by
  simp [Builtin.min_, Builtin.min2, Int.min_def]; split <;> split <;> (try omega) <;> (try rfl) <;> (congr 2; omega)
theorem run_max2i {P : Program} (ats : Array TypeId) (ty : TypeId) (a b : Int) (w : World) : Sem.run P (Builtin.max_ ats ty #[.int .i64 a, .int .i64 b]) w = .ok (.int .i64 (max a b)) w := by
  simp [Builtin.max_, Builtin.max2, Int.max_def]; split <;> split <;> (try omega) <;> (try rfl) <;> (congr 2; omega)

set_option maxRecDepth 100000 in
set_option maxHeartbeats 3200000 in
theorem lon7_any (v : Value) (es : List Ed) (p0 p1 : Int) (w : World) (hv : ERd w v es) (hl : es.length ≤ 200000) (hin : ∀ s ∈ es, InD s) (hp : InP ⟨p0, p1⟩) :
    Calls Try.prog 15 #[v, .agg #[.int .i64 p0, .int .i64 p1]] w fun e w' => e = .returned (.bool (onS es ⟨p0, p1⟩)) ∧ Below w.heap.size w w' := by
  have HV := Lib.hid hv
  have HI := Lib.hid hin
  have HP := Lib.hid hp
  obtain ⟨A, cap, rfl, hc, -⟩ := hv
  obtain ⟨n, hn⟩ : ∃ n : Nat, es.length = n := ⟨_, rfl⟩
  rw [hn] at HV hl hc
  rw [hn]
  have HN := Lib.hid hn
  have HB0 := Lib.hid ((Below.refl _ w).alloc (Nat.le_refl _) (.cells #[.int .i64 p0, .int .i64 p1] 31))
  have HP0 := Lib.hid (Blk.new w 31 [.int .i64 p0, .int .i64 p1] rfl)
  clear hn hin hp
  go_enter Try.func15, Try.ntmps15
  go_wp2_with fail
  go_loopw [10] (fun i wr => ∃ r : Nat, r ≤ n ∧ i = .int .i64 r ∧ Hid (onS (es.take r) ⟨p0, p1⟩ = false) ∧ Hid (Blk wr w.heap.size 31 [.int .i64 p0, .int .i64 p1]) ∧ Hid (Below w.heap.size w wr)) (fun i _ => n - (intOf i).toNat)
  case atStart => exact ⟨0, Nat.zero_le _, rfl, Lib.hid rfl, HP0, HB0⟩
  case round =>
    obtain ⟨r, hr, rfl, HO, HPb, HB⟩ := hrel
    by_cases hrn : r < n
    · have hrb : decide ((r : Int) < n) = true := by simp; omega
      obtain ⟨s, hs⟩ : ∃ s, es[r]? = some s := ⟨_, List.getElem?_eq_getElem (by rw [HN.out]; exact hrn)⟩
      obtain ⟨a, rfl, ha, x0, x1, x2, x3⟩ := (HV.out.keep HB.out).at r s hs
      have HT := Lib.hid (onS_push ⟨p0, p1⟩ hs)
      have HH := Lib.hid (onS_hit (p := ⟨p0, p1⟩) hs)
      have HIS := HI.out s (List.mem_of_getElem? hs)
      have q0 := HPb.out.cell 0 rfl
      have q1 := HPb.out.cell 1 rfl
      have qn := HPb.out.lt
      obtain ⟨⟨s0, s1⟩, s2, s3⟩ := s
      simp only [] at x0 x1 x2 x3
      obtain ⟨u0, v1, u1, v0, x, y, c, k1, k2, k3, k4, k5, k6, k7, hcr⟩ := cr_steps4 (show InE s0 s1 s2 s3 p0 p1 from ⟨HIS.1, HIS.2, HP.out⟩)
      have HB1 := Lib.hid (HB.out.alloc HB.out.size (.cells #[.int .i64 s0, .int .i64 s1, .int .i64 s2, .int .i64 s3] 37))
      have HP1 := Lib.hid (HPb.out.alloc (.cells #[.int .i64 s0, .int .i64 s1, .int .i64 s2, .int .i64 s3] 37))
      have HQ : Hid (onE ⟨⟨s0, s1⟩, s2, s3⟩ ⟨p0, p1⟩ ↔ c = 0 ∧ min s0 s2 ≤ p0 ∧ p0 ≤ max s0 s2 ∧ min s1 s3 ≤ p1 ∧ p1 ≤ max s1 s3) := Lib.hid (by rw [hcr]; rfl)
      have m1 := run_min2i (P := Try.prog) #[3, 3] 3 s0 s2
      have m2 := run_max2i (P := Try.prog) #[3, 3] 3 s0 s2
      have m3 := run_min2i (P := Try.prog) #[3, 3] 3 s1 s3
      have m4 := run_max2i (P := Try.prog) #[3, 3] 3 s1 s3
      generalize min s0 s2 = M1 at *
      generalize max s0 s2 = M2 at *
      generalize min s1 s3 = M3 at *
      generalize max s1 s3 = M4 at *
      clear hs HIS HP0 HB0 HPb HB hcr
      by_cases z : c = 0 ∧ M1 ≤ p0 ∧ p0 ≤ M2 ∧ M3 ≤ p1 ∧ p1 ≤ M4
      · have HE := Lib.hid (HH.out (HQ.out.2 z))
        obtain ⟨rfl, z1, z2, z3, z4⟩ := z
        clear HQ HT HH
        go_wp2
        go_ret
        exact ⟨by rw [HE.out]; rfl, HB1.out⟩
      · have HE : Hid (onS (es.take (r + 1)) ⟨p0, p1⟩ = false) := Lib.hid (by
          rw [HT.out, HO.out, Bool.false_or]
          exact decide_eq_false fun h => z (HQ.out.1 h))
        have z' : ((c == 0) && decide (M1 ≤ p0) && decide (p0 ≤ M2) && decide (M3 ≤ p1) && decide (p1 ≤ M4)) = false := by simp; omega
        clear HQ HT HH
        go_wp2_with fail
        all_goals first
          | exact ⟨⟨r + 1, by omega, by go_num, HE, HP1, HB1⟩, by simp [intOf]; omega⟩
          | (exfalso; omega)
    · obtain rfl : r = n := by omega
      have HF : Hid (onS es ⟨p0, p1⟩ = false) := Lib.hid (by have h := HO.out; rwa [List.take_of_length_le (by rw [HN.out]; exact Nat.le_refl _)] at h)
      clear HP0 HB0
      go_wp2
      go_ret
      exact ⟨by rw [HF.out]; rfl, HB.out⟩

end Go.Proofs.Ytglmgenifjaakaa
