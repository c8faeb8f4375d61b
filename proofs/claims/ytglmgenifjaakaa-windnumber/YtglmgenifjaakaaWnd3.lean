/-
  What wind.Area and the law's own number and on do to any world (no claim is made here).
-/
import Derived.Test.YtglmgenifjaakaaWnd2
namespace Go.Proofs.Ytglmgenifjaakaa
open Go.RowKit

theorem arS_push {es : List Ed} {r : Nat} {s : Ed} (h : es[r]? = some s) : arS (es.take (r + 1)) = arS (es.take r) + arE s := by
  rw [take_next h, arS_append, arS_cons]; simp [arS]
theorem arE_in {s : Ed} (h : InD s) : -134217728 ≤ arE s ∧ arE s ≤ 134217728 := by
  obtain ⟨⟨h0, h1⟩, h2, h3⟩ := h
  have g1 := mulB h0 h3
  have g2 := mulB h1 h2
  unfold arE
  omega
theorem arS_in : ∀ (l : List Ed), (∀ s ∈ l, InD s) → -134217728 * (l.length : Int) ≤ arS l ∧ arS l ≤ 134217728 * (l.length : Int)
  | [], _ => by simp [arS]
  | s :: l, h => by
    have h1 := arE_in (h s (List.mem_cons_self ..))
    have h2 := arS_in l fun x hx => h x (List.mem_cons_of_mem _ hx)
    rw [arS_cons, List.length_cons]
    omega
theorem arS_small {es : List Ed} (h : es.length ≤ 200000) (hin : ∀ s ∈ es, InD s) (r : Nat) : -26843545600000 ≤ arS (es.take r) ∧ arS (es.take r) ≤ 26843545600000 := by
  have h1 := arS_in (es.take r) fun s hs => hin s (List.mem_of_mem_take hs)
  have h2 : (es.take r).length ≤ es.length := by rw [List.length_take]; exact Nat.min_le_right _ _
  omega

set_option maxHeartbeats 1600000 in
theorem area_any (v : Value) (es : List Ed) (w : World) (hv : ERd w v es) (hl : es.length ≤ 200000) (hin : ∀ s ∈ es, InD s) :
    Calls Try.prog 17 #[v] w fun e w' => e = .returned (.int .i64 (arS es)) ∧ Below w.heap.size w w' := by
  have HV := Lib.hid hv
  have HI := Lib.hid hin
  have HSm := Lib.hid (fun r => arS_small hl hin r)
  obtain ⟨A, cap, rfl, hc, -⟩ := hv
  obtain ⟨n, hn⟩ : ∃ n : Nat, es.length = n := ⟨_, rfl⟩
  rw [hn] at HV hl hc
  rw [hn]
  have HN := Lib.hid hn
  clear hn hin
  go_enter Try.func17, Try.ntmps17
  go_wp2_with fail
  go_loopw [8, 3] (fun i u wr => ∃ r : Nat, r ≤ n ∧ i = .int .i64 r ∧ u = .int .i64 (arS (es.take r)) ∧ Hid (Below w.heap.size w wr)) (fun i _ _ => n - (intOf i).toNat)
  case atStart => exact ⟨0, Nat.zero_le _, rfl, rfl, Lib.hid (Below.refl _ _)⟩
  case round =>
    obtain ⟨r, hr, rfl, rfl, HB⟩ := hrel
    by_cases hrn : r < n
    · have hrb : decide ((r : Int) < n) = true := by simp; omega
      obtain ⟨s, hs⟩ : ∃ s, es[r]? = some s := ⟨_, List.getElem?_eq_getElem (by rw [HN.out]; exact hrn)⟩
      obtain ⟨a, rfl, ha, x0, x1, x2, x3⟩ := (HV.out.keep HB.out).at r s hs
      have HT := Lib.hid (arS_push hs)
      have HIS := HI.out s (List.mem_of_getElem? hs)
      have hN := HSm.out r
      have hE := arE_in HIS
      have hED : Hid (∀ w, Calls Try.prog 25 #[.agg #[.int .i64 s.a.x, .int .i64 s.a.y], .agg #[.int .i64 s.b.x, .int .i64 s.b.y]] w fun e w' => e = .returned (.int .i64 (arE s)) ∧ Below w.heap.size w w') :=
        Lib.hid (fun w => cross_any _ _ _ _ (by obtain ⟨⟨h0, h1⟩, h2, h3⟩ := HIS; omega) w)
      generalize arE s = T at *
      generalize arS (es.take r) = M at *
      obtain ⟨⟨s0, s1⟩, s2, s3⟩ := s
      simp only [] at x0 x1 x2 x3 hED
      have HB1 := Lib.hid (HB.out.alloc HB.out.size (.cells #[.int .i64 s0, .int .i64 s1, .int .i64 s2, .int .i64 s3] 37))
      clear hs HIS HB
      go_wp2_with fail
      refine (hED.out _).mono ?_
      rintro e w2 ⟨rfl, hb2⟩
      have HB2 := Lib.hid (HB1.out.trans (hb2.mono HB1.out.size))
      clear hb2 hED HB1
      go_wp2_with fail
      exact ⟨⟨r + 1, by omega, by go_num, by rw [HT.out], HB2⟩, by simp [intOf]; omega⟩
    · obtain rfl : r = n := by omega
      have HF : Hid (arS (es.take r) = arS es) := Lib.hid (by rw [List.take_of_length_le (by rw [HN.out]; exact Nat.le_refl _)])
      rw [HF.out]
      go_wp2
      go_ret
      exact ⟨rfl, HB.out⟩

theorem cr_steps {s0 s1 s2 s3 p0 p1 : Int} (h : InE s0 s1 s2 s3 p0 p1) : ∃ u0 v1 u1 v0 x y c : Int, IntKind.i64.wrap (s2 - s0) = u0 ∧ IntKind.i64.wrap (p1 - s1) = v1 ∧ IntKind.i64.wrap (u0 * v1) = x ∧ IntKind.i64.wrap (s3 - s1) = u1 ∧ IntKind.i64.wrap (p0 - s0) = v0 ∧ IntKind.i64.wrap (u1 * v0) = y ∧ IntKind.i64.wrap (x - y) = c ∧ c = crE ⟨⟨s0, s1⟩, s2, s3⟩ ⟨p0, p1⟩ := by
  obtain ⟨⟨ha0, ha1⟩, ⟨hb0, hb1⟩, ⟨hp0, hp1⟩⟩ := h
  have h1 : (s2 - s0).natAbs ≤ 16384 := by omega
  have h2 : (s3 - s1).natAbs ≤ 16384 := by omega
  have h3 : (p0 - s0).natAbs ≤ 40960 := by omega
  have h4 : (p1 - s1).natAbs ≤ 40960 := by omega
  have g1 := mulB h1 h4
  have g2 := mulB h2 h3
  exact ⟨s2 - s0, p1 - s1, s3 - s1, p0 - s0, _, _, _, wI (by omega) (by omega), wI (by omega) (by omega), wI (by omega) (by omega), wI (by omega) (by omega), wI (by omega) (by omega), wI (by omega) (by omega), wI (by omega) (by omega), rfl⟩

set_option maxRecDepth 100000 in
set_option maxHeartbeats 3200000 in
theorem lnumber_any (v : Value) (es : List Ed) (p0 p1 : Int) (w : World) (hv : ERd w v es) (hl : es.length ≤ 200000) (hin : ∀ s ∈ es, InD s) (hp : InP ⟨p0, p1⟩) :
    Calls Try.prog 13 #[v, .agg #[.int .i64 p0, .int .i64 p1]] w fun e w' => e = .returned (.int .i64 (numS es ⟨p0, p1⟩)) ∧ Below w.heap.size w w' := by
  have HV := Lib.hid hv
  have HI := Lib.hid hin
  have HP := Lib.hid hp
  have HSm := Lib.hid (fun r => numS_small hl r ⟨p0, p1⟩)
  obtain ⟨A, cap, rfl, hc, -⟩ := hv
  obtain ⟨n, hn⟩ : ∃ n : Nat, es.length = n := ⟨_, rfl⟩
  rw [hn] at HV hl hc
  rw [hn]
  have HN := Lib.hid hn
  have HB0 := Lib.hid ((Below.refl _ w).alloc (Nat.le_refl _) (.cells #[.int .i64 p0, .int .i64 p1] 31))
  have HP0 := Lib.hid (Blk.new w 31 [.int .i64 p0, .int .i64 p1] rfl)
  clear hn hin hp
  go_enter Try.func13, Try.ntmps13
  go_wp2_with fail
  go_loopw [11, 5] (fun i u wr => ∃ r : Nat, r ≤ n ∧ i = .int .i64 r ∧ u = .int .i64 (numS (es.take r) ⟨p0, p1⟩) ∧ Hid (Blk wr w.heap.size 31 [.int .i64 p0, .int .i64 p1]) ∧ Hid (Below w.heap.size w wr)) (fun i _ _ => n - (intOf i).toNat)
  case atStart => exact ⟨0, Nat.zero_le _, rfl, rfl, HP0, HB0⟩
  case round =>
    obtain ⟨r, hr, rfl, rfl, HPb, HB⟩ := hrel
    by_cases hrn : r < n
    · have hrb : decide ((r : Int) < n) = true := by simp; omega
      obtain ⟨s, hs⟩ : ∃ s, es[r]? = some s := ⟨_, List.getElem?_eq_getElem (by rw [HN.out]; exact hrn)⟩
      obtain ⟨a, rfl, ha, x0, x1, x2, x3⟩ := (HV.out.keep HB.out).at r s hs
      have HT := Lib.hid (numS_push ⟨p0, p1⟩ hs)
      have HIS := HI.out s (List.mem_of_getElem? hs)
      have q0 := HPb.out.cell 0 rfl
      have q1 := HPb.out.cell 1 rfl
      have qn := HPb.out.lt
      have hN := HSm.out r
      obtain ⟨⟨s0, s1⟩, s2, s3⟩ := s
      simp only [] at x0 x1 x2 x3
      obtain ⟨u0, v1, u1, v0, x, y, c, k1, k2, k3, k4, k5, k6, k7, hcr⟩ := cr_steps (show InE s0 s1 s2 s3 p0 p1 from ⟨HIS.1, HIS.2, HP.out⟩)
      have HB1 := Lib.hid (HB.out.alloc HB.out.size (.cells #[.int .i64 s0, .int .i64 s1, .int .i64 s2, .int .i64 s3] 37))
      have HP1 := Lib.hid (HPb.out.alloc (.cells #[.int .i64 s0, .int .i64 s1, .int .i64 s2, .int .i64 s3] 37))
      have HT2 : Hid (numS (es.take (r + 1)) ⟨p0, p1⟩ = numS (es.take r) ⟨p0, p1⟩ + ((if s1 ≤ p1 ∧ p1 < s3 ∧ 0 < c then 1 else 0) - if s3 ≤ p1 ∧ p1 < s1 ∧ c < 0 then 1 else 0)) := Lib.hid (by rw [HT.out, hcr]; rfl)
      generalize numS (es.take r) ⟨p0, p1⟩ = M at *
      clear hs HIS HP0 HB0 HPb HB HT hcr
      by_cases z1 : s1 ≤ p1 ∧ p1 < s3 ∧ 0 < c
      · have z2 : ¬ (s3 ≤ p1 ∧ p1 < s1 ∧ c < 0) := by omega
        have HT3 : Hid (numS (es.take (r + 1)) ⟨p0, p1⟩ = M + 1) := Lib.hid (by rw [HT2.out, if_pos z1, if_neg z2]; omega)
        obtain ⟨z3, z4, z5⟩ := z1
        have z6 : ¬ p1 < s1 := by omega
        have z7 : ¬ s3 ≤ p1 := by omega
        have z8 : ¬ c < 0 := by omega
        clear z2
        go_wp2_with fail
        exact ⟨⟨r + 1, by omega, by go_num, by rw [HT3.out], HP1, HB1⟩, by simp [intOf]; omega⟩
      · by_cases z2 : s3 ≤ p1 ∧ p1 < s1 ∧ c < 0
        · have HT3 : Hid (numS (es.take (r + 1)) ⟨p0, p1⟩ = M - 1) := Lib.hid (by rw [HT2.out, if_neg z1, if_pos z2]; omega)
          obtain ⟨z3, z4, z5⟩ := z2
          have z6 : ¬ p1 < s3 := by omega
          have z7 : ¬ s1 ≤ p1 := by omega
          have z8 : ¬ 0 < c := by omega
          clear z1
          go_wp2_with fail
          exact ⟨⟨r + 1, by omega, by go_num, by rw [HT3.out], HP1, HB1⟩, by simp [intOf]; omega⟩
        · have HT3 : Hid (numS (es.take (r + 1)) ⟨p0, p1⟩ = M) := Lib.hid (by rw [HT2.out, if_neg z1, if_neg z2]; omega)
          have z1' : (decide (s1 ≤ p1) && decide (p1 < s3) && decide (0 < c)) = false := by simp; omega
          have z2' : (decide (s3 ≤ p1) && decide (p1 < s1) && decide (c < 0)) = false := by simp; omega
          go_wp2_with fail
          all_goals exact ⟨⟨r + 1, by omega, by go_num, by rw [HT3.out], HP1, HB1⟩, by simp [intOf]; omega⟩
    · obtain rfl : r = n := by omega
      have HF : Hid (numS (es.take r) ⟨p0, p1⟩ = numS es ⟨p0, p1⟩) := Lib.hid (by rw [List.take_of_length_le (by rw [HN.out]; exact Nat.le_refl _)])
      rw [HF.out]
      clear HP0 HB0
      go_wp2
      go_ret
      exact ⟨rfl, HB.out⟩

end Go.Proofs.Ytglmgenifjaakaa
