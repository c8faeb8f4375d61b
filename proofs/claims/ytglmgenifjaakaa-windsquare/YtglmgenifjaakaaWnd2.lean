/-
  What wind.Number, On, In and Area do to any world (no claim is made here).
-/
import Derived.Test.YtglmgenifjaakaaWnd1
import Derived.Test.YtglmgenifjaakaaFlt3
namespace Go.Proofs.Ytglmgenifjaakaa
open Go.RowKit

theorem numS_push {es : List Ed} {r : Nat} {s : Ed} (p : Pt) (h : es[r]? = some s) : numS (es.take (r + 1)) p = numS (es.take r) p + numE s p := by
  rw [take_next h, numS_append, numS_cons]; simp [numS]
theorem numS_small {es : List Ed} (h : es.length ≤ 200000) (r : Nat) (p : Pt) : -200000 ≤ numS (es.take r) p ∧ numS (es.take r) p ≤ 200000 := by
  have h1 := numS_in (es.take r) p
  have h2 : (es.take r).length ≤ es.length := by rw [List.length_take]; exact Nat.min_le_right _ _
  omega

set_option maxHeartbeats 1600000 in
theorem number_any (v : Value) (es : List Ed) (p0 p1 : Int) (w : World) (hv : ERd w v es) (hl : es.length ≤ 200000) (hin : ∀ s ∈ es, InD s) (hp : InP ⟨p0, p1⟩) :
    Calls Try.prog 12 #[v, .agg #[.int .i64 p0, .int .i64 p1]] w fun e w' => e = .returned (.int .i64 (numS es ⟨p0, p1⟩)) ∧ Below w.heap.size w w' := by
  have HV := Lib.hid hv
  have HI := Lib.hid hin
  have HP := Lib.hid hp
  have HSm := Lib.hid (fun r => numS_small hl r ⟨p0, p1⟩)
  obtain ⟨A, cap, rfl, hc, -⟩ := hv
  obtain ⟨n, hn⟩ : ∃ n : Nat, es.length = n := ⟨_, rfl⟩
  rw [hn] at HV hl hc
  rw [hn]
  have HN := Lib.hid hn
  have HB0 := Lib.hid ((Below.refl _ w).alloc (Nat.le_refl _) (.cells #[.int .i64 p0, .int .i64 p1] 31))
  have HP0 := Lib.hid (Blk.new w 31 [.int .i64 p0, .int .i64 p1] rfl)
  clear hn hin hp
  go_enter Try.func12, Try.ntmps12
  go_wp2_with fail
  go_loopw [10, 5] (fun i u wr => ∃ r : Nat, r ≤ n ∧ i = .int .i64 r ∧ u = .int .i64 (numS (es.take r) ⟨p0, p1⟩) ∧ Hid (Blk wr w.heap.size 31 [.int .i64 p0, .int .i64 p1]) ∧ Hid (Below w.heap.size w wr)) (fun i _ _ => n - (intOf i).toNat)
  case atStart => exact ⟨0, Nat.zero_le _, rfl, rfl, HP0, HB0⟩
  case round =>
    obtain ⟨r, hr, rfl, rfl, HPb, HB⟩ := hrel
    by_cases hrn : r < n
    · have hrb : decide ((r : Int) < n) = true := by simp; omega
      obtain ⟨s, hs⟩ : ∃ s, es[r]? = some s := ⟨_, List.getElem?_eq_getElem (by rw [HN.out]; exact hrn)⟩
      obtain ⟨a, rfl, ha, x0, x1, x2, x3⟩ := (HV.out.keep HB.out).at r s hs
      have HT := Lib.hid (numS_push ⟨p0, p1⟩ hs)
      have HIS := HI.out s (List.mem_of_getElem? hs)
      have q0 := HPb.out.cell 0 rfl
      have q1 := HPb.out.cell 1 rfl
      have qn := HPb.out.lt
      have hN := HSm.out r
      have hE := numE_in s ⟨p0, p1⟩
      obtain ⟨⟨s0, s1⟩, s2, s3⟩ := s
      simp only [] at x0 x1 x2 x3
      have HC := Lib.hid (fun w => turn_any s0 s1 s2 s3 p0 p1 ⟨HIS.1, HIS.2, HP.out⟩ w)
      have HB1 := Lib.hid (HB.out.alloc HB.out.size (.cells #[.int .i64 s0, .int .i64 s1, .int .i64 s2, .int .i64 s3] 37))
      have HP1 := Lib.hid (HPb.out.alloc (.cells #[.int .i64 s0, .int .i64 s1, .int .i64 s2, .int .i64 s3] 37))
      generalize numE ⟨⟨s0, s1⟩, s2, s3⟩ ⟨p0, p1⟩ = T at *
      generalize numS (es.take r) ⟨p0, p1⟩ = M at *
      clear hs HIS HP0 HB0 HPb HB
      go_wp2_with fail
      refine (HC.out _).mono ?_
      rintro e w2 ⟨rfl, hb2⟩
      have HP2 := Lib.hid (HP1.out.keep hb2)
      have HB2 := Lib.hid (HB1.out.trans (hb2.mono HB1.out.size))
      clear hb2 HC HP1 HB1
      go_wp2_with fail
      exact ⟨⟨r + 1, by omega, by go_num, by rw [HT.out], HP2, HB2⟩, by simp [intOf]; omega⟩
    · obtain rfl : r = n := by omega
      have HF : Hid (numS (es.take r) ⟨p0, p1⟩ = numS es ⟨p0, p1⟩) := Lib.hid (by rw [List.take_of_length_le (by rw [HN.out]; exact Nat.le_refl _)])
      rw [HF.out]
      clear HP0 HB0
      go_wp2
      go_ret
      exact ⟨rfl, HB.out⟩

theorem onS_push {es : List Ed} {r : Nat} {s : Ed} (p : Pt) (h : es[r]? = some s) : onS (es.take (r + 1)) p = (onS (es.take r) p || decide (onE s p)) := by
  rw [take_next h, onS_append]; simp [onS]
theorem onS_hit {es : List Ed} {r : Nat} {s : Ed} {p : Pt} (h : es[r]? = some s) (hs : onE s p) : onS es p = true := by
  unfold onS; rw [List.any_eq_true]; exact ⟨s, List.mem_of_getElem? h, by simp [hs]⟩

set_option maxHeartbeats 1600000 in
theorem on_any (v : Value) (es : List Ed) (p0 p1 : Int) (w : World) (hv : ERd w v es) (hl : es.length ≤ 200000) (hin : ∀ s ∈ es, InD s) (hp : InP ⟨p0, p1⟩) :
    Calls Try.prog 14 #[v, .agg #[.int .i64 p0, .int .i64 p1]] w fun e w' => e = .returned (.bool (onS es ⟨p0, p1⟩)) ∧ Below w.heap.size w w' := by
  have HV := Lib.hid hv
  have HI := Lib.hid hin
  have HP := Lib.hid hp
  obtain ⟨A, cap, rfl, hc, -⟩ := hv
  obtain ⟨n, hn⟩ : ∃ n : Nat, es.length = n := ⟨_, rfl⟩
  rw [hn] at HV hl hc
  rw [hn]
  have HN := Lib.hid hn
  have HB0 := Lib.hid ((Below.refl _ w).alloc (Nat.le_refl _) (.cells #[.int .i64 p0, .int .i64 p1] 31))
  have HP0 := Lib.hid (Blk.new w 31 [.int .i64 p0, .int .i64 p1] rfl)
  clear hn hin hp
  go_enter Try.func14, Try.ntmps14
  go_wp2_with fail
  go_loopw [9] (fun i wr => ∃ r : Nat, r ≤ n ∧ i = .int .i64 r ∧ Hid (onS (es.take r) ⟨p0, p1⟩ = false) ∧ Hid (Blk wr w.heap.size 31 [.int .i64 p0, .int .i64 p1]) ∧ Hid (Below w.heap.size w wr)) (fun i _ => n - (intOf i).toNat)
  case atStart => exact ⟨0, Nat.zero_le _, rfl, Lib.hid rfl, HP0, HB0⟩
  case round =>
    obtain ⟨r, hr, rfl, HO, HPb, HB⟩ := hrel
    by_cases hrn : r < n
    · have hrb : decide ((r : Int) < n) = true := by simp; omega
      obtain ⟨s, hs⟩ : ∃ s, es[r]? = some s := ⟨_, List.getElem?_eq_getElem (by rw [HN.out]; exact hrn)⟩
      obtain ⟨a, rfl, ha, x0, x1, x2, x3⟩ := (HV.out.keep HB.out).at r s hs
      have HT := Lib.hid (onS_push ⟨p0, p1⟩ hs)
      have HH := Lib.hid (onS_hit (p := ⟨p0, p1⟩) hs)
      have HIS := HI.out s (List.mem_of_getElem? hs)
      have q0 := HPb.out.cell 0 rfl
      have q1 := HPb.out.cell 1 rfl
      have qn := HPb.out.lt
      have HQ := Lib.hid (on_square s ⟨p0, p1⟩)
      obtain ⟨⟨s0, s1⟩, s2, s3⟩ := s
      simp only [] at x0 x1 x2 x3
      have hC := fun w => square_any s0 s1 s2 s3 p0 p1 ⟨HIS.1, HIS.2, HP.out⟩ w
      generalize (squareV (s2 - s0) (s3 - s1) (p0 - s0) (p1 - s1)) = V at *
      obtain ⟨V1, V2⟩ := V
      have HC := Lib.hid hC
      have HB1 := Lib.hid (HB.out.alloc HB.out.size (.cells #[.int .i64 s0, .int .i64 s1, .int .i64 s2, .int .i64 s3] 37))
      have HP1 := Lib.hid (HPb.out.alloc (.cells #[.int .i64 s0, .int .i64 s1, .int .i64 s2, .int .i64 s3] 37))
      have hfl : ∀ w : World, Sem.run Try.prog (Instr.field 56 (.agg #[.int .i64 V1, .int .i64 V2]) 0) w = .ok (.int .i64 V1) w := fun w => rfl
      clear hs HIS HP0 HB0 HPb HB hC
      go_wp2_with fail
      refine (HC.out _).mono ?_
      rintro e w2 ⟨rfl, hb2⟩
      have HP2 := Lib.hid (HP1.out.keep hb2)
      have HB2 := Lib.hid (HB1.out.trans (hb2.mono HB1.out.size))
      clear hb2 HC HP1 HB1
      by_cases hz : V1 = 0
      · subst hz
        have HE := Lib.hid (HH.out (HQ.out.1 rfl))
        clear HQ
        go_wp2
        go_ret
        exact ⟨by rw [HE.out]; rfl, HB2.out⟩
      · have hz' : (V1 == 0) = false := by simp; omega
        have HE : Hid (onS (es.take (r + 1)) ⟨p0, p1⟩ = false) := Lib.hid (by
          rw [HT.out, HO.out, Bool.false_or]
          exact decide_eq_false fun h => hz (HQ.out.2 h))
        clear HQ
        go_wp2_with fail
        exact ⟨⟨r + 1, by omega, by go_num, HE, HP2, HB2⟩, by simp [intOf]; omega⟩
    · obtain rfl : r = n := by omega
      have HF : Hid (onS es ⟨p0, p1⟩ = false) := Lib.hid (by have h := HO.out; rwa [List.take_of_length_le (by rw [HN.out]; exact Nat.le_refl _)] at h)
      clear HP0 HB0
      go_wp2
      go_ret
      exact ⟨by rw [HF.out]; rfl, HB.out⟩

set_option maxHeartbeats 1600000 in
theorem in_any (v : Value) (es : List Ed) (p0 p1 : Int) (w : World) (hv : ERd w v es) (hl : es.length ≤ 200000) (hin : ∀ s ∈ es, InD s) (hp : InP ⟨p0, p1⟩) :
    Calls Try.prog 16 #[v, .agg #[.int .i64 p0, .int .i64 p1]] w fun e w' => e = .returned (.bool (!(numS es ⟨p0, p1⟩ == 0) || onS es ⟨p0, p1⟩)) ∧ Below w.heap.size w w' := by
  have HV := Lib.hid hv
  have HI := Lib.hid hin
  have HP := Lib.hid hp
  have HB0 := Lib.hid ((Below.refl _ w).alloc (Nat.le_refl _) (.cells #[.int .i64 p0, .int .i64 p1] 31))
  have HP0 := Lib.hid (Blk.new w 31 [.int .i64 p0, .int .i64 p1] rfl)
  have HC := Lib.hid (number_any v es p0 p1 _ (hv.keep HB0.out) hl hin hp)
  have HD := Lib.hid (fun w (h : ERd w v es) => on_any v es p0 p1 w h hl hin hp)
  obtain ⟨A, cap, rfl, hc, -⟩ := hv
  clear hin hp
  generalize numS es ⟨p0, p1⟩ = M at *
  generalize onS es ⟨p0, p1⟩ = O at *
  go_enter Try.func16, Try.ntmps16
  go_wp2_with fail
  refine HC.out.mono ?_
  rintro e w2 ⟨rfl, hb2⟩
  have HP2 := Lib.hid (HP0.out.keep hb2)
  have HB2 := Lib.hid (HB0.out.trans (hb2.mono HB0.out.size))
  have HV2 := Lib.hid (HV.out.keep HB2.out)
  have q0 := HP2.out.cell 0 rfl
  have q1 := HP2.out.cell 1 rfl
  have qn := HP2.out.lt
  clear hb2 HC HP0 HB0
  by_cases hz : M = 0
  · subst hz
    go_wp2_with fail
    refine (HD.out _ HV2.out).mono ?_
    rintro e w3 ⟨rfl, hb3⟩
    have HB3 := Lib.hid (HB2.out.trans (hb3.mono HB2.out.size))
    clear hb3
    go_wp2
    go_ret
    exact ⟨by simp, HB3.out⟩
  · have hz' : (M == 0) = false := by simp; omega
    go_wp2
    go_ret
    exact ⟨by simp [hz'], HB2.out⟩

end Go.Proofs.Ytglmgenifjaakaa
