/-
  Wnd1 Wnd2 Wnd3 Place1 Wnd4 Wnd5 Wnd6 in one text (no claim is made here).
-/
import Derived.Test.YteiildeaccngjaaMwid
import Derived.Test.YteiildeaccngjaaMth
import Derived.Test.YteiildeaccngjaaMdot
import Derived.Test.YteiildeaccngjaaMpth
import Derived.Test.YteiildeaccngjaaMflt
namespace Go.Proofs.Yteiildeaccngjaa
open Go.RowKit

set_option maxHeartbeats 800000 in
set_option maxRecDepth 100000 in
theorem turn_raw (a0 a1 b0 b1 p0 p1 s r : Int)
    (HS : Hid (∀ w, Calls Try.prog 71 #[.agg #[.int .i64 a0, .int .i64 a1, .int .i64 b0, .int .i64 b1], .agg #[.int .i64 p0, .int .i64 p1]] w fun e w' => e = .returned (.int .i64 s) ∧ Below w.heap.size w w'))
    (hr : Hid (r = if a1 ≤ p1 ∧ p1 < b1 ∧ s = 1 then 1 else if p1 < a1 ∧ b1 ≤ p1 ∧ s = -1 then -1 else 0)) (w : World) :
    Calls Try.prog 55 #[.agg #[.int .i64 a0, .int .i64 a1, .int .i64 b0, .int .i64 b1], .agg #[.int .i64 p0, .int .i64 p1]] w fun e w' => e = .returned (.int .i64 r) ∧ Below w.heap.size w w' := by
  by_cases h1 : p1 < a1 <;> by_cases h2 : p1 < b1
  · obtain rfl : r = 0 := by rw [hr.out, if_neg (by omega), if_neg (by omega)]
    clear hr HS
    go_enter Try.func55, Try.ntmps55
    go_wp2_with fail
    go_region
    go_wp2
    go_ret
    exact ⟨rfl, (alloc2 _ _ _).drew⟩
  · have d2 : decide (p1 < b1) = false := by simp; omega
    go_enter Try.func55, Try.ntmps55
    go_wp2_with fail
    go_region
    go_wp2_with fail
    refine (HS.out _).mono ?_
    rintro e w1 ⟨rfl, hb1⟩
    have HB := Lib.hid (below2 (alloc2 _ _ _) (undrew hb1))
    clear hb1
    by_cases h3 : s = -1
    · obtain rfl : r = -1 := by rw [hr.out, if_neg (by omega), if_pos (by omega)]
      subst h3
      clear hr HS
      go_wp2
      all_goals
        go_ret
        exact ⟨rfl, HB.out⟩
    · obtain rfl : r = 0 := by rw [hr.out, if_neg (by omega), if_neg (by omega)]
      have d4 : (s == -1) = false := by simp; omega
      clear hr HS
      go_wp2
      all_goals
        go_ret
        exact ⟨rfl, HB.out⟩
  · go_enter Try.func55, Try.ntmps55
    go_wp2_with fail
    go_region
    go_wp2_with fail
    refine (HS.out _).mono ?_
    rintro e w1 ⟨rfl, hb1⟩
    have HB := Lib.hid (below2 (alloc2 _ _ _) (undrew hb1))
    clear hb1
    have d1 : decide (p1 < a1) = false := by simp; omega
    have d2 : decide (p1 < b1) = true := by simp; omega
    by_cases h3 : s = 1
    · obtain rfl : r = 1 := by rw [hr.out, if_pos (by omega)]
      subst h3
      clear hr HS
      go_wp2
      all_goals
        go_ret
        exact ⟨rfl, HB.out⟩
    · obtain rfl : r = 0 := by rw [hr.out, if_neg (by omega), if_neg (by omega)]
      have d3 : (s == 1) = false := by simp; omega
      have d4 : ¬ (1 : Int) = s := by omega
      clear hr HS
      go_wp2
      all_goals
        go_ret
        exact ⟨rfl, HB.out⟩
  · obtain rfl : r = 0 := by rw [hr.out, if_neg (by omega), if_neg (by omega)]
    clear hr HS
    go_enter Try.func55, Try.ntmps55
    go_wp2_with fail
    go_region
    go_wp2
    go_ret
    exact ⟨rfl, (alloc2 _ _ _).drew⟩

theorem side_is (e : Ed) (p : Pt) : numE e p = if e.a.y ≤ p.y ∧ p.y < e.b.y ∧ sideV (e.b.x - e.a.x) (e.b.y - e.a.y) (p.x - e.a.x) (p.y - e.a.y) = 1 then 1 else if p.y < e.a.y ∧ e.b.y ≤ p.y ∧ sideV (e.b.x - e.a.x) (e.b.y - e.a.y) (p.x - e.a.x) (p.y - e.a.y) = -1 then -1 else 0 := by
  unfold numE upE downE
  have e1 : (sideV (e.b.x - e.a.x) (e.b.y - e.a.y) (p.x - e.a.x) (p.y - e.a.y) = 1 ↔ 0 < crE e p) ∧ (sideV (e.b.x - e.a.x) (e.b.y - e.a.y) (p.x - e.a.x) (p.y - e.a.y) = -1 ↔ crE e p < 0) := by
    unfold sideV crE
    split
    · omega
    · split <;> omega
  simp only [e1.1, e1.2]
  generalize crE e p = c
  split <;> split <;> (try split) <;> omega

/-- The bounds of layer 3, of edges and a point. -/
def InP (p : Pt) : Prop := p.x.natAbs ≤ 32768 ∧ p.y.natAbs ≤ 32768
def InD (e : Ed) : Prop := (e.a.x.natAbs ≤ 8192 ∧ e.a.y.natAbs ≤ 8192) ∧ (e.b.x.natAbs ≤ 8192 ∧ e.b.y.natAbs ≤ 8192)

theorem turn_any (a0 a1 b0 b1 p0 p1 : Int) (h : InE a0 a1 b0 b1 p0 p1) (w : World) :
    Calls Try.prog 55 #[.agg #[.int .i64 a0, .int .i64 a1, .int .i64 b0, .int .i64 b1], .agg #[.int .i64 p0, .int .i64 p1]] w fun e w' => e = .returned (.int .i64 (numE ⟨⟨a0, a1⟩, ⟨b0, b1⟩⟩ ⟨p0, p1⟩)) ∧ Below w.heap.size w w' :=
  turn_raw a0 a1 b0 b1 p0 p1 _ _ (Lib.hid fun w => side_any a0 a1 b0 b1 p0 p1 h w) (Lib.hid (side_is ⟨⟨a0, a1⟩, ⟨b0, b1⟩⟩ ⟨p0, p1⟩)) w

end Go.Proofs.Yteiildeaccngjaa

namespace Go.Proofs.Yteiildeaccngjaa
open Go.RowKit

theorem numS_push {es : List Ed} {r : Nat} {s : Ed} (p : Pt) (h : es[r]? = some s) : numS (es.take (r + 1)) p = numS (es.take r) p + numE s p := by
  rw [take_next h, numS_append, numS_cons]; simp [numS]
theorem numS_small {es : List Ed} (h : es.length ≤ 200000) (r : Nat) (p : Pt) : -200000 ≤ numS (es.take r) p ∧ numS (es.take r) p ≤ 200000 := by
  have h1 := numS_in (es.take r) p
  have h2 : (es.take r).length ≤ es.length := by rw [List.length_take]; exact Nat.min_le_right _ _
  omega

set_option maxHeartbeats 1600000 in
set_option maxRecDepth 100000 in
theorem number_any (v : Value) (es : List Ed) (p0 p1 : Int) (w : World) (hv : ERd w v es) (hl : es.length ≤ 200000) (hin : ∀ s ∈ es, InD s) (hp : InP ⟨p0, p1⟩) :
    Calls Try.prog 38 #[v, .agg #[.int .i64 p0, .int .i64 p1]] w fun e w' => e = .returned (.int .i64 (numS es ⟨p0, p1⟩)) ∧ Below w.heap.size w w' := by
  have HV := Lib.hid hv
  have HI := Lib.hid hin
  have HP := Lib.hid hp
  have HSm := Lib.hid (fun r => numS_small hl r ⟨p0, p1⟩)
  obtain ⟨A, cap, rfl, hc, -⟩ := hv
  obtain ⟨n, hn⟩ : ∃ n : Nat, es.length = n := ⟨_, rfl⟩
  rw [hn] at HV hl hc
  rw [hn]
  have HN := Lib.hid hn
  have HB0 := Lib.hid ((Below.refl _ w).alloc (Nat.le_refl _) (.cells #[.int .i64 p0, .int .i64 p1] 41))
  have HP0 := Lib.hid (Blk.new w 41 [.int .i64 p0, .int .i64 p1] rfl)
  clear hn hin hp
  go_enter Try.func38, Try.ntmps38
  go_wp2_with fail
  go_loopw [10, 5] (fun i u wr => ∃ r : Nat, r ≤ n ∧ i = .int .i64 r ∧ u = .int .i64 (numS (es.take r) ⟨p0, p1⟩) ∧ Hid (Blk wr w.heap.size 41 [.int .i64 p0, .int .i64 p1]) ∧ Hid (Below w.heap.size w wr)) (fun i _ _ => n - (intOf i).toNat)
  case atStart => exact ⟨0, Nat.zero_le _, rfl, rfl, HP0, HB0⟩
  case round =>
    obtain ⟨r, hr, rfl, rfl, HPb, HB⟩ := hrel
    by_cases hrn : r < n
    · have hrb : decide ((r : Int) < n) = true := by simp; omega
      obtain ⟨s, hs⟩ : ∃ s, es[r]? = some s := ⟨_, List.getElem?_eq_getElem (by rw [HN.out]; exact hrn)⟩
      obtain ⟨a, rfl, ha, x0, x1, x2, x3⟩ := (HV.out.keep HB.out).at r s hs
      have HT := Lib.hid (numS_push ⟨p0, p1⟩ hs)
      have HIS := HI.out s (List.mem_of_getElem? hs)
      have q0 := HPb.out.cell 0 rfl
      have q1 := HPb.out.cell 1 rfl
      have qn := HPb.out.lt
      have hN := HSm.out r
      have hE := numE_in s ⟨p0, p1⟩
      obtain ⟨⟨s0, s1⟩, s2, s3⟩ := s
      simp only [] at x0 x1 x2 x3
      have HC := Lib.hid (fun w => turn_any s0 s1 s2 s3 p0 p1 ⟨HIS.1, HIS.2, HP.out⟩ w)
      have HB1 := Lib.hid (HB.out.alloc HB.out.size (.cells #[.int .i64 s0, .int .i64 s1, .int .i64 s2, .int .i64 s3] 50))
      have HP1 := Lib.hid (HPb.out.alloc (.cells #[.int .i64 s0, .int .i64 s1, .int .i64 s2, .int .i64 s3] 50))
      generalize numE ⟨⟨s0, s1⟩, s2, s3⟩ ⟨p0, p1⟩ = T at *
      generalize numS (es.take r) ⟨p0, p1⟩ = M at *
      clear hs HIS HP0 HB0 HPb HB
      go_wp2_with fail
      refine (HC.out _).mono ?_
      rintro e w2 ⟨rfl, hb2⟩
      have HP2 := Lib.hid (HP1.out.keep hb2)
      have HB2 := Lib.hid (HB1.out.trans (hb2.mono HB1.out.size))
      clear hb2 HC HP1 HB1
      go_wp2_with fail
      exact ⟨⟨r + 1, by omega, by go_num, by rw [HT.out], HP2, HB2⟩, by simp [intOf]; omega⟩
    · obtain rfl : r = n := by omega
      have HF : Hid (numS (es.take r) ⟨p0, p1⟩ = numS es ⟨p0, p1⟩) := Lib.hid (by rw [List.take_of_length_le (by rw [HN.out]; exact Nat.le_refl _)])
      rw [HF.out]
      clear HP0 HB0
      go_wp2
      go_ret
      exact ⟨rfl, HB.out⟩

theorem onS_push {es : List Ed} {r : Nat} {s : Ed} (p : Pt) (h : es[r]? = some s) : onS (es.take (r + 1)) p = (onS (es.take r) p || decide (onE s p)) := by
  rw [take_next h, onS_append]; simp [onS]
theorem onS_hit {es : List Ed} {r : Nat} {s : Ed} {p : Pt} (h : es[r]? = some s) (hs : onE s p) : onS es p = true := by
  unfold onS; rw [List.any_eq_true]; exact ⟨s, List.mem_of_getElem? h, by simp [hs]⟩

set_option maxHeartbeats 1600000 in
set_option maxRecDepth 100000 in
theorem on_any (v : Value) (es : List Ed) (p0 p1 : Int) (w : World) (hv : ERd w v es) (hl : es.length ≤ 200000) (hin : ∀ s ∈ es, InD s) (hp : InP ⟨p0, p1⟩) :
    Calls Try.prog 37 #[v, .agg #[.int .i64 p0, .int .i64 p1]] w fun e w' => e = .returned (.bool (onS es ⟨p0, p1⟩)) ∧ Below w.heap.size w w' := by
  have HV := Lib.hid hv
  have HI := Lib.hid hin
  have HP := Lib.hid hp
  obtain ⟨A, cap, rfl, hc, -⟩ := hv
  obtain ⟨n, hn⟩ : ∃ n : Nat, es.length = n := ⟨_, rfl⟩
  rw [hn] at HV hl hc
  rw [hn]
  have HN := Lib.hid hn
  have HB0 := Lib.hid ((Below.refl _ w).alloc (Nat.le_refl _) (.cells #[.int .i64 p0, .int .i64 p1] 41))
  have HP0 := Lib.hid (Blk.new w 41 [.int .i64 p0, .int .i64 p1] rfl)
  clear hn hin hp
  go_enter Try.func37, Try.ntmps37
  go_wp2_with fail
  go_loopw [9] (fun i wr => ∃ r : Nat, r ≤ n ∧ i = .int .i64 r ∧ Hid (onS (es.take r) ⟨p0, p1⟩ = false) ∧ Hid (Blk wr w.heap.size 41 [.int .i64 p0, .int .i64 p1]) ∧ Hid (Below w.heap.size w wr)) (fun i _ => n - (intOf i).toNat)
  case atStart => exact ⟨0, Nat.zero_le _, rfl, Lib.hid rfl, HP0, HB0⟩
  case round =>
    obtain ⟨r, hr, rfl, HO, HPb, HB⟩ := hrel
    by_cases hrn : r < n
    · have hrb : decide ((r : Int) < n) = true := by simp; omega
      obtain ⟨s, hs⟩ : ∃ s, es[r]? = some s := ⟨_, List.getElem?_eq_getElem (by rw [HN.out]; exact hrn)⟩
      obtain ⟨a, rfl, ha, x0, x1, x2, x3⟩ := (HV.out.keep HB.out).at r s hs
      have HT := Lib.hid (onS_push ⟨p0, p1⟩ hs)
      have HH := Lib.hid (onS_hit (p := ⟨p0, p1⟩) hs)
      have HIS := HI.out s (List.mem_of_getElem? hs)
      have q0 := HPb.out.cell 0 rfl
      have q1 := HPb.out.cell 1 rfl
      have qn := HPb.out.lt
      have HQ := Lib.hid (on_square s ⟨p0, p1⟩)
      obtain ⟨⟨s0, s1⟩, s2, s3⟩ := s
      simp only [] at x0 x1 x2 x3
      have hC := fun w => square_any s0 s1 s2 s3 p0 p1 ⟨HIS.1, HIS.2, HP.out⟩ w
      generalize (squareV (s2 - s0) (s3 - s1) (p0 - s0) (p1 - s1)) = V at *
      obtain ⟨V1, V2⟩ := V
      have HC := Lib.hid hC
      have HB1 := Lib.hid (HB.out.alloc HB.out.size (.cells #[.int .i64 s0, .int .i64 s1, .int .i64 s2, .int .i64 s3] 50))
      have HP1 := Lib.hid (HPb.out.alloc (.cells #[.int .i64 s0, .int .i64 s1, .int .i64 s2, .int .i64 s3] 50))
      have hfl : ∀ w : World, Sem.run Try.prog (Instr.field 47 (.agg #[.int .i64 V1, .int .i64 V2]) 0) w = .ok (.int .i64 V1) w := fun w => rfl
      clear hs HIS HP0 HB0 HPb HB hC
      go_wp2_with fail
      refine (HC.out _).mono ?_
      rintro e w2 ⟨rfl, hb2⟩
      have HP2 := Lib.hid (HP1.out.keep hb2)
      have HB2 := Lib.hid (HB1.out.trans (hb2.mono HB1.out.size))
      clear hb2 HC HP1 HB1
      by_cases hz : V1 = 0
      · subst hz
        have HE := Lib.hid (HH.out (HQ.out.1 rfl))
        clear HQ
        go_wp2
        go_ret
        exact ⟨by rw [HE.out]; rfl, HB2.out⟩
      · have hz' : (V1 == 0) = false := by simp; omega
        have HE : Hid (onS (es.take (r + 1)) ⟨p0, p1⟩ = false) := Lib.hid (by
          rw [HT.out, HO.out, Bool.false_or]
          exact decide_eq_false fun h => hz (HQ.out.2 h))
        clear HQ
        go_wp2_with fail
        exact ⟨⟨r + 1, by omega, by go_num, HE, HP2, HB2⟩, by simp [intOf]; omega⟩
    · obtain rfl : r = n := by omega
      have HF : Hid (onS es ⟨p0, p1⟩ = false) := Lib.hid (by have h := HO.out; rwa [List.take_of_length_le (by rw [HN.out]; exact Nat.le_refl _)] at h)
      clear HP0 HB0
      go_wp2
      go_ret
      exact ⟨by rw [HF.out]; rfl, HB.out⟩

end Go.Proofs.Yteiildeaccngjaa

namespace Go.Proofs.Yteiildeaccngjaa
open Go.RowKit

theorem arS_push {es : List Ed} {r : Nat} {s : Ed} (h : es[r]? = some s) : arS (es.take (r + 1)) = arS (es.take r) + arE s := by
  rw [take_next h, arS_append, arS_cons]; simp [arS]
theorem arE_in {s : Ed} (h : InD s) : -134217728 ≤ arE s ∧ arE s ≤ 134217728 := by
  obtain ⟨⟨h0, h1⟩, h2, h3⟩ := h
  have g1 := mulB h0 h3
  have g2 := mulB h1 h2
  unfold arE
  omega
theorem arS_in : ∀ (l : List Ed), (∀ s ∈ l, InD s) → -134217728 * (l.length : Int) ≤ arS l ∧ arS l ≤ 134217728 * (l.length : Int)
  | [], _ => by simp [arS]
  | s :: l, h => by
    have h1 := arE_in (h s (List.mem_cons_self ..))
    have h2 := arS_in l fun x hx => h x (List.mem_cons_of_mem _ hx)
    rw [arS_cons, List.length_cons]
    omega
theorem arS_small {es : List Ed} (h : es.length ≤ 200000) (hin : ∀ s ∈ es, InD s) (r : Nat) : -26843545600000 ≤ arS (es.take r) ∧ arS (es.take r) ≤ 26843545600000 := by
  have h1 := arS_in (es.take r) fun s hs => hin s (List.mem_of_mem_take hs)
  have h2 : (es.take r).length ≤ es.length := by rw [List.length_take]; exact Nat.min_le_right _ _
  omega

theorem cr_steps {s0 s1 s2 s3 p0 p1 : Int} (h : InE s0 s1 s2 s3 p0 p1) : ∃ u0 v1 u1 v0 x y c : Int, IntKind.i64.wrap (s2 - s0) = u0 ∧ IntKind.i64.wrap (p1 - s1) = v1 ∧ IntKind.i64.wrap (u0 * v1) = x ∧ IntKind.i64.wrap (s3 - s1) = u1 ∧ IntKind.i64.wrap (p0 - s0) = v0 ∧ IntKind.i64.wrap (u1 * v0) = y ∧ IntKind.i64.wrap (x - y) = c ∧ c = crE ⟨⟨s0, s1⟩, s2, s3⟩ ⟨p0, p1⟩ := by
  obtain ⟨⟨ha0, ha1⟩, ⟨hb0, hb1⟩, ⟨hp0, hp1⟩⟩ := h
  have h1 : (s2 - s0).natAbs ≤ 16384 := by omega
  have h2 : (s3 - s1).natAbs ≤ 16384 := by omega
  have h3 : (p0 - s0).natAbs ≤ 40960 := by omega
  have h4 : (p1 - s1).natAbs ≤ 40960 := by omega
  have g1 := mulB h1 h4
  have g2 := mulB h2 h3
  exact ⟨s2 - s0, p1 - s1, s3 - s1, p0 - s0, _, _, _, wI (by omega) (by omega), wI (by omega) (by omega), wI (by omega) (by omega), wI (by omega) (by omega), wI (by omega) (by omega), wI (by omega) (by omega), wI (by omega) (by omega), rfl⟩

end Go.Proofs.Yteiildeaccngjaa

namespace Go.Proofs.Yteiildeaccngjaa
open Go.RowKit

set_option maxHeartbeats 400000 in
set_option maxRecDepth 100000 in
theorem small_any (x y : Int) (hx : x.natAbs ≤ 32768) (hy : y.natAbs ≤ 32768) (w : World) :
    Calls Try.prog 48 #[.agg #[.int .i16 x, .int .i16 y]] w fun e w' => e = .returned (.agg #[.int .i64 (x.tmod 8193), .int .i64 (y.tmod 8193)]) ∧ Below w.heap.size w w' := by
  go_enter Try.func48, Try.ntmps48
  go_wp2
  exact bodyPost_ret (v := .agg #[.int .i64 (x.tmod 8193), .int .i64 (y.tmod 8193)]) (by simp [results, Try.results48, go_sem]) rfl ⟨rfl, alloc2 _ _ _⟩

theorem four_of {w ws W : World} {ga gb : Nat} {a0 a1 b0 b1 : Value} (x0 : ws.cell? ⟨ga, 0, none⟩ = some a0) (x1 : ws.cell? ⟨ga, 1, none⟩ = some a1) (y0 : ws.cell? ⟨gb, 0, none⟩ = some b0) (y1 : ws.cell? ⟨gb, 1, none⟩ = some b1) (h : Below w.heap.size w ws) (hb : Below ws.heap.size ws W) :
    W.cell? ⟨ga, 0, none⟩ = some a0 ∧ W.cell? ⟨ga, 1, none⟩ = some a1 ∧ W.cell? ⟨gb, 0, none⟩ = some b0 ∧ W.cell? ⟨gb, 1, none⟩ = some b1 ∧ Below w.heap.size w W :=
  ⟨keep hb x0, keep hb x1, keep hb y0, keep hb y1, below2 h hb⟩
theorem four_set {w W : World} {ga gb gr : Nat} {a0 a1 b0 b1 : Value} (s0 s1 s2 s3 : Value) (ha : ¬ ga = gr) (hb : ¬ gb = gr) (hg : w.heap.size ≤ gr)
    (h : W.cell? ⟨ga, 0, none⟩ = some a0 ∧ W.cell? ⟨ga, 1, none⟩ = some a1 ∧ W.cell? ⟨gb, 0, none⟩ = some b0 ∧ W.cell? ⟨gb, 1, none⟩ = some b1 ∧ Below w.heap.size w W) :
    ((((W.setCell ⟨gr, 0, none⟩ s0).setCell ⟨gr, 1, none⟩ s1).setCell ⟨gr, 2, none⟩ s2).setCell ⟨gr, 3, none⟩ s3).cell? ⟨ga, 0, none⟩ = some a0 ∧ ((((W.setCell ⟨gr, 0, none⟩ s0).setCell ⟨gr, 1, none⟩ s1).setCell ⟨gr, 2, none⟩ s2).setCell ⟨gr, 3, none⟩ s3).cell? ⟨ga, 1, none⟩ = some a1 ∧
    ((((W.setCell ⟨gr, 0, none⟩ s0).setCell ⟨gr, 1, none⟩ s1).setCell ⟨gr, 2, none⟩ s2).setCell ⟨gr, 3, none⟩ s3).cell? ⟨gb, 0, none⟩ = some b0 ∧ ((((W.setCell ⟨gr, 0, none⟩ s0).setCell ⟨gr, 1, none⟩ s1).setCell ⟨gr, 2, none⟩ s2).setCell ⟨gr, 3, none⟩ s3).cell? ⟨gb, 1, none⟩ = some b1 ∧
    Below w.heap.size w ((((W.setCell ⟨gr, 0, none⟩ s0).setCell ⟨gr, 1, none⟩ s1).setCell ⟨gr, 2, none⟩ s2).setCell ⟨gr, 3, none⟩ s3) := by
  have o : ∀ (W : World) (g i j : Nat) (s : Value), ¬ g = gr → (W.setCell ⟨gr, i, none⟩ s).cell? ⟨g, j, none⟩ = W.cell? ⟨g, j, none⟩ := fun W g i j s hij => World.cell?_setCell_other _ _ _ _ (by intro h; simp only [Addr.mk.injEq] at h; omega)
  refine ⟨?_, ?_, ?_, ?_, (((h.2.2.2.2.setCell hg _).setCell hg _).setCell hg _).setCell hg _⟩
  · rw [o _ _ _ _ _ ha, o _ _ _ _ _ ha, o _ _ _ _ _ ha, o _ _ _ _ _ ha]; exact h.1
  · rw [o _ _ _ _ _ ha, o _ _ _ _ _ ha, o _ _ _ _ _ ha, o _ _ _ _ _ ha]; exact h.2.1
  · rw [o _ _ _ _ _ hb, o _ _ _ _ _ hb, o _ _ _ _ _ hb, o _ _ _ _ _ hb]; exact h.2.2.1
  · rw [o _ _ _ _ _ hb, o _ _ _ _ _ hb, o _ _ _ _ _ hb, o _ _ _ _ _ hb]; exact h.2.2.2.1

/-- A block of four cells that may be written. -/
def FourW (w : World) (g : Nat) (u v x y : Value) : Prop := Four w g u v x y ∧ w.frozen? ⟨g, 0, none⟩ = false ∧ w.frozen? ⟨g, 1, none⟩ = false ∧ w.frozen? ⟨g, 2, none⟩ = false ∧ w.frozen? ⟨g, 3, none⟩ = false
theorem FourW.keep {W w : World} {g : Nat} {u v x y : Value} (h : FourW W g u v x y) (hb : Below W.heap.size W w) : FourW w g u v x y :=
  ⟨h.1.keep hb, (hb.frozen (p := ⟨g, 0, none⟩) h.1.lt).trans h.2.1, (hb.frozen (p := ⟨g, 1, none⟩) h.1.lt).trans h.2.2.1, (hb.frozen (p := ⟨g, 2, none⟩) h.1.lt).trans h.2.2.2.1, (hb.frozen (p := ⟨g, 3, none⟩) h.1.lt).trans h.2.2.2.2⟩
theorem FourW.alloc {W : World} {g : Nat} {u v x y : Value} (h : FourW W g u v x y) (o : Obj) : FourW (W.alloc o) g u v x y := h.keep ((Below.refl _ W).alloc (Nat.le_refl _) o)
theorem FourW.new {W : World} {g : Nat} (u v x y : Value) (t : TypeId) (h : g = W.heap.size) : FourW (W.alloc (.cells #[u, v, x, y] t)) g u v x y := by
  subst h; exact ⟨Four.new _ _ _ _ _ rfl, by simp, by simp, by simp, by simp⟩
theorem FourW.ret {w W : World} {g : Nat} {u v x y : Value} (h : FourW W g u v x y) (s0 s1 s2 s3 : Value) (hb : Below w.heap.size w W) (hg : w.heap.size ≤ g) :
    Four ((((W.setCell ⟨g, 0, none⟩ s0).setCell ⟨g, 1, none⟩ s1).setCell ⟨g, 2, none⟩ s2).setCell ⟨g, 3, none⟩ s3) g s0 s1 s2 s3 ∧ Below w.heap.size w ((((W.setCell ⟨g, 0, none⟩ s0).setCell ⟨g, 1, none⟩ s1).setCell ⟨g, 2, none⟩ s2).setCell ⟨g, 3, none⟩ s3) := by
  obtain ⟨⟨h0, h1, h2, h3⟩, -⟩ := h
  have o : ∀ (W : World) (i j : Nat) (s : Value), i ≠ j → (W.setCell ⟨g, i, none⟩ s).cell? ⟨g, j, none⟩ = W.cell? ⟨g, j, none⟩ := fun W i j s hij => World.cell?_setCell_other _ _ _ _ (by intro h; simp only [Addr.mk.injEq] at h; omega)
  refine ⟨⟨?_, ?_, ?_, ?_⟩, (((hb.setCell hg _).setCell hg _).setCell hg _).setCell hg _⟩
  · rw [o _ 3 0 _ (by omega), o _ 2 0 _ (by omega), o _ 1 0 _ (by omega)]; exact World.cell?_setCell_same _ _ _ h0
  · rw [o _ 3 1 _ (by omega), o _ 2 1 _ (by omega)]; exact World.cell?_setCell_same _ _ _ (by rw [o _ 0 1 _ (by omega)]; exact h1)
  · rw [o _ 3 2 _ (by omega)]; exact World.cell?_setCell_same _ _ _ (by rw [o _ 1 2 _ (by omega), o _ 0 2 _ (by omega)]; exact h2)
  · exact World.cell?_setCell_same _ _ _ (by rw [o _ 2 3 _ (by omega), o _ 1 3 _ (by omega), o _ 0 3 _ (by omega)]; exact h3)

set_option maxHeartbeats 800000 in
set_option maxRecDepth 100000 in
theorem edge_raw (a0 a1 b0 b1 x0 x1 y0 y1 : Int)
    (HA : Hid (∀ w, Calls Try.prog 48 #[.agg #[.int .i16 a0, .int .i16 a1]] w fun e w' => e = .returned (.agg #[.int .i64 x0, .int .i64 x1]) ∧ Below w.heap.size w w'))
    (HB : Hid (∀ w, Calls Try.prog 48 #[.agg #[.int .i16 b0, .int .i16 b1]] w fun e w' => e = .returned (.agg #[.int .i64 y0, .int .i64 y1]) ∧ Below w.heap.size w w')) (w : World) :
    Calls Try.prog 22 #[.agg #[.int .i16 a0, .int .i16 a1], .agg #[.int .i16 b0, .int .i16 b1]] w fun e w' => e = .returned (.agg #[.int .i64 x0, .int .i64 x1, .int .i64 y0, .int .i64 y1]) ∧ Below w.heap.size w w' := by
  go_enter Try.func22, Try.ntmps22
  go_wp2_with fail
  have TA : Two (((w.alloc (.cells #[.int .i16 a0, .int .i16 a1] 55)).alloc (.cells #[.int .i16 b0, .int .i16 b1] 55)).alloc (.cells #[.int .i64 0, .int .i64 0, .int .i64 0, .int .i64 0] 50)) w.heap.size _ _ := ((Two.new _ _ _ rfl).alloc _).alloc _
  have TB : Two (((w.alloc (.cells #[.int .i16 a0, .int .i16 a1] 55)).alloc (.cells #[.int .i16 b0, .int .i16 b1] 55)).alloc (.cells #[.int .i64 0, .int .i64 0, .int .i64 0, .int .i64 0] 50)) (w.heap.size + 1) _ _ := (Two.new _ _ _ (by simp)).alloc _
  have TR : FourW (((w.alloc (.cells #[.int .i16 a0, .int .i16 a1] 55)).alloc (.cells #[.int .i16 b0, .int .i16 b1] 55)).alloc (.cells #[.int .i64 0, .int .i64 0, .int .i64 0, .int .i64 0] 50)) (w.heap.size + 1 + 1) _ _ _ _ := FourW.new _ _ _ _ _ (by simp)
  have BS := alloc3 w (.cells #[.int .i16 a0, .int .i16 a1] 55) (.cells #[.int .i16 b0, .int .i16 b1] 55) (.cells #[.int .i64 0, .int .i64 0, .int .i64 0, .int .i64 0] 50)
  generalize ((w.alloc (.cells #[.int .i16 a0, .int .i16 a1] 55)).alloc (.cells #[.int .i16 b0, .int .i16 b1] 55)).alloc (.cells #[.int .i64 0, .int .i64 0, .int .i64 0, .int .i64 0] 50) = ws at *
  generalize hgr : w.heap.size + 1 + 1 = gr at *
  generalize hgb : w.heap.size + 1 = gb at *
  generalize hge : w.heap.size = ge at *
  have hlt : w.heap.size ≤ gr := by omega
  have n1 : ¬ ge = gr := by omega
  have n2 : ¬ gb = gr := by omega
  rw [← hge] at BS
  clear hgr hgb
  obtain ⟨a0c, a1c, -, -⟩ := TA
  obtain ⟨b0c, b1c, -, -⟩ := TB
  have hD : ws.drew.cell? ⟨ge, 0, none⟩ = some (.int .i16 a0) ∧ ws.drew.cell? ⟨ge, 1, none⟩ = some (.int .i16 a1) ∧ ws.drew.cell? ⟨gb, 0, none⟩ = some (.int .i16 b0) ∧ ws.drew.cell? ⟨gb, 1, none⟩ = some (.int .i16 b1) ∧ Below w.heap.size w ws.drew := ⟨a0c, a1c, b0c, b1c, BS.drew⟩
  go_region_held3 (fun wx => wx.cell? ⟨ge, 0, none⟩ = some (.int .i16 a0) ∧ wx.cell? ⟨ge, 1, none⟩ = some (.int .i16 a1) ∧ wx.cell? ⟨gb, 0, none⟩ = some (.int .i16 b0) ∧ wx.cell? ⟨gb, 1, none⟩ = some (.int .i16 b1) ∧ Below w.heap.size w wx)
    (first
      | with_reducible assumption
      | with_reducible exact four_set _ _ _ _ n1 n2 hlt hS3)
    (first
      | (go_at_call 48; (with_reducible refine (HA.out _).mono ?_); rintro e w2 ⟨rfl, hb2⟩; replace hb2 := undrew hb2; have hS2 := four_of a0c a1c b0c b1c BS hb2)
      | (go_at_call 48; (with_reducible refine (HB.out _).mono ?_); rintro e w3 ⟨rfl, hb3⟩; have A3 := below2 hb2 hb3; have hS3 := four_of a0c a1c b0c b1c BS A3; have TR3 := TR.keep A3; have zr := TR3.1.lt; have r0 := TR3.1.1; have r1 := TR3.1.2.1; have r2 := TR3.1.2.2.1; have r3 := TR3.1.2.2.2; have k0 := TR3.2.1; have k1 := TR3.2.2.1; have k2 := TR3.2.2.2.1; have k3 := TR3.2.2.2.2))
  obtain ⟨⟨q0, q1, q2, q3⟩, BF⟩ := TR3.ret (.int .i64 x0) (.int .i64 x1) (.int .i64 y0) (.int .i64 y1) hS3.2.2.2.2 hlt
  clear hD hS2 hS3 r0 r1 r2 r3 k0 k1 k2 k3 TR TR3 hb2 hb3 A3 a0c a1c b0c b1c BS
  go_wp2_with fail
  exact bodyPost_ret (v := .agg #[.int .i64 x0, .int .i64 x1, .int .i64 y0, .int .i64 y1]) (by simp [results, Try.results22, go_sem, q0, q1, q2, q3]) rfl ⟨rfl, BF⟩

theorem edge_any (a0 a1 b0 b1 : Int) (ha : a0.natAbs ≤ 32768 ∧ a1.natAbs ≤ 32768) (hb : b0.natAbs ≤ 32768 ∧ b1.natAbs ≤ 32768) (w : World) :
    Calls Try.prog 22 #[.agg #[.int .i16 a0, .int .i16 a1], .agg #[.int .i16 b0, .int .i16 b1]] w fun e w' => e = .returned (.agg #[.int .i64 (a0.tmod 8193), .int .i64 (a1.tmod 8193), .int .i64 (b0.tmod 8193), .int .i64 (b1.tmod 8193)]) ∧ Below w.heap.size w w' :=
  edge_raw a0 a1 b0 b1 _ _ _ _ (Lib.hid fun w => small_any _ _ ha.1 ha.2 w) (Lib.hid fun w => small_any _ _ hb.1 hb.2 w) w

end Go.Proofs.Yteiildeaccngjaa

namespace Go.Proofs.Yteiildeaccngjaa
open Go.RowKit

theorem cr_steps4 {s0 s1 s2 s3 p0 p1 : Int} (h : InE s0 s1 s2 s3 p0 p1) : ∃ u0 v1 u1 v0 x y c : Int, IntKind.i64.wrap (s2 - s0) = u0 ∧ IntKind.i64.wrap (p1 - s1) = v1 ∧ IntKind.i64.wrap (u0 * v1) = x ∧ IntKind.i64.wrap (s3 - s1) = u1 ∧ IntKind.i64.wrap (p0 - s0) = v0 ∧ IntKind.i64.wrap (u1 * v0) = y ∧ IntKind.i64.wrap (x - y) = c ∧ c = crE ⟨⟨s0, s1⟩, s2, s3⟩ ⟨p0, p1⟩ := by
  obtain ⟨⟨ha0, ha1⟩, ⟨hb0, hb1⟩, ⟨hp0, hp1⟩⟩ := h
  have h1 : (s2 - s0).natAbs ≤ 16384 := by omega
  have h2 : (s3 - s1).natAbs ≤ 16384 := by omega
  have h3 : (p0 - s0).natAbs ≤ 40960 := by omega
  have h4 : (p1 - s1).natAbs ≤ 40960 := by omega
  have g1 := mulB h1 h4
  have g2 := mulB h2 h3
  exact ⟨s2 - s0, p1 - s1, s3 - s1, p0 - s0, _, _, _, wI (by omega) (by omega), wI (by omega) (by omega), wI (by omega) (by omega), wI (by omega) (by omega), wI (by omega) (by omega), wI (by omega) (by omega), wI (by omega) (by omega), rfl⟩

end Go.Proofs.Yteiildeaccngjaa

namespace Go.Proofs.Yteiildeaccngjaa
open Go.RowKit

theorem tdiv2_in {x : Int} (h : -16384 ≤ x ∧ x ≤ 16384) : -8192 ≤ x.tdiv 2 ∧ x.tdiv 2 ≤ 8192 := by
  rcases Int.le_total 0 x with h0 | h0
  · rw [Int.tdiv_eq_ediv_of_nonneg h0]; omega
  · obtain ⟨y, rfl⟩ : ∃ y, x = -y := ⟨-x, by omega⟩
    rw [Int.neg_tdiv, Int.tdiv_eq_ediv_of_nonneg (by omega)]; omega
theorem tmod3_in (x : Int) : -2 ≤ x.tmod 3 ∧ x.tmod 3 ≤ 2 := by
  rcases Int.le_total 0 x with h0 | h0
  · rw [Int.tmod_eq_emod_of_nonneg h0]; omega
  · obtain ⟨y, rfl⟩ : ∃ y, x = -y := ⟨-x, by omega⟩
    rw [Int.neg_tmod, Int.tmod_eq_emod_of_nonneg (by omega)]; omega

def sqE : List Ed := [⟨⟨0, 0⟩, ⟨9, 0⟩⟩, ⟨⟨9, 0⟩, ⟨9, 9⟩⟩, ⟨⟨9, 9⟩, ⟨0, 9⟩⟩, ⟨⟨0, 9⟩, ⟨0, 0⟩⟩]
theorem sq_in : ∀ s ∈ sqE, InD s := by
  intro s hs
  simp only [sqE, List.mem_cons, List.not_mem_nil, or_false] at hs
  rcases hs with rfl | rfl | rfl | rfl <;> (unfold InD; simp)
theorem erd_blk {w : World} {g : Nat} {t : TypeId} {l : List Ed} {n : Nat} (h : Blk w g t (ecells l)) (hn : l.length = n) : ERd w (.slice (some ⟨g, 0, none⟩) n n) l := by
  subst hn
  refine ⟨_, _, rfl, Nat.le_refl _, fun i hi => ⟨_, rfl, h.lt, ?_⟩⟩
  have k := fun j hj => ecells_at l i j hi hj
  have z : ∀ j, (⟨g, 0, none⟩ : Addr).add j = ⟨g, j, none⟩ := fun j => by simp [Addr.add] <;> omega
  unfold EAt
  rw [z, z, z, z]
  exact ⟨h.cell _ (k 0 (by omega)), h.cell _ (k 1 (by omega)), h.cell _ (k 2 (by omega)), h.cell _ (k 3 (by omega))⟩

end Go.Proofs.Yteiildeaccngjaa

namespace Go.Proofs.Yteiildeaccngjaa
open Go.RowKit

theorem leE_in {s : Ed} (h : leE s) : InD s := by
  unfold leE leP at h
  unfold InD
  omega
theorem glyph7 (A : Option Addr) (n cap : Nat) (cs : List (List Dot)) (w : World) (hcs : DotRows w A n cap cs) :
    Calls Try.prog 10 #[.slice A n cap] w fun e w' => ∃ u es, e = .returned u ∧ ERow w' w.heap.size u es ∧ es.length ≤ 100000 ∧ (∀ s ∈ es, InD s) ∧ (∃ ls : List (List Ed), es = ls.flatten ∧ (∀ l ∈ ls, ∃ q, Way q l q) ∧ ∀ e ∈ ls.flatten, leE e) ∧ Below w.heap.size w w' := by
  refine (glyph_more A n cap cs w hcs).mono ?_
  rintro e w' ⟨u, es, fo, rfl, h1, h2, h3, h4⟩
  obtain ⟨ls, g1, g2, g3⟩ := glyph_facts fo
  rw [g1] at h3
  exact ⟨u, es, rfl, h1, h2, fun s hs => leE_in (g3 s (h3 ▸ hs)), ⟨ls, h3, g2, g3⟩, h4⟩

/-- Two cells of a block, and Below: what a region with calls keeps. -/
theorem S2_call {w W W' : World} {k : Nat} {v0 v1 : Value} (hb : Below W.heap.size W W') (hh : W.cell? ⟨k, 0, none⟩ = some v0 ∧ W.cell? ⟨k, 1, none⟩ = some v1 ∧ Below w.heap.size w W) : W'.cell? ⟨k, 0, none⟩ = some v0 ∧ W'.cell? ⟨k, 1, none⟩ = some v1 ∧ Below w.heap.size w W' :=
  ⟨keep hb hh.1, keep hb hh.2.1, hh.2.2.trans (hb.mono hh.2.2.size)⟩
theorem S2_alloc {w W : World} {k : Nat} {v0 v1 : Value} (o : Obj) (hh : W.cell? ⟨k, 0, none⟩ = some v0 ∧ W.cell? ⟨k, 1, none⟩ = some v1 ∧ Below w.heap.size w W) : (W.alloc o).cell? ⟨k, 0, none⟩ = some v0 ∧ (W.alloc o).cell? ⟨k, 1, none⟩ = some v1 ∧ Below w.heap.size w (W.alloc o) := S2_call ((Below.refl _ W).alloc (Nat.le_refl _) o) hh
theorem S2_drew {w W : World} {k : Nat} {v0 v1 : Value} (hh : W.cell? ⟨k, 0, none⟩ = some v0 ∧ W.cell? ⟨k, 1, none⟩ = some v1 ∧ Below w.heap.size w W) : W.drew.cell? ⟨k, 0, none⟩ = some v0 ∧ W.drew.cell? ⟨k, 1, none⟩ = some v1 ∧ Below w.heap.size w W.drew := ⟨hh.1, hh.2.1, hh.2.2.drew⟩
theorem two_kept {W w' : World} {g : Nat} {t : TypeId} {a b : Value} (h : g = W.heap.size) (hb : Below (W.alloc (.cells #[a, b] t)).heap.size (W.alloc (.cells #[a, b] t)) w') : w'.cell? ⟨g, 0, none⟩ = some a ∧ w'.cell? ⟨g, 1, none⟩ = some b ∧ g < w'.heap.size := by
  have K := (Blk.new W t [a, b] h).keep hb
  exact ⟨K.cell 0 rfl, K.cell 1 rfl, K.lt⟩
theorem S2_of {w W : World} {k : Nat} {v0 v1 : Value} (h0 : w.cell? ⟨k, 0, none⟩ = some v0) (h1 : w.cell? ⟨k, 1, none⟩ = some v1) (hb : Below w.heap.size w W) : W.cell? ⟨k, 0, none⟩ = some v0 ∧ W.cell? ⟨k, 1, none⟩ = some v1 ∧ Below w.heap.size w W := ⟨keep hb h0, keep hb h1, hb⟩
theorem S2_below {w W : World} {k : Nat} {v0 v1 : Value} (hh : W.cell? ⟨k, 0, none⟩ = some v0 ∧ W.cell? ⟨k, 1, none⟩ = some v1 ∧ Below w.heap.size w W) : Below w.heap.size w W := hh.2.2
theorem S2_blk {w : World} {k : Nat} {t : TypeId} {v0 v1 : Value} (h : Blk w k t [v0, v1]) : w.cell? ⟨k, 0, none⟩ = some v0 ∧ w.cell? ⟨k, 1, none⟩ = some v1 ∧ Below w.heap.size w w := ⟨h.cell 0 rfl, h.cell 1 rfl, Below.refl _ _⟩
theorem ERow.some7 {w : World} {base : Nat} {u : Value} {l : List Ed} (h : ERow w base u l) (hl : 0 < l.length) : ∃ g cap, u = .slice (some ⟨g, 0, none⟩) l.length cap := by
  rcases h.forms with ⟨_, rfl⟩ | h
  · cases hl
  · exact h
theorem back_push {es : List Ed} {r : Nat} {s : Ed} (h : es[r]? = some s) : ((es.take (r + 1)).map backE).reverse = backE s :: ((es.take r).map backE).reverse := by
  rw [take_next h, List.map_append, List.reverse_append]; rfl

end Go.Proofs.Yteiildeaccngjaa
