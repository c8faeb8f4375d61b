/-
  What path.begin does to any world (no claim is made here).
-/
import Derived.Test.YtglmgenifjaakaaPth2
import Derived.Deep.RegionHeld3
import Derived.Deep.Slices
namespace Go.Proofs.Ytglmgenifjaakaa
open Go.RowKit

theorem undrew0 {W w' : World} (hb : Below W.drew.heap.size W.drew w') : Below W.heap.size W w' := ⟨hb.os, hb.tape, hb.output, hb.size, hb.block⟩
/-- A point of a contour that is read. -/
def VAt (w : World) (a : Addr) (i : Nat) (v : Vtx) : Prop := w.cell? (a.add (i * 3)) = some (.int .i64 v.x) ∧ w.cell? ⟨(a.add (i * 3)).block, (a.add (i * 3)).off + 1, none⟩ = some (.int .i64 v.y) ∧ w.cell? ⟨(a.add (i * 3)).block, (a.add (i * 3)).off + 2, none⟩ = some (.bool v.on)
theorem VAt.keep {w w' : World} {a : Addr} {i : Nat} {v : Vtx} (h : VAt w a i v) (hb : Below w.heap.size w w') : VAt w' a i v := ⟨keepc hb h.1, keepc hb h.2.1, keepc hb h.2.2⟩
abbrev VAtS (w : World) (a : Addr) (i : Nat) (x y : Int) (b : Bool) : Prop := w.cell? (a.add (i * 3)) = some (.int .i64 x) ∧ w.cell? ⟨(a.add (i * 3)).block, (a.add (i * 3)).off + 1, none⟩ = some (.int .i64 y) ∧ w.cell? ⟨(a.add (i * 3)).block, (a.add (i * 3)).off + 2, none⟩ = some (.bool b)
theorem VRd.at {w : World} {A : Option Addr} {n cap : Nat} {c : List Vtx} (h : VRd w (.slice A n cap) c) (i : Nat) (v : Vtx) (hv : c[i]? = some v) : ∃ a, A = some a ∧ a.block < w.heap.size ∧ VAt w a i v := by
  obtain ⟨A', cap', e, _, h3⟩ := h
  simp only [Value.slice.injEq] at e
  obtain ⟨rfl, -, -⟩ := e
  obtain ⟨hi, rfl⟩ := List.getElem?_eq_some_iff.1 hv
  obtain ⟨a, ha, hlt, p0, p1, p2⟩ := h3 i hi
  rw [add_spell _ _ _ (by omega)] at p1 p2
  exact ⟨a, ha, hlt, p0, p1, p2⟩

set_option maxHeartbeats 1600000 in
theorem begin_none (A : Option Addr) (n cap : Nat) (c : List Vtx) (u0 u1 : Vtx) (w : World) (hv : VRd w (.slice A n cap) c) (hn : c.length = n) (hl : n ≤ 1000) (h0 : c[0]? = some u0) (h1 : c[n - 1]? = some u1) (s0 : smallV u0) (s1 : smallV u1) (hf : firstI c = -1) :
    Calls Try.prog 35 #[.slice A n cap] w fun e w' => e = .returned (.tuple #[.agg #[.int .i64 (u1.x + u0.x), .int .i64 (u1.y + u0.y)], .slice A n cap]) ∧ Below w.heap.size w w' := by
  have hn0 : 0 < n := by have := (List.getElem?_eq_some_iff.1 h0).1; omega
  have hV1 := hv.keep ((Below.refl _ w).alloc (Nat.le_refl _) (.cells #[.int .i64 0, .int .i64 0] 31))
  have HI := Lib.hid (indexFunc_any (.slice A n cap) c (w.alloc (.cells #[.int .i64 0, .int .i64 0] 31)) hV1 (by omega))
  rw [hf] at HI
  have HW := Lib.hid hv
  have H0 := Lib.hid h0
  have H1 := Lib.hid h1
  obtain ⟨x0, y0, b0⟩ := u0
  obtain ⟨x1, y1, b1⟩ := u1
  have HM := Lib.hid (fun w => middle_any x1 y1 b1 x0 y0 b0 s1 s0 w)
  clear hV1 hv hf hn h0 h1 s0 s1
  go_enter Try.func35, Try.ntmps35
  go_wp2_with fail
  refine HI.out.mono ?_
  rintro e w1 ⟨rfl, hb1⟩
  have B1 := Blk.keep (Blk.new w 31 [.int .i64 0, .int .i64 0] rfl) hb1
  obtain ⟨a, rfl, hal, q⟩ := HW.out.at 0 _ H0.out
  obtain ⟨a', e', -, p⟩ := HW.out.at (n - 1) _ H1.out
  cases e'
  have hB : Below w.heap.size w w1 := ((Below.refl _ w).alloc (Nat.le_refl _) _).trans (hb1.mono (by simp))
  obtain ⟨k, hkn⟩ : ∃ k, n - 1 = k := ⟨_, rfl⟩
  rw [hkn] at p
  have hk : IntKind.i64.wrap ((n : Int) - 1) = k := by rw [IntWalk.i64_in _ (by omega)]; omega
  have hk1 : (k : Int) < n := by omega
  have hk2 : (0 : Int) ≤ k := by omega
  have hk3 : (0 : Int) < n := by omega
  have q' := q
  unfold VAt at q'
  rw [Nat.zero_mul, show a.add 0 = a from rfl] at q'
  have SO : ∀ wx, Below w.heap.size w wx → ((wx.cell? a = some (.int .i64 x0) ∧ wx.cell? ⟨a.block, a.off + 1, none⟩ = some (.int .i64 y0) ∧ wx.cell? ⟨a.block, a.off + 2, none⟩ = some (.bool b0)) ∧ VAtS wx a k x1 y1 b1) ∧ Below w.heap.size w wx := fun wx hb => ⟨⟨⟨keepc hb q'.1, keepc hb q'.2.1, keepc hb q'.2.2⟩, p.keep hb⟩, hb⟩
  have HSO := Lib.hid SO
  have hD := SO w1.drew hB.drew
  have HB1 := Lib.hid B1
  have HBB := Lib.hid hB
  unfold VAtS at hD
  clear hb1 HI HW H0 H1 p q q' SO B1 hB hkn
  go_wp2_with fail
  unfold VAtS at HSO
  go_region_held3 (fun wx => ((wx.cell? a = some (.int .i64 x0) ∧ wx.cell? ⟨a.block, a.off + 1, none⟩ = some (.int .i64 y0) ∧ wx.cell? ⟨a.block, a.off + 2, none⟩ = some (.bool b0)) ∧ (wx.cell? (a.add (k * 3)) = some (.int .i64 x1) ∧ wx.cell? ⟨(a.add (k * 3)).block, (a.add (k * 3)).off + 1, none⟩ = some (.int .i64 y1) ∧ wx.cell? ⟨(a.add (k * 3)).block, (a.add (k * 3)).off + 2, none⟩ = some (.bool b1))) ∧ Below w.heap.size w wx)
    (first
      | with_reducible assumption
      | with_reducible exact HSO.out _ ((A2.setCell (Nat.le_refl _) _).setCell (Nat.le_refl _) _))
    (first
      | (go_at_call 39; (with_reducible refine (HM.out _).mono ?_); rintro e w2 ⟨rfl, hb2⟩; replace hb2 := undrew0 hb2; have A2 := HBB.out.trans (hb2.mono HBB.out.size); have hS2 := HSO.out _ A2; have B2 := HB1.out.keep hb2; have zr := B2.lt; have r0 := B2.cell 0 rfl; have r1 := B2.cell 1 rfl; have k0 := B2.frozen 0; have k1 := B2.frozen 1))
  have R := (B2.set 0 (.int .i64 (x1 + x0))).set 1 (.int .i64 (y1 + y0))
  have HR := Lib.hid R
  have q0 := R.cell 0 rfl
  have q1 := R.cell 1 rfl
  have BF := Lib.hid ((A2.setCell (p := ⟨w.heap.size, 0, none⟩) (Nat.le_refl _) (.int .i64 (x1 + x0))).setCell (p := ⟨w.heap.size, 1, none⟩) (Nat.le_refl _) (.int .i64 (y1 + y0)))
  clear hb2 A2 hS2 B2 zr r0 r1 k0 k1 hD R
  go_wp2_with fail
  exact bodyPost_ret (v := .tuple #[.agg #[.int .i64 (x1 + x0), .int .i64 (y1 + y0)], .slice (some a) n cap]) (by simp [results, Try.results35, go_sem, q0, q1]) rfl ⟨rfl, BF.out⟩

theorem vrd_drop {w : World} {a : Addr} {n cap : Nat} {c : List Vtx} (h : VRd w (.slice (some a) n cap) c) (k : Nat) (a' : Addr) (ha : a' = a.add (k * 3) ∨ c.length ≤ k) (m cap' : Nat) (hm : m = c.length - k) (hc : m ≤ cap') : VRd w (.slice (some a') m cap') (c.drop k) := by
  obtain ⟨A', cap'', e, _, h3⟩ := h
  simp only [Value.slice.injEq] at e
  obtain ⟨rfl, -, -⟩ := e
  subst hm
  refine ⟨some a', cap', by rw [List.length_drop], by rw [List.length_drop]; exact hc, fun i hi => ?_⟩
  rw [List.length_drop] at hi
  rcases ha with rfl | ha
  · obtain ⟨a2, e2, hlt, p0, p1, p2⟩ := h3 (k + i) (by omega)
    cases e2
    have ei : (c.drop k)[i]'(by rw [List.length_drop]; exact hi) = c[k + i]'(by omega) := by simp
    rw [ei]
    refine ⟨_, rfl, by rw [block_add]; exact hlt, ?_, ?_, ?_⟩ <;> rw [Go.Deep.add_add]
    · rw [show k * 3 + i * 3 = (k + i) * 3 by omega]; exact p0
    · rw [show k * 3 + (i * 3 + 1) = (k + i) * 3 + 1 by omega]; exact p1
    · rw [show k * 3 + (i * 3 + 2) = (k + i) * 3 + 2 by omega]; exact p2
  · omega
theorem vrd_take {w : World} {A : Option Addr} {n cap : Nat} {c : List Vtx} (h : VRd w (.slice A n cap) c) (k cap' : Nat) (hk : k ≤ c.length) (hc : k ≤ cap') : VRd w (.slice A k cap') (c.take k) := by
  obtain ⟨A', cap'', e, _, h3⟩ := h
  simp only [Value.slice.injEq] at e
  obtain ⟨rfl, -, -⟩ := e
  have hl : (c.take k).length = k := by rw [List.length_take]; omega
  refine ⟨A, cap', by rw [hl], by rw [hl]; exact hc, fun i hi => ?_⟩
  rw [hl] at hi
  obtain ⟨a, e, hlt, p⟩ := h3 i (by omega)
  have ei : (c.take k)[i]'(by rw [hl]; exact hi) = c[i]'(by omega) := by simp
  rw [ei]
  exact ⟨a, e, hlt, p⟩
theorem ord_two {w : World} {B : Nat} {t : TypeId} {va vb : Value} {a b : List Vtx} (hB : Blk w B t [va, vb]) (ha : VRd w va a) (hb : VRd w vb b) : ORd w (.slice (some ⟨B, 0, none⟩) 2 2) [a, b] := by
  refine ⟨_, 2, rfl, Nat.le_refl _, fun r hr => ?_⟩
  match r, hr with
  | 0, _ => exact ⟨_, va, rfl, hB.lt, hB.cell 0 rfl, ha⟩
  | 1, _ => exact ⟨_, vb, rfl, hB.lt, hB.cell 1 rfl, hb⟩

theorem below_w {w a b : World} {B : Nat} (h : Below w.heap.size w a) (k : Below B a b) (hB : w.heap.size ≤ B) : Below w.heap.size w b := h.trans (k.mono hB)
theorem undrewA {W w' : World} {o : Obj} (hb : Below (W.alloc o).drew.heap.size (W.alloc o).drew w') : Below W.heap.size W w' := ((Below.refl _ W).alloc (Nat.le_refl _) o).trans (Below.mono ⟨hb.os, hb.tape, hb.output, hb.size, hb.block⟩ (by simp))
theorem VRow.set {w : World} {base : Nat} {u : Value} {c : List Vtx} (h : VRow w base u c) {p : Addr} (hp : p.block < base) (x : Value) : VRow (w.setCell p x) base u c := own_blocks h fun g hg => heap_set w p x g (by have := (World.ownsRow.lt h g hg).1; omega)
theorem lt_alloc {w : World} {k : Nat} (h : k < w.heap.size) (o : Obj) : k < (w.alloc o).heap.size := by simp; omega
theorem below_alloc {W w' : World} {o : Obj} (hb : Below (W.alloc o).heap.size (W.alloc o) w') : Below W.heap.size W w' := ((Below.refl _ W).alloc (Nat.le_refl _) o).trans (hb.mono (by simp))
theorem blk_drew_new {W w' : World} {t : TypeId} {vs : List Value} (hb : Below (W.alloc (.cells vs.toArray t)).drew.heap.size (W.alloc (.cells vs.toArray t)).drew w') : Blk w' W.heap.size t vs := (Blk.new W t vs rfl).keep (undrew0 hb)

set_option maxHeartbeats 1600000 in
theorem begin_some (a a2 : Addr) (n cap f g : Nat) (c : List Vtx) (u0 : Vtx) (w : World) (hv : VRd w (.slice (some a) n cap) c) (hn : c.length = n) (hl : n ≤ 1000) (hcap : n ≤ cap) (h0 : c[f]? = some u0) (s0 : smallV u0) (hf : firstI c = f) (hg : f + 1 = g)
    (ha2 : (if cap = g then some a else some (a.add (g * 3))) = some a2) :
    Calls Try.prog 35 #[.slice (some a) n cap] w fun e w' => ∃ u, e = .returned (.tuple #[.agg #[.int .i64 (u0.x + u0.x), .int .i64 (u0.y + u0.y)], u]) ∧ VRd w' u (c.drop (f + 1) ++ c.take f) ∧ Below w.heap.size w w' := by
  have hn0 : f < n := by have := (List.getElem?_eq_some_iff.1 h0).1; omega
  have hV1 := hv.keep ((Below.refl _ w).alloc (Nat.le_refl _) (.cells #[.int .i64 0, .int .i64 0] 31))
  have HI := Lib.hid (indexFunc_any (.slice (some a) n cap) c (w.alloc (.cells #[.int .i64 0, .int .i64 0] 31)) hV1 (by omega))
  rw [hf] at HI
  have HW := Lib.hid hv
  have H0 := Lib.hid h0
  obtain ⟨x0, y0, b0⟩ := u0
  have HM := Lib.hid (fun w => pointOf_any x0 y0 b0 s0 w)
  have hfn : (f : Int) < n := by omega
  have hf0 : (0 : Int) ≤ f := by omega
  have hf1 : decide ((f : Int) < 0) = false := by simp
  have hgn : (g : Int) ≤ n := by omega
  have hg0 : (0 : Int) ≤ g := by omega
  have hnc : (n : Int) ≤ cap := by omega
  have hfc : (f : Int) ≤ cap := by omega
  have HD1 := vrd_drop hv g a2 (by
    by_cases hcg : cap = g
    · exact .inr (by omega)
    · rw [if_neg hcg] at ha2
      exact .inl (by injection ha2 with h; exact h.symm)) (n - g) (cap - g) (by omega) (by omega)
  have HD2 := vrd_take hv f cap (by omega) (by omega)
  have HCC : ∀ (wx : World) (B : Nat), Below w.heap.size w wx → Blk wx B 61 [.slice (some a2) (n - g) (cap - g), .slice (some a) f cap] → w.heap.size < wx.heap.size →
      Calls Try.prog 43 #[.slice (some ⟨B, 0, none⟩) 2 2] wx fun e w' => ∃ u, e = .returned u ∧ VRow w' (w.heap.size + 1) u (c.drop g ++ c.take f) ∧ Below wx.heap.size wx w' := by
    intro wx B hb hB hz
    refine (concat_any _ _ wx (ord_two hB (HD1.keep hb) (HD2.keep hb)) (by simp) (by simp; omega)).mono ?_
    rintro e w' ⟨u, rfl, hu, hb'⟩
    refine ⟨u, rfl, ?_, hb'⟩
    have e : [c.drop g, c.take f].flatten = c.drop g ++ c.take f := by simp
    rw [e] at hu
    exact World.ownsRow.mono hu hz
  have HC := Lib.hid HCC
  have hk : IntKind.i64.wrap ((f : Int) + 1) = g := by rw [IntWalk.i64_in _ (by omega)]; omega
  have HG := Lib.hid hg
  clear hV1 hv hf hn h0 s0 HD1 HD2 HCC hg
  go_enter Try.func35, Try.ntmps35
  go_wp2_with fail
  refine HI.out.mono ?_
  rintro e w1 ⟨rfl, hb1⟩
  have B1 := Blk.keep (Blk.new w 31 [.int .i64 0, .int .i64 0] rfl) hb1
  obtain ⟨a', e', -, p⟩ := HW.out.at f _ H0.out
  cases e'
  have hB : Below w.heap.size w w1 := ((Below.refl _ w).alloc (Nat.le_refl _) _).trans (hb1.mono (by simp))
  have SO : ∀ wx, Below w.heap.size w wx → VAtS wx a f x0 y0 b0 ∧ Below w.heap.size w wx := fun wx hb => ⟨p.keep hb, hb⟩
  have hD := SO w1.drew hB.drew
  have HSO := Lib.hid SO
  have HB1 := Lib.hid B1
  have HBB := Lib.hid hB
  unfold VAtS at hD
  clear hb1 HI H0 p SO B1 hB
  go_wp2_with fail
  unfold VAtS at HSO
  go_region_held3 (fun wx => (wx.cell? (a.add (f * 3)) = some (.int .i64 x0) ∧ wx.cell? ⟨(a.add (f * 3)).block, (a.add (f * 3)).off + 1, none⟩ = some (.int .i64 y0) ∧ wx.cell? ⟨(a.add (f * 3)).block, (a.add (f * 3)).off + 2, none⟩ = some (.bool b0)) ∧ Below w.heap.size w wx)
    (first
      | with_reducible assumption
      | with_reducible exact HSO.out _ (HBB.out.alloc HBB.out.size _).drew
      | with_reducible exact HSO.out _ (A2.alloc A2.size _)
      | with_reducible exact HSO.out _ ((A2.setCell (Nat.le_refl _) _).setCell (Nat.le_refl _) _)
      | with_reducible exact HSO.out _ ((A3.setCell (Nat.le_refl _) _).setCell (Nat.le_refl _) _)
      | fail)
    (first
      | (go_at_call 38; (with_reducible refine (HM.out _).mono ?_); rintro e w2 ⟨rfl, hb2⟩; (first | (have E2 : Below w1.heap.size w1 w2 := undrew0 hb2) | (have ZZ : Blk w2 w1.heap.size 61 [.slice (some a2) (n - g) (cap - g), .slice (some a) f cap] := blk_drew_new hb2; have E2 : Below w1.heap.size w1 w2 := undrewA hb2)); have A2 := below_w HBB.out E2 HBB.out.size; have hS2 := HSO.out _ A2; have B2 := HB1.out.keep E2; have zr := B2.lt; have r0 := B2.cell 0 rfl; have r1 := B2.cell 1 rfl; have k0 := B2.frozen 0; have k1 := B2.frozen 1)
      | (go_at_call 43; (first | (with_reducible refine (HC.out _ _ (A2.alloc A2.size _) (Blk.new w2 _ _ rfl) (lt_alloc zr _)).mono ?_) | (with_reducible refine (HC.out _ _ A2 ZZ zr).mono ?_)); rintro e w3 ⟨u, rfl, V3, hb3⟩; (first | (have E3 : Below w2.heap.size w2 w3 := below_alloc hb3) | (have E3 : Below w2.heap.size w2 w3 := hb3)); have A3 := below_w A2 E3 A2.size; have hS3 := HSO.out _ A3; have B3 := B2.keep E3; have zr3 := B3.lt; have r03 := B3.cell 0 rfl; have r13 := B3.cell 1 rfl; have k03 := B3.frozen 0; have k13 := B3.frozen 1))
  all_goals
    have R := (B3.set 0 (.int .i64 (x0 + x0))).set 1 (.int .i64 (y0 + y0))
    have q0 := R.cell 0 rfl
    have q1 := R.cell 1 rfl
    have BF := Lib.hid ((A3.setCell (p := ⟨w.heap.size, 0, none⟩) (Nat.le_refl _) (.int .i64 (x0 + x0))).setCell (p := ⟨w.heap.size, 1, none⟩) (Nat.le_refl _) (.int .i64 (y0 + y0)))
    have VF := Lib.hid ((V3.set (p := ⟨w.heap.size, 0, none⟩) (Nat.lt_succ_self _) (.int .i64 (x0 + x0))).set (p := ⟨w.heap.size, 1, none⟩) (Nat.lt_succ_self _) (.int .i64 (y0 + y0))).read
    rw [← HG.out] at VF
    clear hb2 A2 hS2 B2 zr r0 r1 k0 k1 hD R A3 hS3 B3 zr3 r03 r13 k03 k13 V3 E3 hb3 E2 HG ha2
    go_wp2_with fail
    exact bodyPost_ret (v := .tuple #[.agg #[.int .i64 (x0 + x0), .int .i64 (y0 + y0)], u]) (by simp [results, Try.results35, go_sem, q0, q1]) rfl ⟨u, rfl, VF.out, BF.out⟩

/-- path.begin: where a contour begins, and which points come then. -/
theorem begin_any (v : Value) (c : List Vtx) (w : World) (hv : VRd w v c) (hc : c ≠ []) (hl : c.length ≤ 1000) (hs : ∀ u ∈ c, smallV u) :
    Calls Try.prog 35 #[v] w fun e w' => ∃ u, e = .returned (.tuple #[.agg #[.int .i64 (startS c).x, .int .i64 (startS c).y], u]) ∧ VRd w' u (othersS c) ∧ Below w.heap.size w w' := by
  have hv' := hv
  obtain ⟨A, cap, rfl, hcap, h3⟩ := hv'
  have hpos : 0 < c.length := List.length_pos_iff.2 hc
  cases hf : firstOn c with
  | none =>
    have e0 : c[0]? = some (vtxAt c 0) := by rw [List.getElem?_eq_getElem hpos]; simp [vtxAt, List.getD, hpos]
    have e1 : c[c.length - 1]? = some (vtxAt c (c.length - 1)) := by
      have h : c.length - 1 < c.length := by omega
      rw [List.getElem?_eq_getElem h]; simp [vtxAt, List.getD, h]
    refine (begin_none A c.length cap c _ _ w hv rfl hl e0 e1 (hs _ (List.mem_of_getElem? e0)) (hs _ (List.mem_of_getElem? e1)) (by unfold firstI; rw [hf])).mono ?_
    rintro e w' ⟨rfl, hb⟩
    refine ⟨.slice A c.length cap, ?_, ?_, hb⟩
    · unfold startS; rw [hf]; rfl
    · unfold othersS; rw [hf]; exact hv.keep hb
  | some f =>
    obtain ⟨u, h1, h2, _⟩ := firstOn_some hf
    have hfl := (List.getElem?_eq_some_iff.1 h1).1
    obtain ⟨a, rfl, -, -⟩ := h3 f hfl
    refine (begin_some a (if cap = f + 1 then a else a.add ((f + 1) * 3)) c.length cap f (f + 1) c u w hv rfl hl hcap h1 (hs _ (List.mem_of_getElem? h1)) (by unfold firstI; rw [hf]) rfl (by split <;> rfl)).mono ?_
    rintro e w' ⟨x, rfl, hx, hb⟩
    refine ⟨x, ?_, ?_, hb⟩
    · unfold startS; rw [hf]; simp only [getD_of h1, ptV]
    · unfold othersS; rw [hf]; exact hx

end Go.Proofs.Ytglmgenifjaakaa
