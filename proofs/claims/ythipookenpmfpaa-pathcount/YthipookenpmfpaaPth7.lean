/-
  Layer 5's examples (no claim is made here).
-/
import Derived.Test.YthipookenpmfpaaPth6
namespace Go.Proofs.Ythipookenpmfpaa
open Go.RowKit

def ex4 : List Vtx := [⟨0, 0, true⟩, ⟨4, 0, false⟩, ⟨4, 4, false⟩, ⟨0, 4, true⟩]
def ex4S : List Sg := [⟨⟨0, 0⟩, ⟨8, 0⟩, ⟨8, 4⟩, true⟩, ⟨⟨8, 4⟩, ⟨8, 8⟩, ⟨0, 8⟩, true⟩, ⟨⟨0, 8⟩, ⟨0, 8⟩, ⟨0, 0⟩, false⟩]
theorem ex4_is : segsS ex4 = ex4S := by decide
theorem vrd_lit (w : World) (c : List Vtx) (n : Nat) (cs : Array Value) (hn : c.length = n) (h : cs.toList = vcells c) (hm : n ≤ 1000) : VRd (w.alloc (.cells cs 36)) (.slice (some ⟨w.heap.size, 0, none⟩) n n) c := by
  have := World.ownsRow_lit (base := w.heap.size) (e := 36) (size := 3) w cs n (Nat.le_refl _) (by unfold maxLen; omega) (by rw [← Array.length_toList, h, vcells_length, hn])
  rw [h] at this
  subst hn
  exact VRow.read this
theorem srd_take {w : World} {A : Option Addr} {n cap : Nat} {l : List Sg} (h : SRd w (.slice A n cap) l) (k cap' : Nat) (hk : k ≤ l.length) (hc : k ≤ cap') : SRd w (.slice A k cap') (l.take k) := by
  obtain ⟨A', cap'', e, _, h3⟩ := h
  simp only [Value.slice.injEq] at e
  obtain ⟨rfl, -, -⟩ := e
  have hl : (l.take k).length = k := by rw [List.length_take]; omega
  refine ⟨A, cap', by rw [hl], by rw [hl]; exact hc, fun i hi => ?_⟩
  rw [hl] at hi
  obtain ⟨a, e, hlt, p⟩ := h3 i (by omega)
  have ei : (l.take k)[i]'(by rw [hl]; exact hi) = l[i]'(by omega) := by simp
  rw [ei]
  exact ⟨a, e, hlt, p⟩
theorem ex4_closed : ∀ i s t, ex4S[i]? = some s → ex4S[(i + 1) % ex4S.length]? = some t → s.c = t.a := by
  intro i s t hs ht
  match i with
  | 0 => cases hs; cases ht; rfl
  | 1 => cases hs; cases ht; rfl
  | 2 => cases hs; cases ht; rfl
  | i + 3 => cases hs

set_option maxRecDepth 100000 in
set_option maxHeartbeats 800000 in
theorem awake5 (w : World) : Calls Try.prog 8 #[] w fun e w' => e = .returned (.bool true) ∧ Below w.heap.size w w' := by
  have HS1 : Hid (∀ w : World, Calls Try.prog 11 #[.slice (some ⟨w.heap.size, 0, none⟩) 4 4] (w.alloc (.cells #[.int .i64 0, .int .i64 0, .bool true, .int .i64 4, .int .i64 0, .bool false, .int .i64 4, .int .i64 4, .bool false, .int .i64 0, .int .i64 4, .bool true] 36)) fun e w' => ∃ u, e = .returned u ∧ SRow w' (w.heap.size + 1) u ex4S ∧ Below w.heap.size w w') := Lib.hid (fun w => by
    refine (segs_any _ ex4 _ (vrd_lit w ex4 4 _ rfl rfl (by omega)) (by decide) (by unfold smallV ex4; decide)).mono ?_
    rintro e w' ⟨u, rfl, hu, hb⟩
    rw [ex4_is] at hu
    exact ⟨u, rfl, World.ownsRow.mono hu (by simp), below_alloc hb⟩)
  have HS2 : Hid (∀ w : World, Calls Try.prog 11 #[.slice (some ⟨w.heap.size, 0, none⟩) 1 1] (w.alloc (.cells #[.int .i64 1, .int .i64 2, .bool true] 36)) fun e w' => ∃ A cap, e = .returned (.slice A 1 cap) ∧ Below w.heap.size w w') := Lib.hid (fun w => by
    refine (segs_any _ [⟨1, 2, true⟩] _ (vrd_lit w [⟨1, 2, true⟩] 1 _ rfl rfl (by omega)) (by decide) (by unfold smallV; decide)).mono ?_
    rintro e w' ⟨u, rfl, hu, hb⟩
    obtain ⟨A, cap, rfl⟩ := hu.form
    exact ⟨A, cap, rfl, below_alloc hb⟩)
  go_enter Try.func8, Try.ntmps8
  go_wp2_with fail
  refine (HS1.out _).mono ?_
  rintro e w1 ⟨u, rfl, hu, hb1⟩
  have hr := hu.read
  obtain ⟨A, cap, e, hcap, -⟩ := id hr
  have e3 : ex4S.length = 3 := rfl
  rw [e3] at e hcap
  subst e
  have HB1 := Lib.hid hb1
  have HR := Lib.hid hr
  clear hu hb1 hr
  go_wp2_with fail
  refine (HS2.out _).mono ?_
  rintro e w2 ⟨A2, cap2, rfl, hb2⟩
  have HR2 := Lib.hid (HR.out.keep hb2)
  have HB2 := Lib.hid (HB1.out.trans (hb2.mono HB1.out.size))
  obtain ⟨a, rfl, hlt, x0, x1, x2, x3, x4, x5, x6⟩ := HR2.out.at 0 _ rfl
  obtain ⟨a', e', -, y0, y1, y2, y3, y4, y5, y6⟩ := HR2.out.at 2 _ rfl
  cases e'
  rw [Nat.zero_mul, show a.add 0 = a from rfl] at x0 x1 x2 x3 x4 x5 x6
  rw [show a.add (2 * 7) = ⟨a.block, a.off + 14, none⟩ from rfl] at y0 y1 y2 y3 y4 y5 y6
  simp only [] at x0 x1 x2 x3 x4 x5 x6 y0 y1 y2 y3 y4 y5 y6
  have hc3 : (3 : Int) ≤ cap := by omega
  have hc1 : (1 : Int) ≤ cap := by omega
  have HCL := Lib.hid (closed_true _ ex4S w2 HR2.out (by decide) ex4_closed)
  clear hb2
  go_wp2_with fail
  refine HCL.out.mono ?_
  rintro e w3 ⟨rfl, hb3⟩
  have HR3 := HR2.out.keep hb3
  have HC1 := Lib.hid (closed_one (some a) cap ⟨⟨0, 0⟩, ⟨8, 0⟩, ⟨8, 4⟩, true⟩ w3 (srd_take HR3 1 cap (by decide) (by omega)) (by decide))
  have HB3 := Lib.hid (HB2.out.trans (hb3.mono HB2.out.size))
  clear hb3 HR3 x0 x1 x2 x3 x4 x5 x6 y0 y1 y2 y3 y4 y5 y6
  go_wp2_with fail
  refine HC1.out.mono ?_
  rintro e w4 ⟨rfl, hb4⟩
  have HB4 := Lib.hid (HB3.out.trans (hb4.mono HB3.out.size))
  go_wp2
  go_ret
  exact ⟨rfl, HB4.out⟩

end Go.Proofs.Ythipookenpmfpaa
