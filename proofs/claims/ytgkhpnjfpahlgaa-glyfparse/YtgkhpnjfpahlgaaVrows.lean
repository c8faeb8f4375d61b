/-
  Outlines in memory that are read; what the law's check of layer 4 does to any world (no claim is made here).
-/
import Derived.Test.YtgkhpnjfpahlgaaDots1
namespace Go.Proofs.Ytgkhpnjfpahlgaa
open Go.RowKit

/-- A contour in memory, nil let in; an outline. -/
def VRd (w : World) (v : Value) (c : List Vtx) : Prop :=
  ∃ A cap, v = .slice A c.length cap ∧ c.length ≤ cap ∧ ∀ i (h : i < c.length), ∃ a, A = some a ∧ a.block < w.heap.size ∧ w.cell? (a.add (i * 3)) = some (.int .i64 (c[i]).x) ∧ w.cell? (a.add (i * 3 + 1)) = some (.int .i64 (c[i]).y) ∧ w.cell? (a.add (i * 3 + 2)) = some (.bool (c[i]).on)
def ORd (w : World) (v : Value) (o : List (List Vtx)) : Prop :=
  ∃ A cap, v = .slice A o.length cap ∧ o.length ≤ cap ∧ ∀ r (h : r < o.length), ∃ a u, A = some a ∧ a.block < w.heap.size ∧ w.cell? (a.add r) = some u ∧ VRd w u (o[r])
theorem VRd.keep {w w' : World} {v : Value} {c : List Vtx} (h : VRd w v c) (hb : Below w.heap.size w w') : VRd w' v c := by
  obtain ⟨A, cap, e, h1, h3⟩ := h
  refine ⟨A, cap, e, h1, fun i hi => ?_⟩
  obtain ⟨a, ha, hlt, c0, c1, c2⟩ := h3 i hi
  exact ⟨a, ha, Nat.lt_of_lt_of_le hlt hb.size, by rw [hb.cell (by rw [block_add]; exact hlt)]; exact c0, by rw [hb.cell (by rw [block_add]; exact hlt)]; exact c1, by rw [hb.cell (by rw [block_add]; exact hlt)]; exact c2⟩
theorem ORd.keep {w w' : World} {v : Value} {o : List (List Vtx)} (h : ORd w v o) (hb : Below w.heap.size w w') : ORd w' v o := by
  obtain ⟨A, cap, e, h1, h3⟩ := h
  refine ⟨A, cap, e, h1, fun r hr => ?_⟩
  obtain ⟨a, u, ha, hlt, c, d⟩ := h3 r hr
  exact ⟨a, u, ha, Nat.lt_of_lt_of_le hlt hb.size, by rw [hb.cell (by rw [block_add]; exact hlt)]; exact c, d.keep hb⟩

theorem vcells_at : ∀ (c : List Vtx) (i : Nat) (h : i < c.length), (vcells c)[i * 3]? = some (.int .i64 (c[i]).x) ∧ (vcells c)[i * 3 + 1]? = some (.int .i64 (c[i]).y) ∧ (vcells c)[i * 3 + 2]? = some (.bool (c[i]).on)
  | v :: c, 0, _ => ⟨rfl, rfl, rfl⟩
  | v :: c, i + 1, h => by
    obtain ⟨a, b, d⟩ := vcells_at c i (by simpa using h)
    have e : vcells (v :: c) = .int .i64 v.x :: .int .i64 v.y :: .bool v.on :: vcells c := by simp [vcells]
    rw [e, show (i + 1) * 3 = i * 3 + 1 + 1 + 1 by omega]
    exact ⟨a, b, d⟩
theorem VRow.read {w : World} {base : Nat} {u : Value} {c : List Vtx} (h : VRow w base u c) : VRd w u c := by
  rcases h.2 with ⟨rfl, h0⟩ | ⟨g, cap, cur, rfl, _, hg, hl, _, _, _⟩
  · have : c = [] := List.eq_nil_of_length_eq_zero h0
    subst this
    exact ⟨none, 0, rfl, Nat.le_refl _, fun i hi => absurd hi (Nat.not_lt_zero _)⟩
  · refine ⟨_, cap, rfl, hl, fun i hi => ⟨_, rfl, (World.ownsRow.lt h g rfl).2, ?_⟩⟩
    obtain ⟨a, b, d⟩ := vcells_at c i hi
    exact ⟨World.ownsRow.cells h rfl _ _ a, World.ownsRow.cells h rfl _ _ b, World.ownsRow.cells h rfl _ _ d⟩
theorem Outl.read {w : World} {base : Nat} {v : Value} {o : List (List Vtx)} (h : Outl w base v o) : ORd w v o := by
  obtain ⟨vs, e, h1, h2, _⟩ := h
  have h1' := h1
  rcases h1.2 with ⟨rfl, h0⟩ | ⟨g, cap, cur, rfl, _, hg, hl, _, _, _⟩
  · have : o = [] := List.eq_nil_of_length_eq_zero h0
    subst this
    exact ⟨none, 0, rfl, Nat.le_refl _, fun i hi => absurd hi (Nat.not_lt_zero _)⟩
  · refine ⟨_, cap, rfl, hl, fun r hr => ⟨_, vs[r], rfl, (h1'.lt g rfl).2, ?_, (h2 r hr (by omega)).1.read⟩⟩
    exact h1'.cells rfl r _ (List.getElem?_eq_getElem (by omega))

theorem any_push (c : List Vtx) (i : Nat) (v : Vtx) (h : c[i]? = some v) (h0 : (c.take i).any badV = false) (hv : badV v = false) : (c.take (i + 1)).any badV = false := by
  rw [take_push c i v h, List.any_append, h0]
  simp [hv]
theorem any_bad (c : List Vtx) (i : Nat) (v : Vtx) (h : c[i]? = some v) (hv : badV v = true) : c.any badV = true := by
  obtain ⟨hi, rfl⟩ := List.getElem?_eq_some_iff.1 h
  exact List.any_eq_true.2 ⟨_, List.getElem_mem hi, hv⟩

set_option maxHeartbeats 400000 in
theorem check_any (v : Value) (o : List (List Vtx)) (w : World) (ho : ORd w v o) (hl : ∀ c ∈ o, c.length ≤ 1000) (hn : o.length ≤ 1000) :
    Calls Try.prog 13 #[.agg #[v]] w fun e w' => e = .returned (.int .i64 (checkS o : Nat)) ∧ Below w.heap.size w w' := by
  obtain ⟨A, cap, rfl, hc, h3⟩ := ho
  have H3 := Lib.hid h3
  have HN := Lib.hid hl
  obtain ⟨n, hnn⟩ : ∃ n : Nat, o.length = n := ⟨_, rfl⟩
  rw [hnn] at hc hn
  obtain ⟨R, hR⟩ : ∃ R : Nat, checkS o = R := ⟨_, rfl⟩
  have HR := Lib.hid hR
  have HNN := Lib.hid hnn
  rw [hnn, hR]
  clear h3 hl hR hnn
  by_cases h8 : 8 < n
  · have h8' : (8 : Int) < n := by omega
    have e : R = 3 := by rw [← HR.out]; unfold checkS; rw [HNN.out, if_pos h8]
    subst e
    go_enter Try.func13, Try.ntmps13
    go_wp2
    go_ret
    exact ⟨rfl, (Below.refl _ _).alloc (Nat.le_refl _) _⟩
  · have h8' : (n : Int) ≤ 8 := by omega
    have HC : Hid (R = checkC 0 (o.drop 0)) := Lib.hid (by rw [← HR.out]; unfold checkS; rw [HNN.out, if_neg h8]; rfl)
    go_enter Try.func13, Try.ntmps13
    have h8b : decide ((8 : Int) < n) = false := by simp; omega
    clear h8
    go_wp2_with fail
    have B1 : Below w.heap.size w (w.alloc (.cells #[.slice A n cap] 29)) := (Below.refl _ w).alloc (Nat.le_refl _) _
    generalize w.alloc (.cells #[.slice A n cap] 29) = w1 at *
    go_loopw [15, 3] (fun i l wr => ∃ (r s : Nat), r ≤ n ∧ i = .int .i64 r ∧ l = .int .i64 s ∧ s ≤ 64 ∧ Hid (R = checkC s (o.drop r)) ∧ Hid (Below w.heap.size w wr)) (fun i _ _ => n - (intOf i).toNat)
    case atStart => exact ⟨0, 0, Nat.zero_le _, rfl, rfl, by omega, HC, Lib.hid B1⟩
    case round =>
      obtain ⟨r, s, hr, rfl, rfl, hs, HS, HB⟩ := hrel
      clear B1 HC HR
      by_cases hrn : r < n
      · have hrb : decide ((r : Int) < n) = true := by simp; omega
        obtain ⟨a, u, rfl, hal, hac, hrow⟩ := H3.out r (by have := HNN.out; omega)
        obtain ⟨A1, cap1, rfl, hcl, hd⟩ := hrow
        have hac' := (HB.out.cell (p := a.add r) (by rw [block_add]; exact hal)).trans hac
        clear hac
        obtain ⟨c, hcr⟩ : ∃ c, c = o[r]'(by have := HNN.out; omega) := ⟨_, rfl⟩
        rw [← hcr] at hac' hcl hd
        have HCR : Hid (o[r]? = some c) := Lib.hid (by rw [hcr]; exact List.getElem?_eq_getElem _)
        have hL1 : c.length ≤ 1000 := HN.out c (by rw [hcr]; exact List.getElem_mem _)
        obtain ⟨L, hL⟩ : ∃ L : Nat, c.length = L := ⟨_, rfl⟩
        rw [hL] at hac' hcl hL1
        have HLn := Lib.hid hL
        have HD := Lib.hid hd
        have hst : R = if 64 < s + L then 3 else if c = [] then 2 else if c.any badV = true then 4 else checkC (s + L) (o.drop (r + 1)) := by
          rw [HS.out, drop_push o r c HCR.out, checkC, hL]
        have HST := Lib.hid hst
        clear hst hcr hd hL
        by_cases h64 : 64 < s + L
        · obtain rfl : R = 3 := by rw [HST.out, if_pos h64]
          have h64' : (64 : Int) < (s : Int) + L := by omega
          go_wp2
          go_ret
          exact ⟨rfl, HB.out⟩
        · have h64' : (s : Int) + L ≤ 64 := by omega
          have h64b : decide ((64 : Int) < (s : Int) + L) = false := by simp; omega
          by_cases h0 : L = 0
          · subst h0
            obtain rfl : R = 2 := by rw [HST.out, if_neg h64, if_pos (List.eq_nil_of_length_eq_zero HLn.out)]
            go_wp2
            go_ret
            exact ⟨rfl, HB.out⟩
          · have h0' : ((L : Int) == 0) = false := by simp; omega
            go_wp2_with fail
            obtain ⟨wi, rfl⟩ : ∃ wi, wi = wr := ⟨_, rfl⟩
            go_loopw [30] (fun i wr => ∃ j : Nat, j ≤ L ∧ i = .int .i64 j ∧ Hid ((c.take j).any badV = false) ∧ Hid (Below wi.heap.size wi wr)) (fun i _ => L - (intOf i).toNat)
            case atStart => exact ⟨0, Nat.zero_le _, rfl, Lib.hid rfl, Lib.hid (Below.refl _ _)⟩
            case round =>
              obtain ⟨j, hj, rfl, HG, HW⟩ := hrel
              have BB : Hid (Below w.heap.size w wr) := Lib.hid (HB.out.trans (HW.out.mono HB.out.size))
              clear hac'
              by_cases hjL : j < L
              · have hjb : decide ((j : Int) < L) = true := by simp; omega
                obtain ⟨a1, rfl, ha1, x0, x1, x2⟩ := HD.out j (by have := HLn.out; omega)
                have kp : ∀ p : Addr, p.block = a1.block → wr.cell? p = w.cell? p := fun p hp => BB.out.cell (by rw [hp]; exact ha1)
                replace x0 := (kp _ (block_add _ _)).trans x0
                replace x1 := (kp _ (block_add _ _)).trans x1
                replace x2 := (kp _ (block_add _ _)).trans x2
                obtain ⟨d, hdd⟩ : ∃ d, d = c[j]'(by have := HLn.out; omega) := ⟨_, rfl⟩
                rw [← hdd] at x0 x1 x2
                have HDJ : Hid (c[j]? = some d) := Lib.hid (by rw [hdd]; exact List.getElem?_eq_getElem _)
                have HBV : Hid (badV d = decide (255 < d.x ∨ 255 < d.y ∨ d.x < -255 ∨ d.y < -255)) := Lib.hid rfl
                obtain ⟨dx, dy, don⟩ := d
                simp only [] at x0 x1 x2
                rw [add_spell _ _ _ (by omega)] at x1 x2
                clear hdd kp
                by_cases hbad : 255 < dx ∨ 255 < dy ∨ dx < -255 ∨ dy < -255
                · have hb1 : badV ⟨dx, dy, don⟩ = true := by rw [HBV.out]; exact decide_eq_true hbad
                  obtain rfl : R = 4 := by rw [HST.out, if_neg h64, if_neg (fun e => h0 (by rw [← HLn.out, e]; rfl)), if_pos (any_bad c j _ HDJ.out hb1)]
                  clear hb1 HBV
                  go_wp2_with fail
                  all_goals
                    go_ret
                    exact ⟨rfl, BB.out.alloc BB.out.size _⟩
                · have hb1 : badV ⟨dx, dy, don⟩ = false := by rw [HBV.out]; exact decide_eq_false hbad
                  have HG' := Lib.hid (any_push c j _ HDJ.out HG.out hb1)
                  have q1 : dx ≤ 255 := by omega
                  have q2 : dy ≤ 255 := by omega
                  have q3 : -255 ≤ dx := by omega
                  have q4 : -255 ≤ dy := by omega
                  clear hb1 HBV hbad HG
                  go_wp2_with fail
                  all_goals
                    exact ⟨⟨j + 1, by omega, by go_num, HG', Lib.hid (HW.out.alloc HW.out.size _)⟩, by simp [intOf]; omega⟩
              · obtain rfl : j = L := by omega
                have HS' : Hid (R = checkC (s + j) (o.drop (r + 1))) := Lib.hid (by
                  have hg := HG.out
                  rw [List.take_of_length_le (by rw [HLn.out]; omega)] at hg
                  rw [HST.out, if_neg h64, if_neg (fun e => h0 (by rw [← HLn.out, e]; rfl)), if_neg (by rw [hg]; decide)])
                clear HST HG
                go_wp2_with fail
                exact ⟨⟨r + 1, s + j, by omega, by go_num, by go_num, by omega, HS', BB⟩, by simp [intOf]; omega⟩
      · obtain rfl : r = n := by omega
        have e0 : R = 0 := by rw [HS.out, List.drop_eq_nil_of_le (by rw [HNN.out]; omega)]; rfl
        subst e0
        go_wp2
        go_ret
        exact ⟨rfl, HB.out⟩

end Go.Proofs.Ytgkhpnjfpahlgaa
