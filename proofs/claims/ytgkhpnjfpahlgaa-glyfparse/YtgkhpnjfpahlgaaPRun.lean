/-
  What the program's runLength of layer 4 does to any world (no claim is made here).
-/
import Derived.Test.YtgkhpnjfpahlgaaPRow
namespace Go.Proofs.Ytgkhpnjfpahlgaa
open Go.RowKit

theorem runLen_next : ∀ (f : Nat) (l : List Nat) (j : Nat), j ≤ runLen f l → l[j]? = some f → j + 1 ≤ runLen f l
  | f, [], j, _, h => by simp at h
  | f, g :: l, j, hj, h => by
    unfold runLen at hj ⊢
    split
    · next hg =>
      rw [if_pos hg] at hj
      cases j with
      | zero => omega
      | succ j => have := runLen_next f l j (by omega) (by simpa using h); omega
    · next hg =>
      rw [if_neg hg] at hj
      obtain rfl : j = 0 := by omega
      simp at h
      exact absurd h hg
theorem runLen_stop : ∀ (f : Nat) (l : List Nat) (j g : Nat), j ≤ runLen f l → l[j]? = some g → g ≠ f → j = runLen f l
  | f, [], j, _, _, h, _ => by simp at h
  | f, k :: l, j, g, hj, h, hne => by
    unfold runLen at hj ⊢
    split
    · next hg =>
      rw [if_pos hg] at hj
      cases j with
      | zero => simp at h; omega
      | succ j => have := runLen_stop f l j g (by omega) (by simpa using h) hne; omega
    · next hg => rw [if_neg hg] at hj; omega

set_option maxHeartbeats 400000 in
theorem rl1_any (f f0 : Nat) (x y : Int) (P n cap : Nat) (a : Addr) (hn : 1 ≤ n) (w : World) (hP : w.cell? ⟨P, 0, none⟩ = some (.slice (some a) n cap)) (ha : w.cell? a = some (.int .u8 f0)) :
    Calls Try.prog 39 #[.agg #[.int .u8 f, .int .i64 x, .int .i64 y], .pointer (some ⟨P, 0, none⟩)] w fun e w' => e = .returned (.bool (decide (f ≠ f0))) ∧ Below w.heap.size w w' := by
  have hP1 : P < w.heap.size := World.block_lt_of_cell? w _ hP
  have ha1 : a.block < w.heap.size := World.block_lt_of_cell? w _ ha
  have B1 : Below w.heap.size w (w.alloc (.cells #[.int .u8 f, .int .i64 x, .int .i64 y] 59)) := (Below.refl _ w).alloc (Nat.le_refl _) _
  have HB := Lib.hid (belowDN B1)
  have hP' : (w.alloc (.cells #[.int .u8 f, .int .i64 x, .int .i64 y] 59)).cell? ⟨P, 0, none⟩ = some (.slice (some a) n cap) := (B1.cell (p := ⟨P, 0, none⟩) hP1).trans hP
  have ha' : (w.alloc (.cells #[.int .u8 f, .int .i64 x, .int .i64 y] 59)).cell? a = some (.int .u8 f0) := (B1.cell (p := a) ha1).trans ha
  have hn' : decide ((0 : Int) < n) = true := by simp; omega
  have hn2 : (0 : Int) < n := by omega
  clear B1 hP ha
  by_cases hff : f = f0
  · subst hff
    go_enter Try.func39, Try.ntmps39
    go_wp2_with fail
    go_quiet (fail)
    go_wp2
    go_ret
    exact ⟨by simp, HB.out nq⟩
  · have e1 : ((f : Int) == (f0 : Int)) = false := by simp; omega
    have e2 : ((f : Int) != (f0 : Int)) = true := by simp; omega
    have HF := Lib.hid hff
    clear hff
    go_enter Try.func39, Try.ntmps39
    go_wp2_with fail
    go_quiet (fail)
    go_wp2
    go_ret
    exact ⟨by simp [HF.out], HB.out nq⟩

set_option maxHeartbeats 400000 in
theorem indexs_any (a : Addr) (n cap : Nat) (c : List St) (P f0 R : Nat) (w : World) (h : SRd w (.slice (some a) n cap) c) (hl : c.length ≤ 1000) (hP : w.cell? ⟨P, 0, none⟩ = some (.slice (some a) n cap)) (h0 : (c.map St.f)[0]? = some f0) (hR : R = runLen f0 (c.map St.f)) :
    Calls Try.prog 38 #[.slice (some a) n cap, .func (.func 39) #[] #[.pointer (some ⟨P, 0, none⟩)]] w fun e w' => ∃ k : Int, e = .returned (.int .i64 k) ∧ ((R < n ∧ k = R) ∨ (R = n ∧ k = -1)) ∧ Below w.heap.size w w' := by
  obtain ⟨A, cap', e, hc, h3⟩ := h
  injection e with e1 e2 e3
  subst e1 e3
  have HD := Lib.hid h3
  have HLn := Lib.hid e2
  have HR := Lib.hid hR
  have HP := Lib.hid hP
  have hn1 : 1 ≤ n := by
    rw [e2]
    have := List.getElem?_eq_some_iff.1 h0
    obtain ⟨h, _⟩ := this
    rw [List.length_map] at h
    omega
  have ha0 : w.cell? a = some (.int .u8 f0) := by
    obtain ⟨a', ha, _, c0, _⟩ := h3 0 (by omega)
    injection ha with ha
    subst ha
    have : (c[0]'(by omega)).f = f0 := by
      obtain ⟨h, e⟩ := List.getElem?_eq_some_iff.1 h0
      simpa using e
    rw [this] at c0
    simpa [Addr.add] using c0
  have HA0 := Lib.hid ha0
  have hln : n ≤ 1000 := by omega
  have hPl : P < w.heap.size := World.block_lt_of_cell? w _ hP
  have hal : a.block < w.heap.size := World.block_lt_of_cell? w _ ha0
  have hRn : R ≤ n := by rw [hR, e2]; have := runLen_le f0 (c.map St.f); rwa [List.length_map] at this
  have H0 := Lib.hid h0
  clear h3 e2 hR hP ha0 hl hc h0
  go_enter Try.func38, Try.ntmps38
  go_wp2_with fail
  go_loopw [8] (fun i wr => ∃ j : Nat, j ≤ R ∧ i = .int .i64 j ∧ Hid (Below w.heap.size w wr)) (fun i _ => n - (intOf i).toNat)
  case atStart => exact ⟨0, Nat.zero_le _, rfl, Lib.hid (Below.refl _ _)⟩
  case round =>
    obtain ⟨j, hj, rfl, HW⟩ := hrel
    by_cases hjL : j < n
    · have hjb : decide ((j : Int) < n) = true := by simp; omega
      obtain ⟨a1, ha1e, ha1, x0, x1, x2⟩ := HD.out j (by have := HLn.out; omega)
      injection ha1e with ha1e
      subst ha1e
      have kp : ∀ p : Addr, p.block = a.block → wr.cell? p = w.cell? p := fun p hp => HW.out.cell (by rw [hp]; exact ha1)
      replace x0 := (kp _ (block_add _ _)).trans x0
      replace x1 := (kp _ (block_add _ _)).trans x1
      replace x2 := (kp _ (block_add _ _)).trans x2
      obtain ⟨d, hdd⟩ : ∃ d, d = c[j]'(by have := HLn.out; omega) := ⟨_, rfl⟩
      rw [← hdd] at x0 x1 x2
      have HDJ : Hid ((c.map St.f)[j]? = some d.f) := Lib.hid (by rw [hdd, List.getElem?_map, List.getElem?_eq_getElem (by have := HLn.out; omega)]; rfl)
      obtain ⟨df, dx, dy⟩ := d
      simp only [] at x0 x1 x2 HDJ
      rw [add_spell _ _ _ (by omega)] at x1 x2
      have HCA := Lib.hid (rl1_any df f0 dx dy P n cap a hn1 wr ((HW.out.cell (p := ⟨P, 0, none⟩) hPl).trans HP.out) ((HW.out.cell (p := a) hal).trans HA0.out))
      clear hdd kp
      by_cases hff : df = f0
      · have e1 : decide (df ≠ f0) = false := by simp [hff]
        rw [e1] at HCA
        have hj1 : j + 1 ≤ R := by rw [HR.out]; exact runLen_next f0 _ j (by rw [← HR.out]; exact hj) (by rw [HDJ.out, hff])
        clear e1 hff
        go_wp2_with fail
        refine HCA.out.mono ?_
        rintro e w1 ⟨rfl, hb1⟩
        have BB : Hid (Below w.heap.size w w1) := Lib.hid (HW.out.trans (hb1.mono HW.out.size))
        go_wp2_with fail
        exact ⟨⟨j + 1, by omega, by go_num, BB⟩, by simp [intOf]; omega⟩
      · have e1 : decide (df ≠ f0) = true := by simp [hff]
        rw [e1] at HCA
        have hj1 : j = R := by rw [HR.out]; exact runLen_stop f0 _ j df (by rw [← HR.out]; exact hj) HDJ.out hff
        have HJ1 := Lib.hid hj1
        clear e1 hff hj1
        go_wp2_with fail
        refine HCA.out.mono ?_
        rintro e w1 ⟨rfl, hb1⟩
        have BB : Hid (Below w.heap.size w w1) := Lib.hid (HW.out.trans (hb1.mono HW.out.size))
        go_wp2
        go_ret
        exact ⟨_, rfl, .inl ⟨by have := HJ1.out; omega, by rw [← HJ1.out]⟩, BB.out⟩
    · have hRR : R = n := by omega
      obtain rfl : j = n := by omega
      have HRR := Lib.hid hRR
      clear hRR
      go_wp2
      go_ret
      exact ⟨_, rfl, .inr ⟨HRR.out, rfl⟩, HW.out⟩

set_option maxHeartbeats 400000 in
theorem runLength_any (a : Addr) (n cap : Nat) (c : List St) (f0 R : Nat) (w : World) (h : SRd w (.slice (some a) n cap) c) (hl : c.length ≤ 1000) (h0 : (c.map St.f)[0]? = some f0) (hR : R = runLen f0 (c.map St.f)) :
    Calls Try.prog 33 #[.slice (some a) n cap] w fun e w' => e = .returned (.int .i64 R) ∧ Below w.heap.size w w' := by
  have B1 : Below w.heap.size w (w.alloc (.cells #[.slice (some a) n cap] 55)) := (Below.refl _ w).alloc (Nat.le_refl _) _
  have O1 : One (w.alloc (.cells #[.slice (some a) n cap] 55)) w.heap.size (.slice (some a) n cap) := One.new _ _ rfl
  have H := Lib.hid (indexs_any a n cap c w.heap.size f0 R _ (h.keep B1) hl O1.1 h0 hR)
  have HB := Lib.hid B1
  have HO := Lib.hid O1
  have hl2 : n ≤ 1000 := by
    obtain ⟨_, _, e, _⟩ := h
    injection e with e1 e2 e3
    omega
  clear B1 O1 hR h0
  go_enter Try.func33, Try.ntmps33
  go_wp2_with fail
  refine H.out.mono ?_
  rintro e w1 ⟨k, rfl, hk, hb1⟩
  have HB2 := Lib.hid (HB.out.trans (hb1.mono HB.out.size))
  obtain ⟨oc, of⟩ := HO.out.keep hb1
  have oz := (HO.out.keep hb1).lt
  rcases hk with ⟨hk1, rfl⟩ | ⟨rfl, rfl⟩
  · go_wp2
    go_ret
    exact ⟨rfl, HB2.out⟩
  · go_wp2
    go_ret
    exact ⟨rfl, HB2.out⟩

end Go.Proofs.Ytgkhpnjfpahlgaa
