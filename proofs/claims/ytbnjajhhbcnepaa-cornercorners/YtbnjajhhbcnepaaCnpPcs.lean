/-
  What the program's pieces of layer 11 does to any world: a contract (no claim is made here).
-/
import Derived.Test.YtbnjajhhbcnepaaCnpPie
import Derived.Deep.LoopGhost
namespace Go.Proofs.Ytbnjajhhbcnepaa
open Go.RowKit

/-- How far behind the first corner the k-th piece begins; the n-th edge ends the last one. -/
def begP (cs : List Nat) (n k : Nat) : Nat := if k < cs.length then cs.getD k 0 - cs.getD 0 0 else n
theorem begP_zero {cs : List Nat} {n : Nat} (h : 0 < cs.length) : begP cs n 0 = 0 := by unfold begP; rw [if_pos h]; omega
theorem begP_full {cs : List Nat} {n : Nat} : begP cs n cs.length = n := by unfold begP; rw [if_neg (by omega)]
theorem first_le {cs : List Nat} (h : cs.Pairwise (· < ·)) {k : Nat} (hk : k < cs.length) : cs.getD 0 0 ≤ cs.getD k 0 := by
  by_cases e : k = 0
  · subst e; exact Nat.le_refl _
  · exact Nat.le_of_lt (sorted_lt h (by omega) hk)
theorem getD_lt {cs : List Nat} {n : Nat} (hl : ∀ c ∈ cs, c < n) {k : Nat} (hk : k < cs.length) : cs.getD k 0 < n := by
  rw [List.getD_eq_getElem?_getD, List.getElem?_eq_getElem hk]
  exact hl _ (List.getElem_mem _)
theorem begP_lt {cs : List Nat} {n k : Nat} (h : cs.Pairwise (· < ·)) (hl : ∀ c ∈ cs, c < n) (hk : k < cs.length) : begP cs n k < begP cs n (k + 1) ∧ begP cs n (k + 1) ≤ n := by
  have h1 := first_le h hk
  have h2 := getD_lt hl hk
  unfold begP
  rw [if_pos hk]
  split
  · have := sorted_lt h (show k < k + 1 by omega) (by omega)
    have := getD_lt hl (show k + 1 < cs.length by omega)
    omega
  · omega
theorem piece_beg {cs : List Nat} {n k s : Nat} (h : cs.Pairwise (· < ·)) (hl : ∀ c ∈ cs, c < n) (hk : k < cs.length) (h1 : begP cs n k ≤ s) (h2 : s < begP cs n (k + 1)) : pieceC cs (atR n (cs.getD 0 0) s) = k := by
  have g1 := first_le h hk
  have g2 := getD_lt hl hk
  have g3 := (begP_lt h hl hk).2
  unfold begP at h1 h2
  rw [if_pos hk] at h1
  unfold atR
  by_cases e : k + 1 < cs.length
  · rw [if_pos e] at h2
    have g4 := getD_lt hl e
    rw [if_pos (by omega)]
    exact pieceC_at h hk (by omega) (fun _ => by omega)
  · rw [if_neg e] at h2
    by_cases e2 : cs.getD 0 0 + s < n
    · rw [if_pos e2]
      exact pieceC_at h hk (by omega) (fun q => absurd q e)
    · rw [if_neg e2, pieceC_ahead h (by omega)]
      omega
theorem next_beg {cs : List Nat} {n k s : Nat} (h : cs.Pairwise (· < ·)) (hl : ∀ c ∈ cs, c < n) (hk : k < cs.length) (h2 : s < begP cs n (k + 1)) : atR n (cs.getD 0 0) (s + 1) = cs.getD ((k + 1) % cs.length) 0 ↔ s + 1 = begP cs n (k + 1) := by
  have g0 := getD_lt hl (show 0 < cs.length by omega)
  unfold begP at h2 ⊢
  unfold atR
  by_cases e : k + 1 < cs.length
  · rw [if_pos e] at h2 ⊢
    rw [Nat.mod_eq_of_lt e]
    have g3 := first_le h e
    have g4 := getD_lt hl e
    split <;> omega
  · rw [if_neg e] at h2 ⊢
    rw [show k + 1 = cs.length by omega, Nat.mod_self]
    split <;> omega
theorem at_beg {cs : List Nat} {n k : Nat} (h : cs.Pairwise (· < ·)) (hl : ∀ c ∈ cs, c < n) (hk : k < cs.length) : atR n (cs.getD 0 0) (begP cs n k) = cs.getD k 0 := by
  have g1 := first_le h hk
  have g2 := getD_lt hl hk
  unfold begP atR
  rw [if_pos hk, if_pos (by omega)]
  omega
theorem step_at {n c s : Nat} (hc : c < n) (hs : s < n) : (((atR n c s : Nat) : Int) + 1).tmod n = (atR n c (s + 1) : Nat) := by
  rw [show ((atR n c s : Nat) : Int) + 1 = ((atR n c s + 1 : Nat) : Int) by omega, ← Int.ofNat_tmod]
  congr 1
  have := atR_lt hc hs
  by_cases e : atR n c s + 1 = n
  · rw [e, Nat.mod_self]
    unfold atR at e ⊢
    by_cases h : c + s < n
    · rw [if_pos h] at e; split <;> omega
    · rw [if_neg h] at e; split <;> omega
  · rw [Nat.mod_eq_of_lt (by omega)]
    unfold atR at e ⊢
    by_cases h : c + s < n
    · rw [if_pos h] at e ⊢; split <;> omega
    · rw [if_neg h] at e ⊢; split <;> omega

set_option maxRecDepth 100000 in
set_option maxHeartbeats 3200000 in
theorem ppieces_any (n m : Nat) (hn : n ≤ 200000) (cs : List Nat) (vc : Value) (w : World) (hc : NRd w vc cs) (hm : cs.length = m) (hm2 : 2 ≤ m) (hs : cs.Pairwise (· < ·)) (hl : ∀ c ∈ cs, c < n) :
    Calls Try.prog 30 #[.int .i64 n, vc] w fun e w' => ∃ V, e = .returned V ∧ NRow w' w.heap.size V ((List.range n).map fun k => colP m (pieceC cs k)) ∧ Below w.heap.size w w' := by
  obtain ⟨A, cap, rfl, hcap, -⟩ := id hc
  have HML := Lib.hid hm
  have HS := Lib.hid hs
  have HL := Lib.hid hl
  have HC := Lib.hid hc
  obtain ⟨c0, hc0⟩ : ∃ c, cs[0]? = some c := ⟨_, List.getElem?_eq_getElem (by omega)⟩
  have hgd : cs.getD 0 0 = c0 := by rw [List.getD_eq_getElem?_getD, hc0]; rfl
  have hcn : c0 < n := by rw [← hgd]; exact getD_lt hl (by omega)
  have hmn : m ≤ n := by
    have : ∀ k, k < cs.length → k ≤ cs.getD k 0 := by
      intro k
      induction k with
      | zero => intro _; omega
      | succ k ih => intro h; have := ih (by omega); have := sorted_lt hs (show k < k + 1 by omega) h; omega
    have h1 := this (m - 1) (by omega)
    have h2 := getD_lt hl (show m - 1 < cs.length by omega)
    omega
  rw [hm] at hcap HC
  rw [hm]
  obtain ⟨a0, rfl, hal0, q0⟩ := HC.out.at 0 c0 hc0
  rw [show a0.add 0 = a0 from rfl] at q0
  have HGD := Lib.hid hgd
  have HPC := Lib.hid (fun (i : Nat) (hi : i < m) (w : World) => ppiece_any i m (by omega) hi w)
  obtain ⟨t, ht⟩ : ∃ t : Nat → Nat, (fun k => colP m (pieceC cs k)) = t := ⟨_, rfl⟩
  have HT := Lib.hid (show ∀ k s, k < m → begP cs n k ≤ s → s < begP cs n (k + 1) → t (atR n c0 s) = colP m k from fun k s h0 h1 h2 => by
    rw [← ht, ← hgd]
    simp only []
    rw [piece_beg hs hl (by omega) h1 h2])
  rw [ht]
  have HBL := Lib.hid (show ∀ k, k < m → begP cs n k < begP cs n (k + 1) ∧ begP cs n (k + 1) ≤ n from fun k hk => begP_lt hs hl (by omega))
  have HNX := Lib.hid (show ∀ k s, k < m → s < begP cs n (k + 1) → (atR n c0 (s + 1) = cs.getD ((k + 1) % m) 0 ↔ s + 1 = begP cs n (k + 1)) from fun k s h0 h2 => by
    have := next_beg hs hl (show k < cs.length by omega) h2
    rw [hgd, hm] at this
    exact this)
  have HBF := Lib.hid (show begP cs n m = n from by rw [← hm]; exact begP_full)
  have HBZ : Hid (begP cs n 0 = 0) := Lib.hid (begP_zero (by omega))
  have HA0 : Hid (atR n c0 0 = c0) := Lib.hid (by unfold atR; rw [if_pos (by omega)]; rfl)
  obtain ⟨i0, hi0, hz0, hz1, hz2⟩ := infos ninfo
  obtain ⟨wm, hr, hown, hg⟩ := run_make_full (P := Try.prog) w w.heap.size 38 3 i0 _ 1 Try.underlying38 hi0 hz0 hz1 .i64 .i64 n (by rw [hz2]; omega) (by unfold maxLen; omega) (Nat.le_refl _)
  have HBm := Lib.hid ((Below.refl _ w).grown hg (Nat.le_refl _) (fun q hq => by cases hq))
  have HM0 : Hid (NRw wm w.heap.size n (nvals (rotF t n c0 0))) := Lib.hid (NRw.made hown)
  have q0' := keep HBm.out q0
  generalize begP cs n = bP at *
  clear hown hg hi0 hz0 hz1 hz2 hc hm hs hl hc0 hgd q0 ht HGD
  go_enter Try.func30, Try.ntmps30
  go_wp2_with fail
  go_step3
  go_wp2_with fail
  go_step3
  go_wp2_with fail
  clear hr q0'
  go_loopw [17, 6] (fun i p wr => ∃ k s : Nat, k ≤ m ∧ i = .int .i64 k ∧ p = .int .i64 (atR n c0 s : Nat) ∧ Hid (bP k = s) ∧ Hid (NRw wr w.heap.size n (nvals (rotF t n c0 s))) ∧ Hid (Below w.heap.size w wr)) (fun i _ _ => m - (intOf i).toNat)
  case atStart => exact ⟨0, 0, Nat.zero_le _, rfl, by rw [HA0.out], HBZ, HM0, HBm⟩
  case round =>
    clear HM0 HBm HBZ HA0
    obtain ⟨k, s, hk, rfl, rfl, HBP, HM, HB⟩ := hrel
    by_cases hkm : k < m
    · have hkb : decide ((k : Int) < m) = true := by simp; omega
      obtain ⟨k2, hk2⟩ : ∃ k2, (k + 1) % m = k2 := ⟨_, rfl⟩
      have hk2m : k2 < m := by rw [← hk2]; exact Nat.mod_lt _ (by omega)
      have htk : ((k : Int) + 1).tmod m = (k2 : Int) := by rw [← hk2, show (k : Int) + 1 = ((k + 1 : Nat) : Int) by omega, ← Int.ofNat_tmod]
      obtain ⟨nx, hnx⟩ : ∃ c, cs[k2]? = some c := ⟨_, List.getElem?_eq_getElem (by rw [HML.out]; exact hk2m)⟩
      have hngd : cs.getD k2 0 = nx := by rw [List.getD_eq_getElem?_getD, hnx]; rfl
      have HN := Lib.hid (fun s => HNX.out k s hkm)
      rw [hk2, hngd] at HN
      have HT2 := Lib.hid (fun s => HT.out k s hkm)
      have HB2 := Lib.hid (HBL.out k hkm)
      have HP := Lib.hid (fun w => HPC.out k hkm w)
      have HX := Lib.hid hnx
      have z1 : IntKind.i64.wrap ((k : Int) + 1) = k + 1 := wI (by omega) (by omega)
      have z2 : IntKind.i64.wrap (k2 : Int) = k2 := wI (by omega) (by omega)
      have z3 : ¬(m = 0) := by omega
      clear hk2 hnx hngd
      go_upto_region 6 with fail
      have hd : Below wr.heap.size wr wr.drew := (Below.refl _ wr).drew
      have AB := HB.out.drew
      replace HM := Lib.hid (HM.out.keep hd)
      have HCX := Lib.hid (HC.out.keep AB)
      clear hd HB
      refine wp_region_held_drew (S := fun wx => wx.cell? (a0.add k2) = some (.int .i64 nx)) (by kernel_rfl) (at3 HCX.out k2 nx HX.out) (fun hHeld => ?_)
      refine wpAnyH_take (i := 0) (v := ?_) rfl (by kernel_rfl) (by kernel_rfl) (by kernel_rfl) (fun _ _ _ h => h) (Or.inl ⟨by rfl, ?_⟩) hHeld ?_
      rotate_left
      · intro w hSw
        (try dsimp only at hSw)
        (try simp only [List.getElem_toArray, List.getElem_cons_zero])
        go_simp
        all_goals with_reducible rfl
      try simp only [List.getElem_toArray, List.getElem_cons_zero, Act.put, List.setIfInBounds_toArray, List.set_cons_zero, List.set_cons_succ]
      refine wpAnyH_take (i := 1) (v := ?_) rfl (by kernel_rfl) (by kernel_rfl) (by kernel_rfl) (fun _ _ _ h => h) (Or.inl ⟨by rfl, ?_⟩) hHeld ?_
      rotate_left
      · intro w hSw
        (try dsimp only at hSw)
        (try simp only [List.getElem_toArray, List.getElem_cons_zero, List.getElem_cons_succ])
        go_simp
        all_goals with_reducible rfl
      try simp only [List.getElem_toArray, List.getElem_cons_zero, List.getElem_cons_succ, Act.put, List.setIfInBounds_toArray, List.set_cons_zero, List.set_cons_succ]
      refine wpAnyH_take (i := 2) (v := ?_) rfl (by kernel_rfl) (by kernel_rfl) (by kernel_rfl) (fun _ _ _ h => h) (Or.inl ⟨by rfl, ?_⟩) hHeld ?_
      rotate_left
      · intro w hSw
        (try dsimp only at hSw)
        (try simp only [List.getElem_toArray, List.getElem_cons_zero, List.getElem_cons_succ])
        go_simp
        all_goals with_reducible rfl
      try simp only [List.getElem_toArray, List.getElem_cons_zero, List.getElem_cons_succ, Act.put, List.setIfInBounds_toArray, List.set_cons_zero, List.set_cons_succ]
      refine wpAnyH_take (i := 4) (v := ?_) rfl (by kernel_rfl) (by kernel_rfl) (by kernel_rfl) (fun _ _ _ h => h) (Or.inl ⟨by rfl, ?_⟩) hHeld ?_
      rotate_left
      · intro w hSw
        (try dsimp only at hSw)
        (try simp only [List.getElem_toArray, List.getElem_cons_zero, List.getElem_cons_succ])
        go_simp
        all_goals with_reducible rfl
      try simp only [List.getElem_toArray, List.getElem_cons_zero, List.getElem_cons_succ, Act.put, List.setIfInBounds_toArray, List.set_cons_zero, List.set_cons_succ]
      refine wpAnyH_take (i := 5) (v := ?_) rfl (by kernel_rfl) (by kernel_rfl) (by kernel_rfl) (fun _ _ _ h => h) (Or.inl ⟨by rfl, ?_⟩) hHeld ?_
      rotate_left
      · intro w hSw
        (try dsimp only at hSw)
        (try simp only [List.getElem_toArray, List.getElem_cons_zero, List.getElem_cons_succ])
        go_simp
        all_goals with_reducible rfl
      try simp only [List.getElem_toArray, List.getElem_cons_zero, List.getElem_cons_succ, Act.put, List.setIfInBounds_toArray, List.set_cons_zero, List.set_cons_succ]
      refine wpAnyH_take (i := 6) (v := ?_) rfl (by kernel_rfl) (by kernel_rfl) (by kernel_rfl) (fun _ _ _ h => h) (Or.inl ⟨by rfl, ?_⟩) hHeld ?_
      rotate_left
      · intro w hSw
        (try dsimp only at hSw)
        (try simp only [List.getElem_toArray, List.getElem_cons_zero, List.getElem_cons_succ])
        go_simp
        all_goals with_reducible rfl
      try simp only [List.getElem_toArray, List.getElem_cons_zero, List.getElem_cons_succ, Act.put, List.setIfInBounds_toArray, List.set_cons_zero, List.set_cons_succ]
      refine wpAnyH_take (i := 7) (v := ?_) rfl (by kernel_rfl) (by kernel_rfl) (by kernel_rfl) (fun _ _ _ h => h) (Or.inl ⟨by rfl, ?_⟩) hHeld ?_
      rotate_left
      · intro w hSw
        (try dsimp only at hSw)
        (try simp only [List.getElem_toArray, List.getElem_cons_zero, List.getElem_cons_succ])
        go_simp
        all_goals with_reducible rfl
      try simp only [List.getElem_toArray, List.getElem_cons_zero, List.getElem_cons_succ, Act.put, List.setIfInBounds_toArray, List.set_cons_zero, List.set_cons_succ]
      refine wpAnyH_take (i := 8) (v := ?_) rfl (by kernel_rfl) (by kernel_rfl) (by kernel_rfl) (fun _ _ _ h => h) (Or.inl ⟨by rfl, ?_⟩) hHeld ?_
      rotate_left
      · intro w hSw
        (try dsimp only at hSw)
        (try simp only [List.getElem_toArray, List.getElem_cons_zero, List.getElem_cons_succ])
        go_simp
        all_goals with_reducible rfl
      try simp only [List.getElem_toArray, List.getElem_cons_zero, List.getElem_cons_succ, Act.put, List.setIfInBounds_toArray, List.set_cons_zero, List.set_cons_succ]
      refine wpAnyH_take (i := 9) (v := ?_) rfl (by kernel_rfl) (by kernel_rfl) (by kernel_rfl) (fun _ _ _ h => h) (Or.inl ⟨by rfl, ?_⟩) hHeld ?_
      rotate_left
      · intro w hSw
        (try dsimp only at hSw)
        (try simp only [List.getElem_toArray, List.getElem_cons_zero, List.getElem_cons_succ])
        go_simp
        all_goals with_reducible rfl
      try simp only [List.getElem_toArray, List.getElem_cons_zero, List.getElem_cons_succ, Act.put, List.setIfInBounds_toArray, List.set_cons_zero, List.set_cons_succ]
      refine wpAnyH_take (i := 10) (v := ?_) rfl (by kernel_rfl) (by kernel_rfl) (by kernel_rfl) (fun _ _ _ h => h) (Or.inl ⟨by rfl, ?_⟩) hHeld ?_
      rotate_left
      · intro w hSw
        (try dsimp only at hSw)
        (try simp only [List.getElem_toArray, List.getElem_cons_zero, List.getElem_cons_succ])
        go_simp
        all_goals with_reducible rfl
      try simp only [List.getElem_toArray, List.getElem_cons_zero, List.getElem_cons_succ, Act.put, List.setIfInBounds_toArray, List.set_cons_zero, List.set_cons_succ]
      refine wpAnyH_take (i := 11) (v := ?_) rfl (by kernel_rfl) (by kernel_rfl) (by kernel_rfl) (fun _ _ _ h => h) (Or.inl ⟨by rfl, ?_⟩) hHeld ?_
      rotate_left
      · intro w hSw
        (try dsimp only at hSw)
        (try simp only [List.getElem_toArray, List.getElem_cons_zero, List.getElem_cons_succ])
        go_simp
        all_goals with_reducible rfl
      try simp only [List.getElem_toArray, List.getElem_cons_zero, List.getElem_cons_succ, Act.put, List.setIfInBounds_toArray, List.set_cons_zero, List.set_cons_succ]
      refine wpAnyH_ready (rs := [3]) (by kernel_rfl) (by simp) ?_
      refine AllReadyH.cons rfl (fun K hK => ?_) AllReadyH.nil
      try simp only [List.getElem_toArray, List.getElem_cons_zero, List.getElem_cons_succ]
      go_simp
      refine (HP.out _).mono ?_
      rintro e wn ⟨rfl, hbn⟩
      have AB := AB.trans (hbn.mono (AB.size))
      replace HM := Lib.hid (HM.out.keep hbn)
      replace HCX := Lib.hid (HCX.out.keep hbn)
      clear hbn
      go_wp2_with fail
      refine hK.out _ _ (at3 HCX.out k2 nx HX.out) (fun hHeld => ?_)
      clear hK K
      try simp only [List.getElem_toArray, List.getElem_cons_zero, List.getElem_cons_succ, Act.put, List.setIfInBounds_toArray, List.set_cons_zero, List.set_cons_succ]
      refine wpAnyH_take (i := 12) (v := ?_) rfl (by kernel_rfl) (by kernel_rfl) (by kernel_rfl) (fun _ _ _ h => h) (Or.inl ⟨by rfl, ?_⟩) hHeld ?_
      rotate_left
      · intro w hSw
        (try dsimp only at hSw)
        (try simp only [List.getElem_toArray, List.getElem_cons_zero, List.getElem_cons_succ])
        go_simp
        all_goals with_reducible rfl
      try simp only [List.getElem_toArray, List.getElem_cons_zero, List.getElem_cons_succ, Act.put, List.setIfInBounds_toArray, List.set_cons_zero, List.set_cons_succ]
      refine wpAnyH_take (i := 13) (v := ?_) rfl (by kernel_rfl) (by kernel_rfl) (by kernel_rfl) (fun _ _ _ h => h) (Or.inl ⟨by rfl, ?_⟩) hHeld ?_
      rotate_left
      · intro w hSw
        (try dsimp only at hSw)
        (try simp only [List.getElem_toArray, List.getElem_cons_zero, List.getElem_cons_succ])
        go_simp
        all_goals with_reducible rfl
      try simp only [List.getElem_toArray, List.getElem_cons_zero, List.getElem_cons_succ, Act.put, List.setIfInBounds_toArray, List.set_cons_zero, List.set_cons_succ]
      refine wpAnyH_done (by kernel_rfl) ?_ _
      clear hHeld
      obtain ⟨col, hcol⟩ : ∃ col, colP m k = col := ⟨_, rfl⟩
      rw [hcol] at HT2 ⊢
      have HBN := Lib.hid AB
      clear AB hcol HCX HP HX htk z1 z2 z3
      go_wp2_with fail
      go_loopw [6] (fun p wr => ∃ s : Nat, bP k ≤ s ∧ s < bP (k + 1) ∧ p = .int .i64 (atR n c0 s : Nat) ∧ Hid (NRw wr w.heap.size n (nvals (rotF t n c0 s))) ∧ Hid (Below w.heap.size w wr)) (fun p _ => n - posR n c0 (intOf p).toNat)
      case atStart => exact ⟨s, by rw [HBP.out]; exact Nat.le_refl _, by rw [← HBP.out]; exact HB2.out.1, rfl, HM, HBN⟩
      case round =>
        clear HM HBN HBP
        obtain ⟨s, hs1, hs2, rfl, HM, HB⟩ := hrel
        have hsn : s < n := Nat.lt_of_lt_of_le hs2 HB2.out.2
        have HTV := Lib.hid (HT2.out s hs1 hs2)
        have HPO := Lib.hid (posR_at hcn hsn)
        have hal := atR_lt hcn hsn
        have htm := step_at hcn hsn
        have HNI := Lib.hid (HN.out s hs2)
        have HM2 := Lib.hid (HM.out.store (atR n c0 s) (.int .i64 (col : Nat)))
        have HM3 := Lib.hid (NRw.rot (t := t) (x := (col : Nat)) HM2.out (by rw [HTV.out]) hcn hsn)
        have HB3 := Lib.hid (HB.out.setCell (p := ⟨w.heap.size, atR n c0 s, none⟩) (Nat.le_refl _) (.int .i64 (col : Nat)))
        obtain ⟨⟨x1, m1⟩, mf⟩ := HM.out.cell (atR n c0 s) hal
        have ml := HM.out.lt
        obtain ⟨j2, hj2⟩ : ∃ j, atR n c0 (s + 1) = j := ⟨_, rfl⟩
        rw [hj2] at htm HNI
        have HJ2 := Lib.hid hj2
        obtain ⟨j, hj⟩ : ∃ j, atR n c0 s = j := ⟨_, rfl⟩
        rw [hj] at hal htm HM2 HM3 HB3 HPO m1 mf ⊢
        have y1 : IntKind.i64.wrap ((j : Int) + 1) = j + 1 := wI (by omega) (by omega)
        have y2 : IntKind.i64.wrap (j2 : Int) = j2 := by rw [← hj2]; exact wI (by omega) (by unfold atR; split <;> omega)
        have y3 : ((n : Int) == 0) = false := by simp; omega
        have y4 : ¬(n = 0) := by omega
        clear HM HM2 hj hj2 HTV HB
        by_cases hq : s + 1 = bP (k + 1)
        · have hqb : ((j2 : Int) == (nx : Int)) = true := by rw [HNI.out.2 hq]; simp
          have hqe : j2 = nx := HNI.out.2 hq
          have HQ := Lib.hid hq.symm
          have HJ3 := Lib.hid (show (nx : Nat) = atR n c0 (s + 1) by rw [HJ2.out, hqe])
          subst hqe
          clear HNI hq
          go_wp2_with fail
          exact ⟨⟨k + 1, s + 1, hkm, by go_num, by rw [← HJ3.out], HQ, HM3, HB3⟩, by simp [intOf]; omega⟩
        · have hqb : ((j2 : Int) == (nx : Int)) = false := by
            have : j2 ≠ nx := fun h => hq (HNI.out.1 h)
            simp; omega
          have hs3 : s + 1 < n := by have := HB2.out.2; omega
          have HPO2 := Lib.hid (posR_at hcn hs3)
          rw [HJ2.out] at HPO2
          clear HNI
          go_wp2_with fail
          exact ⟨⟨s + 1, by omega, by omega, by rw [HJ2.out], HM3, HB3⟩, by simp only [intOf, Int.toNat_natCast]; rw [HPO.out, HPO2.out]; omega⟩
    · obtain rfl : k = m := by omega
      go_wp2_with fail
      try rw [Exit.noGoto_ret]
      go_ret
      have hsn : s = n := HBP.out.symm.trans HBF.out
      subst hsn
      exact ⟨_, rfl, HM.out.rotrow hcn, HB.out⟩

end Go.Proofs.Ytbnjajhhbcnepaa
