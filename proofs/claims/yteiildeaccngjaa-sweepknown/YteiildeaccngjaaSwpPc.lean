/-
  What the program's texels do in layer 13, their neighbours: contracts (no claim is made here).
-/
import Derived.Test.YteiildeaccngjaaSwpPb
namespace Go.Proofs.Yteiildeaccngjaa
open Go.RowKit

/-- The four ways to a neighbour, and what a direction makes of them. -/
def wayX (j : Nat) : Int := if j = 0 then -1 else if j = 1 then 0 else if j = 2 then -1 else 1
def wayY (j : Nat) : Int := if j = 0 then 0 else -1
theorem way_d {d : Int} {j : Nat} (hj : j < 4) : d * wayX j = wx d j ∧ d * wayY j = wy d j := by
  rcases (show j = 0 ∨ j = 1 ∨ j = 2 ∨ j = 3 by omega) with rfl | rfl | rfl | rfl <;> simp [wayX, wayY, wx, wy]
theorem way_at {j : Nat} (hj : j < 4) (w : World) : Sem.run Try.prog (Instr.index 108 (.agg #[.int .i64 (-1), .int .i64 0, .int .i64 0, .int .i64 (-1), .int .i64 (-1), .int .i64 (-1), .int .i64 1, .int .i64 (-1)]) (.int .i64 (j : Int))) w = .ok (.agg #[.int .i64 (wayX j), .int .i64 (wayY j)]) w := by
  rcases (show j = 0 ∨ j = 1 ∨ j = 2 ∨ j = 3 by omega) with rfl | rfl | rfl | rfl <;> kernel_rfl
theorem w_in {d : Int} (hd : d = 1 ∨ d = -1) (j : Nat) : (-1 ≤ wx d j ∧ wx d j ≤ 1) ∧ -1 ≤ wy d j ∧ wy d j ≤ 1 := by
  unfold wx wy
  rcases hd with rfl | rfl <;> (refine ⟨?_, ?_⟩ <;> repeat' split) <;> decide


set_option maxRecDepth 100000 in
set_option maxHeartbeats 3200000 in
theorem pask_any (d : Int) (hd : d = 1 ∨ d = -1) (gA gQ n : Nat) (ve : Value) (es : List Ed) (x y p s : Int) (u v : Nat) (st : List Int) (w : World)
    (hA : NRw w gA (u * v) (ivals st)) (hQ : SQw w gQ (u * v) es (cenS x y p u) st) (hne : gA ≠ gQ) (hv : ERd w ve es) (hve : es ≠ [] → ∀ g, ve.ownBlock = some g → ¬ (g = gA ∨ g = gQ))
    (hin : ∀ s ∈ es, InD s) (hx : x.natAbs ≤ 300) (hy : y.natAbs ≤ 300) (hp : 1 ≤ p ∧ p ≤ 16) (hu : 0 < u ∧ u ≤ 24) (hv2 : 0 < v ∧ v ≤ 24) (hst : InK es.length st) (hn : n < u * v) :
    Calls Try.prog 31 #[.agg #[ve, .int .i64 x, .int .i64 y, .int .i64 p, .int .i64 u, .int .i64 v, .int .i64 s, .slice (some ⟨gA, 0, none⟩) (u * v) (u * v), .slice (some ⟨gQ, 0, none⟩) (u * v) (u * v)], .int .i64 n, .int .i64 d] w fun r w' => (∃ V, r = .returned V) ∧ NRw w' gA (u * v) (ivals (near4 es x y p u v d st n 4)) ∧ SQw w' gQ (u * v) es (cenS x y p u) (near4 es x y p u v d st n 4) ∧ But (fun g => g = gA ∨ g = gQ) w w' := by
  have hsl : st.length = u * v := by have h := hA.1; unfold ivals at h; rwa [List.length_map] at h
  have HNI := Lib.hid (fun j => near4_in es x y p u v d hsl hst hn j)
  have HNS := Lib.hid (fun j => show near4 es x y p u v d st n (j + 1) = (match nbr u v d n j with
      | some m => offerS es (cenS x y p u) (near4 es x y p u v d st n j) n (knS (near4 es x y p u v d st n j) m)
      | none => near4 es x y p u v d st n j) from rfl)
  have HN0 : near4 es x y p u v d st n 0 = st := rfl
  have HOF := Lib.hid (fun m j w h1 h2 h3 (h4 : m < es.length) => poffer_any gA gQ n m ve es x y p s u v (near4 es x y p u v d st n j) w h1 h2 hne h3 hin hx hy hp hu hv2.2 hn h4 (HNI.out j))
  have HFI := Lib.hid (fun j q => HNI.out j q)
  have HNB := Lib.hid (fun j => show nbr u v d n j = if 0 ≤ ((n % u : Nat) : Int) + wx d j ∧ 0 ≤ ((n / u : Nat) : Int) + wy d j ∧ ((n % u : Nat) : Int) + wx d j < u ∧ ((n / u : Nat) : Int) + wy d j < v then some ((((n / u : Nat) : Int) + wy d j).toNat * u + (((n % u : Nat) : Int) + wx d j).toNat) else none from rfl)
  have HNL := Lib.hid (fun j m (h : nbr u v d n j = some m) => nbr_lt h)
  have hau : n % u < u := Nat.mod_lt _ hu.1
  have hbv : n / u < v := Nat.div_lt_of_lt_mul hn
  have ha2 : (n : Int).tmod (u : Int) = ((n % u : Nat) : Int) := by rw [Int.tmod_eq_emod_of_nonneg (by omega)]; rfl
  have hb1 : (n : Int) / (u : Int) = ((n / u : Nat) : Int) := rfl
  obtain ⟨a, ha⟩ : ∃ a, n % u = a := ⟨_, rfl⟩
  obtain ⟨b, hb⟩ : ∃ b, n / u = b := ⟨_, rfl⟩
  rw [ha] at hau ha2 HNB
  rw [hb] at hbv hb1 HNB
  have hz : ((u : Int) == 0) = false := by simp; omega
  have hzn : ¬(u = 0) := by omega
  have hbw : IntKind.i64.wrap (b : Int) = (b : Int) := wI (by omega) (by omega)
  generalize near4 es x y p u v d st n = F at *
  generalize nbr u v d n = NB at *
  subst HN0
  generalize cenS x y p u = P at *
  obtain ⟨M, hM⟩ : ∃ M, u * v = M := ⟨_, rfl⟩
  rw [hM] at hA hQ HOF HNL hn ⊢
  have hMb : M ≤ 24 * 24 := by rw [← hM]; exact Nat.mul_le_mul hu.2 hv2.2
  have hk : Below w.heap.size w (w.alloc (.cells #[ve, .int .i64 x, .int .i64 y, .int .i64 p, .int .i64 u, .int .i64 v, .int .i64 s, .slice (some ⟨gA, 0, none⟩) M M, .slice (some ⟨gQ, 0, none⟩) M M] 72)) := (Below.refl _ _).alloc (Nat.le_refl _) _
  have HT := Lib.hid (Blk.new w 72 [ve, .int .i64 x, .int .i64 y, .int .i64 p, .int .i64 u, .int .i64 v, .int .i64 s, .slice (some ⟨gA, 0, none⟩) M M, .slice (some ⟨gQ, 0, none⟩) M M] rfl)
  have hTk : ¬ (w.heap.size = gA ∨ w.heap.size = gQ) := by have := hA.lt; have := hQ.lt; omega
  have HA := Lib.hid (hA.keep hk)
  have HQ := Lib.hid (hQ.keep hk)
  have HV := Lib.hid (hv.keep hk)
  have HVE := Lib.hid hve
  have AB0 : Hid (But (fun g => g = gA ∨ g = gQ) w (w.alloc (.cells #[ve, .int .i64 x, .int .i64 y, .int .i64 p, .int .i64 u, .int .i64 v, .int .i64 s, .slice (some ⟨gA, 0, none⟩) M M, .slice (some ⟨gQ, 0, none⟩) M M] 72))) := Lib.hid (But.of hk)
  clear hA hQ hv hve hin hst hsl hk ha hb hM HNI
  go_enter Try.func31, Try.ntmps31
  go_wp2_with fail
  generalize (w.alloc (.cells #[ve, .int .i64 x, .int .i64 y, .int .i64 p, .int .i64 u, .int .i64 v, .int .i64 s, .slice (some ⟨gA, 0, none⟩) M M, .slice (some ⟨gQ, 0, none⟩) M M] 72)) = wn at *
  have hdr : Below wn.heap.size wn wn.drew := (Below.refl _ wn).drew
  replace HT := Lib.hid (HT.out.keep hdr)
  replace HA := Lib.hid (HA.out.keep hdr)
  replace HQ := Lib.hid (HQ.out.keep hdr)
  replace HV := Lib.hid (HV.out.keep hdr)
  replace AB0 := Lib.hid (AB0.out.then (hdr.mono AB0.out.size))
  clear hdr
  refine wp_region_held_drew (S := fun wx => wx.cell? ⟨w.heap.size, 0, none⟩ = some (ve) ∧ wx.cell? ⟨w.heap.size, 1, none⟩ = some (.int .i64 x) ∧ wx.cell? ⟨w.heap.size, 2, none⟩ = some (.int .i64 y) ∧ wx.cell? ⟨w.heap.size, 3, none⟩ = some (.int .i64 p) ∧ wx.cell? ⟨w.heap.size, 4, none⟩ = some (.int .i64 u) ∧ wx.cell? ⟨w.heap.size, 5, none⟩ = some (.int .i64 v) ∧ wx.cell? ⟨w.heap.size, 6, none⟩ = some (.int .i64 s) ∧ wx.cell? ⟨w.heap.size, 7, none⟩ = some (.slice (some ⟨gA, 0, none⟩) M M) ∧ wx.cell? ⟨w.heap.size, 8, none⟩ = some (.slice (some ⟨gQ, 0, none⟩) M M)) (by kernel_rfl) (⟨HT.out.cell 0 rfl, HT.out.cell 1 rfl, HT.out.cell 2 rfl, HT.out.cell 3 rfl, HT.out.cell 4 rfl, HT.out.cell 5 rfl, HT.out.cell 6 rfl, HT.out.cell 7 rfl, HT.out.cell 8 rfl⟩) (fun hHeld => ?_)
  generalize wn.drew = w2 at *
  refine wpAnyH_take (i := 0) (v := ?_) rfl (by kernel_rfl) (by kernel_rfl) (by kernel_rfl) (fun _ _ _ h => h) (Or.inl ⟨by rfl, ?_⟩) hHeld ?_
  rotate_left
  · intro w hSw
    (try dsimp only at hSw)
    (try simp only [List.getElem_toArray, List.getElem_cons_zero])
    go_simp
    all_goals with_reducible rfl
  try simp only [List.getElem_toArray, List.getElem_cons_zero, Act.put, List.setIfInBounds_toArray, List.set_cons_zero, List.set_cons_succ]
  refine wpAnyH_take (i := 1) (v := ?_) rfl (by kernel_rfl) (by kernel_rfl) (by kernel_rfl) (fun _ _ _ h => h) (Or.inl ⟨by rfl, ?_⟩) hHeld ?_
  rotate_left
  · intro w hSw
    (try dsimp only at hSw)
    (try simp only [List.getElem_toArray, List.getElem_cons_zero, List.getElem_cons_succ])
    go_simp
    all_goals with_reducible rfl
  try simp only [List.getElem_toArray, List.getElem_cons_zero, List.getElem_cons_succ, Act.put, List.setIfInBounds_toArray, List.set_cons_zero, List.set_cons_succ]
  refine wpAnyH_take (i := 2) (v := ?_) rfl (by kernel_rfl) (by kernel_rfl) (by kernel_rfl) (fun _ _ _ h => h) (Or.inl ⟨by rfl, ?_⟩) hHeld ?_
  rotate_left
  · intro w hSw
    (try dsimp only at hSw)
    (try simp only [List.getElem_toArray, List.getElem_cons_zero, List.getElem_cons_succ])
    go_simp
    all_goals with_reducible rfl
  try simp only [List.getElem_toArray, List.getElem_cons_zero, List.getElem_cons_succ, Act.put, List.setIfInBounds_toArray, List.set_cons_zero, List.set_cons_succ]
  refine wpAnyH_take (i := 3) (v := ?_) rfl (by kernel_rfl) (by kernel_rfl) (by kernel_rfl) (fun _ _ _ h => h) (Or.inl ⟨by rfl, ?_⟩) hHeld ?_
  rotate_left
  · intro w hSw
    (try dsimp only at hSw)
    (try simp only [List.getElem_toArray, List.getElem_cons_zero, List.getElem_cons_succ])
    go_simp
    all_goals with_reducible rfl
  try simp only [List.getElem_toArray, List.getElem_cons_zero, List.getElem_cons_succ, Act.put, List.setIfInBounds_toArray, List.set_cons_zero, List.set_cons_succ]
  refine wpAnyH_take (i := 4) (v := ?_) rfl (by kernel_rfl) (by kernel_rfl) (by kernel_rfl) (fun _ _ _ h => h) (Or.inl ⟨by rfl, ?_⟩) hHeld ?_
  rotate_left
  · intro w hSw
    (try dsimp only at hSw)
    (try simp only [List.getElem_toArray, List.getElem_cons_zero, List.getElem_cons_succ])
    go_simp
    all_goals with_reducible rfl
  try simp only [List.getElem_toArray, List.getElem_cons_zero, List.getElem_cons_succ, Act.put, List.setIfInBounds_toArray, List.set_cons_zero, List.set_cons_succ]
  refine wpAnyH_take (i := 5) (v := ?_) rfl (by kernel_rfl) (by kernel_rfl) (by kernel_rfl) (fun _ _ _ h => h) (Or.inl ⟨by rfl, ?_⟩) hHeld ?_
  rotate_left
  · intro w hSw
    (try dsimp only at hSw)
    (try simp only [List.getElem_toArray, List.getElem_cons_zero, List.getElem_cons_succ])
    go_simp
    all_goals with_reducible rfl
  try simp only [List.getElem_toArray, List.getElem_cons_zero, List.getElem_cons_succ, Act.put, List.setIfInBounds_toArray, List.set_cons_zero, List.set_cons_succ]
  refine wpAnyH_take (i := 6) (v := ?_) rfl (by kernel_rfl) (by kernel_rfl) (by kernel_rfl) (fun _ _ _ h => h) (Or.inl ⟨by rfl, ?_⟩) hHeld ?_
  rotate_left
  · intro w hSw
    (try dsimp only at hSw)
    (try simp only [List.getElem_toArray, List.getElem_cons_zero, List.getElem_cons_succ])
    go_simp
    all_goals with_reducible rfl
  try simp only [List.getElem_toArray, List.getElem_cons_zero, List.getElem_cons_succ, Act.put, List.setIfInBounds_toArray, List.set_cons_zero, List.set_cons_succ]
  refine wpAnyH_take (i := 7) (v := ?_) rfl (by kernel_rfl) (by kernel_rfl) (by kernel_rfl) (fun _ _ _ h => h) (Or.inl ⟨by rfl, ?_⟩) hHeld ?_
  rotate_left
  · intro w hSw
    (try dsimp only at hSw)
    (try simp only [List.getElem_toArray, List.getElem_cons_zero, List.getElem_cons_succ])
    go_simp
    all_goals with_reducible rfl
  try simp only [List.getElem_toArray, List.getElem_cons_zero, List.getElem_cons_succ, Act.put, List.setIfInBounds_toArray, List.set_cons_zero, List.set_cons_succ]
  refine wpAnyH_take (i := 8) (v := ?_) rfl (by kernel_rfl) (by kernel_rfl) (by kernel_rfl) (fun _ _ _ h => h) (Or.inl ⟨by rfl, ?_⟩) hHeld ?_
  rotate_left
  · intro w hSw
    (try dsimp only at hSw)
    (try simp only [List.getElem_toArray, List.getElem_cons_zero, List.getElem_cons_succ])
    go_simp
    all_goals with_reducible rfl
  try simp only [List.getElem_toArray, List.getElem_cons_zero, List.getElem_cons_succ, Act.put, List.setIfInBounds_toArray, List.set_cons_zero, List.set_cons_succ]
  refine wpAnyH_take (i := 9) (v := ?_) rfl (by kernel_rfl) (by kernel_rfl) (by kernel_rfl) (fun _ _ _ h => h) (Or.inl ⟨by rfl, ?_⟩) hHeld ?_
  rotate_left
  · intro w hSw
    (try dsimp only at hSw)
    (try simp only [List.getElem_toArray, List.getElem_cons_zero, List.getElem_cons_succ])
    go_simp
    all_goals with_reducible rfl
  try simp only [List.getElem_toArray, List.getElem_cons_zero, List.getElem_cons_succ, Act.put, List.setIfInBounds_toArray, List.set_cons_zero, List.set_cons_succ]
  refine wpAnyH_take (i := 10) (v := ?_) rfl (by kernel_rfl) (by kernel_rfl) (by kernel_rfl) (fun _ _ _ h => h) (Or.inl ⟨by rfl, ?_⟩) hHeld ?_
  rotate_left
  · intro w hSw
    (try dsimp only at hSw)
    (try simp only [List.getElem_toArray, List.getElem_cons_zero, List.getElem_cons_succ])
    go_simp
    all_goals with_reducible rfl
  try simp only [List.getElem_toArray, List.getElem_cons_zero, List.getElem_cons_succ, Act.put, List.setIfInBounds_toArray, List.set_cons_zero, List.set_cons_succ]
  refine wpAnyH_take (i := 11) (v := ?_) rfl (by kernel_rfl) (by kernel_rfl) (by kernel_rfl) (fun _ _ _ h => h) (Or.inl ⟨by rfl, ?_⟩) hHeld ?_
  rotate_left
  · intro w hSw
    (try dsimp only at hSw)
    (try simp only [List.getElem_toArray, List.getElem_cons_zero, List.getElem_cons_succ])
    go_simp
    all_goals with_reducible rfl
  try simp only [List.getElem_toArray, List.getElem_cons_zero, List.getElem_cons_succ, Act.put, List.setIfInBounds_toArray, List.set_cons_zero, List.set_cons_succ]
  refine wpAnyH_done (by kernel_rfl) ?_ _
  go_wp2_with fail
  go_loopw [28] (fun i wr => ∃ r : Nat, r ≤ 4 ∧ i = .int .i64 r ∧ Hid (NRw wr gA M (ivals (F r))) ∧ Hid (SQw wr gQ M es P (F r)) ∧ Hid (But (fun g => g = gA ∨ g = gQ) w2 wr)) (fun i _ => 4 - (intOf i).toNat)
  case atStart => exact ⟨0, by omega, rfl, HA, HQ, Lib.hid (But.of (Below.refl _ _))⟩
  case round =>
    obtain ⟨r, hr, rfl, HAr, HQr, HWr⟩ := hrel
    by_cases hrn : r < 4
    · have hrb : decide ((r : Int) < 4) = true := by simp; omega
      have hidx := way_at hrn
      have hw1 := way_d (d := d) hrn
      have hw2 := w_in hd r
      have hNB := HNB.out r
      have hNS := HNS.out r
      obtain ⟨wX, hwX⟩ : ∃ q, wayX r = q := ⟨_, rfl⟩
      obtain ⟨wY, hwY⟩ : ∃ q, wayY r = q := ⟨_, rfl⟩
      obtain ⟨dx, hdx⟩ : ∃ q, wx d r = q := ⟨_, rfl⟩
      obtain ⟨dy, hdy⟩ : ∃ q, wy d r = q := ⟨_, rfl⟩
      rw [hwX, hwY] at hidx
      rw [hwX, hwY, hdx, hdy] at hw1
      rw [hdx, hdy] at hw2 hNB
      clear hwX hwY hdx hdy
      have m1 : IntKind.i64.wrap (d * wX) = dx := by rw [hw1.1]; exact wI (by omega) (by omega)
      have m2 : IntKind.i64.wrap (d * wY) = dy := by rw [hw1.2]; exact wI (by omega) (by omega)
      obtain ⟨ax, hax⟩ : ∃ q, (a : Int) + dx = q := ⟨_, rfl⟩
      obtain ⟨by', hby⟩ : ∃ q, (b : Int) + dy = q := ⟨_, rfl⟩
      have m3 : IntKind.i64.wrap ((a : Int) + dx) = ax := by rw [← hax]; exact wI (by omega) (by omega)
      have m4 : IntKind.i64.wrap ((b : Int) + dy) = by' := by rw [← hby]; exact wI (by omega) (by omega)
      rw [hax, hby] at hNB
      have hal : Below wr.heap.size wr (wr.alloc (.cells #[.int .i64 wX, .int .i64 wY] 41)) := (Below.refl _ _).alloc (Nat.le_refl _) _
      have HT4 := Lib.hid ((HT.out.but HWr.out hTk).keep hal)
      have HV4 := Lib.hid ((erd_but HV.out HWr.out HVE.out).keep hal)
      have HA4 := Lib.hid (HAr.out.keep hal)
      have HQ4 := Lib.hid (HQr.out.keep hal)
      have HW4 := Lib.hid (HWr.out.then (hal.mono HWr.out.size))
      have HPb := Lib.hid (Blk.new wr 41 [.int .i64 wX, .int .i64 wY] rfl)
      clear hw1 hw2 hal HAr HQr HWr hax hby
      go_wp2_with fail
      generalize wr.alloc (.cells #[.int .i64 wX, .int .i64 wY] 41) = w4 at *
      generalize wr.heap.size = gP at *
      have hdr : Below w4.heap.size w4 w4.drew := (Below.refl _ w4).drew
      replace HT4 := Lib.hid (HT4.out.keep hdr)
      replace HA4 := Lib.hid (HA4.out.keep hdr)
      replace HQ4 := Lib.hid (HQ4.out.keep hdr)
      replace HV4 := Lib.hid (HV4.out.keep hdr)
      replace HPb := Lib.hid (HPb.out.keep hdr)
      replace HW4 := Lib.hid (HW4.out.then (hdr.mono HW4.out.size))
      clear hdr
      refine wp_region_held_drew (S := fun wx => wx.cell? ⟨gP, 0, none⟩ = some (.int .i64 wX) ∧ wx.cell? ⟨gP, 1, none⟩ = some (.int .i64 wY)) (by kernel_rfl) (⟨HPb.out.cell 0 rfl, HPb.out.cell 1 rfl⟩) (fun hHeld => ?_)
      generalize w4.drew = w5 at *
      refine wpAnyH_take (i := 0) (v := ?_) rfl (by kernel_rfl) (by kernel_rfl) (by kernel_rfl) (fun _ _ _ h => h) (Or.inl ⟨by rfl, ?_⟩) hHeld ?_
      rotate_left
      · intro w hSw
        (try dsimp only at hSw)
        (try simp only [List.getElem_toArray, List.getElem_cons_zero])
        go_simp
        all_goals with_reducible rfl
      try simp only [List.getElem_toArray, List.getElem_cons_zero, Act.put, List.setIfInBounds_toArray, List.set_cons_zero, List.set_cons_succ]
      refine wpAnyH_take (i := 1) (v := ?_) rfl (by kernel_rfl) (by kernel_rfl) (by kernel_rfl) (fun _ _ _ h => h) (Or.inl ⟨by rfl, ?_⟩) hHeld ?_
      rotate_left
      · intro w hSw
        (try dsimp only at hSw)
        (try simp only [List.getElem_toArray, List.getElem_cons_zero, List.getElem_cons_succ])
        go_simp
        all_goals with_reducible rfl
      try simp only [List.getElem_toArray, List.getElem_cons_zero, List.getElem_cons_succ, Act.put, List.setIfInBounds_toArray, List.set_cons_zero, List.set_cons_succ]
      refine wpAnyH_take (i := 2) (v := ?_) rfl (by kernel_rfl) (by kernel_rfl) (by kernel_rfl) (fun _ _ _ h => h) (Or.inl ⟨by rfl, ?_⟩) hHeld ?_
      rotate_left
      · intro w hSw
        (try dsimp only at hSw)
        (try simp only [List.getElem_toArray, List.getElem_cons_zero, List.getElem_cons_succ])
        go_simp
        all_goals with_reducible rfl
      try simp only [List.getElem_toArray, List.getElem_cons_zero, List.getElem_cons_succ, Act.put, List.setIfInBounds_toArray, List.set_cons_zero, List.set_cons_succ]
      refine wpAnyH_take (i := 3) (v := ?_) rfl (by kernel_rfl) (by kernel_rfl) (by kernel_rfl) (fun _ _ _ h => h) (Or.inl ⟨by rfl, ?_⟩) hHeld ?_
      rotate_left
      · intro w hSw
        (try dsimp only at hSw)
        (try simp only [List.getElem_toArray, List.getElem_cons_zero, List.getElem_cons_succ])
        go_simp
        all_goals with_reducible rfl
      try simp only [List.getElem_toArray, List.getElem_cons_zero, List.getElem_cons_succ, Act.put, List.setIfInBounds_toArray, List.set_cons_zero, List.set_cons_succ]
      refine wpAnyH_take (i := 4) (v := ?_) rfl (by kernel_rfl) (by kernel_rfl) (by kernel_rfl) (fun _ _ _ h => h) (Or.inl ⟨by rfl, ?_⟩) hHeld ?_
      rotate_left
      · intro w hSw
        (try dsimp only at hSw)
        (try simp only [List.getElem_toArray, List.getElem_cons_zero, List.getElem_cons_succ])
        go_simp
        all_goals with_reducible rfl
      try simp only [List.getElem_toArray, List.getElem_cons_zero, List.getElem_cons_succ, Act.put, List.setIfInBounds_toArray, List.set_cons_zero, List.set_cons_succ]
      refine wpAnyH_take (i := 5) (v := ?_) rfl (by kernel_rfl) (by kernel_rfl) (by kernel_rfl) (fun _ _ _ h => h) (Or.inl ⟨by rfl, ?_⟩) hHeld ?_
      rotate_left
      · intro w hSw
        (try dsimp only at hSw)
        (try simp only [List.getElem_toArray, List.getElem_cons_zero, List.getElem_cons_succ])
        go_simp
        all_goals with_reducible rfl
      try simp only [List.getElem_toArray, List.getElem_cons_zero, List.getElem_cons_succ, Act.put, List.setIfInBounds_toArray, List.set_cons_zero, List.set_cons_succ]
      refine wpAnyH_take (i := 6) (v := ?_) rfl (by kernel_rfl) (by kernel_rfl) (by kernel_rfl) (fun _ _ _ h => h) (Or.inl ⟨by rfl, ?_⟩) hHeld ?_
      rotate_left
      · intro w hSw
        (try dsimp only at hSw)
        (try simp only [List.getElem_toArray, List.getElem_cons_zero, List.getElem_cons_succ])
        go_simp
        all_goals with_reducible rfl
      try simp only [List.getElem_toArray, List.getElem_cons_zero, List.getElem_cons_succ, Act.put, List.setIfInBounds_toArray, List.set_cons_zero, List.set_cons_succ]
      refine wpAnyH_take (i := 7) (v := ?_) rfl (by kernel_rfl) (by kernel_rfl) (by kernel_rfl) (fun _ _ _ h => h) (Or.inl ⟨by rfl, ?_⟩) hHeld ?_
      rotate_left
      · intro w hSw
        (try dsimp only at hSw)
        (try simp only [List.getElem_toArray, List.getElem_cons_zero, List.getElem_cons_succ])
        go_simp
        all_goals with_reducible rfl
      try simp only [List.getElem_toArray, List.getElem_cons_zero, List.getElem_cons_succ, Act.put, List.setIfInBounds_toArray, List.set_cons_zero, List.set_cons_succ]
      refine wpAnyH_take (i := 8) (v := ?_) rfl (by kernel_rfl) (by kernel_rfl) (by kernel_rfl) (fun _ _ _ h => h) (Or.inl ⟨by rfl, ?_⟩) hHeld ?_
      rotate_left
      · intro w hSw
        (try dsimp only at hSw)
        (try simp only [List.getElem_toArray, List.getElem_cons_zero, List.getElem_cons_succ])
        go_simp
        all_goals with_reducible rfl
      try simp only [List.getElem_toArray, List.getElem_cons_zero, List.getElem_cons_succ, Act.put, List.setIfInBounds_toArray, List.set_cons_zero, List.set_cons_succ]
      refine wpAnyH_take (i := 9) (v := ?_) rfl (by kernel_rfl) (by kernel_rfl) (by kernel_rfl) (fun _ _ _ h => h) (Or.inl ⟨by rfl, ?_⟩) hHeld ?_
      rotate_left
      · intro w hSw
        (try dsimp only at hSw)
        (try simp only [List.getElem_toArray, List.getElem_cons_zero, List.getElem_cons_succ])
        go_simp
        all_goals with_reducible rfl
      try simp only [List.getElem_toArray, List.getElem_cons_zero, List.getElem_cons_succ, Act.put, List.setIfInBounds_toArray, List.set_cons_zero, List.set_cons_succ]
      refine wpAnyH_take (i := 10) (v := ?_) rfl (by kernel_rfl) (by kernel_rfl) (by kernel_rfl) (fun _ _ _ h => h) (Or.inl ⟨by rfl, ?_⟩) hHeld ?_
      rotate_left
      · intro w hSw
        (try dsimp only at hSw)
        (try simp only [List.getElem_toArray, List.getElem_cons_zero, List.getElem_cons_succ])
        go_simp
        all_goals with_reducible rfl
      try simp only [List.getElem_toArray, List.getElem_cons_zero, List.getElem_cons_succ, Act.put, List.setIfInBounds_toArray, List.set_cons_zero, List.set_cons_succ]
      refine wpAnyH_take (i := 11) (v := ?_) rfl (by kernel_rfl) (by kernel_rfl) (by kernel_rfl) (fun _ _ _ h => h) (Or.inl ⟨by rfl, ?_⟩) hHeld ?_
      rotate_left
      · intro w hSw
        (try dsimp only at hSw)
        (try simp only [List.getElem_toArray, List.getElem_cons_zero, List.getElem_cons_succ])
        go_simp
        all_goals with_reducible rfl
      try simp only [List.getElem_toArray, List.getElem_cons_zero, List.getElem_cons_succ, Act.put, List.setIfInBounds_toArray, List.set_cons_zero, List.set_cons_succ]
      refine wpAnyH_take (i := 12) (v := ?_) rfl (by kernel_rfl) (by kernel_rfl) (by kernel_rfl) (fun _ _ _ h => h) (Or.inl ⟨by rfl, ?_⟩) hHeld ?_
      rotate_left
      · intro w hSw
        (try dsimp only at hSw)
        (try simp only [List.getElem_toArray, List.getElem_cons_zero, List.getElem_cons_succ])
        go_simp
        all_goals with_reducible rfl
      try simp only [List.getElem_toArray, List.getElem_cons_zero, List.getElem_cons_succ, Act.put, List.setIfInBounds_toArray, List.set_cons_zero, List.set_cons_succ]
      refine wpAnyH_take (i := 13) (v := ?_) rfl (by kernel_rfl) (by kernel_rfl) (by kernel_rfl) (fun _ _ _ h => h) (Or.inl ⟨by rfl, ?_⟩) hHeld ?_
      rotate_left
      · intro w hSw
        (try dsimp only at hSw)
        (try simp only [List.getElem_toArray, List.getElem_cons_zero, List.getElem_cons_succ])
        go_simp
        all_goals with_reducible rfl
      try simp only [List.getElem_toArray, List.getElem_cons_zero, List.getElem_cons_succ, Act.put, List.setIfInBounds_toArray, List.set_cons_zero, List.set_cons_succ]
      refine wpAnyH_done (by kernel_rfl) ?_ _
      have t0 := HT4.out.cell 0 rfl
      have t1 := HT4.out.cell 1 rfl
      have t2 := HT4.out.cell 2 rfl
      have t3 := HT4.out.cell 3 rfl
      have t4 := HT4.out.cell 4 rfl
      have t5 := HT4.out.cell 5 rfl
      have t6 := HT4.out.cell 6 rfl
      have t7 := HT4.out.cell 7 rfl
      have t8 := HT4.out.cell 8 rfl
      have tl := HT4.out.lt
      clear HPb
      by_cases hc : 0 ≤ ax ∧ 0 ≤ by' ∧ ax < u ∧ by' < v
      · rw [if_pos hc] at hNB
        obtain ⟨X, rfl⟩ : ∃ q : Nat, ax = q := ⟨ax.toNat, by omega⟩
        obtain ⟨Y, rfl⟩ : ∃ q : Nat, by' = q := ⟨by'.toNat, by omega⟩
        rw [Int.toNat_natCast, Int.toNat_natCast] at hNB
        have e1 : decide ((X : Int) < 0) = false := by simp
        have e2 : decide ((Y : Int) < 0) = false := by simp
        have e3 : decide ((u : Int) ≤ (X : Int)) = false := by simp; omega
        have e4 : decide ((v : Int) ≤ (Y : Int)) = false := by simp; omega
        have hmu : Y * u ≤ 24 * 24 := Nat.mul_le_mul (by omega) hu.2
        have k1 : IntKind.i64.wrap ((Y : Int) * u) = ((Y * u : Nat) : Int) := by rw [← Int.natCast_mul]; exact wI (by omega) (by omega)
        have hlt := HNL.out r _ hNB
        rw [hNB] at hNS
        dsimp only at hNS
        obtain ⟨z, hz2⟩ : ∃ z, Y * u = z := ⟨_, rfl⟩
        rw [hz2] at hlt k1 hNS hmu
        have k2 : IntKind.i64.wrap ((z : Int) + X) = ((z + X : Nat) : Int) := by rw [← Int.natCast_add]; exact wI (by omega) (by omega)
        obtain ⟨q, hq⟩ : ∃ q, z + X = q := ⟨_, rfl⟩
        rw [hq] at hlt k2 hNS
        have n0 := (HA4.out.val q hlt).1
        have hkb := HFI.out r q
        generalize knS (F r) q = K at *
        clear hz2 hq hNB hmu
        by_cases hK : K < 0
        · obtain rfl : K = -1 := by omega
          have hk1 : ((-1 : Int) != -1) = false := by decide
          have HFS : Hid (F (r + 1) = F r) := Lib.hid (by rw [hNS]; unfold offerS; exact if_neg (fun h => by omega))
          clear hNS
          go_wp2_with fail
          exact ⟨⟨r + 1, hrn, by go_num, by rw [HFS.out]; exact HA4, by rw [HFS.out]; exact HQ4, HW4⟩, by simp [intOf]; omega⟩
        · obtain ⟨m, rfl⟩ : ∃ q : Nat, K = q := ⟨K.toNat, by omega⟩
          have hk1 : ((m : Int) != -1) = true := by simp
          have HFS := Lib.hid hNS
          clear hNS
          go_wp2_with fail
          refine (HOF.out m r _ HA4.out HQ4.out HV4.out (by omega)).mono ?_
          rintro e w6 ⟨⟨V, rfl⟩, hA, hQ, hb⟩
          have HA5 := Lib.hid hA
          have HQ5 := Lib.hid hQ
          have HW5 := Lib.hid (HW4.out.trans ⟨hb.os, hb.tape, hb.output, hb.size, hb.block⟩)
          clear hA hQ hb
          go_wp2_with fail
          exact ⟨⟨r + 1, hrn, by go_num, by rw [HFS.out]; exact HA5, by rw [HFS.out]; exact HQ5, HW5⟩, by simp [intOf]; omega⟩
      · rw [if_neg hc] at hNB
        rw [hNB] at hNS
        have HFS : Hid (F (r + 1) = F r) := Lib.hid hNS
        clear hNS hNB
        by_cases h1 : ax < 0
        · have e1 : decide (ax < 0) = true := by simp; omega
          go_wp2_with fail
          exact ⟨⟨r + 1, hrn, by go_num, by rw [HFS.out]; exact HA4, by rw [HFS.out]; exact HQ4, HW4⟩, by simp [intOf]; omega⟩
        · have e1 : decide (ax < 0) = false := by simp; omega
          by_cases h2 : by' < 0
          · have e2 : decide (by' < 0) = true := by simp; omega
            go_wp2_with fail
            exact ⟨⟨r + 1, hrn, by go_num, by rw [HFS.out]; exact HA4, by rw [HFS.out]; exact HQ4, HW4⟩, by simp [intOf]; omega⟩
          · have e2 : decide (by' < 0) = false := by simp; omega
            by_cases h3 : (u : Int) ≤ ax
            · have e3 : decide ((u : Int) ≤ ax) = true := by simp; omega
              go_wp2_with fail
              exact ⟨⟨r + 1, hrn, by go_num, by rw [HFS.out]; exact HA4, by rw [HFS.out]; exact HQ4, HW4⟩, by simp [intOf]; omega⟩
            · have e3 : decide ((u : Int) ≤ ax) = false := by simp; omega
              have e4 : decide ((v : Int) ≤ by') = true := by simp; omega
              go_wp2_with fail
              exact ⟨⟨r + 1, hrn, by go_num, by rw [HFS.out]; exact HA4, by rw [HFS.out]; exact HQ4, HW4⟩, by simp [intOf]; omega⟩
    · obtain rfl : r = 4 := by omega
      have HW5 := Lib.hid (AB0.out.trans HWr.out)
      go_wp2_with fail
      refine bodyPost_end (v := .tuple #[]) (by simp [results, Try.results31, go_sem]) rfl ?_
      exact ⟨⟨_, rfl⟩, HAr.out, HQr.out, HW5.out⟩


end Go.Proofs.Yteiildeaccngjaa
