/-
  What path.All does to any world (no claim is made here).
-/
import Derived.Test.YtglmgenifjaakaaPthS
import Derived.Test.YtglmgenifjaakaaPthO
namespace Go.Proofs.Ytglmgenifjaakaa
open Go.RowKit

/-- Rows of pieces that are read. -/
def SORd (w : World) (v : Value) (ls : List (List Sg)) : Prop :=
  ∃ A cap, v = .slice A ls.length cap ∧ ls.length ≤ cap ∧ ∀ r l, ls[r]? = some l → ∃ a u, A = some a ∧ a.block < w.heap.size ∧ w.cell? (a.add r) = some u ∧ SRd w u l
theorem SORd.keep {w w' : World} {v : Value} {ls : List (List Sg)} (h : SORd w v ls) (hb : Below w.heap.size w w') : SORd w' v ls := by
  obtain ⟨A, cap, e, h1, h3⟩ := h
  refine ⟨A, cap, e, h1, fun r l hr => ?_⟩
  obtain ⟨a, u, ha, hlt, c, d⟩ := h3 r l hr
  exact ⟨a, u, ha, Nat.lt_of_lt_of_le hlt hb.size, by rw [hb.cell (by rw [block_add]; exact hlt)]; exact c, d.keep hb⟩
theorem srinfo : (Try.prog.info? 59).map (fun i => (i.zero, i.size, i.bytes)) = some (some (.slice none 0 0), 1, 24) := by kernel_rfl

/-- The rows so far. -/
def Made (w : World) (gm n : Nat) (o : List (List Vtx)) (k : Nat) : Prop :=
  ∃ vs, w.ownsRow gm 59 1 (.slice (some ⟨gm, 0, none⟩) n n) n vs ∧ ∀ r c, r < k → o[r]? = some c → ∃ u, vs[r]? = some u ∧ SRow w (gm + 1) u (segsS c)
theorem Made.keep {w w' : World} {gm n : Nat} {o : List (List Vtx)} {k : Nat} (h : Made w gm n o k) (hb : Below w.heap.size w w') : Made w' gm n o k := by
  obtain ⟨vs, h1, h2⟩ := h
  refine ⟨vs, own_blocks h1 fun g hg => hb.block g (h1.lt g hg).2, fun r c hr hc => ?_⟩
  obtain ⟨u, e, hu⟩ := h2 r c hr hc
  exact ⟨u, e, hu.below hb⟩
theorem Made.lt {w : World} {gm n : Nat} {o : List (List Vtx)} {k : Nat} (h : Made w gm n o k) : gm < w.heap.size := by
  obtain ⟨vs, h1, _⟩ := h
  exact (h1.lt gm rfl).2
theorem Made.store {w : World} {gm n : Nat} {o : List (List Vtx)} {k : Nat} {u : Value} {c : List Vtx} (h : Made w gm n o k) (hk : k < n) (hc : o[k]? = some c) (hu : SRow w (gm + 1) u (segsS c)) : Made (w.setCell ⟨gm, k, none⟩ u) gm n o (k + 1) := by
  obtain ⟨vs, h1, h2⟩ := h
  have hl : vs.length = n := by have := h1.1; omega
  refine ⟨vs.set k u, (h1.stored k u).1, fun r d hr hd => ?_⟩
  by_cases hrk : r = k
  · subst hrk
    rw [hc] at hd
    injection hd with hd
    subst hd
    exact ⟨u, by rw [List.getElem?_set_self (by omega)], hu.set (Nat.lt_succ_self _) u⟩
  · obtain ⟨x, e, hx⟩ := h2 r d (by omega) hd
    exact ⟨x, by rw [List.getElem?_set_ne (fun e => hrk e.symm)]; exact e, hx.set (Nat.lt_succ_self _) u⟩
theorem Made.cell {w : World} {gm n : Nat} {o : List (List Vtx)} {k : Nat} (h : Made w gm n o k) (j : Nat) (hj : j < n) : (∃ x, w.cell? ⟨gm, j, none⟩ = some x) ∧ w.frozen? ⟨gm, j, none⟩ = false := by
  obtain ⟨vs, h1, _⟩ := h
  have hl : vs.length = n := by have := h1.1; omega
  exact ⟨⟨vs[j]'(by omega), by rw [h1.cellAt j (by omega)]; exact List.getElem?_eq_getElem _⟩, h1.frozenAt j⟩
theorem Made.read {w : World} {gm n : Nat} {o : List (List Vtx)} (h : Made w gm n o n) (hn : o.length = n) : SORd w (.slice (some ⟨gm, 0, none⟩) n n) (o.map segsS) := by
  have hlt := h.lt
  obtain ⟨vs, h1, h2⟩ := h
  refine ⟨_, n, by rw [List.length_map, hn], by rw [List.length_map, hn]; exact Nat.le_refl _, fun r l hr => ?_⟩
  rw [List.getElem?_map] at hr
  cases hc : o[r]? with
  | none => rw [hc] at hr; cases hr
  | some c =>
    rw [hc] at hr
    injection hr with hr
    subst hr
    have hrn : r < n := by rw [← hn]; exact (List.getElem?_eq_some_iff.1 hc).1
    obtain ⟨u, e, hu⟩ := h2 r c hrn hc
    refine ⟨_, u, rfl, hlt, ?_, hu.read⟩
    have : (⟨gm, 0, none⟩ : Addr).add r = ⟨gm, r, none⟩ := by unfold Addr.add; by_cases h0 : r = 0 <;> simp [h0]
    rw [this, h1.cellAt r (by omega)]
    exact e

set_option maxHeartbeats 1600000 in
theorem all_any (v : Value) (o : List (List Vtx)) (w : World) (ho : ORd w v o) (hs : o.length ≤ 8 ∧ ∀ c ∈ o, c.length ≤ 1000 ∧ ∀ v ∈ c, smallV v) :
    Calls Try.prog 20 #[.agg #[v]] w fun e w' => ∃ A cap, e = .returned (.slice A o.length cap) ∧ SORd w' (.slice A o.length cap) (o.map segsS) ∧ Below w.heap.size w w' := by
  have HO := Lib.hid ho
  have HS := Lib.hid hs
  obtain ⟨A, cap, rfl, hcap, -⟩ := ho
  obtain ⟨n, hn⟩ : ∃ n, o.length = n := ⟨_, rfl⟩
  have hn8 : n ≤ 8 := by rw [← hn]; exact hs.1
  rw [hn] at HO hcap
  rw [hn]
  have HN := Lib.hid hn
  obtain ⟨i0, hi0, hz0, hz1, hz2⟩ := infos srinfo
  have B0 : Below w.heap.size w (w.alloc (.cells #[.slice A n cap] 51)) := (Below.refl _ w).alloc (Nat.le_refl _) _
  obtain ⟨wm, hr, hown, hg⟩ := run_make_full (P := Try.prog) (w.alloc (.cells #[.slice A n cap] 51)) (w.heap.size + 1) 47 59 i0 _ 1 Try.underlying47 hi0 hz0 hz1 .i64 .i64 n (by rw [hz2]; omega) (by unfold maxLen; omega) (by simp)
  rw [World.size_alloc] at hr hown
  have Bm : Below w.heap.size w wm := B0.grown hg (by simp) (fun q hq => by cases hq)
  have M0 : Made wm (w.heap.size + 1) n o 0 := ⟨_, hown, fun r c hr => absurd hr (Nat.not_lt_zero _)⟩
  have K0 : Blk wm w.heap.size 51 [.slice A n cap] := (Blk.new w 51 [.slice A n cap] rfl).grown hg (by simp)
  have k0 := K0.cell 0 rfl
  have kz := K0.lt
  obtain ⟨gm, hgm⟩ : ∃ g, w.heap.size + 1 = g := ⟨_, rfl⟩
  rw [hgm] at hr M0
  have HBm := Lib.hid Bm
  have HM0 := Lib.hid M0
  have HGM := Lib.hid hgm
  clear hown hg hi0 hz0 hz1 hz2 B0 hs hn Bm M0 K0 hgm
  go_enter Try.func20, Try.ntmps20
  go_wp2_with fail
  clear k0 kz hr
  go_loopw [13] (fun i wr => ∃ r : Nat, r ≤ n ∧ i = .int .i64 r ∧ Hid (Made wr gm n o r) ∧ Hid (Below w.heap.size w wr)) (fun i _ => n - (intOf i).toNat)
  case atStart => exact ⟨0, Nat.zero_le _, rfl, HM0, HBm⟩
  case round =>
    obtain ⟨r, hr, rfl, HM, HB⟩ := hrel
    by_cases hrn : r < n
    · have hrb : decide ((r : Int) < n) = true := by simp; omega
      obtain ⟨c, hc⟩ : ∃ c, o[r]? = some c := ⟨_, List.getElem?_eq_getElem (by rw [HN.out]; exact hrn)⟩
      obtain ⟨a, u, rfl, hlt, hcell, hrow⟩ := (HO.out.keep HB.out).at r c hc
      obtain ⟨hc1, hc2⟩ := HS.out.2 c (List.mem_of_getElem? hc)
      have HS1 := Lib.hid (segs_any u c wr hrow hc1 hc2)
      have HC := Lib.hid hc
      clear hrow hc1 hc2 hc
      go_wp2_with fail
      refine HS1.out.mono ?_
      rintro e w3 ⟨u1, rfl, hu1, hb3⟩
      have M3 := HM.out.keep hb3
      obtain ⟨⟨x, m1⟩, m2⟩ := M3.cell r hrn
      have m3 := M3.lt
      have hu2 := World.ownsRow.mono hu1 (show gm + 1 ≤ wr.heap.size from HM.out.lt)
      have M4 := Lib.hid (M3.store hrn HC.out hu2)
      have hg0 : w.heap.size ≤ gm := by have := HGM.out; omega
      have B4 := Lib.hid ((HB.out.trans (hb3.mono HB.out.size)).setCell (p := ⟨gm, r, none⟩) hg0 u1)
      obtain ⟨A1, cap1, e1⟩ := SRow.form hu1
      subst e1
      clear hu1 hb3 HS1 hcell M3 hu2
      go_wp2_with fail
      exact ⟨⟨r + 1, by omega, by go_num, M4, B4⟩, by simp [intOf]; omega⟩
    · obtain rfl : r = n := by omega
      go_wp2
      go_ret
      exact ⟨_, _, rfl, HM.out.read HN.out, HB.out⟩

end Go.Proofs.Ytglmgenifjaakaa
