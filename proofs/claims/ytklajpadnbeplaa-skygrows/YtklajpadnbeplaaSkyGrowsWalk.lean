/-
  The walk of punchcutlaw14.SkyGrows, over what the program is to do (no claim is made here).
-/
import Derived.Test.YtklajpadnbeplaaSky5
namespace Go.Proofs.Ytklajpadnbeplaa
open Go.RowKit

set_option maxRecDepth 100000 in
set_option maxHeartbeats 3200000 in
theorem skyGrows_walk {R : World → (Nat → Prop) → Value → List Nat → Nat → Prop} (SK : SkyOK R) (a0 a1 : Int) (A : Option Addr) (n cap : Nat) (bs : List Bx) (w : World) (h0 : -128 ≤ a0 ∧ a0 ≤ 127) (h1 : -128 ≤ a1 ∧ a1 ≤ 127) (hbx : BxRd w (.slice A n cap) bs) :
    Calls Try.prog 9 #[.int .i8 a0, .int .i8 a1, .slice A n cap] w fun e w' => e = .returned (.bool true) ∧ Below w.heap.size w w' := by
  have HAW := Lib.hid (fun w => awake14 SK w)
  have HOF := Lib.hid (fun w => SK.of a0 a1 w (by omega) (by omega))
  have hs0 : ((side a0 : Nat) : Int) = max 0 (min a0 64) := by unfold side; omega
  have m1 := fun w => run_min2i (P := Try.prog) #[3, 3] 3 a0 64 w
  have m3 := fun w => run_max2i (P := Try.prog) #[3, 3] 3 0 (min a0 64) w
  rw [← hs0] at m3
  have hS0 := side_le a0
  have hS1 := side_le a1
  generalize side a0 = S0 at *
  generalize side a1 = S1 at *
  have hn : n = bs.length ∧ n ≤ cap := by obtain ⟨_, _, e, hc, _⟩ := id hbx; simp only [Value.slice.injEq] at e; obtain ⟨-, rfl, rfl⟩ := e; exact ⟨rfl, hc⟩
  have HNL := Lib.hid hn.1
  have hnc := hn.2
  have HBX := Lib.hid hbx
  obtain ⟨M, hM⟩ : ∃ M : Nat, min n 40 = M := ⟨_, rfl⟩
  have m4 := fun w => run_min2i (P := Try.prog) #[3, 3] 3 n 40 w
  rw [show min (n : Int) 40 = (M : Int) by omega] at m4
  have hMn : M ≤ n := by omega
  have hM40 : M ≤ 40 := by omega
  obtain ⟨i0, hi0, hz0, hz1, hz2⟩ := infos ninfo
  clear hs0 hn hbx hM
  go_enter Try.func9, Try.ntmps9
  go_wp2_with fail
  refine (HAW.out _).mono ?_
  rintro e w1 ⟨rfl, hb⟩
  have HB1 := Lib.hid hb
  clear hb
  go_wp2_with fail
  refine (HOF.out _).mono ?_
  rintro e w2 ⟨ks, v, rfl, hR, hks, hb⟩
  obtain ⟨a, rfl⟩ := SK.ptr hR
  have HB2 := Lib.hid (below2 HB1.out hb)
  have HS2 : Hid (SkyS R w.heap.size w2 (.pointer (some a)) (List.replicate S0 0) S1 (fun _ => False)) := Lib.hid ⟨ks, hR, fun q hq => ⟨Nat.le_trans HB1.out.size (hks q hq), id⟩⟩
  obtain ⟨wm, hr, hown, hg⟩ := run_make_full (P := Try.prog) w2 w2.heap.size 27 3 i0 _ 1 Try.underlying27 hi0 hz0 hz1 .i64 .i64 S0 (by rw [hz2]; omega) (by unfold maxLen; omega) (Nat.le_refl _)
  have Bm : Below w2.heap.size w2 wm := (Below.refl _ w2).grown hg (Nat.le_refl _) (fun q hq => by cases hq)
  have HM0 : Hid (HRw wm w2.heap.size S0 (List.replicate S0 0)) := Lib.hid ⟨by simp, by
    rw [show (Value.int IntKind.i64 0).cells = #[.int .i64 0] from rfl, Nat.mul_one, toList_madeCells_one] at hown
    rw [show nvals (List.replicate S0 0) = List.replicate S0 (.int .i64 0) by unfold nvals; rw [List.map_replicate]; rfl]
    exact hown⟩
  have HS3 : Hid (SkyS R w.heap.size wm (.pointer (some a)) (List.replicate S0 0) S1 (fun q => q = w2.heap.size)) := Lib.hid ((HS2.out.more SK (fun q hq => .inr (Nat.le_of_eq hq.symm))).below SK Bm)
  have HB3 := Lib.hid (below2 HB2.out Bm)
  have hg2 : w.heap.size ≤ w2.heap.size := HB2.out.size
  clear hb hR hks HB1 HB2 HS2 hown hg Bm HOF HAW hi0 hz0 hz1 hz2
  go_wp2_with fail
  clear hr
  generalize w2.heap.size = g at *
  have hst : ∀ x, hgt (List.replicate S0 0) x ≤ S1 := fun x => by rw [hgt_zero]; omega
  have HST := Lib.hid hst
  go_loopw [32] (fun i wr => ∃ (r : Nat) (l : List Nat), r ≤ M ∧ i = .int .i64 r ∧ Hid (l.length = S0 ∧ ∀ x, x < S0 → hgt l x ≤ S1) ∧ Hid (SkyS R w.heap.size wr (.pointer (some a)) l S1 (fun q => q = g)) ∧ Hid (HRw wr g S0 l) ∧ Hid (Below w.heap.size w wr)) (fun i _ => M - (intOf i).toNat)
  case atStart => exact ⟨0, List.replicate S0 0, Nat.zero_le _, rfl, Lib.hid ⟨by simp, fun x _ => hst x⟩, HS3, HM0, HB3⟩
  case round =>
    clear HS3 HM0 HB3 hst HST
    obtain ⟨r, l, hr, rfl, HLL, HS, HM, HB⟩ := hrel
    by_cases hrn : r < M
    · have hrb : decide ((r : Int) < M) = true := by simp; omega
      obtain ⟨⟨bw, bh, bx, by_, bf⟩, hbq⟩ : ∃ b, bs[r]? = some b := ⟨_, List.getElem?_eq_getElem (by have := HNL.out; omega)⟩
      obtain ⟨⟨hw, hh, hx, hy⟩, ab, rfl, _, x0, x1, x2, x3, x4⟩ := (HBX.out.keep HB.out).at r _ hbq
      simp only [] at x0 x1 x2 x3 x4 hw hh hx hy
      obtain ⟨xm, hxm⟩ : ∃ q, bx % 70 = q := ⟨_, rfl⟩
      obtain ⟨ym, hym⟩ : ∃ q, by_ % 70 = q := ⟨_, rfl⟩
      obtain ⟨wm', hwm⟩ : ∃ q, bw % 20 = q := ⟨_, rfl⟩
      obtain ⟨hm', hhm⟩ : ∃ q, bh % 20 = q := ⟨_, rfl⟩
      have y1 : (bx : Int) % 70 = (xm : Int) := by omega
      have y2 : (by_ : Int) % 70 = (ym : Int) := by omega
      have y3 : (bw : Int) % 20 = (wm' : Int) := by omega
      have y4 : (bh : Int) % 20 = (hm' : Int) := by omega
      have hxb : xm < 70 := by omega
      have hyb : ym < 70 := by omega
      have hwb : wm' < 20 := by omega
      have hhb : hm' < 20 := by omega
      have hal : Below wr.heap.size wr (wr.alloc (.cells #[.int .u8 bw, .int .u8 bh, .int .u8 bx, .int .u8 by_, .bool bf] 29)) := (Below.refl _ _).alloc (Nat.le_refl _) _
      have HSa := Lib.hid (HS.out.below SK hal)
      have HMa := Lib.hid (HM.out.keep hal)
      have HBa := Lib.hid (below2 HB.out hal)
      have HPU := Lib.hid (HSa.out.put SK HBa.out.size (fun q hq => by rw [hq]; exact HMa.out.lt) (((xm : Int) - 2), ((ym : Int) - 2), (wm' : Int), (hm' : Int)) ⟨⟨by simp only []; omega, by simp only []; omega⟩, by simp only []; omega, by simp only []; omega⟩)
      have HBO := Lib.hid (Blk.new wr 29 [.int .u8 bw, .int .u8 bh, .int .u8 bx, .int .u8 by_, .bool bf] rfl)
      have HGR := Lib.hid (fun x (hx : x < S0) => laidL_grows l S1 ((xm : Int) - 2) ((ym : Int) - 2) (wm' : Int) (hm' : Int) x (by rw [HLL.out.1]; exact hx) (HLL.out.2 x hx))
      have HLN := Lib.hid (laidL_length l S1 ((xm : Int) - 2) ((ym : Int) - 2) (wm' : Int) (hm' : Int))
      simp only [] at HPU
      generalize laidL l S1 ((xm : Int) - 2) ((ym : Int) - 2) (wm' : Int) (hm' : Int) = l2 at *
      generalize mayL l S1 ((xm : Int) - 2) ((ym : Int) - 2) (wm' : Int) (hm' : Int) = may at *
      clear hal HS HM HB hbq hxm hym hwm hhm
      go_wp2_with fail
      refine HPU.out.mono ?_
      rintro e w4 ⟨rfl, hS, hE, hb⟩
      have HS4 := Lib.hid hS
      have HM4 := Lib.hid (HMa.out.heap (hE g rfl))
      have HB4 := Lib.hid (HBa.out.trans hb)
      clear hS hE hb HPU HSa HMa HBa HBO x0 x1 x2 x3 x4 y1 y2 y3 y4
      go_wp2_with fail
      obtain ⟨w5, rfl⟩ : ∃ x, x = w4 := ⟨w4, rfl⟩
      go_loopw [59] (fun i wr => ∃ (x : Nat) (was : List Nat), x ≤ S0 ∧ i = .int .i64 x ∧ Hid (∀ j, j < S0 → hgt was j = if j < x then hgt l2 j else hgt l j) ∧ Hid (SkyS R w.heap.size wr (.pointer (some a)) l2 S1 (fun q => q = g)) ∧ Hid (HRw wr g S0 was) ∧ Hid (Below w.heap.size w wr)) (fun i _ => S0 - (intOf i).toNat)
      case atStart => exact ⟨0, l, Nat.zero_le _, rfl, Lib.hid (fun j _ => by rw [if_neg (by omega)]), HS4, HM4, HB4⟩
      case round =>
        clear HS4 HM4 HB4
        obtain ⟨x, was, hx, rfl, HWA, HS, HM, HB⟩ := hrel
        by_cases hxn : x < S0
        · have hxb : decide ((x : Int) < S0) = true := by simp; omega
          obtain ⟨gr1, gr2⟩ := HGR.out x hxn
          have hwx := HWA.out x hxn
          rw [if_neg (by omega)] at hwx
          have HHI := Lib.hid (fun wq (h : SkyS R w.heap.size wq (.pointer (some a)) l2 S1 (fun q => q = g)) => h.high SK (x : Int) (by omega))
          rw [highL_in (at_hgt (by rw [HLN.out, HLL.out.1]; exact hxn))] at HHI
          have HNX := Lib.hid (fun j (hj : j < S0) => show hgt (was.set x (hgt l2 x)) j = if j < x + 1 then hgt l2 j else hgt l j from by
            rw [hgt_set _ _ _ _ (by rw [HM.out.1]; exact hxn), HWA.out j hj]
            by_cases e : j = x
            · subst e; rw [if_pos rfl, if_pos (by omega)]
            · rw [if_neg e]
              by_cases e2 : j < x
              · rw [if_pos e2, if_pos (by omega)]
              · rw [if_neg e2, if_neg (by omega)])
          obtain ⟨c0, c1⟩ := HM.out.cell x hxn
          rw [hwx] at c0
          generalize hgt l2 x = y2 at *
          generalize hgt l x = y1 at *
          clear hwx
          have d1 : decide ((y2 : Int) < (y1 : Int)) = false := by simp; omega
          have d1n : decide (y2 < y1) = false := by simp; omega
          have d2 : decide ((64 : Int) < (y2 : Int)) = false := by simp; omega
          have d2n : decide (64 < y2) = false := by simp; omega
          go_wp2_with fail
          have hd : Below wr.heap.size wr wr.drew := (Below.refl _ wr).drew
          have AB : Below w.heap.size w wr.drew := HB.out.drew
          replace HS := Lib.hid (HS.out.below SK hd)
          replace HM := Lib.hid (HM.out.keep hd)
          have HC : Hid (wr.drew.cell? ⟨g, x, none⟩ = some (.int .i64 (y1 : Nat))) := Lib.hid c0
          clear hd c0 c1 HB
          refine wp_region_held_drew (S := fun wx => wx.cell? ⟨g, x, none⟩ = some (.int .i64 (y1 : Nat))) (by kernel_rfl) (HC.out) (fun hHeld => ?_)
          refine wpAnyH_take (i := 0) (v := ?_) rfl (by kernel_rfl) (by kernel_rfl) (by kernel_rfl) (fun _ _ _ h => h) (Or.inl ⟨by rfl, ?_⟩) hHeld ?_
          rotate_left
          · intro w hSw
            (try dsimp only at hSw)
            (try simp only [List.getElem_toArray, List.getElem_cons_zero])
            go_simp
            all_goals with_reducible rfl
          try simp only [List.getElem_toArray, List.getElem_cons_zero, Act.put, List.setIfInBounds_toArray, List.set_cons_zero, List.set_cons_succ]
          refine wpAnyH_take (i := 1) (v := ?_) rfl (by kernel_rfl) (by kernel_rfl) (by kernel_rfl) (fun _ _ _ h => h) (Or.inl ⟨by rfl, ?_⟩) hHeld ?_
          rotate_left
          · intro w hSw
            (try dsimp only at hSw)
            (try simp only [List.getElem_toArray, List.getElem_cons_zero, List.getElem_cons_succ])
            go_simp
            all_goals with_reducible rfl
          try simp only [List.getElem_toArray, List.getElem_cons_zero, List.getElem_cons_succ, Act.put, List.setIfInBounds_toArray, List.set_cons_zero, List.set_cons_succ]
          refine wpAnyH_take (i := 3) (v := ?_) rfl (by kernel_rfl) (by kernel_rfl) (by kernel_rfl) (fun _ _ _ h => h) (Or.inl ⟨by rfl, ?_⟩) hHeld ?_
          rotate_left
          · intro w hSw
            (try dsimp only at hSw)
            (try simp only [List.getElem_toArray, List.getElem_cons_zero, List.getElem_cons_succ])
            go_simp
            all_goals with_reducible rfl
          try simp only [List.getElem_toArray, List.getElem_cons_zero, List.getElem_cons_succ, Act.put, List.setIfInBounds_toArray, List.set_cons_zero, List.set_cons_succ]
          refine wpAnyH_take (i := 4) (v := ?_) rfl (by kernel_rfl) (by kernel_rfl) (by kernel_rfl) (fun _ _ _ h => h) (Or.inl ⟨by rfl, ?_⟩) hHeld ?_
          rotate_left
          · intro w hSw
            (try dsimp only at hSw)
            (try simp only [List.getElem_toArray, List.getElem_cons_zero, List.getElem_cons_succ])
            go_simp
            all_goals with_reducible rfl
          try simp only [List.getElem_toArray, List.getElem_cons_zero, List.getElem_cons_succ, Act.put, List.setIfInBounds_toArray, List.set_cons_zero, List.set_cons_succ]
          refine wpAnyH_take (i := 5) (v := ?_) rfl (by kernel_rfl) (by kernel_rfl) (by kernel_rfl) (fun _ _ _ h => h) (Or.inl ⟨by rfl, ?_⟩) hHeld ?_
          rotate_left
          · intro w hSw
            (try dsimp only at hSw)
            (try simp only [List.getElem_toArray, List.getElem_cons_zero, List.getElem_cons_succ])
            go_simp
            all_goals with_reducible rfl
          try simp only [List.getElem_toArray, List.getElem_cons_zero, List.getElem_cons_succ, Act.put, List.setIfInBounds_toArray, List.set_cons_zero, List.set_cons_succ]
          refine wpAnyH_take (i := 6) (v := ?_) rfl (by kernel_rfl) (by kernel_rfl) (by kernel_rfl) (fun _ _ _ h => h) (Or.inl ⟨by rfl, ?_⟩) hHeld ?_
          rotate_left
          · intro w hSw
            (try dsimp only at hSw)
            (try simp only [List.getElem_toArray, List.getElem_cons_zero, List.getElem_cons_succ])
            go_simp
            all_goals with_reducible rfl
          try simp only [List.getElem_toArray, List.getElem_cons_zero, List.getElem_cons_succ, Act.put, List.setIfInBounds_toArray, List.set_cons_zero, List.set_cons_succ]
          refine wpAnyH_ready (rs := [2]) (by kernel_rfl) (by simp) ?_
          refine AllReadyH.cons rfl (fun K hK => ?_) AllReadyH.nil
          try simp only [List.getElem_toArray, List.getElem_cons_zero, List.getElem_cons_succ]
          go_simp
          refine (HHI.out _ HS.out).mono ?_
          rintro e wn ⟨rfl, hbn⟩
          have AB := AB.trans (hbn.mono (AB.size))
          replace HS := Lib.hid (HS.out.below SK hbn)
          replace HM := Lib.hid (HM.out.keep hbn)
          replace HC := Lib.hid (Go.Proofs.Ytklajpadnbeplaa.keep hbn HC.out)
          clear hbn
          go_wp2_with fail
          refine hK.out _ _ (HC.out) (fun hHeld => ?_)
          clear hK K
          try simp only [List.getElem_toArray, List.getElem_cons_zero, List.getElem_cons_succ, Act.put, List.setIfInBounds_toArray, List.set_cons_zero, List.set_cons_succ]
          refine wpAnyH_take (i := 7) (v := ?_) rfl (by kernel_rfl) (by kernel_rfl) (by kernel_rfl) (fun _ _ _ h => h) (Or.inl ⟨by rfl, ?_⟩) hHeld ?_
          rotate_left
          · intro w hSw
            (try dsimp only at hSw)
            (try simp only [List.getElem_toArray, List.getElem_cons_zero, List.getElem_cons_succ])
            go_simp
            all_goals with_reducible rfl
          try simp only [List.getElem_toArray, List.getElem_cons_zero, List.getElem_cons_succ, Act.put, List.setIfInBounds_toArray, List.set_cons_zero, List.set_cons_succ]
          refine wpAnyH_take (i := 8) (v := ?_) rfl (by kernel_rfl) (by kernel_rfl) (by kernel_rfl) (fun _ _ _ h => h) (Or.inl ⟨by rfl, ?_⟩) hHeld ?_
          rotate_left
          · intro w hSw
            (try dsimp only at hSw)
            (try simp only [List.getElem_toArray, List.getElem_cons_zero, List.getElem_cons_succ])
            go_simp
            all_goals with_reducible rfl
          try simp only [List.getElem_toArray, List.getElem_cons_zero, List.getElem_cons_succ, Act.put, List.setIfInBounds_toArray, List.set_cons_zero, List.set_cons_succ]
          refine wpAnyH_take (i := 9) (v := ?_) rfl (by kernel_rfl) (by kernel_rfl) (by kernel_rfl) (fun _ _ _ h => h) (Or.inl ⟨by rfl, ?_⟩) hHeld ?_
          rotate_left
          · intro w hSw
            (try dsimp only at hSw)
            (try simp only [List.getElem_toArray, List.getElem_cons_zero, List.getElem_cons_succ])
            go_simp
            all_goals with_reducible rfl
          try simp only [List.getElem_toArray, List.getElem_cons_zero, List.getElem_cons_succ, Act.put, List.setIfInBounds_toArray, List.set_cons_zero, List.set_cons_succ]
          refine wpAnyH_take (i := 10) (v := ?_) rfl (by kernel_rfl) (by kernel_rfl) (by kernel_rfl) (fun _ _ _ h => h) (Or.inl ⟨by rfl, ?_⟩) hHeld ?_
          rotate_left
          · intro w hSw
            (try dsimp only at hSw)
            (try simp only [List.getElem_toArray, List.getElem_cons_zero, List.getElem_cons_succ])
            go_simp
            all_goals with_reducible rfl
          try simp only [List.getElem_toArray, List.getElem_cons_zero, List.getElem_cons_succ, Act.put, List.setIfInBounds_toArray, List.set_cons_zero, List.set_cons_succ]
          refine wpAnyH_ready (rs := [11]) (by kernel_rfl) (by simp) ?_
          refine AllReadyH.cons rfl (fun K hK => ?_) AllReadyH.nil
          try simp only [List.getElem_toArray, List.getElem_cons_zero, List.getElem_cons_succ]
          go_simp
          refine (HHI.out _ HS.out).mono ?_
          rintro e wn ⟨rfl, hbn⟩
          have AB := AB.trans (hbn.mono (AB.size))
          replace HS := Lib.hid (HS.out.below SK hbn)
          replace HM := Lib.hid (HM.out.keep hbn)
          replace HC := Lib.hid (Go.Proofs.Ytklajpadnbeplaa.keep hbn HC.out)
          clear hbn
          go_wp2_with fail
          refine hK.out _ _ (HC.out) (fun hHeld => ?_)
          clear hK K
          try simp only [List.getElem_toArray, List.getElem_cons_zero, List.getElem_cons_succ, Act.put, List.setIfInBounds_toArray, List.set_cons_zero, List.set_cons_succ]
          refine wpAnyH_take (i := 12) (v := ?_) rfl (by kernel_rfl) (by kernel_rfl) (by kernel_rfl) (fun _ _ _ h => h) (Or.inl ⟨by rfl, ?_⟩) hHeld ?_
          rotate_left
          · intro w hSw
            (try dsimp only at hSw)
            (try simp only [List.getElem_toArray, List.getElem_cons_zero, List.getElem_cons_succ])
            go_simp
            all_goals with_reducible rfl
          try simp only [List.getElem_toArray, List.getElem_cons_zero, List.getElem_cons_succ, Act.put, List.setIfInBounds_toArray, List.set_cons_zero, List.set_cons_succ]
          refine wpAnyH_take (i := 13) (v := ?_) rfl (by kernel_rfl) (by kernel_rfl) (by kernel_rfl) (fun _ _ _ h => h) (Or.inl ⟨by rfl, ?_⟩) hHeld ?_
          rotate_left
          · intro w hSw
            (try dsimp only at hSw)
            (try simp only [List.getElem_toArray, List.getElem_cons_zero, List.getElem_cons_succ])
            go_simp
            all_goals with_reducible rfl
          try simp only [List.getElem_toArray, List.getElem_cons_zero, List.getElem_cons_succ, Act.put, List.setIfInBounds_toArray, List.set_cons_zero, List.set_cons_succ]
          refine wpAnyH_done (by kernel_rfl) ?_ _
          have HB := Lib.hid AB
          clear AB HC
          go_wp2_with fail
          refine (HHI.out _ HS.out).mono ?_
          rintro e w6 ⟨rfl, hb⟩
          have HS6 := Lib.hid (HS.out.below SK hb)
          have HM6 := Lib.hid (HM.out.keep hb)
          have HB6 := Lib.hid (below2 HB.out hb)
          clear hb HS HM HB
          obtain ⟨c0, c1⟩ := HM6.out.cell x hxn
          have cl := HM6.out.lt
          have HS7 := Lib.hid (HS6.out.other SK ⟨g, x, none⟩ rfl (.int .i64 (y2 : Nat)))
          have HM7 := Lib.hid (HM6.out.store x y2)
          have HB7 := Lib.hid (HB6.out.setCell (p := ⟨g, x, none⟩) hg2 (.int .i64 (y2 : Nat)))
          clear HS6 HM6 HB6
          go_wp2_with fail
          exact ⟨⟨x + 1, was.set x y2, hxn, by go_num, HNX, HS7, HM7, HB7⟩, by simp [intOf]; omega⟩

        · obtain rfl : x = S0 := by omega
          have HEQ : Hid (was = l2) := Lib.hid (list_of_hgt (by rw [HM.out.1, HLN.out, HLL.out.1]) (fun j hj => by
            rw [HM.out.1] at hj
            rw [HWA.out j hj, if_pos hj]))
          have HM5 : Hid (HRw wr g x l2) := Lib.hid (by rw [← HEQ.out]; exact HM.out)
          go_wp2_with fail
          exact ⟨⟨r + 1, l2, hrn, by go_num, Lib.hid ⟨HLN.out.trans HLL.out.1, fun j hj => (HGR.out j hj).2⟩, HS, HM5, HB⟩, by simp [intOf]; omega⟩
    · obtain rfl : r = M := by omega
      have HHI := Lib.hid (HS.out.high SK (S0 : Int) (by omega))
      rw [highL_out (.inr (by rw [HLL.out.1]; omega))] at HHI
      go_wp2_with fail
      refine HHI.out.mono ?_
      rintro e w4 ⟨rfl, hb⟩
      have HB4 := Lib.hid (below2 HB.out hb)
      clear hb
      go_wp2_with fail
      go_ret
      exact ⟨rfl, HB4.out⟩

end Go.Proofs.Ytklajpadnbeplaa
