/-
  The walk of punchcutlaw14.SkyRebuild, over what the program is to do (no claim is made here).
-/
import Derived.Test.YtklajpadnbeplaaSky6
namespace Go.Proofs.Ytklajpadnbeplaa
open Go.RowKit

theorem tmod20 (x : Int) : (Int.tmod x 1048576).natAbs < 1048576 := by
  have h := Int.natAbs_tmod x 1048576
  rw [h]
  exact Nat.mod_lt _ (by decide)

set_option maxRecDepth 100000 in
set_option maxHeartbeats 3200000 in
theorem skyRebuild_walk {R : World → (Nat → Prop) → Value → List Nat → Nat → Prop} (SK : SkyOK R) (a0 a1 : Int) (A : Option Addr) (n cap : Nat) (ins : List Rc) (w : World) (h0 : -128 ≤ a0 ∧ a0 ≤ 127) (h1 : -128 ≤ a1 ∧ a1 ≤ 127) (hrd : RRd w (.slice A n cap) ins) :
    Calls Try.prog 4 #[.int .i8 a0, .int .i8 a1, .slice A n cap] w fun e w' => e = .returned (.bool true) ∧ Below w.heap.size w w' := by
  have HAW := Lib.hid (fun w => awake14 SK w)
  have HRB := Lib.hid (fun vr rs w h hl hr => SK.rebuild a0 a1 vr rs w (by omega) (by omega) h hl hr)
  have hs0 : ((side a0 : Nat) : Int) = max 0 (min a0 64) := by unfold side; omega
  have hs1 : ((side a1 : Nat) : Int) = max 0 (min a1 64) := by unfold side; omega
  have m1 := fun w => run_min2i (P := Try.prog) #[3, 3] 3 a0 64 w
  have m3 := fun w => run_max2i (P := Try.prog) #[3, 3] 3 0 (min a0 64) w
  have m5 := fun w => run_min2i (P := Try.prog) #[3, 3] 3 a1 64 w
  have m6 := fun w => run_max2i (P := Try.prog) #[3, 3] 3 0 (min a1 64) w
  rw [← hs0] at m3
  rw [← hs1] at m6
  have hS0 := side_le a0
  have hS1 := side_le a1
  generalize side a0 = S0 at *
  generalize side a1 = S1 at *
  have hn : n = ins.length ∧ n ≤ cap := by obtain ⟨_, _, e, hc, _⟩ := id hrd; simp only [Value.slice.injEq] at e; obtain ⟨-, rfl, rfl⟩ := e; exact ⟨rfl, hc⟩
  have HNL := Lib.hid hn.1
  have hnc := hn.2
  have HIN := Lib.hid hrd
  obtain ⟨M, hM⟩ : ∃ M : Nat, min n 30 = M := ⟨_, rfl⟩
  have m4 := fun w => run_min2i (P := Try.prog) #[3, 3] 3 n 30 w
  rw [show min (n : Int) 30 = (M : Int) by omega] at m4
  have hMn : M ≤ n := by omega
  have hM30 : M ≤ 30 := by omega
  obtain ⟨i0, hi0, hz0, hz1, hz2⟩ := infos rc4info
  obtain ⟨i1, hj0, hy0, hy1, hy2⟩ := infos ninfo
  clear hs0 hs1 hn hrd hM
  go_enter Try.func4, Try.ntmps4
  go_wp2_with fail
  refine (HAW.out _).mono ?_
  rintro e w6 ⟨rfl, hb⟩
  have HB := Lib.hid hb
  clear hb HAW
  obtain ⟨wm, hrm, hown, hg⟩ := run_make_full (P := Try.prog) w6 w6.heap.size 27 3 i1 _ 1 Try.underlying27 hj0 hy0 hy1 .i64 .i64 S0 (by rw [hy2]; omega) (by unfold maxLen; omega) (Nat.le_refl _)
  have Bm : Below w6.heap.size w6 wm := (Below.refl _ w6).grown hg (Nat.le_refl _) (fun q hq => by cases hq)
  have HM0 : Hid (HRw wm w6.heap.size S0 (List.replicate S0 0)) := Lib.hid ⟨by simp, by
    rw [show (Value.int IntKind.i64 0).cells = #[.int .i64 0] from rfl, Nat.mul_one, toList_madeCells_one] at hown
    rw [show nvals (List.replicate S0 0) = List.replicate S0 (.int .i64 0) by unfold nvals; rw [List.map_replicate]; rfl]
    exact hown⟩
  have hg2 : w.heap.size ≤ w6.heap.size := HB.out.size
  have HB3 := Lib.hid (below2 HB.out Bm)
  clear hown hg Bm HB
  go_wp2_with fail
  clear hrm
  generalize w6.heap.size = g at *
  have HRL0 : Hid (HRw wm g S0 (rebL S0 S1 [])) := by rw [rebL_nil]; exact HM0
  clear HM0
  go_loopw [31, 9] (fun i o wr => ∃ (r : Nat) (rs : List Rc), r ≤ M ∧ i = .int .i64 r ∧ Hid (rs.length = r ∧ (∀ c ∈ rs, InR c)) ∧ Hid (HRw wr g S0 (rebL S0 S1 rs)) ∧ Hid (RRow wr (g + 1) o rs) ∧ Hid (Below w.heap.size w wr)) (fun i _ _ => M - (intOf i).toNat)
  case atStart => exact ⟨0, [], Nat.zero_le _, rfl, Lib.hid ⟨rfl, fun c h => by cases h⟩, HRL0, Lib.hid (RRow.nil _ _), HB3⟩
  case round =>
    clear HRL0 HB3
    obtain ⟨r, rs, hr, rfl, HRS, HM, HO, HB⟩ := hrel
    by_cases hrn : r < M
    · have hrb : decide ((r : Int) < M) = true := by simp; omega
      obtain ⟨⟨X0, X1, X2, X3⟩, hxq⟩ : ∃ b, ins[r]? = some b := ⟨_, List.getElem?_eq_getElem (by have := HNL.out; omega)⟩
      obtain ⟨ax, rfl, _, x0, x1, x2, x3⟩ := (HIN.out.keep HB.out).at r _ hxq
      simp only [] at x0 x1 x2 x3
      obtain ⟨Y0, hY0⟩ : ∃ q, Int.tmod X0 1048576 = q := ⟨_, rfl⟩
      obtain ⟨Y1, hY1⟩ : ∃ q, Int.tmod X1 1048576 = q := ⟨_, rfl⟩
      obtain ⟨Y2, hY2⟩ : ∃ q, Int.tmod X2 1048576 = q := ⟨_, rfl⟩
      obtain ⟨Y3, hY3⟩ : ∃ q, Int.tmod X3 1048576 = q := ⟨_, rfl⟩
      have b0 := tmod20 X0
      have b1 := tmod20 X1
      have b2 := tmod20 X2
      have b3 := tmod20 X3
      rw [hY0] at b0
      rw [hY1] at b1
      rw [hY2] at b2
      rw [hY3] at b3
      obtain ⟨KK, hKK⟩ : ∃ k, rs.length = k := ⟨_, rfl⟩
      have hKb : KK ≤ 30 := by have := HRS.out.1; omega
      obtain ⟨Ao, co, e⟩ := HO.out.form
      rw [hKK] at e
      subst e
      have HKK := Lib.hid hKK
      clear hxq hKK
      have hsa : (wr.alloc (.cells #[.int .i64 Y0, .int .i64 Y1, .int .i64 Y2, .int .i64 Y3] 31)).heap.size = wr.heap.size + 1 := by simp
      have hal : Below wr.heap.size wr (wr.alloc (.cells #[.int .i64 Y0, .int .i64 Y1, .int .i64 Y2, .int .i64 Y3] 31)) := (Below.refl _ _).alloc (Nat.le_refl _) _
      have HOa := Lib.hid (HO.out.below hal)
      have HMa := Lib.hid (HM.out.keep hal)
      have HBa := Lib.hid (below2 HB.out hal)
      have HQa := Lib.hid (Blk.new wr 31 [.int .i64 Y0, .int .i64 Y1, .int .i64 Y2, .int .i64 Y3] rfl)
      have HOwn := Lib.hid (HOa.out.own HKK.out)
      have HNB := Lib.hid (heap_alloc_new (wr.alloc (.cells #[.int .i64 Y0, .int .i64 Y1, .int .i64 Y2, .int .i64 Y3] 31)) (.cells #[.int .i64 Y0, .int .i64 Y1, .int .i64 Y2, .int .i64 Y3] 31))
      have HOL := Lib.hid HO.out.lt
      rw [hsa] at HNB
      have hgl := HM.out.lt
      clear hal HO HM HB
      go_wp2_with (at_builtin; refine wpList_append_lies _ rfl _ _ _ (by rfl) (g + 1) 31 i0 _ 4 32 Try.underlying39 hi0 hz0 hz1 hz2 (by rfl) (by omega) _ KK _ (by rfl) (HOwn.out.alloc _) ⟨wr.heap.size + 1, 0, none⟩ 1 1 [.int .i64 Y0, .int .i64 Y1, .int .i64 Y2, .int .i64 Y3] (by rfl) (by rfl) (World.news_of_block HNB.out) (by simp [Value.oneCell']) (by omega) (by simp [maxLen]; omega) (by omega) (by simp; omega) (wr.heap.size + 2) (by simp) ?_; intro gg cp w6 hown hgrow hat hlt)
      have hal : Below (wr.alloc (.cells #[.int .i64 Y0, .int .i64 Y1, .int .i64 Y2, .int .i64 Y3] 31)).heap.size (wr.alloc (.cells #[.int .i64 Y0, .int .i64 Y1, .int .i64 Y2, .int .i64 Y3] 31)) ((wr.alloc (.cells #[.int .i64 Y0, .int .i64 Y1, .int .i64 Y2, .int .i64 Y3] 31)).alloc (.cells #[.int .i64 Y0, .int .i64 Y1, .int .i64 Y2, .int .i64 Y3] 31)) := (Below.refl _ _).alloc (Nat.le_refl _) _
      have hsz := HBa.out.size
      have HO6 := Lib.hid (RRow.push (r := (Y0, Y1, Y2, Y3)) HKK.out hown)
      have HM6 := Lib.hid ((HMa.out.keep hal).heap (hgrow.block g (by simp; omega) (fun e => absurd (HOL.out g e.symm).1 (by omega))))
      have HQ6 := Lib.hid ((HQa.out.keep hal).heap (hgrow.block wr.heap.size (by simp; omega) (fun e => absurd (HOL.out _ e.symm).2 (by omega))))
      have HB6 := Lib.hid ((HBa.out.alloc hsz _).grown hgrow (by simp; omega) (fun q hq => by have := (HOL.out q hq).1; omega))
      have HRS2 : Hid ((rs ++ [(Y0, Y1, Y2, Y3)]).length = r + 1 ∧ (∀ c ∈ rs ++ [(Y0, Y1, Y2, Y3)], InR c)) := Lib.hid ⟨by rw [List.length_append]; have := HRS.out.1; simp; omega, fun c hc => by
        rcases List.mem_append.1 hc with h | h
        · exact HRS.out.2 c h
        · rw [List.mem_singleton.1 h]; exact ⟨⟨by simp only []; omega, by simp only []; omega⟩, by simp only []; omega, by simp only []; omega⟩⟩
      have HNX := Lib.hid (fun j (hj : j < S0) => rebL_next S0 S1 rs (Y0, Y1, Y2, Y3) j hj)
      have HL2 := Lib.hid (rebL_length S0 S1 (rs ++ [(Y0, Y1, Y2, Y3)]))
      generalize rebL S0 S1 rs = l1 at *
      generalize rs ++ [(Y0, Y1, Y2, Y3)] = rs2 at *
      obtain ⟨l2, hl2⟩ : ∃ q, rebL S0 S1 rs2 = q := ⟨_, rfl⟩
      rw [hl2] at HNX HL2
      replace hl2 := Lib.hid hl2
      clear hal hown hgrow hat hlt HOwn HNB HOL HMa HQa HBa HOa HRS hsa hsz x0 x1 x2 x3
      generalize wr.heap.size = F at *
      go_loopw [54] (fun i wr => ∃ (x : Nat) (was : List Nat), x ≤ S0 ∧ i = .int .i64 x ∧ Hid (∀ j, j < S0 → hgt was j = if j < x then hgt l2 j else hgt l1 j) ∧ Hid (HRw wr g S0 was) ∧ Hid (RRow wr (g + 1) (.slice (some ⟨gg, 0, none⟩) (KK + 1) cp) rs2) ∧ Hid (Blk wr F 31 [.int .i64 Y0, .int .i64 Y1, .int .i64 Y2, .int .i64 Y3]) ∧ Hid (Below w.heap.size w wr)) (fun i _ => S0 - (intOf i).toNat)
      case atStart => exact ⟨0, l1, Nat.zero_le _, rfl, Lib.hid (fun j _ => by rw [if_neg (by omega)]), HM6, HO6, HQ6, HB6⟩
      case round =>
        clear HM6 HO6 HQ6 HB6
        obtain ⟨x, was, hx, rfl, HWA, HM, HO, HQ, HB⟩ := hrel
        by_cases hxn : x < S0
        · have hxb : decide ((x : Int) < S0) = true := by simp; omega
          have hwx := HWA.out x hxn
          rw [if_neg (by omega)] at hwx
          have hy := HNX.out x hxn
          simp only [rebH] at hy
          have HNY := Lib.hid (fun j (hj : j < S0) => show hgt (was.set x (hgt l2 x)) j = if j < x + 1 then hgt l2 j else hgt l1 j from by
            rw [hgt_set _ _ _ _ (by rw [HM.out.1]; exact hxn), HWA.out j hj]
            by_cases e : j = x
            · subst e; rw [if_pos rfl, if_pos (by omega)]
            · rw [if_neg e]
              by_cases e2 : j < x
              · rw [if_pos e2, if_pos (by omega)]
              · rw [if_neg e2, if_neg (by omega)])
          obtain ⟨c0, c1⟩ := HM.out.cell x hxn
          have cl := HM.out.lt
          rw [hwx] at c0
          have q0 := HQ.out.cell 0 rfl
          have q1 := HQ.out.cell 1 rfl
          have q2 := HQ.out.cell 2 rfl
          have q3 := HQ.out.cell 3 rfl
          have ql := HQ.out.lt
          by_cases hin : Y0 ≤ (x : Int) ∧ (x : Int) < Y0 + Y2
          · rw [if_pos hin] at hy
            generalize hgt l2 x = y2 at *
            generalize hgt l1 x = y1 at *
            have hwr : IntKind.i64.wrap (Y1 + Y3) = Y1 + Y3 := wI (by omega) (by omega)
            have hif : (if (y1 : Int) < if Y1 + Y3 < (S1 : Int) then Y1 + Y3 else (S1 : Int) then if Y1 + Y3 < (S1 : Int) then Y1 + Y3 else (S1 : Int) else (y1 : Int)) = (y2 : Int) := by omega
            have d1 : decide (Y0 ≤ (x : Int)) = true := by simp; omega
            have d2 : decide ((x : Int) < Y0 + Y2) = true := by simp; omega
            clear hwx hy hin HWA
            go_wp2_with fail
            have hd : Below wr.heap.size wr wr.drew := (Below.refl _ wr).drew
            have AB : Below w.heap.size w wr.drew := HB.out.drew
            replace HM := Lib.hid (HM.out.keep hd)
            replace HO := Lib.hid (HO.out.below hd)
            replace HQ := Lib.hid (HQ.out.keep hd)
            replace c0 : wr.drew.cell? ⟨g, x, none⟩ = some (.int .i64 (y1 : Nat)) := c0
            replace c1 : wr.drew.frozen? ⟨g, x, none⟩ = false := c1
            clear hd q0 q1 q2 q3 ql cl HB
            refine wp_region_held_drew (S := fun wx => wx.cell? ⟨F, 1, none⟩ = some (.int .i64 Y1) ∧ wx.cell? ⟨F, 3, none⟩ = some (.int .i64 Y3)) (by kernel_rfl) (⟨HQ.out.cell 1 rfl, HQ.out.cell 3 rfl⟩) (fun hHeld => ?_)
            refine wpAnyH_take (i := 0) (v := ?_) rfl (by kernel_rfl) (by kernel_rfl) (by kernel_rfl) (fun _ _ _ h => h) (Or.inl ⟨by rfl, ?_⟩) hHeld ?_
            rotate_left
            · intro w hSw
              (try dsimp only at hSw)
              (try simp only [List.getElem_toArray, List.getElem_cons_zero])
              go_simp
              all_goals with_reducible rfl
            try simp only [List.getElem_toArray, List.getElem_cons_zero, Act.put, List.setIfInBounds_toArray, List.set_cons_zero, List.set_cons_succ]
            refine wpAnyH_take (i := 1) (v := ?_) rfl (by kernel_rfl) (by kernel_rfl) (by kernel_rfl) (fun _ _ _ h => h) (Or.inl ⟨by rfl, ?_⟩) hHeld ?_
            rotate_left
            · intro w hSw
              (try dsimp only at hSw)
              (try simp only [List.getElem_toArray, List.getElem_cons_zero, List.getElem_cons_succ])
              go_simp
              all_goals with_reducible rfl
            try simp only [List.getElem_toArray, List.getElem_cons_zero, List.getElem_cons_succ, Act.put, List.setIfInBounds_toArray, List.set_cons_zero, List.set_cons_succ]
            refine wpAnyH_take (i := 2) (v := ?_) rfl (by kernel_rfl) (by kernel_rfl) (by kernel_rfl) (fun _ _ _ h => h) (Or.inl ⟨by rfl, ?_⟩) hHeld ?_
            rotate_left
            · intro w hSw
              (try dsimp only at hSw)
              (try simp only [List.getElem_toArray, List.getElem_cons_zero, List.getElem_cons_succ])
              go_simp
              all_goals with_reducible rfl
            try simp only [List.getElem_toArray, List.getElem_cons_zero, List.getElem_cons_succ, Act.put, List.setIfInBounds_toArray, List.set_cons_zero, List.set_cons_succ]
            refine wpAnyH_take (i := 3) (v := ?_) rfl (by kernel_rfl) (by kernel_rfl) (by kernel_rfl) (fun _ _ _ h => h) (Or.inl ⟨by rfl, ?_⟩) hHeld ?_
            rotate_left
            · intro w hSw
              (try dsimp only at hSw)
              (try simp only [List.getElem_toArray, List.getElem_cons_zero, List.getElem_cons_succ])
              go_simp
              all_goals with_reducible rfl
            try simp only [List.getElem_toArray, List.getElem_cons_zero, List.getElem_cons_succ, Act.put, List.setIfInBounds_toArray, List.set_cons_zero, List.set_cons_succ]
            refine wpAnyH_take (i := 4) (v := ?_) rfl (by kernel_rfl) (by kernel_rfl) (by kernel_rfl) (fun _ _ _ h => h) (Or.inl ⟨by rfl, ?_⟩) hHeld ?_
            rotate_left
            · intro w hSw
              (try dsimp only at hSw)
              (try simp only [List.getElem_toArray, List.getElem_cons_zero, List.getElem_cons_succ])
              go_simp
              all_goals with_reducible rfl
            try simp only [List.getElem_toArray, List.getElem_cons_zero, List.getElem_cons_succ, Act.put, List.setIfInBounds_toArray, List.set_cons_zero, List.set_cons_succ]
            refine wpAnyH_take (i := 6) (v := ?_) rfl (by kernel_rfl) (by kernel_rfl) (by kernel_rfl) (fun _ _ _ h => h) (Or.inl ⟨by rfl, ?_⟩) hHeld ?_
            rotate_left
            · intro w hSw
              (try dsimp only at hSw)
              (try simp only [List.getElem_toArray, List.getElem_cons_zero, List.getElem_cons_succ])
              go_simp
              all_goals with_reducible rfl
            try simp only [List.getElem_toArray, List.getElem_cons_zero, List.getElem_cons_succ, Act.put, List.setIfInBounds_toArray, List.set_cons_zero, List.set_cons_succ]
            refine wpAnyH_take (i := 7) (v := ?_) rfl (by kernel_rfl) (by kernel_rfl) (by kernel_rfl) (fun _ _ _ h => h) (Or.inl ⟨by rfl, ?_⟩) hHeld ?_
            rotate_left
            · intro w hSw
              (try dsimp only at hSw)
              (try simp only [List.getElem_toArray, List.getElem_cons_zero, List.getElem_cons_succ])
              go_simp
              all_goals with_reducible rfl
            try simp only [List.getElem_toArray, List.getElem_cons_zero, List.getElem_cons_succ, Act.put, List.setIfInBounds_toArray, List.set_cons_zero, List.set_cons_succ]
            refine wpAnyH_take (i := 8) (v := ?_) rfl (by kernel_rfl) (by kernel_rfl) (by kernel_rfl) (fun _ _ _ h => h) (Or.inl ⟨by rfl, ?_⟩) hHeld ?_
            rotate_left
            · intro w hSw
              (try dsimp only at hSw)
              (try simp only [List.getElem_toArray, List.getElem_cons_zero, List.getElem_cons_succ])
              go_simp
              all_goals with_reducible rfl
            try simp only [List.getElem_toArray, List.getElem_cons_zero, List.getElem_cons_succ, Act.put, List.setIfInBounds_toArray, List.set_cons_zero, List.set_cons_succ]
            refine wpAnyH_take (i := 9) (v := ?_) rfl (by kernel_rfl) (by kernel_rfl) (by kernel_rfl) (fun _ _ _ h => h) (Or.inl ⟨by rfl, ?_⟩) hHeld ?_
            rotate_left
            · intro w hSw
              (try dsimp only at hSw)
              (try simp only [List.getElem_toArray, List.getElem_cons_zero, List.getElem_cons_succ])
              go_simp
              all_goals with_reducible rfl
            try simp only [List.getElem_toArray, List.getElem_cons_zero, List.getElem_cons_succ, Act.put, List.setIfInBounds_toArray, List.set_cons_zero, List.set_cons_succ]
            refine wpAnyH_take (i := 10) (v := ?_) rfl (by kernel_rfl) (by kernel_rfl) (by kernel_rfl) (fun _ _ _ h => h) (Or.inl ⟨by rfl, ?_⟩) hHeld ?_
            rotate_left
            · intro w hSw
              (try dsimp only at hSw)
              (try simp only [List.getElem_toArray, List.getElem_cons_zero, List.getElem_cons_succ])
              go_simp
              all_goals with_reducible rfl
            try simp only [List.getElem_toArray, List.getElem_cons_zero, List.getElem_cons_succ, Act.put, List.setIfInBounds_toArray, List.set_cons_zero, List.set_cons_succ]
            refine wpAnyH_take (i := 11) (v := ?_) rfl (by kernel_rfl) (by kernel_rfl) (by kernel_rfl) (fun _ _ _ h => h) (Or.inl ⟨by rfl, ?_⟩) hHeld ?_
            rotate_left
            · intro w hSw
              (try dsimp only at hSw)
              (try simp only [List.getElem_toArray, List.getElem_cons_zero, List.getElem_cons_succ])
              go_simp
              all_goals with_reducible rfl
            try simp only [List.getElem_toArray, List.getElem_cons_zero, List.getElem_cons_succ, Act.put, List.setIfInBounds_toArray, List.set_cons_zero, List.set_cons_succ]
            refine wpAnyH_take (i := 12) (v := ?_) rfl (by kernel_rfl) (by kernel_rfl) (by kernel_rfl) (fun _ _ _ h => h) (Or.inl ⟨by rfl, ?_⟩) hHeld ?_
            rotate_left
            · intro w hSw
              (try dsimp only at hSw)
              (try simp only [List.getElem_toArray, List.getElem_cons_zero, List.getElem_cons_succ])
              go_simp
              all_goals with_reducible rfl
            try simp only [List.getElem_toArray, List.getElem_cons_zero, List.getElem_cons_succ, Act.put, List.setIfInBounds_toArray, List.set_cons_zero, List.set_cons_succ]
            refine wpAnyH_ready (rs := [5]) (by kernel_rfl) (by simp) ?_
            refine AllReadyH.cons rfl (fun K hK => ?_) AllReadyH.nil
            try simp only [List.getElem_toArray, List.getElem_cons_zero, List.getElem_cons_succ]
            go_simp
            refine hK.out _ _ (⟨HQ.out.cell 1 rfl, HQ.out.cell 3 rfl⟩) (fun hHeld => ?_)
            clear hK K
            try simp only [List.getElem_toArray, List.getElem_cons_zero, List.getElem_cons_succ, Act.put, List.setIfInBounds_toArray, List.set_cons_zero, List.set_cons_succ]
            refine wpAnyH_take (i := 13) (v := ?_) rfl (by kernel_rfl) (by kernel_rfl) (by kernel_rfl) (fun _ _ _ h => h) (Or.inl ⟨by rfl, ?_⟩) hHeld ?_
            rotate_left
            · intro w hSw
              (try dsimp only at hSw)
              (try simp only [List.getElem_toArray, List.getElem_cons_zero, List.getElem_cons_succ])
              go_simp
              all_goals with_reducible rfl
            try simp only [List.getElem_toArray, List.getElem_cons_zero, List.getElem_cons_succ, Act.put, List.setIfInBounds_toArray, List.set_cons_zero, List.set_cons_succ]
            refine wpAnyH_take (i := 14) (v := ?_) rfl (by kernel_rfl) (by kernel_rfl) (by kernel_rfl) (fun _ _ _ h => h) (Or.inl ⟨by rfl, ?_⟩) hHeld ?_
            rotate_left
            · intro w hSw
              (try dsimp only at hSw)
              (try simp only [List.getElem_toArray, List.getElem_cons_zero, List.getElem_cons_succ])
              go_simp
              all_goals with_reducible rfl
            try simp only [List.getElem_toArray, List.getElem_cons_zero, List.getElem_cons_succ, Act.put, List.setIfInBounds_toArray, List.set_cons_zero, List.set_cons_succ]
            refine wpAnyH_ready (rs := [15]) (by kernel_rfl) (by simp) ?_
            refine AllReadyH.cons rfl (fun K hK => ?_) AllReadyH.nil
            try simp only [List.getElem_toArray, List.getElem_cons_zero, List.getElem_cons_succ]
            go_simp
            (try rw [hif])
            replace HM := Lib.hid (HM.out.store x y2)
            replace HO := Lib.hid (HO.out.heap (fun q hq => heap_set _ ⟨g, x, none⟩ (.int .i64 (y2 : Nat)) q (by have := (HO.out.lt q hq).1; simp only []; omega)))
            replace HQ := Lib.hid (HQ.out.other (k := g) x (.int .i64 (y2 : Nat)) (by omega))
            have AB := AB.setCell (p := ⟨g, x, none⟩) hg2 (.int .i64 (y2 : Nat))
            clear c0 c1
            refine hK.out _ _ (⟨HQ.out.cell 1 rfl, HQ.out.cell 3 rfl⟩) (fun hHeld => ?_)
            clear hK K
            try simp only [List.getElem_toArray, List.getElem_cons_zero, List.getElem_cons_succ, Act.put, List.setIfInBounds_toArray, List.set_cons_zero, List.set_cons_succ]
            refine wpAnyH_done (by kernel_rfl) ?_ _
            have HB := Lib.hid AB
            clear AB
            go_wp2_with fail
            exact ⟨⟨x + 1, was.set x y2, hxn, by go_num, HNY, HM, HO, HQ, HB⟩, by simp [intOf]; omega⟩
          · rw [if_neg hin] at hy
            have HNZ : Hid (∀ j, j < S0 → hgt was j = if j < x + 1 then hgt l2 j else hgt l1 j) := Lib.hid (fun j hj => by
              rw [HWA.out j hj]
              by_cases e : j = x
              · subst e; rw [if_neg (by omega), if_pos (by omega), hy]
              · by_cases e2 : j < x
                · rw [if_pos e2, if_pos (by omega)]
                · rw [if_neg e2, if_neg (by omega)])
            have d : ¬ (Y0 ≤ (x : Int) ∧ (x : Int) < Y0 + Y2) := hin
            clear HNY HWA hwx hy c0 c1
            go_wp2_with fail
            all_goals exact ⟨⟨x + 1, was, hxn, by go_num, HNZ, HM, HO, HQ, HB⟩, by simp [intOf]; omega⟩
        · obtain rfl : x = S0 := by omega
          have HEQ : was = l2 := list_of_hgt (by rw [HM.out.1, HL2.out]) (fun j hj => by
            rw [HM.out.1] at hj
            rw [HWA.out j hj, if_pos hj])
          have HM7 : Hid (HRw wr g x (rebL x S1 rs2)) := Lib.hid (by rw [hl2.out, ← HEQ]; exact HM.out)
          clear HEQ HM
          go_wp2_with fail
          exact ⟨⟨r + 1, rs2, hrn, by go_num, HRS2, HM7, HO, HB⟩, by simp [intOf]; omega⟩
    · obtain rfl : r = M := by omega
      obtain ⟨w7, rfl⟩ : ∃ x, x = wr := ⟨wr, rfl⟩
      have HRC := Lib.hid (HRB.out _ rs w7 HO.out.read (by have := HRS.out.1; omega) HRS.out.2)
      obtain ⟨Ao, co, rfl⟩ := HO.out.form
      go_wp2_with fail
      refine HRC.out.mono ?_
      rintro e w8 ⟨ks, v, rfl, hR, hks, hb⟩
      obtain ⟨a, rfl⟩ := SK.ptr hR
      have HB8 := Lib.hid (below2 HB.out hb)
      have HSH := Lib.hid (lshows_any SK ks _ _ _ _ w8 hR (HM.out.keep hb).read (by rw [rebL_length]; exact hS0))
      clear hb hks hR HB HRC HRB HM HO
      go_wp2_with fail
      refine HSH.out.mono ?_
      rintro e w9 ⟨rfl, hb⟩
      have HB9 := Lib.hid (below2 HB8.out hb)
      clear hb
      go_wp2_with fail
      go_ret
      exact ⟨rfl, HB9.out⟩
end Go.Proofs.Ytklajpadnbeplaa
