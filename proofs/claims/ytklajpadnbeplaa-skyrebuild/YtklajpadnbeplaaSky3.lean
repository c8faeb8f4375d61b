/-
  What the law's shows of layer 14 does to any world: a contract (no claim is made here).
-/
import Derived.Test.YtklajpadnbeplaaSky2
import Derived.OrdersHeld
import Derived.ChangeKeysEq
import Derived.Deep.RegionHeld3
namespace Go.Proofs.Ytklajpadnbeplaa
open Go.RowKit

theorem highL_in {l : List Nat} {x y : Nat} (h : l[x]? = some y) : highL l x = y := by
  obtain ⟨hi, _⟩ := List.getElem?_eq_some_iff.1 h
  unfold highL
  rw [if_pos (by omega), Int.toNat_natCast, hgt_at h]
theorem highL_out {l : List Nat} {x : Int} (h : x < 0 ∨ l.length ≤ x) : highL l x = -1 := by unfold highL; rw [if_neg (by omega)]

/-- A pair is itself. -/
theorem eq2 (a b : Int) (w : World) : (Op.equalIn 10000 44 (.agg #[.int .i64 a, .int .i64 b]) (.agg #[.int .i64 a, .int .i64 b])).run Try.prog w = .ok true w := by
  obtain ⟨i, hi⟩ : ∃ i, Try.prog.info? 3 = some i := Option.isSome_iff_exists.1 (by kernel_rfl)
  rw [run_equalIn_array w 9999 _ _ Try.underlying44 hi]
  have c : Try.prog.cellsOf 3 = 1 := by kernel_rfl
  have p0 : (part 3 #[.int .i64 a, .int .i64 b] (0 * 1)).run Try.prog w = .ok (.int .i64 a) w := run_part_plain w (by kernel_rfl) rfl
  have p1 : (part 3 #[.int .i64 a, .int .i64 b] (1 * 1)).run Try.prog w = .ok (.int .i64 b) w := run_part_plain w (by kernel_rfl) rfl
  have e0 : (Op.equalIn 9999 3 (.int .i64 a) (.int .i64 a)).run Try.prog w = .ok true w := by rw [run_equalIn_int w 9998 _ _ _ _ _ Try.underlying3]; simp
  have e1 : (Op.equalIn 9999 3 (.int .i64 b) (.int .i64 b)).run Try.prog w = .ok true w := by rw [run_equalIn_int w 9998 _ _ _ _ _ Try.underlying3]; simp
  rw [show List.range 2 = [0, 1] from rfl, c]
  simp only [Op.eqItems, Sem.run_bind, p0, p1, e0, e1, Result.andThen_ok, Bool.not_true, Bool.false_eq_true, if_false]
  rfl

set_option maxRecDepth 100000 in
set_option maxHeartbeats 1600000 in
theorem lshows_any {R : World → (Nat → Prop) → Value → List Nat → Nat → Prop} (K : SkyOK R) (ks : Nat → Prop) (v vl : Value) (l : List Nat) (H : Nat) (w : World) (hs : R w ks v l H) (hv : NRd w vl l) (hl : l.length ≤ 64) :
    Calls Try.prog 16 #[v, vl] w fun e w' => e = .returned (.bool true) ∧ Below w.heap.size w w' := by
  have HR := Lib.hid hs
  have HL := Lib.hid hv
  have HKP := Lib.hid (fun w' (hb : Below w.heap.size w w') => K.keep hs hb.size (fun g hg => hb.block g (K.lt hs g hg)))
  have HS1 := Lib.hid (fun w h => K.steps ks v l H w h)
  have HS2 := Lib.hid (fun w h => lsteps_any vl l w h (by omega))
  have HHI := Lib.hid (fun w x h hx => K.high ks v l H x w h hx)
  obtain ⟨a, rfl⟩ := K.ptr hs
  obtain ⟨Al, capl, rfl, hcl, -⟩ := id hv
  obtain ⟨N, hN⟩ : ∃ N, l.length = N := ⟨_, rfl⟩
  have HN := Lib.hid hN
  rw [hN] at HL hl hcl HS2
  rw [hN]
  clear hN hv hs
  have hsl : (stepsL l).length ≤ 64 := by have := stepsTo_len l l.length; unfold stepsL; have := HN.out; omega
  obtain ⟨ps, hps⟩ : ∃ ps, stepsL l = ps := ⟨_, rfl⟩
  rw [hps] at HS1 HS2 hsl
  obtain ⟨M, hM⟩ : ∃ M, ps.length = M := ⟨_, rfl⟩
  have HM := Lib.hid hM
  rw [hM] at hsl
  have hq2 := fun (a b : Int) w => eq2 a b w
  clear hps
  go_enter Try.func16, Try.ntmps16
  go_wp2_with fail
  refine (HS1.out _ HR.out).mono ?_
  rintro e w1 ⟨V, rfl, hV, hb⟩
  have HB1 := Lib.hid hb
  have HV1 := Lib.hid hV
  obtain ⟨Aa, ca, rfl⟩ := hV.form
  rw [hM] at HV1 ⊢
  clear hV hb
  go_wp2_with fail
  refine (HS2.out _ (HL.out.keep HB1.out)).mono ?_
  rintro e w2 ⟨V, rfl, hV, hb⟩
  have HB2 := Lib.hid (below2 HB1.out hb)
  have HV2 := Lib.hid (HV1.out.keep hb)
  have HU2 := Lib.hid hV.read
  obtain ⟨Ab, cb, rfl⟩ := hV.form
  rw [hM] at HU2 ⊢
  clear hV hb HB1 HV1 HS1 HS2 hM
  go_wp2_with fail
  go_loopw [21] (fun i wr => ∃ r : Nat, r ≤ M ∧ i = .int .i64 r ∧ Hid (Below w2.heap.size w2 wr)) (fun i _ => M - (intOf i).toNat)
  case atStart => exact ⟨0, Nat.zero_le _, rfl, Lib.hid (Below.refl _ _)⟩
  case round =>
    obtain ⟨r, hr, rfl, HW⟩ := hrel
    by_cases hrn : r < M
    · have hrb : decide ((r : Int) < M) = true := by simp; omega
      obtain ⟨⟨p1, p2⟩, hp⟩ : ∃ p, ps[r]? = some p := ⟨_, List.getElem?_eq_getElem (by rw [HM.out]; exact hrn)⟩
      obtain ⟨aa, rfl, _, x0, x1⟩ := (HV2.out.keep HW.out).at r _ hp
      obtain ⟨ab, rfl, _, y0, y1⟩ := (HU2.out.keep HW.out).at r _ hp
      simp only [] at x0 x1 y0 y1
      clear hp
      go_wp2_with fail
      have AB : Below w2.heap.size w2 wr.drew := HW.out.drew
      have X0 : Hid (wr.drew.cell? (aa.add (r * 2)) = some (.int .i64 p1)) := Lib.hid x0
      have X1 : Hid (wr.drew.cell? ⟨(aa.add (r * 2)).block, (aa.add (r * 2)).off + 1, none⟩ = some (.int .i64 p2)) := Lib.hid x1
      have Y0 : Hid (wr.drew.cell? (ab.add (r * 2)) = some (.int .i64 p1)) := Lib.hid y0
      have Y1 : Hid (wr.drew.cell? ⟨(ab.add (r * 2)).block, (ab.add (r * 2)).off + 1, none⟩ = some (.int .i64 p2)) := Lib.hid y1
      clear x0 x1 y0 y1 HW
      refine wp_region_held_drew (S := fun wx => wx.cell? (aa.add (r * 2)) = some (.int .i64 p1) ∧ wx.cell? ⟨(aa.add (r * 2)).block, (aa.add (r * 2)).off + 1, none⟩ = some (.int .i64 p2) ∧ wx.cell? (ab.add (r * 2)) = some (.int .i64 p1) ∧ wx.cell? ⟨(ab.add (r * 2)).block, (ab.add (r * 2)).off + 1, none⟩ = some (.int .i64 p2)) (by kernel_rfl) (⟨X0.out, X1.out, Y0.out, Y1.out⟩) (fun hHeld => ?_)
      refine wpAnyH_take (i := 0) (v := ?_) rfl (by kernel_rfl) (by kernel_rfl) (by kernel_rfl) (fun _ _ _ h => h) (Or.inl ⟨by rfl, ?_⟩) hHeld ?_
      rotate_left
      · intro w hSw
        (try dsimp only at hSw)
        (try simp only [List.getElem_toArray, List.getElem_cons_zero])
        go_simp
        all_goals with_reducible rfl
      try simp only [List.getElem_toArray, List.getElem_cons_zero, Act.put, List.setIfInBounds_toArray, List.set_cons_zero, List.set_cons_succ]
      refine wpAnyH_take (i := 1) (v := ?_) rfl (by kernel_rfl) (by kernel_rfl) (by kernel_rfl) (fun _ _ _ h => h) (Or.inl ⟨by rfl, ?_⟩) hHeld ?_
      rotate_left
      · intro w hSw
        (try dsimp only at hSw)
        (try simp only [List.getElem_toArray, List.getElem_cons_zero, List.getElem_cons_succ])
        go_simp
        all_goals with_reducible rfl
      try simp only [List.getElem_toArray, List.getElem_cons_zero, List.getElem_cons_succ, Act.put, List.setIfInBounds_toArray, List.set_cons_zero, List.set_cons_succ]
      refine wpAnyH_take (i := 2) (v := ?_) rfl (by kernel_rfl) (by kernel_rfl) (by kernel_rfl) (fun _ _ _ h => h) (Or.inl ⟨by rfl, ?_⟩) hHeld ?_
      rotate_left
      · intro w hSw
        (try dsimp only at hSw)
        (try simp only [List.getElem_toArray, List.getElem_cons_zero, List.getElem_cons_succ])
        go_simp
        all_goals with_reducible rfl
      try simp only [List.getElem_toArray, List.getElem_cons_zero, List.getElem_cons_succ, Act.put, List.setIfInBounds_toArray, List.set_cons_zero, List.set_cons_succ]
      refine wpAnyH_take (i := 3) (v := ?_) rfl (by kernel_rfl) (by kernel_rfl) (by kernel_rfl) (fun _ _ _ h => h) (Or.inl ⟨by rfl, ?_⟩) hHeld ?_
      rotate_left
      · intro w hSw
        (try dsimp only at hSw)
        (try simp only [List.getElem_toArray, List.getElem_cons_zero, List.getElem_cons_succ])
        go_simp
        all_goals with_reducible rfl
      try simp only [List.getElem_toArray, List.getElem_cons_zero, List.getElem_cons_succ, Act.put, List.setIfInBounds_toArray, List.set_cons_zero, List.set_cons_succ]
      refine wpAnyH_take (i := 4) (v := ?_) rfl (by kernel_rfl) (by kernel_rfl) (by kernel_rfl) (fun _ _ _ h => h) (Or.inl ⟨by rfl, ?_⟩) hHeld ?_
      rotate_left
      · intro w hSw
        (try dsimp only at hSw)
        (try simp only [List.getElem_toArray, List.getElem_cons_zero, List.getElem_cons_succ])
        go_simp
        all_goals with_reducible rfl
      try simp only [List.getElem_toArray, List.getElem_cons_zero, List.getElem_cons_succ, Act.put, List.setIfInBounds_toArray, List.set_cons_zero, List.set_cons_succ]
      refine wpAnyH_take (i := 5) (v := ?_) rfl (by kernel_rfl) (by kernel_rfl) (by kernel_rfl) (fun _ _ _ h => h) (Or.inl ⟨by rfl, ?_⟩) hHeld ?_
      rotate_left
      · intro w hSw
        (try dsimp only at hSw)
        (try simp only [List.getElem_toArray, List.getElem_cons_zero, List.getElem_cons_succ])
        go_simp
        all_goals with_reducible rfl
      try simp only [List.getElem_toArray, List.getElem_cons_zero, List.getElem_cons_succ, Act.put, List.setIfInBounds_toArray, List.set_cons_zero, List.set_cons_succ]
      refine wpAnyH_take (i := 6) (v := ?_) rfl (by kernel_rfl) (by kernel_rfl) (by kernel_rfl) (fun _ _ _ h => h) (Or.inl ⟨by rfl, ?_⟩) hHeld ?_
      rotate_left
      · intro w hSw
        (try dsimp only at hSw)
        (try simp only [List.getElem_toArray, List.getElem_cons_zero, List.getElem_cons_succ])
        go_simp
        all_goals with_reducible rfl
      try simp only [List.getElem_toArray, List.getElem_cons_zero, List.getElem_cons_succ, Act.put, List.setIfInBounds_toArray, List.set_cons_zero, List.set_cons_succ]
      refine wpAnyH_take (i := 7) (v := ?_) rfl (by kernel_rfl) (by kernel_rfl) (by kernel_rfl) (fun _ _ _ h => h) (Or.inl ⟨by rfl, ?_⟩) hHeld ?_
      rotate_left
      · intro w hSw
        (try dsimp only at hSw)
        (try simp only [List.getElem_toArray, List.getElem_cons_zero, List.getElem_cons_succ])
        go_simp
        all_goals with_reducible rfl
      try simp only [List.getElem_toArray, List.getElem_cons_zero, List.getElem_cons_succ, Act.put, List.setIfInBounds_toArray, List.set_cons_zero, List.set_cons_succ]
      refine wpAnyH_take (i := 8) (v := ?_) rfl (by kernel_rfl) (by kernel_rfl) (by kernel_rfl) (fun _ _ _ h => h) (Or.inl ⟨by rfl, ?_⟩) hHeld ?_
      rotate_left
      · intro w hSw
        (try dsimp only at hSw)
        (try simp only [List.getElem_toArray, List.getElem_cons_zero, List.getElem_cons_succ])
        go_simp
        all_goals with_reducible rfl
      try simp only [List.getElem_toArray, List.getElem_cons_zero, List.getElem_cons_succ, Act.put, List.setIfInBounds_toArray, List.set_cons_zero, List.set_cons_succ]
      refine wpAnyH_done (by kernel_rfl) ?_ _
      have HW := Lib.hid AB
      clear AB X0 X1 Y0 Y1
      go_wp2_with fail
      exact ⟨⟨r + 1, hrn, by go_num, HW⟩, by simp [intOf]; omega⟩

    · obtain rfl : r = M := by omega
      have HB3 := Lib.hid (below2 HB2.out HW.out)
      clear HV2 HU2 HW HB2
      obtain ⟨w3, rfl⟩ : ∃ x, x = wr := ⟨wr, rfl⟩
      go_wp2_with fail
      go_loopw [36] (fun i wr => ∃ r : Nat, r ≤ N ∧ i = .int .i64 r ∧ Hid (Below w.heap.size w wr)) (fun i _ => N - (intOf i).toNat)
      case atStart => exact ⟨0, Nat.zero_le _, rfl, HB3⟩
      case round =>
        clear HB3
        obtain ⟨q, hq, rfl, HW⟩ := hrel
        by_cases hqn : q < N
        · have hqb : decide ((q : Int) < N) = true := by simp; omega
          have hc := at_hgt (l := l) (x := q) (by rw [HN.out]; exact hqn)
          obtain ⟨al, rfl, _, a0⟩ := (HL.out.keep HW.out).at q _ hc
          have HC := Lib.hid (HHI.out _ (q : Int) (HKP.out _ HW.out) (by omega))
          rw [highL_in hc] at HC
          have hself : ((hgt l q : Int) != (hgt l q : Int)) = false := by simp
          clear hc
          generalize hgt l q = y at *
          go_wp2_with fail
          refine HC.out.mono ?_
          rintro e w4 ⟨rfl, hb⟩
          have HW4 := Lib.hid (below2 HW.out hb)
          clear hb HC HW a0
          go_wp2_with fail
          exact ⟨⟨q + 1, hqn, by go_num, HW4⟩, by simp [intOf]; omega⟩
        · obtain rfl : q = N := by omega
          have HC1 := Lib.hid (HHI.out _ (-1 : Int) (HKP.out _ HW.out) (by decide))
          rw [highL_out (.inl (by decide))] at HC1
          have HC2 := Lib.hid (fun w' hb => HHI.out w' (q : Int) (HKP.out w' hb) (by omega))
          rw [highL_out (.inr (by rw [HN.out]; omega))] at HC2
          go_wp2_with fail
          refine HC1.out.mono ?_
          rintro e w4 ⟨rfl, hb⟩
          have HW4 := Lib.hid (below2 HW.out hb)
          clear hb
          go_wp2_with fail
          refine (HC2.out _ HW4.out).mono ?_
          rintro e w5 ⟨rfl, hb⟩
          have HW5 := Lib.hid (below2 HW4.out hb)
          clear hb
          go_wp2_with fail
          go_ret
          exact ⟨rfl, HW5.out⟩

end Go.Proofs.Ytklajpadnbeplaa
