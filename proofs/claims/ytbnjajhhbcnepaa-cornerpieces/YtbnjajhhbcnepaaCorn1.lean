/-
  What the law's corners of layer 11 does to any world: a contract (no claim is made here).
-/
import Derived.Test.YtbnjajhhbcnepaaCorn0
namespace Go.Proofs.Ytbnjajhhbcnepaa
open Go.RowKit

set_option maxRecDepth 100000 in
set_option maxHeartbeats 3200000 in
theorem lcorners_any (ve : Value) (es : List Ed) (w : World) (hv : ERd w ve es) (hl : es.length ≤ 200000) (hin : ∀ s ∈ es, InD s) :
    Calls Try.prog 16 #[ve] w fun e w' => ∃ V, e = .returned V ∧ NRow w' w.heap.size V (cornersL es) ∧ Below w.heap.size w w' := by
  obtain ⟨A, cap, he, hce, -⟩ := id hv
  subst he
  have HV := Lib.hid hv
  have HI := Lib.hid hin
  obtain ⟨n, hN⟩ : ∃ N, es.length = N := ⟨_, rfl⟩
  have HN := Lib.hid hN
  rw [hN] at hv hl hce HV
  rw [hN]
  obtain ⟨i0, hi0, hz0, hz1, hz2⟩ := infos ninfo
  clear hv hin hN
  go_enter Try.func16, Try.ntmps16
  go_wp2_with fail
  go_loopw [8, 3] (fun i u wr => ∃ r : Nat, r ≤ n ∧ i = .int .i64 r ∧ Hid (NRow wr w.heap.size u (cornersTo es r)) ∧ Hid (Below w.heap.size w wr)) (fun i _ _ => n - (intOf i).toNat)
  case atStart => exact ⟨0, Nat.zero_le _, rfl, Lib.hid (NRow.nil _ _), Lib.hid (Below.refl _ _)⟩
  case round =>
    obtain ⟨r, hr, rfl, HR, HB⟩ := hrel
    by_cases hrn : r < n
    · have hrb : decide ((r : Int) < n) = true := by simp; omega
      obtain ⟨L, hL⟩ : ∃ c, es[n - 1]? = some c := ⟨_, List.getElem?_eq_getElem (by rw [HN.out]; omega)⟩
      obtain ⟨E, hE⟩ : ∃ c, es[r]? = some c := ⟨_, List.getElem?_eq_getElem (by rw [HN.out]; omega)⟩
      have HIE := Lib.hid (HI.out E (List.mem_of_getElem? hE))
      have HIL := Lib.hid (HI.out L (List.mem_of_getElem? hL))
      obtain ⟨a, rfl, hal, l0, l1, l2, l3⟩ := (HV.out.keep HB.out).at (n - 1) L hL
      have HCS := Lib.hid (cornersTo_succ es r)
      have hn1 : IntKind.i64.wrap ((n : Int) - 1) = ((n - 1 : Nat) : Int) := by rw [Int.natCast_sub (by omega)]; exact wI (by omega) (by omega)
      have hnn : n - 1 < n := by omega
      have h1 : Below wr.heap.size wr (wr.alloc (.cells #[.int .i64 L.a.x, .int .i64 L.a.y, .int .i64 L.b.x, .int .i64 L.b.y] 29)) := (Below.refl _ _).alloc (Nat.le_refl _) _
      have HQ4 := Lib.hid (Blk.new wr 29 [.int .i64 L.a.x, .int .i64 L.a.y, .int .i64 L.b.x, .int .i64 L.b.y] rfl)
      by_cases hr0 : r = 0
      · have hrz : decide ((0 : Int) < r) = false := by simp; omega
        have hrz2 : decide (0 < r) = false := by simp; omega
        have HAT : Hid (isC L E = atC es r) := Lib.hid (by
          unfold atC
          rw [if_pos hr0, HN.out, List.getD_eq_getElem?_getD, List.getD_eq_getElem?_getD, hL, hE]
          rfl)
        have HIS := Lib.hid (fun w => lis_any L E HIL.out HIE.out w)
        rw [HAT.out] at HIS
        have HB5 := Lib.hid (below2 HB.out h1)
        have HR5 := Lib.hid (HR.out.below h1)
        have HE5 := (HV.out.keep HB5.out).at r E hE
        obtain ⟨m, hm⟩ : ∃ m, n - 1 = m := ⟨_, rfl⟩
        rw [hm] at l0 l1 l2 l3 hn1 hnn
        clear hE hL hm h1 HR hr0
        go_upto_region 8 with fail
        generalize wr.alloc (.cells #[.int .i64 L.a.x, .int .i64 L.a.y, .int .i64 L.b.x, .int .i64 L.b.y] 29) = w5 at *
        generalize wr.heap.size = X at *
        have HQ5 := HQ4
        clear HQ4 hrz hrz2
        have hd : Below w5.heap.size w5 w5.drew := (Below.refl _ w5).drew
        have AB := HB5.out.drew
        have HQX := Lib.hid (HQ5.out.keep hd)
        have HRX := Lib.hid (HR5.out.below hd)
        obtain ⟨_, e, hal5, hE5⟩ := HE5
        cases e
        have HEX : Hid (EAtS w5.drew a r E.a.x E.a.y E.b.x E.b.y) := Lib.hid hE5
        have HAL : Hid (a.block < w5.drew.heap.size) := Lib.hid hal5
        clear hd HQ5 hE5 hal5 HR5 HB5
        refine wp_region_held_drew (S := fun wx => wx.cell? ⟨X, 0, none⟩ = some (.int .i64 L.a.x) ∧ wx.cell? ⟨X, 1, none⟩ = some (.int .i64 L.a.y) ∧ wx.cell? ⟨X, 2, none⟩ = some (.int .i64 L.b.x) ∧ wx.cell? ⟨X, 3, none⟩ = some (.int .i64 L.b.y) ∧ wx.cell? (a.add (r * 4)) = some (.int .i64 E.a.x) ∧ wx.cell? ⟨(a.add (r * 4)).block, (a.add (r * 4)).off + 1, none⟩ = some (.int .i64 E.a.y) ∧ wx.cell? ⟨(a.add (r * 4)).block, (a.add (r * 4)).off + 2, none⟩ = some (.int .i64 E.b.x) ∧ wx.cell? ⟨(a.add (r * 4)).block, (a.add (r * 4)).off + 3, none⟩ = some (.int .i64 E.b.y)) (by kernel_rfl) (⟨HQX.out.cell 0 rfl, HQX.out.cell 1 rfl, HQX.out.cell 2 rfl, HQX.out.cell 3 rfl, HEX.out⟩) (fun hHeld => ?_)
        refine wpAnyH_take (i := 0) (v := ?_) rfl (by kernel_rfl) (by kernel_rfl) (by kernel_rfl) (fun _ _ _ h => h) (Or.inl ⟨by rfl, ?_⟩) hHeld ?_
        rotate_left
        · intro w hSw
          (try dsimp only at hSw)
          (try simp only [List.getElem_toArray, List.getElem_cons_zero])
          go_simp
          all_goals with_reducible rfl
        try simp only [List.getElem_toArray, List.getElem_cons_zero, Act.put, List.setIfInBounds_toArray, List.set_cons_zero, List.set_cons_succ]
        refine wpAnyH_take (i := 1) (v := ?_) rfl (by kernel_rfl) (by kernel_rfl) (by kernel_rfl) (fun _ _ _ h => h) (Or.inl ⟨by rfl, ?_⟩) hHeld ?_
        rotate_left
        · intro w hSw
          (try dsimp only at hSw)
          (try simp only [List.getElem_toArray, List.getElem_cons_zero, List.getElem_cons_succ])
          go_simp
          all_goals with_reducible rfl
        try simp only [List.getElem_toArray, List.getElem_cons_zero, List.getElem_cons_succ, Act.put, List.setIfInBounds_toArray, List.set_cons_zero, List.set_cons_succ]
        refine wpAnyH_take (i := 2) (v := ?_) rfl (by kernel_rfl) (by kernel_rfl) (by kernel_rfl) (fun _ _ _ h => h) (Or.inl ⟨by rfl, ?_⟩) hHeld ?_
        rotate_left
        · intro w hSw
          (try dsimp only at hSw)
          (try simp only [List.getElem_toArray, List.getElem_cons_zero, List.getElem_cons_succ])
          go_simp
          all_goals with_reducible rfl
        try simp only [List.getElem_toArray, List.getElem_cons_zero, List.getElem_cons_succ, Act.put, List.setIfInBounds_toArray, List.set_cons_zero, List.set_cons_succ]
        refine wpAnyH_take (i := 3) (v := ?_) rfl (by kernel_rfl) (by kernel_rfl) (by kernel_rfl) (fun _ _ _ h => h) (Or.inl ⟨by rfl, ?_⟩) hHeld ?_
        rotate_left
        · intro w hSw
          (try dsimp only at hSw)
          (try simp only [List.getElem_toArray, List.getElem_cons_zero, List.getElem_cons_succ])
          go_simp
          all_goals with_reducible rfl
        try simp only [List.getElem_toArray, List.getElem_cons_zero, List.getElem_cons_succ, Act.put, List.setIfInBounds_toArray, List.set_cons_zero, List.set_cons_succ]
        refine wpAnyH_take (i := 4) (v := ?_) rfl (by kernel_rfl) (by kernel_rfl) (by kernel_rfl) (fun _ _ _ h => h) (Or.inl ⟨by rfl, ?_⟩) hHeld ?_
        rotate_left
        · intro w hSw
          (try dsimp only at hSw)
          (try simp only [List.getElem_toArray, List.getElem_cons_zero, List.getElem_cons_succ])
          go_simp
          all_goals with_reducible rfl
        try simp only [List.getElem_toArray, List.getElem_cons_zero, List.getElem_cons_succ, Act.put, List.setIfInBounds_toArray, List.set_cons_zero, List.set_cons_succ]
        refine wpAnyH_ready (rs := [5]) (by kernel_rfl) (by simp) ?_
        refine AllReadyH.cons rfl (fun K hK => ?_) AllReadyH.nil
        try simp only [List.getElem_toArray, List.getElem_cons_zero, List.getElem_cons_succ]
        go_simp
        refine (HIS.out _).mono ?_
        rintro e wn ⟨rfl, hbn⟩
        have AB := AB.trans (hbn.mono (AB.size))
        replace HQX := Lib.hid (HQX.out.keep hbn)
        replace HRX := Lib.hid (HRX.out.below hbn)
        replace HEX := Lib.hid (eats_keep HEX.out HAL.out hbn)
        replace HAL := Lib.hid (Nat.lt_of_lt_of_le HAL.out hbn.size)
        clear hbn
        go_wp2_with fail
        refine hK.out _ _ (⟨HQX.out.cell 0 rfl, HQX.out.cell 1 rfl, HQX.out.cell 2 rfl, HQX.out.cell 3 rfl, HEX.out⟩) (fun hHeld => ?_)
        clear hK K
        try simp only [List.getElem_toArray, List.getElem_cons_zero, List.getElem_cons_succ, Act.put, List.setIfInBounds_toArray, List.set_cons_zero, List.set_cons_succ]
        refine wpAnyH_done (by kernel_rfl) ?_ _
        clear HQX HIS HEX HAL
        generalize atC es r = b at *
        cases b
        · have HC2 := Lib.hid (HCS.out.trans (if_neg (by simp)))
          clear HCS
          go_wp2_with fail
          exact ⟨⟨r + 1, hrn, by go_num, Lib.hid (by rw [HC2.out]; exact HRX.out), Lib.hid AB⟩, by simp [intOf]; omega⟩
        · have HC2 := Lib.hid (HCS.out.trans (if_pos rfl))
          obtain ⟨K, hK⟩ : ∃ K, (cornersTo es r).length = K := ⟨_, rfl⟩
          have hKb : K ≤ r := by rw [← hK]; exact cornersTo_len es r
          have HK := Lib.hid hK
          have HOwn := Lib.hid (HRX.out.own hK)
          obtain ⟨Au, capu, rfl⟩ := HRX.out.form
          rw [hK] at HOwn ⊢
          clear hK HCS HRX
          generalize cornersTo es r = cur at *
          have hsz := AB.size
          have HAB := Lib.hid AB
          have HNB := Lib.hid (heap_alloc_new wn (.cells #[.int .i64 (r : Int)] 3))
          clear AB
          go_wp2_with (at_builtin; refine wpList_append_lies _ rfl _ _ _ (by rfl) w.heap.size 3 i0 _ 1 8 Try.underlying38 hi0 hz0 hz1 hz2 (by rfl) (by omega) _ K _ (by rfl) (HOwn.out.alloc _) ⟨wn.heap.size, 0, none⟩ 1 1 [.int .i64 (r : Int)] (by rfl) (by rfl) (World.news_of_block HNB.out) (by simp [Value.oneCell']) (by omega) (by simp [maxLen]; omega) (by omega) (by simp; omega) (wn.heap.size + 1) (by simp) ?_; intro g cp w4 hown hgrow hat hlt)
          have BN : Below w.heap.size w w4 := (HAB.out.alloc HAB.out.size _).grown hgrow (by simp; omega) (fun q hq => (HOwn.out.lt q hq).1)
          exact ⟨⟨r + 1, hrn, by go_num, Lib.hid (by rw [HC2.out]; exact NRow.push1 HK.out hown), Lib.hid BN⟩, by simp [intOf]; omega⟩
      · have hrz : decide ((0 : Int) < r) = true := by simp; omega
        have hrz2 : decide (0 < r) = true := by simp; omega
        obtain ⟨P, hP⟩ : ∃ c, es[r - 1]? = some c := ⟨_, List.getElem?_eq_getElem (by rw [HN.out]; omega)⟩
        have HIP := Lib.hid (HI.out P (List.mem_of_getElem? hP))
        have HAT : Hid (isC P E = atC es r) := Lib.hid (by
          unfold atC
          rw [if_neg hr0, List.getD_eq_getElem?_getD, List.getD_eq_getElem?_getD, hP, hE]
          rfl)
        have HIS := Lib.hid (fun w => lis_any P E HIP.out HIE.out w)
        rw [HAT.out] at HIS
        have HB4 := Lib.hid (below2 HB.out h1)
        obtain ⟨_, e, hap4, p0, p1, p2, p3⟩ := (HV.out.keep HB4.out).at (r - 1) P hP
        cases e
        have hr1 : IntKind.i64.wrap ((r : Int) - 1) = ((r - 1 : Nat) : Int) := by rw [Int.natCast_sub (by omega)]; exact wI (by omega) (by omega)
        have hrm : r - 1 < n := by omega
        obtain ⟨m, hm⟩ : ∃ m, n - 1 = m := ⟨_, rfl⟩
        rw [hm] at l0 l1 l2 l3 hn1 hnn
        obtain ⟨q, hq⟩ : ∃ q, r - 1 = q := ⟨_, rfl⟩
        rw [hq] at p0 p1 p2 p3 hr1 hrm
        have h2 : Below wr.heap.size wr (wr.alloc (.cells #[.int .i64 P.a.x, .int .i64 P.a.y, .int .i64 P.b.x, .int .i64 P.b.y] 29)) := (Below.refl _ _).alloc (Nat.le_refl _) _
        have HQ6 := Lib.hid (Blk.new wr 29 [.int .i64 P.a.x, .int .i64 P.a.y, .int .i64 P.b.x, .int .i64 P.b.y] rfl)
        have HB5 := Lib.hid (below2 HB.out h2)
        have HR5 := Lib.hid (HR.out.below h2)
        have HEH := Lib.hid ((HV.out.keep HB5.out).at r E hE)
        clear hE hL hm hq hP h1 h2 HR hr0
        go_upto_region 8 with fail
        clear HQ4 HB4 hap4 p0 p1 p2 p3
        generalize wr.alloc (.cells #[.int .i64 P.a.x, .int .i64 P.a.y, .int .i64 P.b.x, .int .i64 P.b.y] 29) = w5 at *
        generalize wr.heap.size = X at *
        have HQ5 := HQ6
        have HE5 := HEH.out
        clear HQ6 HEH hrz hrz2
        have hd : Below w5.heap.size w5 w5.drew := (Below.refl _ w5).drew
        have AB := HB5.out.drew
        have HQX := Lib.hid (HQ5.out.keep hd)
        have HRX := Lib.hid (HR5.out.below hd)
        obtain ⟨_, e, hal5, hE5⟩ := HE5
        cases e
        have HEX : Hid (EAtS w5.drew a r E.a.x E.a.y E.b.x E.b.y) := Lib.hid hE5
        have HAL : Hid (a.block < w5.drew.heap.size) := Lib.hid hal5
        clear hd HQ5 hE5 hal5 HR5 HB5
        refine wp_region_held_drew (S := fun wx => wx.cell? ⟨X, 0, none⟩ = some (.int .i64 P.a.x) ∧ wx.cell? ⟨X, 1, none⟩ = some (.int .i64 P.a.y) ∧ wx.cell? ⟨X, 2, none⟩ = some (.int .i64 P.b.x) ∧ wx.cell? ⟨X, 3, none⟩ = some (.int .i64 P.b.y) ∧ wx.cell? (a.add (r * 4)) = some (.int .i64 E.a.x) ∧ wx.cell? ⟨(a.add (r * 4)).block, (a.add (r * 4)).off + 1, none⟩ = some (.int .i64 E.a.y) ∧ wx.cell? ⟨(a.add (r * 4)).block, (a.add (r * 4)).off + 2, none⟩ = some (.int .i64 E.b.x) ∧ wx.cell? ⟨(a.add (r * 4)).block, (a.add (r * 4)).off + 3, none⟩ = some (.int .i64 E.b.y)) (by kernel_rfl) (⟨HQX.out.cell 0 rfl, HQX.out.cell 1 rfl, HQX.out.cell 2 rfl, HQX.out.cell 3 rfl, HEX.out⟩) (fun hHeld => ?_)
        refine wpAnyH_take (i := 0) (v := ?_) rfl (by kernel_rfl) (by kernel_rfl) (by kernel_rfl) (fun _ _ _ h => h) (Or.inl ⟨by rfl, ?_⟩) hHeld ?_
        rotate_left
        · intro w hSw
          (try dsimp only at hSw)
          (try simp only [List.getElem_toArray, List.getElem_cons_zero])
          go_simp
          all_goals with_reducible rfl
        try simp only [List.getElem_toArray, List.getElem_cons_zero, Act.put, List.setIfInBounds_toArray, List.set_cons_zero, List.set_cons_succ]
        refine wpAnyH_take (i := 1) (v := ?_) rfl (by kernel_rfl) (by kernel_rfl) (by kernel_rfl) (fun _ _ _ h => h) (Or.inl ⟨by rfl, ?_⟩) hHeld ?_
        rotate_left
        · intro w hSw
          (try dsimp only at hSw)
          (try simp only [List.getElem_toArray, List.getElem_cons_zero, List.getElem_cons_succ])
          go_simp
          all_goals with_reducible rfl
        try simp only [List.getElem_toArray, List.getElem_cons_zero, List.getElem_cons_succ, Act.put, List.setIfInBounds_toArray, List.set_cons_zero, List.set_cons_succ]
        refine wpAnyH_take (i := 2) (v := ?_) rfl (by kernel_rfl) (by kernel_rfl) (by kernel_rfl) (fun _ _ _ h => h) (Or.inl ⟨by rfl, ?_⟩) hHeld ?_
        rotate_left
        · intro w hSw
          (try dsimp only at hSw)
          (try simp only [List.getElem_toArray, List.getElem_cons_zero, List.getElem_cons_succ])
          go_simp
          all_goals with_reducible rfl
        try simp only [List.getElem_toArray, List.getElem_cons_zero, List.getElem_cons_succ, Act.put, List.setIfInBounds_toArray, List.set_cons_zero, List.set_cons_succ]
        refine wpAnyH_take (i := 3) (v := ?_) rfl (by kernel_rfl) (by kernel_rfl) (by kernel_rfl) (fun _ _ _ h => h) (Or.inl ⟨by rfl, ?_⟩) hHeld ?_
        rotate_left
        · intro w hSw
          (try dsimp only at hSw)
          (try simp only [List.getElem_toArray, List.getElem_cons_zero, List.getElem_cons_succ])
          go_simp
          all_goals with_reducible rfl
        try simp only [List.getElem_toArray, List.getElem_cons_zero, List.getElem_cons_succ, Act.put, List.setIfInBounds_toArray, List.set_cons_zero, List.set_cons_succ]
        refine wpAnyH_take (i := 4) (v := ?_) rfl (by kernel_rfl) (by kernel_rfl) (by kernel_rfl) (fun _ _ _ h => h) (Or.inl ⟨by rfl, ?_⟩) hHeld ?_
        rotate_left
        · intro w hSw
          (try dsimp only at hSw)
          (try simp only [List.getElem_toArray, List.getElem_cons_zero, List.getElem_cons_succ])
          go_simp
          all_goals with_reducible rfl
        try simp only [List.getElem_toArray, List.getElem_cons_zero, List.getElem_cons_succ, Act.put, List.setIfInBounds_toArray, List.set_cons_zero, List.set_cons_succ]
        refine wpAnyH_ready (rs := [5]) (by kernel_rfl) (by simp) ?_
        refine AllReadyH.cons rfl (fun K hK => ?_) AllReadyH.nil
        try simp only [List.getElem_toArray, List.getElem_cons_zero, List.getElem_cons_succ]
        go_simp
        refine (HIS.out _).mono ?_
        rintro e wn ⟨rfl, hbn⟩
        have AB := AB.trans (hbn.mono (AB.size))
        replace HQX := Lib.hid (HQX.out.keep hbn)
        replace HRX := Lib.hid (HRX.out.below hbn)
        replace HEX := Lib.hid (eats_keep HEX.out HAL.out hbn)
        replace HAL := Lib.hid (Nat.lt_of_lt_of_le HAL.out hbn.size)
        clear hbn
        go_wp2_with fail
        refine hK.out _ _ (⟨HQX.out.cell 0 rfl, HQX.out.cell 1 rfl, HQX.out.cell 2 rfl, HQX.out.cell 3 rfl, HEX.out⟩) (fun hHeld => ?_)
        clear hK K
        try simp only [List.getElem_toArray, List.getElem_cons_zero, List.getElem_cons_succ, Act.put, List.setIfInBounds_toArray, List.set_cons_zero, List.set_cons_succ]
        refine wpAnyH_done (by kernel_rfl) ?_ _
        clear HQX HIS HEX HAL
        generalize atC es r = b at *
        cases b
        · have HC2 := Lib.hid (HCS.out.trans (if_neg (by simp)))
          clear HCS
          go_wp2_with fail
          exact ⟨⟨r + 1, hrn, by go_num, Lib.hid (by rw [HC2.out]; exact HRX.out), Lib.hid AB⟩, by simp [intOf]; omega⟩
        · have HC2 := Lib.hid (HCS.out.trans (if_pos rfl))
          obtain ⟨K, hK⟩ : ∃ K, (cornersTo es r).length = K := ⟨_, rfl⟩
          have hKb : K ≤ r := by rw [← hK]; exact cornersTo_len es r
          have HK := Lib.hid hK
          have HOwn := Lib.hid (HRX.out.own hK)
          obtain ⟨Au, capu, rfl⟩ := HRX.out.form
          rw [hK] at HOwn ⊢
          clear hK HCS HRX
          generalize cornersTo es r = cur at *
          have hsz := AB.size
          have HAB := Lib.hid AB
          have HNB := Lib.hid (heap_alloc_new wn (.cells #[.int .i64 (r : Int)] 3))
          clear AB
          go_wp2_with (at_builtin; refine wpList_append_lies _ rfl _ _ _ (by rfl) w.heap.size 3 i0 _ 1 8 Try.underlying38 hi0 hz0 hz1 hz2 (by rfl) (by omega) _ K _ (by rfl) (HOwn.out.alloc _) ⟨wn.heap.size, 0, none⟩ 1 1 [.int .i64 (r : Int)] (by rfl) (by rfl) (World.news_of_block HNB.out) (by simp [Value.oneCell']) (by omega) (by simp [maxLen]; omega) (by omega) (by simp; omega) (wn.heap.size + 1) (by simp) ?_; intro g cp w4 hown hgrow hat hlt)
          have BN : Below w.heap.size w w4 := (HAB.out.alloc HAB.out.size _).grown hgrow (by simp; omega) (fun q hq => (HOwn.out.lt q hq).1)
          exact ⟨⟨r + 1, hrn, by go_num, Lib.hid (by rw [HC2.out]; exact NRow.push1 HK.out hown), Lib.hid BN⟩, by simp [intOf]; omega⟩
    · obtain rfl : r = n := by omega
      obtain ⟨Au, capu, rfl⟩ := HR.out.form
      go_wp2_with fail
      go_ret
      exact ⟨_, rfl, by unfold cornersL; rw [HN.out]; exact HR.out, HB.out⟩

end Go.Proofs.Ytbnjajhhbcnepaa
