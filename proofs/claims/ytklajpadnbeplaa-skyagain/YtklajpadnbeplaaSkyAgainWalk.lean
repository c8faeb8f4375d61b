/-
  The walk of punchcutlaw14.SkyAgain, over what the program is to do (no claim is made here).
-/
import Derived.Test.YtklajpadnbeplaaSky6
namespace Go.Proofs.Ytklajpadnbeplaa
open Go.RowKit

set_option maxRecDepth 100000 in
set_option maxHeartbeats 3200000 in
theorem skyAgain_walk {R : World → (Nat → Prop) → Value → List Nat → Nat → Prop} (SK : SkyOK R) (a0 a1 : Int) (A : Option Addr) (n cap : Nat) (bs : List Bx) (w : World) (h0 : -128 ≤ a0 ∧ a0 ≤ 127) (h1 : -128 ≤ a1 ∧ a1 ≤ 127) (hbx : BxRd w (.slice A n cap) bs) :
    Calls Try.prog 6 #[.int .i8 a0, .int .i8 a1, .slice A n cap] w fun e w' => e = .returned (.bool true) ∧ Below w.heap.size w w' := by
  have HAW := Lib.hid (fun w => awake14 SK w)
  have HOF := Lib.hid (fun w => SK.of a0 a1 w (by omega) (by omega))
  have HRB := Lib.hid (fun vr rs w h hl hr => SK.rebuild a0 a1 vr rs w (by omega) (by omega) h hl hr)
  have hS0 := side_le a0
  have hS1 := side_le a1
  generalize side a0 = S0 at *
  generalize side a1 = S1 at *
  have hn : n = bs.length ∧ n ≤ cap := by obtain ⟨_, _, e, hc, _⟩ := id hbx; simp only [Value.slice.injEq] at e; obtain ⟨-, rfl, rfl⟩ := e; exact ⟨rfl, hc⟩
  have HNL := Lib.hid hn.1
  have hnc := hn.2
  have HBX := Lib.hid hbx
  obtain ⟨M, hM⟩ : ∃ M : Nat, min n 60 = M := ⟨_, rfl⟩
  have m4 := fun w => run_min2i (P := Try.prog) #[3, 3] 3 n 60 w
  rw [show min (n : Int) 60 = (M : Int) by omega] at m4
  have hMn : M ≤ n := by omega
  have hM60 : M ≤ 60 := by omega
  obtain ⟨i0, hi0, hz0, hz1, hz2⟩ := infos rc4info
  clear hn hbx hM
  go_enter Try.func6, Try.ntmps6
  go_wp2_with fail
  refine (HAW.out _).mono ?_
  rintro e w1 ⟨rfl, hb⟩
  have HB1 := Lib.hid hb
  clear hb
  go_wp2_with fail
  refine (HOF.out _).mono ?_
  rintro e w2 ⟨ks, v, rfl, hR, hks, hb⟩
  obtain ⟨a, rfl⟩ := SK.ptr hR
  have HB2 := Lib.hid (below2 HB1.out hb)
  have HS2 : Hid (SkyS R w.heap.size w2 (.pointer (some a)) (List.replicate S0 0) S1 (fun _ => False)) := Lib.hid ⟨ks, hR, fun q hq => ⟨Nat.le_trans HB1.out.size (hks q hq), id⟩⟩
  clear hb hR hks HB1 HOF HAW
  go_wp2_with fail
  have hs2 := HS2.out
  rw [← rebL_nil S0 S1] at hs2
  have HS3 : Hid (SkyS R w.heap.size w2 (.pointer (some a)) (rebL S0 S1 []) S1 (fun q => (Value.slice none 0 0).ownBlock = some q)) := Lib.hid (hs2.more SK (fun q hq => by cases hq))
  clear hs2 HS2
  go_loopw [31, 8] (fun i o wr => ∃ (r : Nat) (rs : List Rc), r ≤ M ∧ i = .int .i64 r ∧ Hid (rs.length ≤ r ∧ (∀ c ∈ rs, InR c)) ∧ Hid (∀ x, x < S0 → hgt (rebL S0 S1 rs) x ≤ S1) ∧ Hid (SkyS R w.heap.size wr (.pointer (some a)) (rebL S0 S1 rs) S1 (fun q => o.ownBlock = some q)) ∧ Hid (RRow wr w.heap.size o rs) ∧ Hid (Below w.heap.size w wr)) (fun i _ _ => M - (intOf i).toNat)
  case atStart => exact ⟨0, [], Nat.zero_le _, rfl, Lib.hid ⟨Nat.le_refl _, fun c h => by cases h⟩, Lib.hid (fun x _ => by rw [rebL_nil, hgt_zero]; omega), HS3, Lib.hid (RRow.nil _ _), HB2⟩
  case round =>
    clear HS3 HB2
    obtain ⟨r, rs, hr, rfl, HRS, HLT, HS, HO, HB⟩ := hrel
    by_cases hrn : r < M
    · have hrb : decide ((r : Int) < M) = true := by simp; omega
      obtain ⟨⟨bw, bh, bx, by_, bf⟩, hbq⟩ : ∃ b, bs[r]? = some b := ⟨_, List.getElem?_eq_getElem (by have := HNL.out; omega)⟩
      obtain ⟨⟨hw, hh, hx, hy⟩, ab, rfl, _, x0, x1, x2, x3, x4⟩ := (HBX.out.keep HB.out).at r _ hbq
      simp only [] at x0 x1 x2 x3 x4 hw hh hx hy
      obtain ⟨wm', hwm⟩ : ∃ q, bw % 20 = q := ⟨_, rfl⟩
      obtain ⟨hm', hhm⟩ : ∃ q, bh % 20 = q := ⟨_, rfl⟩
      have y3 : (bw : Int) % 20 = (wm' : Int) := by omega
      have y4 : (bh : Int) % 20 = (hm' : Int) := by omega
      have hwb : wm' < 20 := by omega
      have hhb : hm' < 20 := by omega
      obtain ⟨KK, hKK⟩ : ∃ k, rs.length = k := ⟨_, rfl⟩
      have hKb : KK ≤ 60 := by have := HRS.out.1; omega
      obtain ⟨Ao, co, e⟩ := HO.out.form
      rw [hKK] at e
      subst e
      have HKK := Lib.hid hKK
      have hal : Below wr.heap.size wr (wr.alloc (.cells #[.int .u8 bw, .int .u8 bh, .int .u8 bx, .int .u8 by_, .bool bf] 29)) := (Below.refl _ _).alloc (Nat.le_refl _) _
      have HSa := Lib.hid (HS.out.below SK hal)
      have HOa := Lib.hid (HO.out.below hal)
      have HBa := Lib.hid (below2 HB.out hal)
      have HBO := Lib.hid (Blk.new wr 29 [.int .u8 bw, .int .u8 bh, .int .u8 bx, .int .u8 by_, .bool bf] rfl)
      have hfit := HSa.out.fit SK (wm' : Int) (hm' : Int) (by omega) (by omega)
      clear hal HS HO HB hbq hwm hhm hKK
      cases hf : fitL (rebL S0 S1 rs) S1 (wm' : Int) (hm' : Int) with
      | none =>
        have hV : fitV (rebL S0 S1 rs) S1 (wm' : Int) (hm' : Int) = ((0, 0, 0, 0), false) := by unfold fitV; rw [hf]
        rw [hV] at hfit
        simp only [rcV] at hfit
        have HF := Lib.hid hfit
        clear hV hfit hf
        go_wp2_with fail
        refine HF.out.mono ?_
        rintro e w4 ⟨rfl, hb⟩
        have hal : Below w4.heap.size w4 (w4.alloc (.cells #[.int .i64 0, .int .i64 0, .int .i64 0, .int .i64 0] 31)) := (Below.refl _ _).alloc (Nat.le_refl _) _
        have HS4 := Lib.hid ((HSa.out.below SK hb).below SK hal)
        have HO4 := Lib.hid ((HOa.out.below hb).below hal)
        have HB4 := Lib.hid (below2 (below2 HBa.out hb) hal)
        clear hb hal HF HSa HBa HOa HBO x0 x1 x2 x3 x4
        go_wp2_with fail
        exact ⟨⟨r + 1, rs, hrn, by go_num, Lib.hid ⟨by have := HRS.out.1; omega, HRS.out.2⟩, HLT, HS4, HO4, HB4⟩, by simp [intOf]; omega⟩
      | some q =>
        obtain ⟨qx, qy⟩ := q
        have hV : fitV (rebL S0 S1 rs) S1 (wm' : Int) (hm' : Int) = (((qx : Int), (qy : Int), (wm' : Int), (hm' : Int)), true) := by unfold fitV; rw [hf]
        rw [hV] at hfit
        simp only [rcV] at hfit
        have HF := Lib.hid hfit
        have hmay := fit_may hf
        obtain ⟨f1, f2, f3, f4, f5⟩ := fitL_some hf
        rw [rebL_length] at f3
        have hqx : qx ≤ 64 := by omega
        have hqy : qy ≤ 64 := by omega
        have hlaid : laidL (rebL S0 S1 rs) S1 (qx : Int) (qy : Int) (wm' : Int) (hm' : Int) = rebL S0 S1 (rs ++ [((qx : Int), (qy : Int), (wm' : Int), (hm' : Int))]) := by
          rw [reb_laid hmay]; unfold laidL; rw [if_pos hmay]; rfl
        have HLT2 : Hid (∀ x, x < S0 → hgt (rebL S0 S1 (rs ++ [((qx : Int), (qy : Int), (wm' : Int), (hm' : Int))])) x ≤ S1) := Lib.hid (fun x hx => by
          rw [← hlaid]
          exact (laidL_grows _ _ _ _ _ _ x (by rw [rebL_length]; exact hx) (HLT.out x hx)).2)
        have HIR : Hid (InR ((qx : Int), (qy : Int), (wm' : Int), (hm' : Int))) := Lib.hid ⟨⟨by simp only []; omega, by simp only []; omega⟩, by simp only []; omega, by simp only []; omega⟩
        clear hV hfit hf f3 f4 f5
        go_wp2_with fail
        refine HF.out.mono ?_
        rintro e w4 ⟨rfl, hb⟩
        have hal : Below w4.heap.size w4 (w4.alloc (.cells #[.int .i64 qx, .int .i64 qy, .int .i64 wm', .int .i64 hm'] 31)) := (Below.refl _ _).alloc (Nat.le_refl _) _
        have HS4 := Lib.hid (((HSa.out.below SK hb).more SK (E' := fun q => (Value.slice Ao KK co).ownBlock = some q ∨ q = w4.heap.size) (fun q hq => by rcases hq with hq | hq; exact .inl hq; exact .inr (Nat.le_of_eq hq.symm))).below SK hal)
        have HO4 := Lib.hid ((HOa.out.below hb).below hal)
        have HB4 := Lib.hid (below2 (below2 HBa.out hb) hal)
        have HPU := HS4.out.put SK HB4.out.size (fun q hq => by rcases hq with hq | hq; exact (HO4.out.lt q hq).2; rw [hq]; simp) ((qx : Int), (qy : Int), (wm' : Int), (hm' : Int)) HIR.out
        simp only [] at HPU
        rw [hmay, hlaid] at HPU
        replace HPU := Lib.hid HPU
        have HQ4 := Lib.hid (Blk.new w4 31 [.int .i64 qx, .int .i64 qy, .int .i64 wm', .int .i64 hm'] rfl)
        clear hb hal HF HSa HBa HOa HBO x0 x1 x2 x3 x4 hmay HS4 hlaid
        go_wp2_with fail
        refine HPU.out.mono ?_
        rintro e w5 ⟨rfl, hS, hE, hb⟩
        have HO5 := Lib.hid (HO4.out.heap (fun q hq => hE q (.inl hq)))
        have HQ5 := Lib.hid (HQ4.out.heap (hE _ (.inr rfl)))
        have HS5 := Lib.hid (hS.more SK (E' := fun q => (Value.slice Ao KK co).ownBlock = some q) (fun q hq => .inl (.inl hq)))
        have HB5 := Lib.hid (HB4.out.trans hb)
        clear hS hE hb HPU HO4 HQ4 HB4
        generalize w4.heap.size = F at *
        have q0 := HQ5.out.cell 0 rfl
        have q1 := HQ5.out.cell 1 rfl
        have q2 := HQ5.out.cell 2 rfl
        have q3 := HQ5.out.cell 3 rfl
        have ql := HQ5.out.lt
        have HOwn := Lib.hid (HO5.out.own HKK.out)
        have hsz := HB5.out.size
        have HNB := Lib.hid (heap_alloc_new w5 (.cells #[.int .i64 qx, .int .i64 qy, .int .i64 wm', .int .i64 hm'] 31))
        go_wp2_with (at_builtin; refine wpList_append_lies _ rfl _ _ _ (by rfl) w.heap.size 31 i0 _ 4 32 Try.underlying39 hi0 hz0 hz1 hz2 (by rfl) (by omega) _ KK _ (by rfl) (HOwn.out.alloc _) ⟨w5.heap.size, 0, none⟩ 1 1 [.int .i64 qx, .int .i64 qy, .int .i64 wm', .int .i64 hm'] (by rfl) (by rfl) (World.news_of_block HNB.out) (by simp [Value.oneCell']) (by omega) (by simp [maxLen]; omega) (by omega) (by simp; omega) (w5.heap.size + 1) (by simp) ?_; intro g cp w6 hown hgrow hat hlt)
        exact ⟨⟨r + 1, rs ++ [((qx : Int), (qy : Int), (wm' : Int), (hm' : Int))], hrn, by go_num, Lib.hid ⟨by rw [List.length_append]; have := HRS.out.1; simp; omega, fun c hc => by
          rcases List.mem_append.1 hc with h | h
          · exact HRS.out.2 c h
          · rw [List.mem_singleton.1 h]; exact HIR.out⟩, HLT2, Lib.hid (HS5.out.push SK hgrow (by simpa using hat)), Lib.hid (RRow.push HKK.out hown), Lib.hid ((HB5.out.alloc hsz _).grown hgrow (by simp; omega) (fun q hq => (HO5.out.lt q hq).1))⟩, by simp [intOf]; omega⟩
    · obtain rfl : r = M := by omega
      obtain ⟨w6, rfl⟩ : ∃ x, x = wr := ⟨wr, rfl⟩
      have HRC := Lib.hid (HRB.out u8 rs w6 HO.out.read (by have := HRS.out.1; omega) HRS.out.2)
      obtain ⟨Ao, co, rfl⟩ := HO.out.form
      go_wp2_with fail
      refine HRC.out.mono ?_
      rintro e w7 ⟨kt, vt, rfl, hT, hkt, hb⟩
      obtain ⟨at_, rfl⟩ := SK.ptr hT
      have HS7 := Lib.hid (HS.out.below SK hb)
      have HT7 : Hid (SkyS R w.heap.size w7 (.pointer (some at_)) (rebL S0 S1 rs) S1 (fun _ => False)) := Lib.hid ⟨kt, hT, fun q hq => ⟨Nat.le_trans HB.out.size (hkt q hq), id⟩⟩
      have HB7 := Lib.hid (below2 HB.out hb)
      clear hb hT hkt HS HO HB HRC HRB
      have hpl : (stepsL (rebL S0 S1 rs)).length ≤ 64 := by have := stepsTo_len (rebL S0 S1 rs) (rebL S0 S1 rs).length; rw [rebL_length] at this; unfold stepsL; rw [rebL_length]; omega
      obtain ⟨ps, hps⟩ : ∃ ps, stepsL (rebL S0 S1 rs) = ps := ⟨_, rfl⟩
      obtain ⟨hh, hhh⟩ : ∃ hh, rebL S0 S1 rs = hh := ⟨_, rfl⟩
      rw [hhh] at HS7 HT7 hps hpl
      obtain ⟨Mp, hMp⟩ : ∃ Mp, ps.length = Mp := ⟨_, rfl⟩
      have HSS := Lib.hid (fun wq (h : SkyS R w.heap.size wq (.pointer (some a)) hh S1 (fun q => (Value.slice Ao rs.length co).ownBlock = some q)) => by have k := h.steps SK; rw [hps] at k; exact k)
      have HTS := Lib.hid (fun wq (h : SkyS R w.heap.size wq (.pointer (some at_)) hh S1 (fun _ => False)) => by have k := h.steps SK; rw [hps] at k; exact k)
      rw [hps, hMp] at hpl
      have hq2 := fun (x y : Int) w => eq2 x y w
      clear hhh hps HLT
      go_wp2_with fail
      refine (HSS.out _ HS7.out).mono ?_
      rintro e w8 ⟨V, rfl, hV, hb⟩
      have HS8 := Lib.hid (HS7.out.below SK hb)
      have HT8 := Lib.hid (HT7.out.below SK hb)
      have HB8 := Lib.hid (below2 HB7.out hb)
      obtain ⟨A1, c1, rfl⟩ := hV.form
      rw [hMp]
      clear hb hV HS7 HT7 HB7
      go_wp2_with fail
      refine (HTS.out _ HT8.out).mono ?_
      rintro e w9 ⟨V, rfl, hV, hb⟩
      have HS9 := Lib.hid (HS8.out.below SK hb)
      have HT9 := Lib.hid (HT8.out.below SK hb)
      have HB9 := Lib.hid (below2 HB8.out hb)
      obtain ⟨A2, c2, rfl⟩ := hV.form
      rw [hMp]
      clear hb hV HS8 HT8 HB8
      go_wp2_with fail
      refine (HSS.out _ HS9.out).mono ?_
      rintro e w10 ⟨V, rfl, hV, hb⟩
      have HT10 := Lib.hid (HT9.out.below SK hb)
      have HB10 := Lib.hid (below2 HB9.out hb)
      have HV10 := Lib.hid hV
      obtain ⟨A3, c3, rfl⟩ := hV.form
      rw [hMp] at HV10 ⊢
      have HMp := Lib.hid hMp
      clear hb hV HS9 HT9 HB9 hMp HSS
      go_wp2_with fail
      go_loopw [79] (fun i wr => ∃ r : Nat, r ≤ Mp ∧ i = .int .i64 r ∧ Hid (Below w10.heap.size w10 wr)) (fun i _ => Mp - (intOf i).toNat)
      case atStart => exact ⟨0, Nat.zero_le _, rfl, Lib.hid (Below.refl _ _)⟩
      case round =>
        obtain ⟨k, hk, rfl, HW⟩ := hrel
        by_cases hkn : k < Mp
        · have hkb : decide ((k : Int) < Mp) = true := by simp; omega
          obtain ⟨⟨p1, p2⟩, hp⟩ : ∃ p, ps[k]? = some p := ⟨_, List.getElem?_eq_getElem (by rw [HMp.out]; exact hkn)⟩
          obtain ⟨aa, rfl, _, x0, x1⟩ := (HV10.out.keep HW.out).at k _ hp
          simp only [] at x0 x1
          have HP := Lib.hid hp
          clear hp
          go_wp2_with fail
          have AB : Below w10.heap.size w10 (wr.alloc (.cells #[.int .i64 p1, .int .i64 p2] 44)).drew := (HW.out.alloc HW.out.size _).drew
          have HQ0 : Hid ((wr.alloc (.cells #[.int .i64 p1, .int .i64 p2] 44)).drew.cell? ⟨wr.heap.size, 0, none⟩ = some (.int .i64 p1)) := Lib.hid ((Blk.new wr 44 [.int .i64 p1, .int .i64 p2] rfl).cell 0 rfl)
          have HQ1 : Hid ((wr.alloc (.cells #[.int .i64 p1, .int .i64 p2] 44)).drew.cell? ⟨wr.heap.size, 1, none⟩ = some (.int .i64 p2)) := Lib.hid ((Blk.new wr 44 [.int .i64 p1, .int .i64 p2] rfl).cell 1 rfl)
          clear x0 x1 HW
          refine wp_region_held_drew (S := fun wx => wx.cell? ⟨wr.heap.size, 0, none⟩ = some (.int .i64 p1) ∧ wx.cell? ⟨wr.heap.size, 1, none⟩ = some (.int .i64 p2)) (by kernel_rfl) (⟨HQ0.out, HQ1.out⟩) (fun hHeld => ?_)
          refine wpAnyH_take (i := 0) (v := ?_) rfl (by kernel_rfl) (by kernel_rfl) (by kernel_rfl) (fun _ _ _ h => h) (Or.inl ⟨by rfl, ?_⟩) hHeld ?_
          rotate_left
          · intro w hSw
            (try dsimp only at hSw)
            (try simp only [List.getElem_toArray, List.getElem_cons_zero])
            go_simp
            all_goals with_reducible rfl
          try simp only [List.getElem_toArray, List.getElem_cons_zero, Act.put, List.setIfInBounds_toArray, List.set_cons_zero, List.set_cons_succ]
          refine wpAnyH_take (i := 2) (v := ?_) rfl (by kernel_rfl) (by kernel_rfl) (by kernel_rfl) (fun _ _ _ h => h) (Or.inl ⟨by rfl, ?_⟩) hHeld ?_
          rotate_left
          · intro w hSw
            (try dsimp only at hSw)
            (try simp only [List.getElem_toArray, List.getElem_cons_zero, List.getElem_cons_succ])
            go_simp
            all_goals with_reducible rfl
          try simp only [List.getElem_toArray, List.getElem_cons_zero, List.getElem_cons_succ, Act.put, List.setIfInBounds_toArray, List.set_cons_zero, List.set_cons_succ]
          refine wpAnyH_take (i := 5) (v := ?_) rfl (by kernel_rfl) (by kernel_rfl) (by kernel_rfl) (fun _ _ _ h => h) (Or.inl ⟨by rfl, ?_⟩) hHeld ?_
          rotate_left
          · intro w hSw
            (try dsimp only at hSw)
            (try simp only [List.getElem_toArray, List.getElem_cons_zero, List.getElem_cons_succ])
            go_simp
            all_goals with_reducible rfl
          try simp only [List.getElem_toArray, List.getElem_cons_zero, List.getElem_cons_succ, Act.put, List.setIfInBounds_toArray, List.set_cons_zero, List.set_cons_succ]
          refine wpAnyH_ready (rs := [1]) (by kernel_rfl) (by simp) ?_
          refine AllReadyH.cons rfl (fun K hK => ?_) AllReadyH.nil
          try simp only [List.getElem_toArray, List.getElem_cons_zero, List.getElem_cons_succ]
          go_simp
          refine (HTS.out _ (HT10.out.below SK AB)).mono ?_
          rintro e wn ⟨V, rfl, hV, hbn⟩
          have AB := AB.trans (hbn.mono (AB.size))
          replace HQ0 := Lib.hid (Go.Proofs.Ytklajpadnbeplaa.keep hbn HQ0.out)
          replace HQ1 := Lib.hid (Go.Proofs.Ytklajpadnbeplaa.keep hbn HQ1.out)
          obtain ⟨A4, c4, rfl⟩ := hV.form
          rw [HMp.out] at hV ⊢
          obtain ⟨a4, rfl, _, z0, z1⟩ := hV.at k _ HP.out
          simp only [] at z0 z1
          clear hV
          clear hbn
          go_wp2_with fail
          refine hK.out _ _ (⟨HQ0.out, HQ1.out⟩) (fun hHeld => ?_)
          clear hK K
          try simp only [List.getElem_toArray, List.getElem_cons_zero, List.getElem_cons_succ, Act.put, List.setIfInBounds_toArray, List.set_cons_zero, List.set_cons_succ]
          refine wpAnyH_take (i := 3) (v := ?_) rfl (by kernel_rfl) (by kernel_rfl) (by kernel_rfl) (fun _ _ _ h => h) (Or.inl ⟨by rfl, ?_⟩) hHeld ?_
          rotate_left
          · intro w hSw
            (try dsimp only at hSw)
            (try simp only [List.getElem_toArray, List.getElem_cons_zero, List.getElem_cons_succ])
            go_simp
            all_goals with_reducible rfl
          try simp only [List.getElem_toArray, List.getElem_cons_zero, List.getElem_cons_succ, Act.put, List.setIfInBounds_toArray, List.set_cons_zero, List.set_cons_succ]
          refine wpAnyH_ready (rs := [4]) (by kernel_rfl) (by simp) ?_
          refine AllReadyH.cons rfl (fun K hK => ?_) AllReadyH.nil
          try simp only [List.getElem_toArray, List.getElem_cons_zero, List.getElem_cons_succ]
          go_simp
          refine hK.out _ _ (⟨HQ0.out, HQ1.out⟩) (fun hHeld => ?_)
          clear hK K
          try simp only [List.getElem_toArray, List.getElem_cons_zero, List.getElem_cons_succ, Act.put, List.setIfInBounds_toArray, List.set_cons_zero, List.set_cons_succ]
          refine wpAnyH_take (i := 6) (v := ?_) rfl (by kernel_rfl) (by kernel_rfl) (by kernel_rfl) (fun _ _ _ h => h) (Or.inl ⟨by rfl, ?_⟩) hHeld ?_
          rotate_left
          · intro w hSw
            (try dsimp only at hSw)
            (try simp only [List.getElem_toArray, List.getElem_cons_zero, List.getElem_cons_succ])
            go_simp
            all_goals with_reducible rfl
          try simp only [List.getElem_toArray, List.getElem_cons_zero, List.getElem_cons_succ, Act.put, List.setIfInBounds_toArray, List.set_cons_zero, List.set_cons_succ]
          refine wpAnyH_done (by kernel_rfl) ?_ _
          have HW := Lib.hid AB
          clear AB HQ0 HQ1
          go_wp2_with fail
          exact ⟨⟨k + 1, hkn, by go_num, HW⟩, by simp [intOf]; omega⟩
        · obtain rfl : k = Mp := by omega
          have HBF := Lib.hid (below2 HB10.out HW.out)
          go_wp2_with fail
          go_ret
          exact ⟨rfl, HBF.out⟩
end Go.Proofs.Ytklajpadnbeplaa
