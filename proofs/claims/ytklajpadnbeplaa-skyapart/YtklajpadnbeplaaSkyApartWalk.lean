/-
  The walk of punchcutlaw14.SkyApart, over what the program is to do (no claim is made here).
-/
import Derived.Test.YtklajpadnbeplaaSky6
namespace Go.Proofs.Ytklajpadnbeplaa
open Go.RowKit

/-- What is laid stands beneath the heights. -/
def UnderL (l : List Nat) (rs : List Rc) : Prop := ∀ c ∈ rs, InR c ∧ 0 ≤ c.1 ∧ 1 ≤ c.2.2.1 ∧ c.1 + c.2.2.1 ≤ l.length ∧ ∀ x : Nat, c.1 ≤ (x : Int) → (x : Int) < c.1 + c.2.2.1 → c.2.1 + c.2.2.2 ≤ (hgt l x : Nat)
theorem UnderL.apart {l : List Nat} {rs : List Rc} (h : UnderL l rs) {X W : Nat} (hW : 1 ≤ W) {c : Rc} (hc : c ∈ rs) (h1 : (X : Int) < c.1 + c.2.2.1) (h2 : c.1 < (X : Int) + W) : c.2.1 + c.2.2.2 ≤ (overL l X W : Nat) := by
  obtain ⟨_, a0, a1, a2, k⟩ := h c hc
  obtain ⟨y, hy⟩ : ∃ y : Nat, max (X : Int) c.1 = y := ⟨(max (X : Int) c.1).toNat, by omega⟩
  have h3 := k y (by omega) (by omega)
  have h4 := hgt_le_over (l := l) (x := X) (w := W) (k := y) (by omega) (by omega)
  omega
theorem UnderL.push {l : List Nat} {rs : List Rc} (h : UnderL l rs) {H x y : Nat} {w g : Int} (hm : mayL l H x y w g = true) (ht : ∀ k, k < l.length → hgt l k ≤ H) (hi : InR ((x : Int), (y : Int), w, g)) : UnderL (laidL l H x y w g) (rs ++ [((x : Int), (y : Int), w, g)]) := by
  obtain ⟨h1, h2, h3, h4, h5, h6⟩ := of_decide_eq_true hm
  intro c hc
  rcases List.mem_append.1 hc with hc | hc
  · obtain ⟨a0, a1, a2, a3, k⟩ := h c hc
    refine ⟨a0, a1, a2, by rw [laidL_length]; exact a3, fun z z1 z2 => ?_⟩
    have := (laidL_grows l H x y w g z (by omega) (ht z (by omega))).1
    have := k z z1 z2
    omega
  · rw [List.mem_singleton.1 hc]
    refine ⟨hi, by simp only []; omega, by simp only []; omega, by rw [laidL_length]; simp only []; omega, fun z z1 z2 => ?_⟩
    simp only [] at z1 z2 ⊢
    unfold laidL
    rw [if_pos hm, putL_at _ _ _ _ _ (by omega), if_pos (by omega)]
    omega
theorem UnderL.nil (l : List Nat) : UnderL l [] := fun c hc => by cases hc

set_option maxRecDepth 100000 in
set_option maxHeartbeats 3200000 in
theorem skyApart_walk {R : World → (Nat → Prop) → Value → List Nat → Nat → Prop} (SK : SkyOK R) (a0 a1 : Int) (A : Option Addr) (n cap : Nat) (bs : List Bx) (w : World) (h0 : -128 ≤ a0 ∧ a0 ≤ 127) (h1 : -128 ≤ a1 ∧ a1 ≤ 127) (hbx : BxRd w (.slice A n cap) bs) :
    Calls Try.prog 5 #[.int .i8 a0, .int .i8 a1, .slice A n cap] w fun e w' => e = .returned (.bool true) ∧ Below w.heap.size w w' := by
  have HAW := Lib.hid (fun w => awake14 SK w)
  have HOF := Lib.hid (fun w => SK.of a0 a1 w (by omega) (by omega))
  have hA0 : ((side a0 : Nat) : Int) ≤ max 0 a0 := by unfold side; omega
  have hA1 : ((side a1 : Nat) : Int) ≤ max 0 a1 := by unfold side; omega
  have hS0 := side_le a0
  have hS1 := side_le a1
  generalize side a0 = S0 at *
  generalize side a1 = S1 at *
  have hn : n = bs.length ∧ n ≤ cap := by obtain ⟨_, _, e, hc, _⟩ := id hbx; simp only [Value.slice.injEq] at e; obtain ⟨-, rfl, rfl⟩ := e; exact ⟨rfl, hc⟩
  have HNL := Lib.hid hn.1
  have hnc := hn.2
  have HBX := Lib.hid hbx
  obtain ⟨M, hM⟩ : ∃ M : Nat, min n 60 = M := ⟨_, rfl⟩
  have m4 := fun w => run_min2i (P := Try.prog) #[3, 3] 3 n 60 w
  rw [show min (n : Int) 60 = (M : Int) by omega] at m4
  have hMn : M ≤ n := by omega
  have hM60 : M ≤ 60 := by omega
  obtain ⟨i0, hi0, hz0, hz1, hz2⟩ := infos rc4info
  clear hn hbx hM
  go_enter Try.func5, Try.ntmps5
  go_wp2_with fail
  refine (HAW.out _).mono ?_
  rintro e w1 ⟨rfl, hb⟩
  have HB1 := Lib.hid hb
  clear hb
  go_wp2_with fail
  refine (HOF.out _).mono ?_
  rintro e w2 ⟨ks, v, rfl, hR, hks, hb⟩
  obtain ⟨a, rfl⟩ := SK.ptr hR
  have HB2 := Lib.hid (below2 HB1.out hb)
  have HS2 : Hid (SkyS R w.heap.size w2 (.pointer (some a)) (List.replicate S0 0) S1 (fun _ => False)) := Lib.hid ⟨ks, hR, fun q hq => ⟨Nat.le_trans HB1.out.size (hks q hq), id⟩⟩
  clear hb hR hks HB1 HOF HAW
  go_wp2_with fail
  have hs2 := HS2.out
  have HS3 : Hid (SkyS R w.heap.size w2 (.pointer (some a)) (List.replicate S0 0) S1 (fun q => (Value.slice none 0 0).ownBlock = some q)) := Lib.hid (hs2.more SK (fun q hq => by cases hq))
  clear hs2 HS2
  go_loopw [30, 8] (fun i o wr => ∃ (r : Nat) (l : List Nat) (rs : List Rc), r ≤ M ∧ i = .int .i64 r ∧ Hid (rs.length ≤ r) ∧ Hid (l.length = S0 ∧ (∀ x, x < S0 → hgt l x ≤ S1)) ∧ Hid (UnderL l rs) ∧ Hid (SkyS R w.heap.size wr (.pointer (some a)) l S1 (fun q => o.ownBlock = some q)) ∧ Hid (RRow wr w.heap.size o rs) ∧ Hid (Below w.heap.size w wr)) (fun i _ _ => M - (intOf i).toNat)
  case atStart => exact ⟨0, List.replicate S0 0, [], Nat.zero_le _, rfl, Lib.hid (Nat.le_refl _), Lib.hid ⟨by simp, fun x _ => by rw [hgt_zero]; omega⟩, Lib.hid (UnderL.nil _), HS3, Lib.hid (RRow.nil _ _), HB2⟩
  case round =>
    clear HS3 HB2
    obtain ⟨r, l, rs, hr, rfl, HRS, HLT, HUN, HS, HO, HB⟩ := hrel
    by_cases hrn : r < M
    · have hrb : decide ((r : Int) < M) = true := by simp; omega
      obtain ⟨⟨bw, bh, bx, by_, bf⟩, hbq⟩ : ∃ b, bs[r]? = some b := ⟨_, List.getElem?_eq_getElem (by have := HNL.out; omega)⟩
      obtain ⟨⟨hw, hh, hx, hy⟩, ab, rfl, _, x0, x1, x2, x3, x4⟩ := (HBX.out.keep HB.out).at r _ hbq
      simp only [] at x0 x1 x2 x3 x4 hw hh hx hy
      obtain ⟨wm', hwm⟩ : ∃ q, bw % 20 = q := ⟨_, rfl⟩
      obtain ⟨hm', hhm⟩ : ∃ q, bh % 20 = q := ⟨_, rfl⟩
      have y3 : (bw : Int) % 20 = (wm' : Int) := by omega
      have y4 : (bh : Int) % 20 = (hm' : Int) := by omega
      have hwb : wm' < 20 := by omega
      have hhb : hm' < 20 := by omega
      obtain ⟨KK, hKK⟩ : ∃ k, rs.length = k := ⟨_, rfl⟩
      have hKb : KK ≤ 60 := by have := HRS.out; omega
      obtain ⟨Ao, co, e⟩ := HO.out.form
      rw [hKK] at e
      subst e
      have HKK := Lib.hid hKK
      have hal : Below wr.heap.size wr (wr.alloc (.cells #[.int .u8 bw, .int .u8 bh, .int .u8 bx, .int .u8 by_, .bool bf] 29)) := (Below.refl _ _).alloc (Nat.le_refl _) _
      have HSa := Lib.hid (HS.out.below SK hal)
      have HOa := Lib.hid (HO.out.below hal)
      have HBa := Lib.hid (below2 HB.out hal)
      have HBO := Lib.hid (Blk.new wr 29 [.int .u8 bw, .int .u8 bh, .int .u8 bx, .int .u8 by_, .bool bf] rfl)
      have hfit := HSa.out.fit SK (wm' : Int) (hm' : Int) (by omega) (by omega)
      clear hal HS HO HB hbq hwm hhm hKK
      cases hf : fitL l S1 (wm' : Int) (hm' : Int) with
      | none =>
        have hV : fitV l S1 (wm' : Int) (hm' : Int) = ((0, 0, 0, 0), false) := by unfold fitV; rw [hf]
        rw [hV] at hfit
        simp only [rcV] at hfit
        have HF := Lib.hid hfit
        clear hV hfit hf
        go_wp2_with fail
        refine HF.out.mono ?_
        rintro e w4 ⟨rfl, hb⟩
        have hal : Below w4.heap.size w4 (w4.alloc (.cells #[.int .i64 0, .int .i64 0, .int .i64 0, .int .i64 0] 31)) := (Below.refl _ _).alloc (Nat.le_refl _) _
        have HS4 := Lib.hid ((HSa.out.below SK hb).below SK hal)
        have HO4 := Lib.hid ((HOa.out.below hb).below hal)
        have HB4 := Lib.hid (below2 (below2 HBa.out hb) hal)
        clear hb hal HF HSa HBa HOa HBO x0 x1 x2 x3 x4
        go_wp2_with fail
        exact ⟨⟨r + 1, l, rs, hrn, by go_num, Lib.hid (by have := HRS.out; omega), HLT, HUN, HS4, HO4, HB4⟩, by simp [intOf]; omega⟩
      | some q =>
        obtain ⟨qx, qy⟩ := q
        have hV : fitV l S1 (wm' : Int) (hm' : Int) = (((qx : Int), (qy : Int), (wm' : Int), (hm' : Int)), true) := by unfold fitV; rw [hf]
        rw [hV] at hfit
        simp only [rcV] at hfit
        have HF := Lib.hid hfit
        have hmay := fit_may hf
        obtain ⟨f1, f2, f3, f4, f5⟩ := fitL_some hf
        rw [HLT.out.1] at f3
        have hqx : qx ≤ 64 := by omega
        have hqy : qy ≤ 64 := by omega
        have HIR : Hid (InR ((qx : Int), (qy : Int), (wm' : Int), (hm' : Int))) := Lib.hid ⟨⟨by simp only []; omega, by simp only []; omega⟩, by simp only []; omega, by simp only []; omega⟩
        have HUN2 := Lib.hid (HUN.out.push hmay (by rw [HLT.out.1]; exact HLT.out.2) HIR.out)
        have HLT2 : Hid ((laidL l S1 (qx : Int) (qy : Int) (wm' : Int) (hm' : Int)).length = S0 ∧ ∀ x, x < S0 → hgt (laidL l S1 (qx : Int) (qy : Int) (wm' : Int) (hm' : Int)) x ≤ S1) := Lib.hid ⟨by rw [laidL_length]; exact HLT.out.1, fun x hx => (laidL_grows _ _ _ _ _ _ x (by rw [HLT.out.1]; exact hx) (HLT.out.2 x hx)).2⟩
        have e1 : decide ((qx : Int) < 0) = false := by simp
        have e2 : decide ((qy : Int) < 0) = false := by simp
        have e3 : decide (a0 < (qx : Int) + (wm' : Int)) = false := by simp; omega
        have e4 : decide (a1 < (qy : Int) + (hm' : Int)) = false := by simp; omega
        have hwb1 : 1 ≤ wm' := by omega
        rw [Int.toNat_natCast] at f4
        have HAP := Lib.hid (fun c (hc : c ∈ rs) h1 h2 => by have := HUN.out.apart (X := qx) (W := wm') hwb1 hc h1 h2; rw [← f4] at this; exact this)
        clear hV hfit hf f3 f4 f5
        go_wp2_with fail
        refine HF.out.mono ?_
        rintro e w4 ⟨rfl, hb⟩
        have hal : Below w4.heap.size w4 (w4.alloc (.cells #[.int .i64 qx, .int .i64 qy, .int .i64 wm', .int .i64 hm'] 31)) := (Below.refl _ _).alloc (Nat.le_refl _) _
        have HS4 := Lib.hid (((HSa.out.below SK hb).more SK (E' := fun q => (Value.slice Ao KK co).ownBlock = some q ∨ q = w4.heap.size) (fun q hq => by rcases hq with hq | hq; exact .inl hq; exact .inr (Nat.le_of_eq hq.symm))).below SK hal)
        have HO4 := Lib.hid ((HOa.out.below hb).below hal)
        have HB4 := Lib.hid (below2 (below2 HBa.out hb) hal)
        have HPU := HS4.out.put SK HB4.out.size (fun q hq => by rcases hq with hq | hq; exact (HO4.out.lt q hq).2; rw [hq]; simp) ((qx : Int), (qy : Int), (wm' : Int), (hm' : Int)) HIR.out
        simp only [] at HPU
        rw [hmay] at HPU
        replace HPU := Lib.hid HPU
        have HQ4 := Lib.hid (Blk.new w4 31 [.int .i64 qx, .int .i64 qy, .int .i64 wm', .int .i64 hm'] rfl)
        clear hb hal HF HSa HBa HOa HBO x0 x1 x2 x3 x4 hmay HS4 HLT
        have HUO := Lib.hid (HUN.out)
        clear HUN
        go_wp2_with fail
        refine HPU.out.mono ?_
        rintro e w5 ⟨rfl, hS, hE, hb⟩
        have HO5 := Lib.hid (HO4.out.heap (fun q hq => hE q (.inl hq)))
        have HQ5 := Lib.hid (HQ4.out.heap (hE _ (.inr rfl)))
        have HS5 := Lib.hid (hS.more SK (E' := fun q => (Value.slice Ao KK co).ownBlock = some q) (fun q hq => .inl (.inl hq)))
        have HB5 := Lib.hid (HB4.out.trans hb)
        clear hS hE hb HPU HO4 HQ4 HB4
        generalize w4.heap.size = F at *
        generalize laidL l S1 (qx : Int) (qy : Int) (wm' : Int) (hm' : Int) = l2 at *
        go_wp2_with fail
        obtain ⟨xa, hxa⟩ : ∃ q, wr.heap.size = q := ⟨_, rfl⟩
        rw [hxa]
        clear hxa
        go_loopw [85] (fun i wr => ∃ j : Nat, j ≤ KK ∧ i = .int .i64 j ∧ Hid (Below w5.heap.size w5 wr)) (fun i _ => KK - (intOf i).toNat)
        case atStart => exact ⟨0, Nat.zero_le _, rfl, Lib.hid (Below.refl _ _)⟩
        case round =>
          obtain ⟨j, hj, rfl, HW⟩ := hrel
          by_cases hjn : j < KK
          · have hjb : decide ((j : Int) < KK) = true := by simp; omega
            obtain ⟨⟨c0, c1, c2, c3⟩, hcq⟩ : ∃ b, rs[j]? = some b := ⟨_, List.getElem?_eq_getElem (by rw [HKK.out]; exact hjn)⟩
            obtain ⟨ac, rfl, acl, y0, y1, y2, y3⟩ := (HO5.out.read.keep HW.out).at j _ hcq
            have hap := HAP.out _ (List.mem_of_getElem? hcq)
            have hbn := (HUO.out _ (List.mem_of_getElem? hcq)).1
            unfold InR at hbn
            simp only [] at y0 y1 y2 y3 hap hbn
            have HQw := HQ5.out.keep HW.out
            have q0 := HQw.cell 0 rfl
            have q1 := HQw.cell 1 rfl
            have q2 := HQw.cell 2 rfl
            have q3 := HQw.cell 3 rfl
            have ql := HQw.lt
            have HWA := Lib.hid (HW.out.alloc HW.out.size (.cells #[.int .i64 c0, .int .i64 c1, .int .i64 c2, .int .i64 c3] 31))
            clear hcq HQw
            go_wp2_with fail
            all_goals first
              | exact ⟨⟨j + 1, hjn, by go_num, HWA⟩, by simp [intOf]; omega⟩
              | (exfalso; omega)
          · obtain rfl : j = KK := by omega
            have HO7 := Lib.hid (HO5.out.below HW.out)
            have HQ7 := Lib.hid (HQ5.out.keep HW.out)
            have HS7 := Lib.hid (HS5.out.below SK HW.out)
            have HB7 := Lib.hid (below2 HB5.out HW.out)
            clear HO5 HQ5 HS5 HB5 HW HAP
            obtain ⟨w7, rfl⟩ : ∃ x, x = wr := ⟨wr, rfl⟩
            have q0 := HQ7.out.cell 0 rfl
            have q1 := HQ7.out.cell 1 rfl
            have q2 := HQ7.out.cell 2 rfl
            have q3 := HQ7.out.cell 3 rfl
            have ql := HQ7.out.lt
            have HOwn := Lib.hid (HO7.out.own HKK.out)
            have hsz := HB7.out.size
            have HNB := Lib.hid (heap_alloc_new w7 (.cells #[.int .i64 qx, .int .i64 qy, .int .i64 wm', .int .i64 hm'] 31))
            go_wp2_with (at_builtin; refine wpList_append_lies _ rfl _ _ _ (by rfl) w.heap.size 31 i0 _ 4 32 Try.underlying39 hi0 hz0 hz1 hz2 (by rfl) (by omega) _ j _ (by rfl) (HOwn.out.alloc _) ⟨w7.heap.size, 0, none⟩ 1 1 [.int .i64 qx, .int .i64 qy, .int .i64 wm', .int .i64 hm'] (by rfl) (by rfl) (World.news_of_block HNB.out) (by simp [Value.oneCell']) (by omega) (by simp [maxLen]; omega) (by omega) (by simp; omega) (w7.heap.size + 1) (by simp) ?_; intro g cp w6 hown hgrow hat hlt)
            exact ⟨⟨r + 1, l2, rs ++ [((qx : Int), (qy : Int), (wm' : Int), (hm' : Int))], hrn, by go_num, Lib.hid (by rw [List.length_append]; have := HRS.out; simp; omega), HLT2, HUN2, Lib.hid (HS7.out.push SK hgrow (by simpa using hat)), Lib.hid (RRow.push (r := ((qx : Int), (qy : Int), (wm' : Int), (hm' : Int))) HKK.out hown), Lib.hid ((HB7.out.alloc hsz _).grown hgrow (by simp; omega) (fun q hq => (HO7.out.lt q hq).1))⟩, by simp [intOf]; omega⟩
    · obtain rfl : r = M := by omega
      go_wp2_with fail
      go_ret
      exact ⟨rfl, HB.out⟩
end Go.Proofs.Ytklajpadnbeplaa
