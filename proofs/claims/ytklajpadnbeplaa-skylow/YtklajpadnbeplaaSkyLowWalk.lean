/-
  The walk of punchcutlaw14.SkyLow, over what the program is to do (no claim is made here).
-/
import Derived.Test.YtklajpadnbeplaaSky5
namespace Go.Proofs.Ytklajpadnbeplaa
open Go.RowKit

/-- What fits, laid: heights stay within the page. -/
theorem laidL_top {l : List Nat} {H : Nat} {X Y W G : Int} (h : ∀ x, x < l.length → hgt l x ≤ H) : ∀ x, x < (laidL l H X Y W G).length → hgt (laidL l H X Y W G) x ≤ H := fun x hx => by
  rw [laidL_length] at hx
  exact (laidL_grows l H X Y W G x hx (h x hx)).2

set_option maxRecDepth 100000 in
set_option maxHeartbeats 3200000 in
theorem skyLow_walk {R : World → (Nat → Prop) → Value → List Nat → Nat → Prop} (SK : SkyOK R) (a0 a1 : Int) (A : Option Addr) (n cap : Nat) (bs : List Bx) (m : Int) (w : World) (h0 : -128 ≤ a0 ∧ a0 ≤ 127) (h1 : -128 ≤ a1 ∧ a1 ≤ 127) (hbx : BxRd w (.slice A n cap) bs) (hm : 0 ≤ m ∧ m ≤ 255) :
    Calls Try.prog 8 #[.int .i8 a0, .int .i8 a1, .slice A n cap, .int .u8 m] w fun e w' => e = .returned (.bool true) ∧ Below w.heap.size w w' := by
  have HAW := Lib.hid (fun w => awake14 SK w)
  have HOF := Lib.hid (fun w => SK.of a0 a1 w (by omega) (by omega))
  have hs0 : ((side a0 : Nat) : Int) = max 0 (min a0 64) := by unfold side; omega
  have hs1 : ((side a1 : Nat) : Int) = max 0 (min a1 64) := by unfold side; omega
  have m1 := fun w => run_min2i (P := Try.prog) #[3, 3] 3 a0 64 w
  have m3 := fun w => run_max2i (P := Try.prog) #[3, 3] 3 0 (min a0 64) w
  have m5 := fun w => run_min2i (P := Try.prog) #[3, 3] 3 a1 64 w
  have m6 := fun w => run_max2i (P := Try.prog) #[3, 3] 3 0 (min a1 64) w
  rw [← hs0] at m3
  rw [← hs1] at m6
  have hS0 := side_le a0
  have hS1 := side_le a1
  generalize side a0 = S0 at *
  generalize side a1 = S1 at *
  have hn : n = bs.length ∧ n ≤ cap := by obtain ⟨_, _, e, hc, _⟩ := id hbx; simp only [Value.slice.injEq] at e; obtain ⟨-, rfl, rfl⟩ := e; exact ⟨rfl, hc⟩
  have HNL := Lib.hid hn.1
  have hnc := hn.2
  have HBX := Lib.hid hbx
  obtain ⟨M, hM⟩ : ∃ M : Nat, min n 40 = M := ⟨_, rfl⟩
  have m4 := fun w => run_min2i (P := Try.prog) #[3, 3] 3 n 40 w
  rw [show min (n : Int) 40 = (M : Int) by omega] at m4
  have hMn : M ≤ n := by omega
  have hM40 : M ≤ 40 := by omega
  obtain ⟨i0, hi0, hz0, hz1, hz2⟩ := infos ninfo
  clear hs0 hs1 hn hbx hM
  go_enter Try.func8, Try.ntmps8
  go_wp2_with fail
  refine (HAW.out _).mono ?_
  rintro e w1 ⟨rfl, hb⟩
  have HB1 := Lib.hid hb
  clear hb
  go_wp2_with fail
  refine (HOF.out _).mono ?_
  rintro e w2 ⟨ks, v, rfl, hR, hks, hb⟩
  obtain ⟨a, rfl⟩ := SK.ptr hR
  have HB2 := Lib.hid (below2 HB1.out hb)
  have HS2 : Hid (SkyS R w.heap.size w2 (.pointer (some a)) (List.replicate S0 0) S1 (fun _ => False)) := Lib.hid ⟨ks, hR, fun q hq => ⟨Nat.le_trans HB1.out.size (hks q hq), id⟩⟩
  clear hb hR hks HB1 HOF HAW
  go_wp2_with fail
  go_loopw [36] (fun i wr => ∃ (r : Nat) (l : List Nat), r ≤ M ∧ i = .int .i64 r ∧ Hid (l.length = S0 ∧ ∀ x, x < l.length → hgt l x ≤ S1) ∧ Hid (SkyS R w.heap.size wr (.pointer (some a)) l S1 (fun _ => False)) ∧ Hid (Below w.heap.size w wr)) (fun i _ => M - (intOf i).toNat)
  case atStart => exact ⟨0, List.replicate S0 0, Nat.zero_le _, rfl, Lib.hid ⟨by simp, fun x _ => by rw [hgt_zero]; omega⟩, HS2, HB2⟩
  case round =>
    clear HS2 HB2
    obtain ⟨r, l, hr, rfl, HLL, HS, HB⟩ := hrel
    by_cases hrn : r < M
    · have hrb : decide ((r : Int) < M) = true := by simp; omega
      obtain ⟨⟨bw, bh, bx, by_, bf⟩, hbq⟩ : ∃ b, bs[r]? = some b := ⟨_, List.getElem?_eq_getElem (by have := HNL.out; omega)⟩
      obtain ⟨⟨hw, hh, hx, hy⟩, ab, rfl, _, x0, x1, x2, x3, x4⟩ := (HBX.out.keep HB.out).at r _ hbq
      simp only [] at x0 x1 x2 x3 x4 hw hh hx hy
      obtain ⟨wm', hwm⟩ : ∃ q, bw % 20 = q := ⟨_, rfl⟩
      obtain ⟨hm', hhm⟩ : ∃ q, bh % 20 = q := ⟨_, rfl⟩
      have y3 : (bw : Int) % 20 = (wm' : Int) := by omega
      have y4 : (bh : Int) % 20 = (hm' : Int) := by omega
      have hwb : wm' < 20 := by omega
      have hhb : hm' < 20 := by omega
      have hal : Below wr.heap.size wr (wr.alloc (.cells #[.int .u8 bw, .int .u8 bh, .int .u8 bx, .int .u8 by_, .bool bf] 29)) := (Below.refl _ _).alloc (Nat.le_refl _) _
      have HSa := Lib.hid (HS.out.below SK hal)
      have HBa := Lib.hid (below2 HB.out hal)
      have HBO := Lib.hid (Blk.new wr 29 [.int .u8 bw, .int .u8 bh, .int .u8 bx, .int .u8 by_, .bool bf] rfl)
      have hfit := HSa.out.fit SK (wm' : Int) (hm' : Int) (by omega) (by omega)
      clear hal HS HB hbq hwm hhm
      cases hf : fitL l S1 (wm' : Int) (hm' : Int) with
      | none =>
        have hV : fitV l S1 (wm' : Int) (hm' : Int) = ((0, 0, 0, 0), false) := by unfold fitV; rw [hf]
        rw [hV] at hfit
        simp only [rcV] at hfit
        have HF := Lib.hid hfit
        clear hV hfit hf
        go_wp2_with fail
        refine HF.out.mono ?_
        rintro e w4 ⟨rfl, hb⟩
        have hal : Below w4.heap.size w4 (w4.alloc (.cells #[.int .i64 0, .int .i64 0, .int .i64 0, .int .i64 0] 31)) := (Below.refl _ _).alloc (Nat.le_refl _) _
        have HS4 := Lib.hid ((HSa.out.below SK hb).below SK hal)
        have HB4 := Lib.hid (below2 (below2 HBa.out hb) hal)
        clear hb hal HF HSa HBa HBO x0 x1 x2 x3 x4
        go_wp2_with fail
        exact ⟨⟨r + 1, l, hrn, by go_num, HLL, HS4, HB4⟩, by simp [intOf]; omega⟩
      | some q =>
        obtain ⟨qx, qy⟩ := q
        have hV : fitV l S1 (wm' : Int) (hm' : Int) = (((qx : Int), (qy : Int), (wm' : Int), (hm' : Int)), true) := by unfold fitV; rw [hf]
        rw [hV] at hfit
        simp only [rcV] at hfit
        have HF := Lib.hid hfit
        have hmay := fit_may hf
        obtain ⟨f1, f2, f3, f4, f5⟩ := fitL_some hf
        have hqx : qx ≤ 64 := by have := HLL.out.1; omega
        have hqy : qy ≤ 64 := by omega
        have HLT := Lib.hid (laidL_top (X := (qx : Int)) (Y := (qy : Int)) (W := (wm' : Int)) (G := (hm' : Int)) HLL.out.2)
        have HLN := Lib.hid (laidL_length l S1 (qx : Int) (qy : Int) (wm' : Int) (hm' : Int))
        clear hV hfit hf f3 f4 f5
        go_wp2_with fail
        refine HF.out.mono ?_
        rintro e w4 ⟨rfl, hb⟩
        have hal : Below w4.heap.size w4 (w4.alloc (.cells #[.int .i64 qx, .int .i64 qy, .int .i64 wm', .int .i64 hm'] 31)) := (Below.refl _ _).alloc (Nat.le_refl _) _
        have HS4 := Lib.hid ((HSa.out.below SK hb).below SK hal)
        have HB4 := Lib.hid (below2 (below2 HBa.out hb) hal)
        have HPU := HS4.out.put SK HB4.out.size (fun q hq => hq.elim) ((qx : Int), (qy : Int), (wm' : Int), (hm' : Int)) ⟨⟨by simp only []; omega, by simp only []; omega⟩, by simp only []; omega, by simp only []; omega⟩
        simp only [] at HPU
        rw [hmay] at HPU
        replace HPU := Lib.hid HPU
        generalize laidL l S1 (qx : Int) (qy : Int) (wm' : Int) (hm' : Int) = l2 at *
        clear hb hal HF HSa HBa HBO x0 x1 x2 x3 x4 hmay HS4
        go_wp2_with fail
        refine HPU.out.mono ?_
        rintro e w5 ⟨rfl, hS, -, hb⟩
        have HS5 := Lib.hid hS
        have HB5 := Lib.hid (HB4.out.trans hb)
        clear hS hb HPU HB4
        go_wp2_with fail
        exact ⟨⟨r + 1, l2, hrn, by go_num, Lib.hid ⟨HLN.out.trans HLL.out.1, HLT.out⟩, HS5, HB5⟩, by simp [intOf]; omega⟩
    · obtain rfl : r = M := by omega
      obtain ⟨w6, rfl⟩ : ∃ x, x = wr := ⟨wr, rfl⟩
      obtain ⟨wm, hrm, hown, hg⟩ := run_make_full (P := Try.prog) w6 w6.heap.size 27 3 i0 _ 1 Try.underlying27 hi0 hz0 hz1 .i64 .i64 S0 (by rw [hz2]; omega) (by unfold maxLen; omega) (Nat.le_refl _)
      have Bm : Below w6.heap.size w6 wm := (Below.refl _ w6).grown hg (Nat.le_refl _) (fun q hq => by cases hq)
      have HM0 : Hid (HRw wm w6.heap.size S0 (List.replicate S0 0)) := Lib.hid ⟨by simp, by
        rw [show (Value.int IntKind.i64 0).cells = #[.int .i64 0] from rfl, Nat.mul_one, toList_madeCells_one] at hown
        rw [show nvals (List.replicate S0 0) = List.replicate S0 (.int .i64 0) by unfold nvals; rw [List.map_replicate]; rfl]
        exact hown⟩
      have HS3 : Hid (SkyS R w.heap.size wm (.pointer (some a)) l S1 (fun q => q = w6.heap.size)) := Lib.hid ((HS.out.more SK (fun q hq => .inr (Nat.le_of_eq hq.symm))).below SK Bm)
      have hg2 : w.heap.size ≤ w6.heap.size := HB.out.size
      have HB3 := Lib.hid (below2 HB.out Bm)
      clear hown hg Bm HS HB
      go_wp2_with fail
      clear hrm
      generalize w6.heap.size = g at *
      go_loopw [68] (fun i wr => ∃ (x : Nat) (was : List Nat), x ≤ S0 ∧ i = .int .i64 x ∧ Hid (∀ j, j < S0 → hgt was j = if j < x then hgt l j else 0) ∧ Hid (SkyS R w.heap.size wr (.pointer (some a)) l S1 (fun q => q = g)) ∧ Hid (HRw wr g S0 was) ∧ Hid (Below w.heap.size w wr)) (fun i _ => S0 - (intOf i).toNat)
      case atStart => exact ⟨0, List.replicate S0 0, Nat.zero_le _, rfl, Lib.hid (fun j _ => by rw [hgt_zero, if_neg (by omega)]), HS3, HM0, HB3⟩
      case round =>
        clear HS3 HM0 HB3
        obtain ⟨x, was, hx, rfl, HWA, HS, HM, HB⟩ := hrel
        by_cases hxn : x < S0
        · have hxb : decide ((x : Int) < S0) = true := by simp; omega
          have HHI := HS.out.high SK (x : Int) (by omega)
          rw [highL_in (at_hgt (by rw [HLL.out.1]; exact hxn))] at HHI
          replace HHI := Lib.hid HHI
          have HNX := Lib.hid (fun j (hj : j < S0) => show hgt (was.set x (hgt l x)) j = if j < x + 1 then hgt l j else 0 from by
            rw [hgt_set _ _ _ _ (by rw [HM.out.1]; exact hxn), HWA.out j hj]
            by_cases e : j = x
            · subst e; rw [if_pos rfl, if_pos (by omega)]
            · rw [if_neg e]
              by_cases e2 : j < x
              · rw [if_pos e2, if_pos (by omega)]
              · rw [if_neg e2, if_neg (by omega)])
          generalize hgt l x = y2 at *
          go_wp2_with fail
          refine HHI.out.mono ?_
          rintro e w7 ⟨rfl, hb⟩
          have HS6 := Lib.hid (HS.out.below SK hb)
          have HM6 := Lib.hid (HM.out.keep hb)
          have HB6 := Lib.hid (below2 HB.out hb)
          clear hb HS HM HB HHI
          obtain ⟨c0, c1⟩ := HM6.out.cell x hxn
          have cl := HM6.out.lt
          have HS7 := Lib.hid (HS6.out.other SK ⟨g, x, none⟩ rfl (.int .i64 (y2 : Nat)))
          have HM7 := Lib.hid (HM6.out.store x y2)
          have HB7 := Lib.hid (HB6.out.setCell (p := ⟨g, x, none⟩) hg2 (.int .i64 (y2 : Nat)))
          clear HS6 HM6 HB6
          go_wp2_with fail
          exact ⟨⟨x + 1, was.set x y2, hxn, by go_num, HNX, HS7, HM7, HB7⟩, by simp [intOf]; omega⟩
        · obtain rfl : x = S0 := by omega
          obtain rfl : was = l := list_of_hgt (by rw [HM.out.1, HLL.out.1]) (fun j hj => by
            rw [HM.out.1] at hj
            rw [HWA.out j hj, if_pos hj])
          obtain ⟨mm, hmm⟩ : ∃ q : Nat, m % 12 = q := ⟨(m % 12).toNat, by omega⟩
          have hmb : mm < 12 := by omega
          obtain ⟨nn, hnn⟩ : ∃ nn, 1 + mm = nn := ⟨_, rfl⟩
          have hni : (1 : Int) + (mm : Int) = (nn : Int) := by omega
          have hnb : 1 ≤ nn ∧ nn ≤ 12 := by omega
          obtain ⟨R0, R1, R2, R3, ok, hV, hP⟩ : ∃ R0 R1 R2 R3 ok, fitV was S1 (nn : Int) 1 = ((R0, R1, R2, R3), ok) ∧ ∀ z : Nat, z + nn ≤ was.length → overL was z nn < S1 → ok = true ∧ R1 ≤ (overL was z nn : Nat) := by
            have hlow := fun z h1 h2 => fitL_low (l := was) (H := S1) (w := (nn : Int)) (h := 1) (by omega) (by omega) z h1 h2
            rw [Int.toNat_natCast] at hlow
            cases hf : fitL was S1 (nn : Int) 1 with
            | none =>
              refine ⟨0, 0, 0, 0, false, by unfold fitV; rw [hf], fun z h1 h2 => ?_⟩
              obtain ⟨q, e, _⟩ := hlow z h1 (by simp; omega)
              rw [hf] at e; cases e
            | some q =>
              refine ⟨_, _, _, _, true, by unfold fitV; rw [hf], fun z h1 h2 => ⟨rfl, ?_⟩⟩
              obtain ⟨q', e, hq⟩ := hlow z h1 (by simp; omega)
              rw [hf] at e
              obtain rfl := Option.some.inj e
              omega
          have hfit := HS.out.fit SK (nn : Int) 1 (by omega) (by omega)
          rw [hV] at hfit
          simp only [rcV] at hfit
          have HF := Lib.hid hfit
          have HP := Lib.hid hP
          clear HWA hfit hV hP hnn
          go_wp2_with fail
          refine HF.out.mono ?_
          rintro e w7 ⟨rfl, hb⟩
          have hal : Below w7.heap.size w7 (w7.alloc (.cells #[.int .i64 R0, .int .i64 R1, .int .i64 R2, .int .i64 R3] 31)) := (Below.refl _ _).alloc (Nat.le_refl _) _
          have HM8 := Lib.hid ((HM.out.keep hb).keep hal)
          have HB8 := Lib.hid (below2 (below2 HB.out hb) hal)
          have HQ8 := Lib.hid (Blk.new w7 31 [.int .i64 R0, .int .i64 R1, .int .i64 R2, .int .i64 R3] rfl)
          clear hb hal HM HB HS HF
          go_wp2_with fail
          generalize w7.alloc (.cells #[.int .i64 R0, .int .i64 R1, .int .i64 R2, .int .i64 R3] 31) = w8 at *
          generalize w7.heap.size = F at *
          go_loopw [19] (fun i wr => ∃ z : Nat, z ≤ 64 ∧ i = .int .i64 z ∧ Hid (Below w8.heap.size w8 wr)) (fun i _ => 65 - (intOf i).toNat)
          case atStart => exact ⟨0, Nat.zero_le _, rfl, Lib.hid (Below.refl _ _)⟩
          case round =>
            obtain ⟨z, hz, rfl, HW⟩ := hrel
            obtain ⟨Z, hZ⟩ : ∃ Z, z + nn = Z := ⟨_, rfl⟩
            have hZi : (z : Int) + (nn : Int) = (Z : Int) := by omega
            by_cases hzn : Z ≤ x
            · have hzb : decide ((Z : Int) ≤ x) = true := by simp; omega
              have hzb2 : decide (Z ≤ x) = true := by simp; omega
              have HO := Lib.hid (fun w h => lover_any (.slice (some ⟨g, 0, none⟩) x x) was z nn w h (by omega) (by omega) (fun y hy => by
                obtain ⟨j, hj⟩ := List.getElem?_of_mem hy
                have := HLL.out.2 j (List.getElem?_eq_some_iff.1 hj).1
                rw [hgt_at hj] at this
                omega))
              have hp := HP.out z (by rw [HLL.out.1]; omega)
              have HMr := Lib.hid (HM8.out.keep HW.out)
              have HQr := Lib.hid (HQ8.out.keep HW.out)
              clear hZ
              generalize overL was z nn = y at *
              go_wp2_with fail
              refine (HO.out _ HMr.out.read).mono ?_
              rintro e w9 ⟨rfl, hb⟩
              have HW9 := Lib.hid (below2 HW.out hb)
              have HQ9 := Lib.hid (HQr.out.keep hb)
              have x1 := HQ9.out.cell 1 rfl
              have xl := HQ9.out.lt
              clear hb HMr HQr HW HO
              by_cases hy : y < S1
              · obtain ⟨ho, hp2⟩ := hp hy
                subst ho
                have c1 : decide ((y : Int) < (S1 : Int)) = true := by simp; omega
                have c2 : decide (y < S1) = true := by simp; omega
                have c3 : decide ((y : Int) < R1) = false := by simp; omega
                go_wp2_with fail
                exact ⟨⟨z + 1, by omega, by go_num, HW9⟩, by simp [intOf]; omega⟩
              · have c1 : decide ((y : Int) < (S1 : Int)) = false := by simp; omega
                have c2 : decide (y < S1) = false := by simp; omega
                go_wp2_with fail
                exact ⟨⟨z + 1, by omega, by go_num, HW9⟩, by simp [intOf]; omega⟩
            · have hzb : decide ((Z : Int) ≤ x) = false := by simp; omega
              have hzb2 : decide (Z ≤ x) = false := by simp; omega
              go_wp2_with fail
              go_ret
              exact ⟨rfl, below2 HB8.out HW.out⟩
end Go.Proofs.Ytklajpadnbeplaa
