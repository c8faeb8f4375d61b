/-
  What the program's stepsOf of layer 4 does to any world (no claim is made here).
-/
import Derived.Test.YtgkhpnjfpahlgaaPRow
namespace Go.Proofs.Ytgkhpnjfpahlgaa
open Go.RowKit

set_option maxRecDepth 100000 in
set_option maxHeartbeats 1600000 in
theorem stepsOf_any (v : Value) (o : List (List Vtx)) (w : World) (ho : ORd w v o) (hck : checkS o = 0) :
    Calls Try.prog 22 #[.agg #[v]] w fun e w' => ∃ u, e = .returned u ∧ SRow w' w.heap.size u (stepsL 0 0 o.flatten) ∧ Below w.heap.size w w' := by
  obtain ⟨A, cap, rfl, hc, h3⟩ := ho
  have H3 := Lib.hid h3
  have HCK := Lib.hid (checkS_zero hck)
  have hn : o.length ≤ 8 := HCK.out.1
  obtain ⟨n, hnn⟩ : ∃ n : Nat, o.length = n := ⟨_, rfl⟩
  rw [hnn] at hc hn
  have HNN := Lib.hid hnn
  rw [hnn]
  clear h3 hck hnn
  go_enter Try.func22, Try.ntmps22
  go_wp2_with fail
  have TP : Thr ((w.alloc (.cells #[.slice A n cap] 29)).alloc (.cells #[.int .i64 0, .int .i64 0, .bool false] 25)) (w.heap.size + 1) (.int .i64 0) (.int .i64 0) (.bool false) := Thr.new _ _ _ _ (by simp)
  have B2 : Below w.heap.size w ((w.alloc (.cells #[.slice A n cap] 29)).alloc (.cells #[.int .i64 0, .int .i64 0, .bool false] 25)) := ((Below.refl _ w).alloc (Nat.le_refl _) _).alloc (by simp) _
  have S2 : ((w.alloc (.cells #[.slice A n cap] 29)).alloc (.cells #[.int .i64 0, .int .i64 0, .bool false] 25)).heap.size = w.heap.size + 2 := by simp
  generalize (w.alloc (.cells #[.slice A n cap] 29)).alloc (.cells #[.int .i64 0, .int .i64 0, .bool false] 25) = w2 at *
  go_loopw [12, 3] (fun i u wr => ∃ (r : Nat) (px py : Int) (pon : Bool), r ≤ n ∧ i = .int .i64 r ∧ Hid (SRow wr (w.heap.size + 2) u (stepsL 0 0 (o.take r).flatten)) ∧ Hid (lastOf 0 0 (o.take r).flatten = (px, py)) ∧ Hid (Thr wr (w.heap.size + 1) (.int .i64 px) (.int .i64 py) (.bool pon)) ∧ w.heap.size + 2 ≤ wr.heap.size ∧ Hid (Below w.heap.size w wr)) (fun i _ _ => n - (intOf i).toNat)
  case atStart => exact ⟨0, 0, 0, false, Nat.zero_le _, rfl, Lib.hid (World.ownsRow_nil _ _ _ _), Lib.hid rfl, Lib.hid TP, by omega, Lib.hid B2⟩
  case round =>
    obtain ⟨r, px, py, pon, hr, rfl, HU, HP, HT, hsz, HB⟩ := hrel
    clear TP B2 S2
    by_cases hrn : r < n
    · have hrb : decide ((r : Int) < n) = true := by simp; omega
      obtain ⟨a, u0, rfl, hal, hac, hrow⟩ := H3.out r (by have := HNN.out; omega)
      obtain ⟨A1, cap1, rfl, hcl, hd⟩ := hrow
      have hac' := (HB.out.cell (p := a.add r) (by rw [block_add]; exact hal)).trans hac
      clear hac
      obtain ⟨c, hcr⟩ : ∃ c, c = o[r]'(by have := HNN.out; omega) := ⟨_, rfl⟩
      rw [← hcr] at hac' hcl hd
      have HCR : Hid (o[r]? = some c) := Lib.hid (by rw [hcr]; exact List.getElem?_eq_getElem _)
      have hL1 : c.length ≤ 64 := by
        have h1 := le_flatten o c (by rw [hcr]; exact List.getElem_mem _)
        have h2 := HCK.out.2.1
        omega
      obtain ⟨L, hL⟩ : ∃ L : Nat, c.length = L := ⟨_, rfl⟩
      rw [hL] at hac' hcl hL1
      have HLn := Lib.hid hL
      have HD := Lib.hid hd
      clear hcr hd hL
      have HU0 : Hid (SRow wr (w.heap.size + 2) u3 (stepsL 0 0 (ahead o r c 0))) := Lib.hid (by unfold ahead; rw [List.take_zero, List.append_nil]; exact HU.out)
      have HP0 : Hid (lastOf 0 0 (ahead o r c 0) = (px, py)) := Lib.hid (by unfold ahead; rw [List.take_zero, List.append_nil]; exact HP.out)
      clear HU HP
      go_wp2_with fail
      go_loopw [18, 3] (fun i u wr => ∃ (j : Nat) (px py : Int) (pon : Bool), j ≤ L ∧ i = .int .i64 j ∧ Hid (SRow wr (w.heap.size + 2) u (stepsL 0 0 (ahead o r c j))) ∧ Hid (lastOf 0 0 (ahead o r c j) = (px, py)) ∧ Hid (Thr wr (w.heap.size + 1) (.int .i64 px) (.int .i64 py) (.bool pon)) ∧ w.heap.size + 2 ≤ wr.heap.size ∧ Hid (Below w.heap.size w wr)) (fun i _ _ => L - (intOf i).toNat)
      case atStart => exact ⟨0, px, py, pon, Nat.zero_le _, rfl, HU0, HP0, HT, hsz, HB⟩
      case round =>
        clear HU0 HP0 HT hsz HB hac'
        obtain ⟨j, qx, qy, qon, hj, rfl, HU, HP, HT, hsz, HB⟩ := hrel
        by_cases hjL : j < L
        · have hjb : decide ((j : Int) < L) = true := by simp; omega
          obtain ⟨a1, rfl, ha1, x0, x1, x2⟩ := HD.out j (by have := HLn.out; omega)
          have kp : ∀ p : Addr, p.block = a1.block → wr.cell? p = w.cell? p := fun p hp => HB.out.cell (by rw [hp]; exact ha1)
          replace x0 := (kp _ (block_add _ _)).trans x0
          replace x1 := (kp _ (block_add _ _)).trans x1
          replace x2 := (kp _ (block_add _ _)).trans x2
          obtain ⟨d, hdd⟩ : ∃ d, d = c[j]'(by have := HLn.out; omega) := ⟨_, rfl⟩
          rw [← hdd] at x0 x1 x2
          have HDJ : Hid (c[j]? = some d) := Lib.hid (by rw [hdd]; exact List.getElem?_eq_getElem _)
          have hdin : inV d := HCK.out.2.2.2 d (ahead_mem o r c (j + 1) HCR.out d (by rw [ahead_next o r c j d HDJ.out]; simp))
          obtain ⟨dx, dy, don⟩ := d
          simp only [] at x0 x1 x2
          rw [add_spell _ _ _ (by omega)] at x1 x2
          have hq := lastOf_in (ahead o r c j) 0 0 (by omega) (by omega) (fun v hv => HCK.out.2.2.2 v (ahead_mem o r c j HCR.out v hv))
          rw [HP.out] at hq
          have HST := Lib.hid (stepTo_any dx dy qx qy don qon _ _ hdin.1 hdin.2 hq.1 hq.2 rfl rfl)
          have HSN := Lib.hid (stepsL_snoc (ahead o r c j) 0 0 ⟨dx, dy, don⟩)
          rw [HP.out] at HSN
          have hlen : (stepsL 0 0 (ahead o r c j)).length ≤ 64 := by
            rw [stepsL_length]
            have h1 := ahead_len o r c j HCR.out
            have h2 := HCK.out.2.1
            omega
          obtain ⟨m, hm⟩ : ∃ m : Nat, (stepsL 0 0 (ahead o r c j)).length = m := ⟨_, rfl⟩
          have HM := Lib.hid hm
          rw [hm] at hlen
          obtain ⟨F, hF⟩ : ∃ F, flagV (dx - qx) (dy - qy) don = F := ⟨_, rfl⟩
          rw [hF] at HST
          obtain ⟨ex, hex⟩ : ∃ ex, dx - qx = ex := ⟨_, rfl⟩
          obtain ⟨ey, hey⟩ : ∃ ey, dy - qy = ey := ⟨_, rfl⟩
          have HSN2 : Hid (stepsL 0 0 (ahead o r c (j + 1)) = stepsL 0 0 (ahead o r c j) ++ [⟨F, ex, ey⟩]) := Lib.hid (by rw [ahead_next o r c j _ HDJ.out, HSN.out]; show _ ++ [St.mk (flagV (dx - qx) (dy - qy) don) (dx - qx) (dy - qy)] = _; rw [hF, hex, hey])
          have HP2 : Hid (lastOf 0 0 (ahead o r c (j + 1)) = (dx, dy)) := Lib.hid (by rw [ahead_next o r c j _ HDJ.out, lastOf_snoc])
          rw [hex, hey] at HST
          clear hdd kp hdin hq HSN hF hex hey HP hm
          obtain ⟨⟨t0, t1, t2⟩, f0, f1, f2⟩ := HT.out
          have tz := HT.out.lt
          have HUm := Lib.hid (HU.out.own HM.out)
          clear HU
          go_wp2_with fail
          refine (HST.out _).mono ?_
          rintro e w3 ⟨rfl, hb3⟩
          have TV : Thr w3 wr.heap.size (.int .i64 dx) (.int .i64 dy) (.bool don) := (Thr.new _ _ _ _ rfl).keep hb3
          have TQ : Thr w3 (w.heap.size + 1) (.int .i64 qx) (.int .i64 qy) (.bool qon) := (HT.out.alloc _).keep hb3
          have hz3 : wr.heap.size + 1 ≤ w3.heap.size := by have := hb3.size; simpa using this
          have HU3 : Hid (w3.ownsRow (w.heap.size + 2) 59 3 u3 m (scells (stepsL 0 0 (ahead o r c j)))) := Lib.hid (own_blocks (HUm.out.alloc _) fun g hg => hb3.block g ((HUm.out.alloc _).lt g hg).2)
          have HB3 : Hid (Below w.heap.size w w3) := Lib.hid ((HB.out.alloc HB.out.size _).trans (hb3.mono (by have := HB.out.size; simp; omega)))
          have hneV : some wr.heap.size ≠ u3.ownBlock := fun e => by have := (HUm.out.lt _ e.symm).2; omega
          have hneP : some (w.heap.size + 1) ≠ u3.ownBlock := fun e => by have := (HUm.out.lt _ e.symm).1; omega
          have HHH := Lib.hid hneV
          have HHP := Lib.hid hneP
          have HTV := Lib.hid (TV.alloc (.cells #[.int .u8 F, .int .i64 ex, .int .i64 ey] 59))
          have HTQ := Lib.hid (TQ.alloc (.cells #[.int .u8 F, .int .i64 ex, .int .i64 ey] 59))
          have hnb : (w3.alloc (.cells #[.int .u8 F, .int .i64 ex, .int .i64 ey] 59)).heap[w3.heap.size]? = some (.cells #[.int .u8 F, .int .i64 ex, .int .i64 ey] 59 (0, 0)) := heap_alloc_new _ _
          have HNB := Lib.hid hnb
          obtain ⟨i0, hi0, hz0, hz1, hz2⟩ := infos sinfo
          clear hnb hneV hneP TV TQ t0 t1 t2 f0 f1 f2 tz x0 x1 x2 HT hb3
          go_wp2_with (at_builtin; refine wpList_append_lies _ rfl _ _ _ (by rfl) (w.heap.size + 2) 59 i0 _ 3 24 Try.underlying55 hi0 hz0 hz1 hz2 (by rfl) (by omega) _ m _ (by rfl) (HU3.out.alloc _) ⟨w3.heap.size, 0, none⟩ 1 1 [.int .u8 F, .int .i64 ex, .int .i64 ey] (by rfl) (by rfl) (World.news_of_block HNB.out) (by simp [Value.oneCell']) (by omega) (by simp [maxLen]; omega) (by omega) (by simp; omega) (w3.heap.size + 1) (by simp) ?_; intro g cp w4 hown hgrow hat hlt; have TVn := HTV.out.grown hgrow HHH.out; have TQn := HTQ.out.grown hgrow HHP.out; have HTQn := Lib.hid TQn; have zv := TVn.lt; have zq := TQn.lt; obtain ⟨⟨v0, v1, v2⟩, g0, g1, g2⟩ := TVn; obtain ⟨⟨p0, p1, p2⟩, f0, f1, f2⟩ := TQn)
          have SN : SRow (((w4.setCell ⟨w.heap.size + 1, 0, none⟩ (.int .i64 dx)).setCell ⟨w.heap.size + 1, 1, none⟩ (.int .i64 dy)).setCell ⟨w.heap.size + 1, 2, none⟩ (.bool don)) (w.heap.size + 2) (.slice (some ⟨g, 0, none⟩) (m + 1) cp) (stepsL 0 0 (ahead o r c (j + 1))) := by
            have h1 : SRow w4 (w.heap.size + 2) (.slice (some ⟨g, 0, none⟩) (m + 1) cp) (stepsL 0 0 (ahead o r c (j + 1))) := by
              unfold SRow
              rw [HSN2.out, scells_push, List.length_append, HM.out]
              exact hown
            refine own_blocks h1 fun k hk => ?_
            have := (World.ownsRow.lt h1 k hk).1
            rw [heap_set _ _ _ _ (by simp only []; omega), heap_set _ _ _ _ (by simp only []; omega), heap_set _ _ _ _ (by simp only []; omega)]
          have B4 : Below w.heap.size w w4 := (HB3.out.alloc HB3.out.size _).grown hgrow (by have := HB3.out.size; simp; omega) (fun q hq => by have := (HUm.out.lt q hq).1; omega)
          have B5 := ((B4.setCell (p := ⟨w.heap.size + 1, 0, none⟩) (by simp) (.int .i64 dx)).setCell (p := ⟨w.heap.size + 1, 1, none⟩) (by simp) (.int .i64 dy)).setCell (p := ⟨w.heap.size + 1, 2, none⟩) (by simp) (.bool don)
          have z4 : w3.heap.size + 1 ≤ w4.heap.size := by have := hgrow.size; simpa using this
          exact ⟨⟨j + 1, dx, dy, don, by omega, by go_num, Lib.hid SN, HP2, Lib.hid (HTQn.out.store _ _ _), by simp; omega, Lib.hid B5⟩, by simp [intOf]; omega⟩
        · obtain rfl : j = L := by omega
          have HU' : Hid (SRow wr (w.heap.size + 2) u3 (stepsL 0 0 (o.take (r + 1)).flatten)) := Lib.hid (by rw [ahead_all o r c HCR.out, HLn.out]; exact HU.out)
          have HP' : Hid (lastOf 0 0 (o.take (r + 1)).flatten = (qx, qy)) := Lib.hid (by rw [ahead_all o r c HCR.out, HLn.out]; exact HP.out)
          clear HU HP
          go_wp2_with fail
          exact ⟨⟨r + 1, qx, qy, qon, by omega, by go_num, HU', HP', HT, hsz, HB⟩, by simp [intOf]; omega⟩
    · obtain rfl : r = n := by omega
      have HU' : Hid (SRow wr w.heap.size u3 (stepsL 0 0 o.flatten)) := Lib.hid (by
        have := HU.out
        rw [List.take_of_length_le (by rw [HNN.out]; omega)] at this
        exact World.ownsRow.mono this (by omega))
      clear HU HP
      go_wp2
      go_ret
      exact ⟨_, rfl, HU'.out, HB.out⟩

end Go.Proofs.Ytgkhpnjfpahlgaa
