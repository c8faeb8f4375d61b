/-
  What the law's encode of layer 4 does to any world (no claim is made here).
-/
import Derived.Test.YtgkhpnjfpahlgaaPAwk
import Derived.Laws.AppendOwnNone
namespace Go.Proofs.Ytgkhpnjfpahlgaa
open Go.RowKit

theorem B3.start (w : World) (n : Nat) (base : Nat) (hb : base ≤ w.heap.size) : B3 (w.alloc (.cells #[.int .u8 n] 5)) base (.slice (some ⟨w.heap.size, 0, none⟩) 1 1) (.slice none 0 0) (.slice none 0 0) [n] [] [] := by
  refine ⟨⟨?_, BRow.nil _ _, BRow.nil _ _⟩, (Apart.nil _).symm, (Apart.nil _).symm, Apart.nil _⟩
  refine ⟨rfl, .inr ⟨w.heap.size, 1, #[.int .u8 n], rfl, hb, heap_alloc_new _ _, Nat.le_refl _, by simp [maxLen], rfl, rfl⟩⟩

theorem rle_step (f : Nat) (l : List Nat) : rle (f :: l) = if runLen f (f :: l) < 3 then f :: rle l else (f + 8) :: (runLen f (f :: l) - 1) :: rle ((f :: l).drop (runLen f (f :: l))) := by
  have e1 : runLen f (f :: l) = runLen f l + 1 := by rw [runLen, if_pos rfl]
  rw [e1, List.drop_succ_cons]
  unfold rle
  rw [List.length_cons, rleN]
  split
  · next h => rw [if_pos (by omega)]
  · next h =>
    rw [if_neg (by omega), rleN_fuel l.length (l.drop (runLen f l)) _ (by rw [List.length_drop]; omega) (Nat.le_refl _)]
    rfl
theorem BRd.grown {w w' : World} {v : Value} {c : List Nat} {row : Option Nat} (h : BRd w v c) (hg : w.grownBy w' row) (hne : v.ownBlock = Option.none ∨ v.ownBlock ≠ row) : BRd w' v c :=
  h.blocks hg.size fun g hv hlt => hg.block g hlt (fun e => by
    rcases hne with h | h
    · rw [hv] at h; cases h
    · exact h (hv.trans e))
theorem steps_two : ∀ (vs : List Vtx) (x y : Int), 2 * vs.length ≤ (stepsV x y vs).length
  | [], _, _ => Nat.le_refl _
  | v :: vs, x, y => by
    have a := (stepB_le (v.x - x)).2
    have b := (stepB_le (v.y - y)).2
    have c := steps_two vs v.x v.y
    simp only [stepsV, List.length_append, List.length_cons]
    omega

/-- A run of flags was written. -/
theorem enc_next {w0 wi w4 : World} {base nf cap k : Nat} {a : Addr} {v v' u5 sv' : Value} {hd FS SS cur new l : List Nat} {f : Nat} (HX : App wi w4 base v v' (cur ++ new)) (HAP : Apart v (.slice (some a) nf cap)) (HLT : ∀ q, (Value.slice (some a) nf cap).ownBlock = some q → q < wi.heap.size) (HRD : BRd wi (.slice (some a) nf cap) (f :: l)) (hk0 : 0 < k) (hk : k ≤ nf) (hl : (f :: l).length = nf)
    (hst : rle (f :: l) = new ++ rle ((f :: l).drop k)) (heq : hd ++ rle FS = cur ++ rle (f :: l)) (h8 : ∀ x ∈ f :: l, x < 8) (hsum : cur.length + nf ≤ 73) (hnew : new.length ≤ k) (HST : BRow wi base u5 SS) (HAS : Apart v u5) (HB : Below base w0 wi) (hbase : base ≤ wi.heap.size) (hvb : ∀ q, v.ownBlock = some q → base ≤ q)
    (hsv : sv' = .slice (if cap = k then some a else some (a.add k)) (nf - k) (cap - k)) :
    (∃ (cur rem : List Nat) (A : Option Addr) (nf cap : Nat), sv' = .slice A nf cap ∧ Hid (rem.length = nf) ∧ Hid (BRd w4 (.slice A nf cap) rem) ∧ Hid (hd ++ rle FS = cur ++ rle rem) ∧ Hid (∀ f ∈ rem, f < 8) ∧ cur.length + nf ≤ 73 ∧ Hid (BRow w4 base v' cur) ∧ Hid (Apart v' (.slice A nf cap)) ∧ Hid (∀ q, (Value.slice A nf cap).ownBlock = some q → q < w4.heap.size) ∧ Hid (BRow w4 base u5 SS) ∧ Hid (Apart v' u5) ∧ Hid (Below base w0 w4)) ∧
    lenV sv' < lenV (.slice (some a) nf cap) := by
  subst hsv
  obtain ⟨h1, h2⟩ := HRD.dropO k (by omega)
  have e : (if cap = k then some a else Option.map (fun x => x.add k) (some a)) = if cap = k then some a else some (a.add k) := rfl
  rw [e] at h1 h2
  have hfar := HX.far HAP HLT
  have hfar5 := HX.far HAS (fun q hq => (World.ownsRow.lt HST q hq).2)
  have hne : (Value.slice (if cap = k then some a else some (a.add k)) (nf - k) (cap - k)).ownBlock = none ∨ (Value.slice (if cap = k then some a else some (a.add k)) (nf - k) (cap - k)).ownBlock ≠ v.ownBlock := by
    cases ho : (Value.slice (if cap = k then some a else some (a.add k)) (nf - k) (cap - k)).ownBlock with
    | none => exact .inl rfl
    | some q => exact .inr (fun e2 => HAP q e2.symm (h2 q ho))
  refine ⟨⟨cur ++ new, (f :: l).drop k, _, nf - k, cap - k, rfl, Lib.hid (by rw [List.length_drop]; omega), Lib.hid (h1.grown HX.2.1 hne), Lib.hid (by rw [heq, hst, List.append_assoc]), Lib.hid (fun x hx => h8 x (List.mem_of_mem_drop hx)), by rw [List.length_append]; omega, Lib.hid HX.1, Lib.hid (fun q hq hs => hfar q hq (h2 q hs)), Lib.hid (fun q hq => Nat.lt_of_lt_of_le (HLT q (h2 q hq)) HX.size), Lib.hid (HST.kept HX.2.1 HAS), Lib.hid hfar5, Lib.hid (HB.grown HX.2.1 hbase hvb)⟩, by show nf - k < nf; omega⟩

theorem u8_lo (d : Int) : IntKind.u8.wrap d = ((loB d : Nat) : Int) := by
  rw [IntKind.wrap_u8]
  unfold loB
  omega
theorem u8_hi (d : Int) : IntKind.u8.wrap (d / 256) = ((hiB d : Nat) : Int) := by
  rw [IntKind.wrap_u8]
  unfold hiB
  omega

set_option maxHeartbeats 4000000 in
set_option maxRecDepth 100000 in
theorem encode_any (v : Value) (o : List (List Vtx)) (w : World) (ho : ORd w v o) (hk : checkS o = 0) :
    Calls Try.prog 15 #[.agg #[v]] w fun e w' => e = .returned (.string (strOf (encodeS o))) ∧ Below w.heap.size w w' := by
  obtain ⟨k1, k2, k3, k4⟩ := checkS_zero hk
  have HCZ := Lib.hid hk
  have K3 := Lib.hid k3
  have K4 := Lib.hid k4
  have K2 := Lib.hid k2
  obtain ⟨A, cap, rfl, hc, h3⟩ := ho
  have H3 := Lib.hid h3
  obtain ⟨n, hnn⟩ : ∃ n : Nat, o.length = n := ⟨_, rfl⟩
  have HNN := Lib.hid hnn
  rw [hnn] at hc k1 ⊢
  clear h3 hnn k2 k3 k4 hk
  obtain ⟨i0, hi0, hz0, hz1, hz2⟩ := infos binfo
  go_enter Try.func15, Try.ntmps15
  go_wp2_with fail
  have T0 := B3.start (w.alloc (.cells #[.slice A n cap] 29)) n w.heap.size (by simp)
  have O0 : One ((w.alloc (.cells #[.slice A n cap] 29)).alloc (.cells #[.int .u8 n] 5)) w.heap.size _ := (One.new _ _ rfl).alloc _
  have B2 : Below w.heap.size w ((w.alloc (.cells #[.slice A n cap] 29)).alloc (.cells #[.int .u8 n] 5)) := ((Below.refl _ w).alloc (Nat.le_refl _) _).alloc (by simp) _
  rw [show (w.alloc (.cells #[.slice A n cap] 29)).heap.size = w.heap.size + 1 by simp] at T0
  generalize (w.alloc (.cells #[.slice A n cap] 29)).alloc (.cells #[.int .u8 n] 5) = w2 at *
  go_loopw [24, 3, 4, 5, 6, 7] (fun i a b c x y wr => ∃ (r : Nat) (px py : Int), r ≤ n ∧ i = .int .i64 r ∧ x = .int .i64 px ∧ y = .int .i64 py ∧ (-255 ≤ px ∧ px ≤ 255) ∧ (-255 ≤ py ∧ py ≤ 255) ∧ Hid (lastOf 0 0 (o.take r).flatten = (px, py)) ∧
    Hid (B3 wr w.heap.size a b c (n :: (o.take r).map List.length) (flagsV 0 0 (o.take r).flatten) (stepsV 0 0 (o.take r).flatten)) ∧ Hid (r = 0 → c = .slice none 0 0) ∧ Hid (Below w.heap.size w wr)) (fun i _ _ _ _ _ _ => n - (intOf i).toNat)
  case atStart => exact ⟨0, 0, 0, Nat.zero_le _, rfl, rfl, rfl, by omega, by omega, Lib.hid rfl, Lib.hid T0, Lib.hid (fun _ => rfl), Lib.hid B2⟩
  case round =>
    obtain ⟨r, px, py, hr, rfl, rfl, rfl, hpx, hpy, HP, HT, HNL, HB⟩ := hrel
    clear T0 O0 B2
    by_cases hrn : r < n
    · have hrb : decide ((r : Int) < n) = true := by simp; omega
      obtain ⟨a, u, rfl, hal, hac, hrow⟩ := H3.out r (by have := HNN.out; omega)
      obtain ⟨A1, cap1, rfl, hcl, hd⟩ := hrow
      have hac' := (HB.out.cell (p := a.add r) (by rw [block_add]; exact hal)).trans hac
      obtain ⟨c, hcr⟩ : ∃ c, c = o[r]'(by have := HNN.out; omega) := ⟨_, rfl⟩
      rw [← hcr] at hac' hcl hd
      have HCR : Hid (o[r]? = some c) := Lib.hid (by rw [hcr]; exact List.getElem?_eq_getElem _)
      obtain ⟨L, hL⟩ : ∃ L : Nat, c.length = L := ⟨_, rfl⟩
      have hL1 : c.length ≤ 64 := by have := le_flatten o c (List.mem_of_getElem? HCR.out); have := K2.out; omega
      rw [hL] at hac' hcl hL1
      have HLn := Lib.hid hL
      have HD := Lib.hid hd
      have hlr : (o.take r).length = r := by rw [List.length_take, HNN.out]; omega
      have hla : (n :: (o.take r).map List.length).length = r + 1 := by rw [List.length_cons, List.length_map, hlr]
      have HOwn := Lib.hid (HT.out.1.1.own hla)
      have HSz := Lib.hid HB.out.size
      have HNB := fun w => Lib.hid (heap_alloc_new w (.cells #[.int .u8 (L : Int)] 5))
      clear hcr hd hL hac
      go_wp2_with (at_builtin; refine wpList_append_lies _ rfl _ _ _ (by rfl) w.heap.size 5 i0 _ 1 1 Try.underlying34 hi0 hz0 hz1 hz2 (by rfl) (by omega) _ (r + 1) _ (by rfl) (HOwn.out.alloc _) ⟨wr.heap.size, 0, none⟩ 1 1 [.int .u8 (L : Int)] (by rfl) (by rfl) (World.news_of_block (HNB _).out) (by simp [Value.oneCell']) (by omega) (by simp [maxLen]; omega) (by omega) (by have := HSz.out; simp; omega) (wr.heap.size + 1) (by simp) ?_; intro g cp w3 hown hgrow hat hlt)
      have T3 := (HT.out.alloc _).push hgrow hat (by simp) hla (new := [L]) rfl hown
      have e0 : (n :: (o.take r).map List.length) ++ [L] = n :: (o.take (r + 1)).map List.length := by rw [take_push o r c HCR.out, List.map_append, ← HLn.out]; rfl
      rw [e0] at T3
      have B3' : Below w.heap.size w w3 := (HB.out.alloc HB.out.size _).grown hgrow (by have := HB.out.size; simp; omega) (fun q hq => (HOwn.out.lt q hq).1)
      have HA0 : Hid (lastOf 0 0 (ahead o r c 0) = (px, py)) := Lib.hid (by unfold ahead; rw [List.take_zero, List.append_nil]; exact HP.out)
      have HT3 : Hid (B3 w3 w.heap.size _ _ _ (n :: (o.take (r + 1)).map List.length) (flagsV 0 0 (ahead o r c 0)) (stepsV 0 0 (ahead o r c 0))) := Lib.hid (by unfold ahead; rw [List.take_zero, List.append_nil]; exact T3)
      have HB3 := Lib.hid B3'
      obtain ⟨N2, hN2⟩ : ∃ N2, N2 = n :: (o.take (r + 1)).map List.length := ⟨_, rfl⟩
      rw [← hN2] at HT3
      have HN2 := Lib.hid hN2
      clear T3 B3' e0 hown hgrow hat hlt HNB HSz HOwn hla hlr HT HP HB hac' hN2
      generalize hgo : Value.slice (some ⟨g, 0, none⟩) (r + 1 + 1) cp = vo at *
      clear hgo
      go_loopw [36, 4, 5, 6, 7] (fun i b c' x y wr => ∃ (j : Nat) (qx qy : Int), j ≤ L ∧ i = .int .i64 j ∧ x = .int .i64 qx ∧ y = .int .i64 qy ∧ (-255 ≤ qx ∧ qx ≤ 255) ∧ (-255 ≤ qy ∧ qy ≤ 255) ∧ Hid (lastOf 0 0 (ahead o r c j) = (qx, qy)) ∧
        Hid (B3 wr w.heap.size vo b c' N2 (flagsV 0 0 (ahead o r c j)) (stepsV 0 0 (ahead o r c j))) ∧ Hid (Below w.heap.size w wr)) (fun i _ _ _ _ _ => L - (intOf i).toNat)
      case atStart => exact ⟨0, px, py, Nat.zero_le _, rfl, rfl, rfl, hpx, hpy, HA0, HT3, HB3⟩
      case round =>
        obtain ⟨j, qx, qy, hj, rfl, rfl, rfl, hqx, hqy, HP, HT, HB⟩ := hrel
        clear HA0 HT3 HB3
        by_cases hjL : j < L
        · have hjb : decide ((j : Int) < L) = true := by simp; omega
          obtain ⟨a1, rfl, ha1, x0, x1, x2⟩ := HD.out j (by have := HLn.out; omega)
          have kp : ∀ p : Addr, p.block = a1.block → wr.cell? p = w.cell? p := fun p hp => HB.out.cell (by rw [hp]; exact ha1)
          replace x0 := (kp _ (block_add _ _)).trans x0
          replace x1 := (kp _ (block_add _ _)).trans x1
          replace x2 := (kp _ (block_add _ _)).trans x2
          obtain ⟨d, hdd⟩ : ∃ d, d = c[j]'(by have := HLn.out; omega) := ⟨_, rfl⟩
          rw [← hdd] at x0 x1 x2
          have HDJ : Hid (c[j]? = some d) := Lib.hid (by rw [hdd]; exact List.getElem?_eq_getElem _)
          have hin : inV d := K4.out d (List.mem_flatten.2 ⟨c, List.mem_of_getElem? HCR.out, List.mem_of_getElem? HDJ.out⟩)
          obtain ⟨vx, vy, von⟩ := d
          obtain ⟨hvx, hvy⟩ := hin
          simp only [] at x0 x1 x2 hvx hvy
          rw [add_spell _ _ _ (by omega)] at x1 x2
          clear hdd kp
          obtain ⟨dx, hdx⟩ : ∃ dx : Int, vx - qx = dx := ⟨_, rfl⟩
          obtain ⟨dy, hdy⟩ : ∃ dy : Int, vy - qy = dy := ⟨_, rfl⟩
          have hdxb : -510 ≤ dx ∧ dx ≤ 510 := by omega
          have hdyb : -510 ≤ dy ∧ dy ≤ 510 := by omega
          have HF0 : Hid ((if von = true then (1 : Int) else 0) = ((flagK dx dy von 0 : Nat) : Int)) := Lib.hid (by cases von <;> rfl)
          have HS0 : Hid (stepsV 0 0 (ahead o r c j) = stepsV 0 0 (ahead o r c j) ++ stepsK dx dy 0) := Lib.hid (by simp [stepsK])
          have HBz := HB.out.size
          obtain ⟨wj, rfl⟩ : ∃ wj, wj = wr := ⟨_, rfl⟩
          go_upto_if 41 with fail
          go_cut [12] (fun s12 wx => s12 = .int .u8 (flagK dx dy von 0 : Nat) ∧ wx = wj.alloc (.cells #[.int .i64 vx, .int .i64 vy, .bool von] 25))
          case first =>
            cases von
            all_goals
              go_wp2_with fail
              go_meet
              exact ⟨rfl, rfl⟩
          case rest =>
            obtain ⟨rfl, rfl⟩ := hcut
            have C1 : Cell2 (wj.alloc (.cells #[.int .i64 vx, .int .i64 vy, .bool von] 25)) wj.heap.size (.int .i64 vx) (.int .i64 vy) := ⟨by simp, by simp⟩
            obtain ⟨y0, y1⟩ := id C1
            go_wp2_with fail
            have T5 : Hid (B3 _ w.heap.size vo u4 u5 N2 (flagsV 0 0 (ahead o r c j)) (stepsV 0 0 (ahead o r c j) ++ stepsK dx dy 0)) := Lib.hid (by rw [← HS0.out]; exact (HT.out.alloc (.cells #[.int .i64 vx, .int .i64 vy, .bool von] 25)).alloc (.cells #[.int .i64 dx, .int .i64 dy] 3))
            have C5 : Cell2 _ wj.heap.size (.int .i64 vx) (.int .i64 vy) := C1.alloc (.cells #[.int .i64 dx, .int .i64 dy] 3)
            have S5 : Cell2 ((wj.alloc (.cells #[.int .i64 vx, .int .i64 vy, .bool von] 25)).alloc (.cells #[.int .i64 dx, .int .i64 dy] 3)) (wj.heap.size + 1) (.int .i64 dx) (.int .i64 dy) := by
              have := heap_two wj (.cells #[.int .i64 vx, .int .i64 vy, .bool von] 25) (.cells #[.int .i64 dx, .int .i64 dy] 3)
              exact ⟨(cell_of_row _ _ 0 _ _ _ this).trans rfl, (cell_of_row _ _ 1 _ _ _ this).trans rfl⟩
            have D5 : Hid (u5.ownBlock ≠ some wj.heap.size ∧ u5.ownBlock ≠ some (wj.heap.size + 1)) := Lib.hid ⟨fun h => by have := (World.ownsRow.lt HT.out.1.2.2 _ h).2; omega, fun h => by have := (World.ownsRow.lt HT.out.1.2.2 _ h).2; omega⟩
            have B5 : Hid (Below w.heap.size w ((wj.alloc (.cells #[.int .i64 vx, .int .i64 vy, .bool von] 25)).alloc (.cells #[.int .i64 dx, .int .i64 dy] 3))) := Lib.hid ((HB.out.alloc HB.out.size _).alloc (by have := HB.out.size; simp; omega) _)
            have hne4 : some wj.heap.size ≠ u4.ownBlock := fun h => by have := (World.ownsRow.lt HT.out.1.2.1 _ h.symm).2; omega
            clear HT HB C1 y0 y1 x0 x1 x2 HF0 HS0
            generalize (wj.alloc (.cells #[.int .i64 vx, .int .i64 vy, .bool von] 25)).alloc (.cells #[.int .i64 dx, .int .i64 dy] 3) = w5 at *
            generalize wj.heap.size + 1 = gs at *
            generalize wj.heap.size = gv at *
            go_loopw [52, 12, 5] (fun i f c' wr => ∃ k : Nat, k ≤ 2 ∧ i = .int .i64 k ∧ f = .int .u8 (flagK dx dy von k : Nat) ∧ Hid (B3 wr w.heap.size vo u4 c' N2 (flagsV 0 0 (ahead o r c j)) (stepsV 0 0 (ahead o r c j) ++ stepsK dx dy k)) ∧ Hid (Cell2 wr gv (.int .i64 vx) (.int .i64 vy)) ∧ Hid (Cell2 wr gs (.int .i64 dx) (.int .i64 dy)) ∧ Hid (c'.ownBlock ≠ some gv ∧ c'.ownBlock ≠ some gs) ∧ Hid (Below w.heap.size w wr)) (fun i _ _ _ => 2 - (intOf i).toNat)
            case atStart => exact ⟨0, by omega, rfl, rfl, T5, Lib.hid C5, Lib.hid S5, D5, B5⟩
            case round =>
              obtain ⟨k, hk, rfl, rfl, HT, HV, HS, HD5, HB⟩ := hrel
              clear T5 C5 S5 D5 B5
              by_cases hk2 : k < 2
              · have hkb : decide ((k : Int) < 2) = true := by simp; omega
                obtain ⟨dk, hdk⟩ : ∃ dk : Int, dk = if k = 0 then dx else dy := ⟨_, rfl⟩
                have hdkb : -510 ≤ dk ∧ dk ≤ 510 := by rw [hdk]; split <;> omega
                have hck : wr.cell? ⟨gs, k, none⟩ = some (.int .i64 dk) := by
                  rcases (by omega : k = 0 ∨ k = 1) with rfl | rfl
                  · rw [hdk]; exact HS.out.1
                  · rw [hdk]; exact HS.out.2
                have HFk := Lib.hid (flagK_step dx dy von k hk2)
                have HSk := Lib.hid (stepsK_step dx dy k hk2)
                rw [← hdk] at HFk HSk
                have hfl := flagK_lt dx dy von k
                have HF := Lib.hid (fun w => far_any dk w)
                have HNB := fun (w : World) (b : Int) => Lib.hid (heap_alloc_new w (.cells #[.int .u8 b] 5))
                have elo := u8_lo dk
                have ehi := u8_hi dk
                have hsl : (stepsV 0 0 (ahead o r c j) ++ stepsK dx dy k).length ≤ 1000 := by
                  have q1 := steps_len (ahead o r c j) 0 0
                  have q2 := stepsK_len dx dy k
                  have q3 := ahead_len o r c j HCR.out
                  have q4 := K2.out
                  rw [List.length_append]; omega
                obtain ⟨SL, hSL⟩ : ∃ SL, SL = (stepsV 0 0 (ahead o r c j) ++ stepsK dx dy k).length := ⟨_, rfl⟩
                rw [← hSL] at hsl
                have HOwn := Lib.hid (HT.out.1.2.2.own hSL.symm)
                have HSL := Lib.hid hSL
                clear hSL
                have HSz := Lib.hid HB.out.size
                by_cases hfar : far dk = true
                · rw [hfar] at HF
                  have HFk' : Hid ((flagK dx dy von (k + 1) : Int) = (flagK dx dy von k : Int) + (2 + 2 * k)) := Lib.hid (by rw [HFk.out, if_pos hfar]; omega)
                  have hf8 := flagK_lt dx dy von (k + 1)
                  clear HFk hdk
                  go_wp2_with fail
                  refine (HF.out _).mono ?_
                  rintro e w6 ⟨rfl, rfl⟩
                  have ef : (flagK dx dy von k : Int) + (2 + 2 * (k : Int)) = (flagK dx dy von (k + 1) : Int) := HFk'.out.symm
                  go_wp2_with (first
                    | (at_builtin; refine wpList_append_lies _ rfl _ _ _ (by rfl) w.heap.size 5 i0 _ 1 1 Try.underlying34 hi0 hz0 hz1 hz2 (by rfl) (by omega) _ SL _ (by rfl) (HOwn.out.alloc _) ⟨wr.heap.size, 0, none⟩ 1 1 [.int .u8 (hiB dk : Int)] (by rfl) (by rfl) (World.news_of_block (HNB _ _).out) (by simp [Value.oneCell']) (by omega) (by simp [maxLen]; omega) (by omega) (by have := HSz.out; simp; omega) (wr.heap.size + 1) (by simp) ?_; intro g1 cp1 w7 hown1 hgrow1 hat1 hlt1; have hz7 : w.heap.size ≤ w7.heap.size := Nat.le_trans (Nat.le_trans HSz.out (by simp)) hgrow1.size)
                    | (at_builtin; refine wpList_append_lies _ rfl _ _ _ (by rfl) w.heap.size 5 i0 _ 1 1 Try.underlying34 hi0 hz0 hz1 hz2 (by rfl) (by omega) _ (SL + 1) _ (by rfl) (hown1.alloc _) ⟨w7.heap.size, 0, none⟩ 1 1 [.int .u8 (loB dk : Int)] (by rfl) (by rfl) (World.news_of_block (HNB _ _).out) (by simp [Value.oneCell']) (by omega) (by simp [maxLen]; omega) (by omega) (by simp; omega) (w7.heap.size + 1) (by simp) ?_; intro g2 cp2 w8 hown2 hgrow2 hat2 hlt2))
                  have ST : St3 w wr w.heap.size vo u4 _ N2 (flagsV 0 0 (ahead o r c j)) (stepsV 0 0 (ahead o r c j) ++ stepsK dx dy k) gv gs _ _ _ _ := ⟨HT.out, HV.out, HS.out, HD5.out, HB.out⟩
                  have S1 := ST.push (Nat.le_refl _) _ hgrow1 hat1 HSL.out.symm _ hown1
                  have S2 := S1.push (Nat.le_refl _) _ hgrow2 hat2 (by rw [List.length_append, ← HSL.out, List.length_singleton]) _ (by rw [bvals_append]; exact hown2)
                  have es : stepsV 0 0 (ahead o r c j) ++ stepsK dx dy k ++ [hiB dk] ++ [loB dk] = stepsV 0 0 (ahead o r c j) ++ stepsK dx dy (k + 1) := by
                    rw [HSk.out, stepB, if_pos hfar]; simp
                  rw [es] at S2
                  exact ⟨⟨k + 1, by omega, by go_num, rfl, Lib.hid S2.1, Lib.hid S2.2.1, Lib.hid S2.2.2.1, Lib.hid S2.2.2.2.1, Lib.hid S2.2.2.2.2⟩, by simp [intOf]; omega⟩
                · have hfar' : far dk = false := by simpa using hfar
                  rw [hfar'] at HF
                  have HFk' : Hid ((flagK dx dy von (k + 1) : Int) = (flagK dx dy von k : Int)) := Lib.hid (by rw [HFk.out, if_neg hfar]; simp)
                  clear HFk hdk
                  go_wp2_with fail
                  refine (HF.out _).mono ?_
                  rintro e w6 ⟨rfl, rfl⟩
                  go_wp2_with (at_builtin; refine wpList_append_lies _ rfl _ _ _ (by rfl) w.heap.size 5 i0 _ 1 1 Try.underlying34 hi0 hz0 hz1 hz2 (by rfl) (by omega) _ SL _ (by rfl) (HOwn.out.alloc _) ⟨wr.heap.size, 0, none⟩ 1 1 [.int .u8 (loB dk : Int)] (by rfl) (by rfl) (World.news_of_block (HNB _ _).out) (by simp [Value.oneCell']) (by omega) (by simp [maxLen]; omega) (by omega) (by have := HSz.out; simp; omega) (wr.heap.size + 1) (by simp) ?_; intro g1 cp1 w7 hown1 hgrow1 hat1 hlt1)
                  have ST : St3 w wr w.heap.size vo u4 _ N2 (flagsV 0 0 (ahead o r c j)) (stepsV 0 0 (ahead o r c j) ++ stepsK dx dy k) gv gs _ _ _ _ := ⟨HT.out, HV.out, HS.out, HD5.out, HB.out⟩
                  have S1 := ST.push (Nat.le_refl _) _ hgrow1 hat1 HSL.out.symm _ hown1
                  have es : stepsV 0 0 (ahead o r c j) ++ stepsK dx dy k ++ [loB dk] = stepsV 0 0 (ahead o r c j) ++ stepsK dx dy (k + 1) := by
                    rw [HSk.out, stepB, if_neg hfar]; simp
                  rw [es] at S1
                  exact ⟨⟨k + 1, by omega, by go_num, by rw [HFk'.out], Lib.hid S1.1, Lib.hid S1.2.1, Lib.hid S1.2.2.1, Lib.hid S1.2.2.2.1, Lib.hid S1.2.2.2.2⟩, by simp [intOf]; omega⟩
              · obtain rfl : k = 2 := by omega
                have HNB := fun (w : World) (b : Int) => Lib.hid (heap_alloc_new w (.cells #[.int .u8 b] 5))
                have hfl : (flagsV 0 0 (ahead o r c j)).length ≤ 1000 := by rw [flagsV_length]; have q3 := ahead_len o r c j HCR.out; have q4 := K2.out; omega
                obtain ⟨FL, hFL⟩ : ∃ FL, FL = (flagsV 0 0 (ahead o r c j)).length := ⟨_, rfl⟩
                rw [← hFL] at hfl
                have HFL := Lib.hid hFL
                have HOwn := Lib.hid (HT.out.1.2.1.own hFL.symm)
                have HSz := Lib.hid HB.out.size
                obtain ⟨FV, hFV⟩ : ∃ FV, FV = flagK dx dy von 2 := ⟨_, rfl⟩
                have HFV := Lib.hid hFV
                rw [← hFV]
                clear hFL hFV
                go_wp2_with (first
                  | (at_builtin; refine wpList_append_lies _ rfl _ _ _ (by rfl) w.heap.size 5 i0 _ 1 1 Try.underlying34 hi0 hz0 hz1 hz2 (by rfl) (by omega) _ FL _ (by rfl) (HOwn.out.alloc _) ⟨wr.heap.size, 0, none⟩ 1 1 [.int .u8 (FV : Int)] (by rfl) (by rfl) (World.news_of_block (HNB _ _).out) (by simp [Value.oneCell']) (by omega) (by simp [maxLen]; omega) (by omega) (by have := HSz.out; simp; omega) (wr.heap.size + 1) (by simp) ?_; intro g1 cp1 w7 hown1 hgrow1 hat1 hlt1; have C7 := (HV.out.alloc _).grown hgrow1 hne4; have p0 := C7.1; have p1 := C7.2))
                have T7 := HT.out.push2 _ hgrow1 hat1 HFL.out.symm _ hown1
                have BN : Below w.heap.size w w7 := (HB.out.alloc HB.out.size _).grown hgrow1 (by have := HB.out.size; simp; omega) (fun q hq => (HOwn.out.lt q hq).1)
                have ea := ahead_next o r c j _ HDJ.out
                have eP : lastOf 0 0 (ahead o r c (j + 1)) = (vx, vy) := by rw [ea, lastOf_snoc]
                have eF : flagsV 0 0 (ahead o r c j) ++ [FV] = flagsV 0 0 (ahead o r c (j + 1)) := by rw [ea, flagsV_snoc, HP.out, HFV.out, flagK_two, ← hdx, ← hdy]
                have eS : stepsV 0 0 (ahead o r c j) ++ stepsK dx dy 2 = stepsV 0 0 (ahead o r c (j + 1)) := by rw [ea, stepsV_snoc, HP.out, stepsK_two, ← hdx, ← hdy]
                rw [eF, eS] at T7
                have HT7 := Lib.hid T7
                have HB7 := Lib.hid BN
                have HP7 := Lib.hid eP
                clear T7 BN ea eP eF eS hown1 hgrow1 hat1 hlt1 HNB HOwn HFL HFV HT HV HS HD5 HB HP hdx hdy C7
                go_quiet (fail)
                go_wp2_with fail
                exact ⟨⟨j + 1, vx, vy, by omega, by go_num, rfl, rfl, hvx, hvy, HP7, Lib.hid (HT7.out.below (belowDN (Below.refl _ _) nq)), Lib.hid (belowDN HB7.out nq)⟩, by simp [intOf]; omega⟩
        · obtain rfl : j = L := by omega
          have eA : ahead o r c j = (o.take (r + 1)).flatten := by rw [← HLn.out]; exact (ahead_all o r c HCR.out).symm
          have HP' := HP.out
          have HT' := HT.out
          rw [eA] at HP' HT'
          rw [HN2.out] at HT'
          have HP9 := Lib.hid HP'
          have HT9 := Lib.hid HT'
          clear HP' HT' eA HP HT
          go_wp2_with fail
          exact ⟨⟨r + 1, qx, qy, by omega, by go_num, rfl, rfl, hqx, hqy, HP9, HT9, Lib.hid (fun h => by omega), HB⟩, by simp [intOf]; omega⟩
    · obtain rfl : r = n := by omega
      have hoall : o.take r = o := List.take_of_length_le (by rw [HNN.out]; omega)
      have HT0 : Hid (B3 wr w.heap.size u3 u4 u5 (r :: o.map List.length) (flagsV 0 0 o.flatten) (stepsV 0 0 o.flatten)) := Lib.hid (by have := HT.out; rwa [hoall] at this)
      have HF8 : Hid (∀ f ∈ flagsV 0 0 o.flatten, f < 8) := Lib.hid (flagsV_lt _ _ _)
      have hF64 : (flagsV 0 0 o.flatten).length ≤ 64 := by rw [flagsV_length]; exact K2.out
      have hS256 : (stepsV 0 0 o.flatten).length ≤ 256 := by have := steps_len o.flatten 0 0; have := K2.out; omega
      have HEN : Hid (encodeS o = (r :: o.map List.length ++ rle (flagsV 0 0 o.flatten)) ++ stepsV 0 0 o.flatten) := Lib.hid (by unfold encodeS; rw [HNN.out]; simp)
      have HS2 : Hid (r ≠ 0 → 0 < (stepsV 0 0 o.flatten).length) := Lib.hid (by
        intro h
        have h1 := steps_two o.flatten 0 0
        have h2 : 0 < o.flatten.length := by
          cases ho : o with
          | nil => have := HNN.out; rw [ho] at this; exact absurd this.symm h
          | cons c cs =>
            have := K3.out c (by rw [ho]; exact List.mem_cons_self ..)
            have := List.length_pos_iff.2 this
            rw [List.flatten_cons, List.length_append]
            omega
        omega)
      obtain ⟨FS, hFS⟩ : ∃ FS, flagsV 0 0 o.flatten = FS := ⟨_, rfl⟩
      obtain ⟨SS, hSS⟩ : ∃ SS, stepsV 0 0 o.flatten = SS := ⟨_, rfl⟩
      obtain ⟨hd, hhd⟩ : ∃ hd, r :: o.map List.length = hd := ⟨_, rfl⟩
      have hhl : hd.length ≤ 9 := by rw [← hhd, List.length_cons, List.length_map, HNN.out]; omega
      rw [hFS] at HT0 HF8 hF64 HEN
      rw [hSS] at HT0 hS256 HEN HS2
      rw [hhd] at HT0 HEN
      obtain ⟨nf0, hnf0⟩ : ∃ nf, FS.length = nf := ⟨_, rfl⟩
      obtain ⟨A4, cap4, rfl⟩ := own_form (HT0.out.1.2.1.own hnf0)
      have HR4 : Hid (BRd wr (.slice A4 nf0 cap4) FS) := Lib.hid (HT0.out.1.2.1.read (fun b hb => by have := HF8.out b hb; omega))
      have HL4 : Hid (∀ q, (Value.slice A4 nf0 cap4).ownBlock = some q → q < wr.heap.size) := Lib.hid (fun q hq => (World.ownsRow.lt HT0.out.1.2.1 q hq).2)
      have hsum0 : hd.length + nf0 ≤ 73 := by omega
      clear hoall HT HP hFS hSS hhd
      go_wp2_with fail
      go_loopw [3, 4] (fun s3 s4 wr => ∃ (cur rem : List Nat) (A : Option Addr) (nf cap : Nat), s4 = .slice A nf cap ∧ Hid (rem.length = nf) ∧ Hid (BRd wr (.slice A nf cap) rem) ∧ Hid (hd ++ rle FS = cur ++ rle rem) ∧ Hid (∀ f ∈ rem, f < 8) ∧ cur.length + nf ≤ 73 ∧ Hid (BRow wr w.heap.size s3 cur) ∧ Hid (Apart s3 (.slice A nf cap)) ∧ Hid (∀ q, (Value.slice A nf cap).ownBlock = some q → q < wr.heap.size) ∧ Hid (BRow wr w.heap.size u5 SS) ∧ Hid (Apart s3 u5) ∧ Hid (Below w.heap.size w wr)) (fun _ s4 _ => lenV s4)
      case atStart => exact ⟨hd, FS, A4, nf0, cap4, rfl, Lib.hid hnf0, HR4, Lib.hid rfl, HF8, hsum0, Lib.hid HT0.out.1.1, Lib.hid HT0.out.2.1, HL4, Lib.hid HT0.out.1.2.2, Lib.hid HT0.out.2.2.1, HB⟩
      case round =>
        clear HR4 HL4 HT0 HB
        obtain ⟨cur, rem, A, nf, cap', rfl, HRL, HRD, HEQ, HR8, hsum, HCU, HAP, HLT, HST, HAS, HB⟩ := hrel
        obtain ⟨kc, hkc⟩ : ∃ kc, cur.length = kc := ⟨_, rfl⟩
        rw [hkc] at hsum
        obtain ⟨A3, cap3, rfl⟩ := own_form (HCU.out.own hkc)
        have HKC := Lib.hid hkc
        cases rem with
        | nil =>
          have hnf : nf = 0 := HRL.out.symm
          subst hnf
          have HEQ' : Hid (hd ++ rle FS = cur) := Lib.hid (by rw [HEQ.out]; simp [rle, rleN])
          have HEB : Hid (∀ b ∈ encodeS o, b < 256) := Lib.hid (by
            intro b hb
            have h1 := encode_bytes o HCZ.out
            exact h1 b hb)
          by_cases hr0 : r = 0
          · have hu5 := HNL.out hr0
            subst hu5
            have hSS : SS = [] := by
              rcases HST.out.2 with ⟨_, h0⟩ | ⟨g, cp, cu, h, _⟩
              · exact List.eq_nil_of_length_eq_zero h0
              · cases h
            have HEC : Hid (encodeS o = cur) := Lib.hid (by rw [HEN.out, HEQ'.out, hSS, List.append_nil])
            have HOWC := Lib.hid (HCU.out.own hkc)
            have hstr := run_strOf (HCU.out.read (by rw [← HEC.out]; exact HEB.out))
            have HSE : Hid (strOf (encodeS o) = strOf cur) := Lib.hid (by rw [HEC.out])
            clear HEQ HEQ' HEN HEC hSS HEB hkc hr0
            go_wp2_with (at_builtin; refine wpList_append_own_none rfl (.tmp 129) (.tmp 130) 34 (by rfl) w.heap.size 5 i0 1 Try.underlying34 hi0 _ kc _ (by rfl) HOWC.out (by rfl) ?_)
            go_ret
            exact ⟨by rw [HSE.out]; rfl, HB.out⟩
          · obtain ⟨m, hm⟩ : ∃ m, SS.length = m := ⟨_, rfl⟩
            have hm0 : 0 < m := by rw [← hm]; exact HS2.out hr0
            obtain ⟨g5, cap5, hu5, hg51, hg52⟩ := World.ownsRow.form (HST.out.own hm) hm0
            subst hu5
            have HNW : Hid (∀ j u, (bvals SS)[j]? = some u → wr.cell? ((⟨g5, 0, none⟩ : Addr).add j) = some u) := Lib.hid (World.ownsRow.cells HST.out rfl)
            have HON : Hid (∀ v ∈ bvals SS, v.oneCell' = true) := Lib.hid (by
              intro v hv
              obtain ⟨b, _, rfl⟩ := List.mem_map.1 hv
              rfl)
            obtain ⟨news, hnews⟩ : ∃ news, bvals SS = news := ⟨_, rfl⟩
            have HNL2 : Hid (news.length = m) := Lib.hid (by rw [← hnews, bvals_length, hm])
            rw [hnews] at HNW HON
            have HNS := Lib.hid hnews
            have HEC : Hid (encodeS o = cur ++ SS) := Lib.hid (by rw [HEN.out, HEQ'.out])
            have HOWC := Lib.hid (HCU.out.own hkc)
            have HM := Lib.hid hm
            have hm256 : m ≤ 256 := by omega
            have hBz : w.heap.size ≤ wr.heap.size := HB.out.size
            clear HEQ HEQ' HEN hnews hkc hm
            go_wp2_with (at_builtin; refine wpList_append_lies _ rfl _ _ _ (by rfl) w.heap.size 5 i0 _ 1 1 Try.underlying34 hi0 hz0 hz1 hz2 (by rfl) (by omega) _ kc _ (by rfl) HOWC.out ⟨g5, 0, none⟩ m cap5 news (by rfl) (by have := HNL2.out; omega) HNW.out HON.out (by omega) (by simp [maxLen]; omega) (by omega) (by omega) wr.heap.size rfl ?_; intro gq cp w4 hown hgrow hat hlt; have hrowE : BRow w4 w.heap.size (.slice (some ⟨gq, 0, none⟩) (kc + m) cp) (encodeS o) := (by rw [HEC.out]; unfold BRow; rw [bvals_append, List.length_append, HKC.out, HM.out, HNS.out]; exact hown); have HSTR := Lib.hid (run_strOf (hrowE.read HEB.out)); have hstr := HSTR.out; clear hrowE)
            go_ret
            exact ⟨rfl, HB.out.grown hgrow hBz (fun q hq => (HOWC.out.lt q hq).1)⟩
        | cons f l =>
          have hnf : nf = l.length + 1 := HRL.out.symm
          have hf8 : f < 8 := HR8.out f (List.mem_cons_self ..)
          obtain ⟨a, rfl⟩ : ∃ a, A = some a := by
            obtain ⟨A', cp, e, _, _, _, h3⟩ := HRD.out
            obtain ⟨a, ha, _⟩ := h3 0 (by simp)
            simp only [Value.slice.injEq] at e
            exact ⟨a, e.1.trans ha⟩
          obtain ⟨hncap, hat0, hea⟩ : nf ≤ cap' ∧ cap' ≤ maxLen ∧ ∀ i (h : i < (f :: l).length), a.block < wr.heap.size ∧ wr.cell? (a.add i) = some (.int .u8 ((f :: l)[i] : Nat)) := by
            obtain ⟨A', cp, e, h1, h2, _, h3⟩ := HRD.out
            simp only [Value.slice.injEq] at e
            obtain ⟨rfl, _, rfl⟩ := e
            refine ⟨by simp at h1; omega, h2, fun i hi => ?_⟩
            obtain ⟨a', ha, hlt, hc⟩ := h3 i hi
            injection ha with ha
            subst ha
            exact ⟨hlt, hc⟩
          have HEA := Lib.hid hea
          have HNF := Lib.hid hnf
          obtain ⟨R, hR⟩ : ∃ R, R = runLen f (f :: l) := ⟨_, rfl⟩
          have hR1 : 1 ≤ R := by rw [hR, runLen, if_pos rfl]; omega
          have hR2 : R ≤ nf := by rw [hR, hnf]; have := runLen_le f (f :: l); simpa using this
          have HR := Lib.hid hR
          have hnf0' : (0 : Int) < nf := by omega
          have hnfb : decide ((0 : Int) < nf) = true := by simp; omega
          have hnf64 : nf ≤ 73 := by omega
          clear hnf hR hea
          go_wp2_with fail
          have hdn : decide (0 < nf) = true := by simp; omega
          rw [hdn]
          obtain ⟨wi, rfl⟩ : ∃ wi, wi = wr := ⟨_, rfl⟩
          go_loopw [15] (fun i wr => ∃ j : Nat, j ≤ R ∧ i = .int .i64 j ∧ Hid (Below wi.heap.size wi wr)) (fun i _ => nf - (intOf i).toNat)
          case atStart => exact ⟨0, Nat.zero_le _, rfl, Lib.hid (Below.refl _ _)⟩
          case round =>
            obtain ⟨j, hj, rfl, HW⟩ := hrel
            obtain ⟨haz, ha0⟩ := HEA.out 0 (by simp)
            have ha0' : wr.cell? a = some (.int .u8 f) := (HW.out.cell (p := a) haz).trans (by simpa [Addr.add] using ha0)
            by_cases hjn : j < nf
            · have hjb : decide ((j : Int) < nf) = true := by simp; omega
              have hjl : j < (f :: l).length := by have := HNF.out; simp; omega
              obtain ⟨fj, hfj⟩ : ∃ fj, (f :: l)[j] = fj := ⟨_, rfl⟩
              have haj := (HEA.out j hjl).2
              rw [hfj] at haj
              replace haj : wr.cell? (a.add j) = some (.int .u8 fj) := (HW.out.cell (p := a.add j) (by rw [block_add]; exact haz)).trans haj
              have hgj : (f :: l)[j]? = some fj := by rw [← hfj]; exact List.getElem?_eq_getElem _
              by_cases hff : fj = f
              · have hj1 : j + 1 ≤ R := by rw [HR.out]; exact runLen_next f _ j (by rw [← HR.out]; exact hj) (by rw [hgj, hff])
                subst hff
                clear hfj hgj ha0
                go_wp2_with fail
                go_quiet (fail)
                go_wp2_with fail
                exact ⟨⟨j + 1, by omega, by go_num, Lib.hid (belowDN HW.out nq)⟩, by simp [intOf]; omega⟩
              · have hjR : j = R := by rw [HR.out]; exact runLen_stop f _ j fj (by rw [← HR.out]; exact hj) hgj hff
                have e3 : ((fj : Int) == (f : Int)) = false := by simp; omega
                have HJR := Lib.hid hjR
                clear hfj hgj ha0 hff hjR
                go_wp2_with fail
                go_quiet (fail)
                obtain rfl : j = R := HJR.out
                have hBX : Below wi.heap.size wi (wr.drewN nq) := belowDN HW.out nq
                have haX : (wr.drewN nq).cell? a = some (.int .u8 f) := ha0'
                generalize wr.drewN nq = X at *
                have HBX := Lib.hid hBX
                have HBW := Lib.hid (HB.out.trans (hBX.mono HB.out.size))
                have HCX := Lib.hid (HCU.out.below hBX)
                have HRX := Lib.hid (HRD.out.keep hBX)
                have HSX := Lib.hid (HST.out.below hBX)
                have HLX : Hid (∀ q, (Value.slice (some a) nf cap').ownBlock = some q → q < X.heap.size) := Lib.hid (fun q hq => Nat.lt_of_lt_of_le (HLT.out q hq) hBX.size)
                have HOX := Lib.hid (HCX.out.own HKC.out)
                have hzX : a.block < X.heap.size := Nat.lt_of_lt_of_le haz hBX.size
                have hbX : w.heap.size ≤ X.heap.size := HBW.out.size
                have HVB : Hid (∀ q, (Value.slice A3 kc cap3).ownBlock = some q → w.heap.size ≤ q) := Lib.hid (fun q hq => (HOX.out.lt q hq).1)
                have HSTP := Lib.hid (rle_step f l)
                rw [← HR.out] at HSTP
                clear ha0' hBX
                by_cases h3 : j < 3
                · have h3' : (j : Int) < 3 := by omega
                  have hnb2 : (X.alloc (.cells #[.int .u8 f] 5)).heap[X.heap.size]? = some (.cells #[.int .u8 f] 5 (0, 0)) := heap_alloc_new _ _
                  have HNB := Lib.hid hnb2
                  have HST1 := Lib.hid (HSTP.out.trans (if_pos h3))
                  clear hnb2
                  have hcap1 : ¬ cap' = 1 := by omega
                  go_wp2_with (at_builtin; refine wpList_append_lies _ rfl _ _ _ (by rfl) w.heap.size 5 i0 _ 1 1 Try.underlying34 hi0 hz0 hz1 hz2 (by rfl) (by omega) _ kc _ (by rfl) (HOX.out.alloc _) ⟨X.heap.size, 0, none⟩ 1 1 [.int .u8 f] (by rfl) (by rfl) (World.news_of_block HNB.out) (by simp [Value.oneCell']) (by omega) (by simp [maxLen]; omega) (by omega) (by simp; omega) (X.heap.size + 1) (by simp) ?_; intro gq cp w4 hown hgrow hat hlt)
                  have HXX := App.of (new := [f]) ((Below.refl _ X).alloc (Nat.le_refl _) _) hgrow hat (by omega) HKC.out rfl hown
                  exact enc_next (k := 1) HXX HAP.out HLX.out HRX.out (by omega) (by omega) HRL.out HST1.out HEQ.out HR8.out (by rw [HKC.out]; exact hsum) (by simp) HSX.out HAS.out HBW.out hbX HVB.out (by rw [if_neg hcap1]; rfl)
                · have h3' : (3 : Int) ≤ j := by omega
                  have h3b : decide ((j : Int) < 3) = false := by simp; omega
                  obtain ⟨Q, hQ⟩ : ∃ Q : Nat, j - 1 = Q := ⟨_, rfl⟩
                  obtain ⟨e8, he8⟩ : ∃ e8 : Nat, f + 8 = e8 := ⟨_, rfl⟩
                  have hw8 : IntKind.u8.wrap ((j : Int) - 1) = (Q : Int) := by rw [IntKind.wrap_u8]; omega
                  have hwe : IntKind.u8.wrap ((f : Int) + 8) = (e8 : Int) := by rw [IntKind.wrap_u8]; omega
                  have hnb2 : (X.alloc (.cells #[.int .u8 e8, .int .u8 Q] 5)).heap[X.heap.size]? = some (.cells #[.int .u8 e8, .int .u8 Q] 5 (0, 0)) := heap_alloc_new _ _
                  have HNB := Lib.hid hnb2
                  have HST3 : Hid (rle (f :: l) = [e8, Q] ++ rle ((f :: l).drop j)) := Lib.hid (by rw [HSTP.out, if_neg h3, he8, hQ]; rfl)
                  clear hnb2 hQ he8
                  go_wp2_with (at_builtin; refine wpList_append_lies _ rfl _ _ _ (by rfl) w.heap.size 5 i0 _ 1 1 Try.underlying34 hi0 hz0 hz1 hz2 (by rfl) (by omega) _ kc _ (by rfl) (HOX.out.alloc _) ⟨X.heap.size, 0, none⟩ 2 2 [.int .u8 e8, .int .u8 Q] (by rfl) (by rfl) (World.news_of_block HNB.out) (by simp [Value.oneCell']) (by omega) (by simp [maxLen]; omega) (by omega) (by simp; omega) (X.heap.size + 1) (by simp) ?_; intro gq cp w4 hown hgrow hat hlt)
                  have HXX := App.of (new := [e8, Q]) ((Below.refl _ X).alloc (Nat.le_refl _) _) hgrow hat (by omega) HKC.out rfl hown
                  exact enc_next HXX HAP.out HLX.out HRX.out hR1 hR2 HRL.out HST3.out HEQ.out HR8.out (by rw [HKC.out]; exact hsum) (by simp; omega) HSX.out HAS.out HBW.out hbX HVB.out (by rw [if_neg (by omega)])
            · have hjR : j = R := by omega
              have hjb : decide ((j : Int) < nf) = false := by simp; omega
              have HJR := Lib.hid hjR
              have HJN : Hid (j = nf) := Lib.hid (by omega)
              clear hjR ha0
              go_wp2_with fail
              go_quiet (fail)
              obtain rfl : j = R := HJR.out
              have hBX : Below wi.heap.size wi (wr.drewN nq) := belowDN HW.out nq
              have haX : (wr.drewN nq).cell? a = some (.int .u8 f) := ha0'
              generalize wr.drewN nq = X at *
              have HBX := Lib.hid hBX
              have HBW := Lib.hid (HB.out.trans (hBX.mono HB.out.size))
              have HCX := Lib.hid (HCU.out.below hBX)
              have HRX := Lib.hid (HRD.out.keep hBX)
              have HSX := Lib.hid (HST.out.below hBX)
              have HLX : Hid (∀ q, (Value.slice (some a) nf cap').ownBlock = some q → q < X.heap.size) := Lib.hid (fun q hq => Nat.lt_of_lt_of_le (HLT.out q hq) hBX.size)
              have HOX := Lib.hid (HCX.out.own HKC.out)
              have hzX : a.block < X.heap.size := Nat.lt_of_lt_of_le haz hBX.size
              have hbX : w.heap.size ≤ X.heap.size := HBW.out.size
              have HVB : Hid (∀ q, (Value.slice A3 kc cap3).ownBlock = some q → w.heap.size ≤ q) := Lib.hid (fun q hq => (HOX.out.lt q hq).1)
              have HSTP := Lib.hid (rle_step f l)
              rw [← HR.out] at HSTP
              clear ha0' hBX
              by_cases h3 : j < 3
              · have h3' : (j : Int) < 3 := by omega
                have hnb2 : (X.alloc (.cells #[.int .u8 f] 5)).heap[X.heap.size]? = some (.cells #[.int .u8 f] 5 (0, 0)) := heap_alloc_new _ _
                have HNB := Lib.hid hnb2
                have HST1 := Lib.hid (HSTP.out.trans (if_pos h3))
                clear hnb2
                by_cases hcap1 : cap' = 1
                · go_wp2_with (at_builtin; refine wpList_append_lies _ rfl _ _ _ (by rfl) w.heap.size 5 i0 _ 1 1 Try.underlying34 hi0 hz0 hz1 hz2 (by rfl) (by omega) _ kc _ (by rfl) (HOX.out.alloc _) ⟨X.heap.size, 0, none⟩ 1 1 [.int .u8 f] (by rfl) (by rfl) (World.news_of_block HNB.out) (by simp [Value.oneCell']) (by omega) (by simp [maxLen]; omega) (by omega) (by simp; omega) (X.heap.size + 1) (by simp) ?_; intro gq cp w4 hown hgrow hat hlt)
                  have HXX := App.of (new := [f]) ((Below.refl _ X).alloc (Nat.le_refl _) _) hgrow hat (by omega) HKC.out rfl hown
                  exact enc_next (k := 1) HXX HAP.out HLX.out HRX.out (by omega) (by omega) HRL.out HST1.out HEQ.out HR8.out (by rw [HKC.out]; exact hsum) (by simp) HSX.out HAS.out HBW.out hbX HVB.out (by rw [if_pos hcap1, hcap1])
                · go_wp2_with (at_builtin; refine wpList_append_lies _ rfl _ _ _ (by rfl) w.heap.size 5 i0 _ 1 1 Try.underlying34 hi0 hz0 hz1 hz2 (by rfl) (by omega) _ kc _ (by rfl) (HOX.out.alloc _) ⟨X.heap.size, 0, none⟩ 1 1 [.int .u8 f] (by rfl) (by rfl) (World.news_of_block HNB.out) (by simp [Value.oneCell']) (by omega) (by simp [maxLen]; omega) (by omega) (by simp; omega) (X.heap.size + 1) (by simp) ?_; intro gq cp w4 hown hgrow hat hlt)
                  have HXX := App.of (new := [f]) ((Below.refl _ X).alloc (Nat.le_refl _) _) hgrow hat (by omega) HKC.out rfl hown
                  exact enc_next (k := 1) HXX HAP.out HLX.out HRX.out (by omega) (by omega) HRL.out HST1.out HEQ.out HR8.out (by rw [HKC.out]; exact hsum) (by simp) HSX.out HAS.out HBW.out hbX HVB.out (by rw [if_neg hcap1]; rfl)
              · have h3' : (3 : Int) ≤ j := by omega
                have h3b : decide ((j : Int) < 3) = false := by simp; omega
                obtain ⟨Q, hQ⟩ : ∃ Q : Nat, j - 1 = Q := ⟨_, rfl⟩
                obtain ⟨e8, he8⟩ : ∃ e8 : Nat, f + 8 = e8 := ⟨_, rfl⟩
                have hw8 : IntKind.u8.wrap ((j : Int) - 1) = (Q : Int) := by rw [IntKind.wrap_u8]; omega
                have hwe : IntKind.u8.wrap ((f : Int) + 8) = (e8 : Int) := by rw [IntKind.wrap_u8]; omega
                have hnb2 : (X.alloc (.cells #[.int .u8 e8, .int .u8 Q] 5)).heap[X.heap.size]? = some (.cells #[.int .u8 e8, .int .u8 Q] 5 (0, 0)) := heap_alloc_new _ _
                have HNB := Lib.hid hnb2
                have HST3 : Hid (rle (f :: l) = [e8, Q] ++ rle ((f :: l).drop j)) := Lib.hid (by rw [HSTP.out, if_neg h3, he8, hQ]; rfl)
                clear hnb2 hQ he8
                go_wp2_with (at_builtin; refine wpList_append_lies _ rfl _ _ _ (by rfl) w.heap.size 5 i0 _ 1 1 Try.underlying34 hi0 hz0 hz1 hz2 (by rfl) (by omega) _ kc _ (by rfl) (HOX.out.alloc _) ⟨X.heap.size, 0, none⟩ 2 2 [.int .u8 e8, .int .u8 Q] (by rfl) (by rfl) (World.news_of_block HNB.out) (by simp [Value.oneCell']) (by omega) (by simp [maxLen]; omega) (by omega) (by simp; omega) (X.heap.size + 1) (by simp) ?_; intro gq cp w4 hown hgrow hat hlt)
                have HXX := App.of (new := [e8, Q]) ((Below.refl _ X).alloc (Nat.le_refl _) _) hgrow hat (by omega) HKC.out rfl hown
                exact enc_next HXX HAP.out HLX.out HRX.out hR1 hR2 HRL.out HST3.out HEQ.out HR8.out (by rw [HKC.out]; exact hsum) (by simp; omega) HSX.out HAS.out HBW.out hbX HVB.out rfl

end Go.Proofs.Ytgkhpnjfpahlgaa
