/-
  What the law's known of layer 13 does to any world: a contract (no claim is made here).
-/
import Derived.Test.YteiildeaccngjaaSwp1
namespace Go.Proofs.Yteiildeaccngjaa
open Go.RowKit

/-- The law's memory while it fills the row. -/
structure KSt (w0 W : World) (ve : Value) (gE gG gA gT M : Nat) (x y p u v s : Int) (st : List Int) : Prop where
  e : Blk W gE 26 [ve]
  g : Blk W gG 29 [.int .i64 x, .int .i64 y, .int .i64 p, .int .i64 u, .int .i64 v, .int .i64 s]
  a : NRw W gA M (ivals st)
  t : Blk W gT 31 [.slice (some ⟨gA, 0, none⟩) M M]
  b : Below w0.heap.size w0 W
  o : w0.heap.size ≤ gA ∧ gE ≠ gA ∧ gG ≠ gA ∧ gT ≠ gA
theorem KSt.keep {w0 W W' : World} {ve : Value} {gE gG gA gT M : Nat} {x y p u v s : Int} {st : List Int} (h : KSt w0 W ve gE gG gA gT M x y p u v s st) (hb : Below W.heap.size W W') : KSt w0 W' ve gE gG gA gT M x y p u v s st :=
  ⟨h.e.keep hb, h.g.keep hb, h.a.keep hb, h.t.keep hb, h.b.trans (hb.mono h.b.size), h.o⟩
theorem KSt.but {w0 W W' : World} {ve : Value} {gE gG gA gT M : Nat} {x y p u v s : Int} {st st' : List Int} (h : KSt w0 W ve gE gG gA gT M x y p u v s st) (hb : But (fun g => g = gA) W W') (ha : NRw W' gA M (ivals st')) : KSt w0 W' ve gE gG gA gT M x y p u v s st' :=
  ⟨h.e.but hb h.o.2.1, h.g.but hb h.o.2.2.1, ha, h.t.but hb h.o.2.2.2, h.b.trans (hb.below (fun _ hk => hk ▸ h.o.1) h.b.size), h.o⟩
theorem KSt.store {w0 W : World} {ve : Value} {gE gG gA gT M : Nat} {x y p u v s : Int} {st : List Int} (h : KSt w0 W ve gE gG gA gT M x y p u v s st) (n : Nat) (z : Int) : KSt w0 (W.setCell ⟨gA, n, none⟩ (.int .i64 z)) ve gE gG gA gT M x y p u v s (st.set n z) :=
  h.but (But.set (ks := fun g => g = gA) (But.of (Below.refl _ W)) _ rfl _) (by rw [← ivals_set]; exact h.a.store n _)
theorem ptE_in {E : Ed} (h : InD E) (j : Nat) : (ptE E j).x.natAbs ≤ 8192 ∧ (ptE E j).y.natAbs ≤ 8192 := by
  obtain ⟨⟨h1, h2⟩, h3, h4⟩ := h
  unfold ptE
  split
  · exact ⟨h1, h2⟩
  · split
    · have half : ∀ a b : Int, a.natAbs ≤ 8192 → b.natAbs ≤ 8192 → ((a + b).tdiv 2).natAbs ≤ 8192 := by
        intro a b ha hb
        rw [Int.natAbs_tdiv]
        exact Nat.div_le_of_le_mul (by rw [show (2 : Int).natAbs = 2 from rfl]; omega)
      exact ⟨half _ _ h1 h3, half _ _ h2 h4⟩
    · exact ⟨h3, h4⟩
theorem fill_set (r M : Nat) (a b : Int) (h : r < M) : (List.replicate r a ++ List.replicate (M - r) b).set r a = List.replicate (r + 1) a ++ List.replicate (M - (r + 1)) b := by
  rw [List.set_append_right _ _ (by simp), List.length_replicate, Nat.sub_self, show M - r = (M - (r + 1)) + 1 by omega, List.replicate_succ, List.set_cons_zero, List.replicate_succ', List.append_assoc]
  rfl

/-- So many passes. -/
def passS (es : List Ed) (x y p : Int) (u v : Nat) : Nat → List Int
  | 0 => seedTo es x y p u v es.length
  | q + 1 => passTo es x y p u v (if q = 0 then 1 else -1) (passS es x y p u v q) (u * v)
theorem passS_len (es : List Ed) (x y p : Int) (u v : Nat) : ∀ q, (passS es x y p u v q).length = u * v
  | 0 => seedTo_len _ _ _ _ _ _ _
  | q + 1 => by unfold passS; rw [passTo_len]; exact passS_len es x y p u v q
theorem passS_in (es : List Ed) (x y p : Int) (u v : Nat) (hu : 0 < u) (hv : 0 < v) : ∀ q, InK es.length (passS es x y p u v q)
  | 0 => seedTo_in es x y p u v hu hv (by omega) es.length (Int.le_refl _)
  | q + 1 => passTo_in es x y p u v _ (passS_len es x y p u v q) (passS_in es x y p u v hu hv q) _ (Nat.le_refl _)

set_option maxRecDepth 100000 in
set_option maxHeartbeats 3200000 in
theorem lknown_any (ve : Value) (es : List Ed) (x y p s : Int) (u v : Nat) (w : World) (hv : ERd w ve es) (hl : es.length ≤ 200000) (hin : ∀ s ∈ es, InD s) (hx : x.natAbs ≤ 300) (hy : y.natAbs ≤ 300) (hp : 1 ≤ p ∧ p ≤ 16) (hu : 1 ≤ u ∧ u ≤ 24) (hv2 : 1 ≤ v ∧ v ≤ 24) :
    Calls Try.prog 13 #[ve, .agg #[.int .i64 x, .int .i64 y, .int .i64 p, .int .i64 u, .int .i64 v, .int .i64 s]] w fun e w' => ∃ gA, e = .returned (.slice (some ⟨gA, 0, none⟩) (u * v) (u * v)) ∧ w.heap.size ≤ gA ∧ NRw w' gA (u * v) (ivals (knownL es x y p u v)) ∧ Below w.heap.size w w' := by
  obtain ⟨A, cap, he, hce, -⟩ := id hv
  subst he
  have HV := Lib.hid hv
  have HI := Lib.hid hin
  obtain ⟨N, hN⟩ : ∃ N, es.length = N := ⟨_, rfl⟩
  have HN := Lib.hid hN
  rw [hN] at HV hl hce
  rw [hN]
  obtain ⟨M, hM⟩ : ∃ M, u * v = M := ⟨_, rfl⟩
  have hM1 : 1 ≤ M := by rw [← hM]; exact Nat.mul_pos hu.1 hv2.1
  have hM2 : M ≤ 576 := by rw [← hM]; exact Nat.mul_le_mul hu.2 hv2.2
  have hMw : IntKind.i64.wrap ((u : Int) * v) = (M : Int) := by rw [← Int.natCast_mul, hM]; exact wI (by omega) (by omega)
  have HM := Lib.hid hM
  rw [hM]
  clear hN hM hin hv
  go_enter Try.func13, Try.ntmps13
  go_wp2_with fail
  have HE0 := Lib.hid ((Blk.new w 26 [.slice A N cap] rfl).alloc (.cells #[.int .i64 x, .int .i64 y, .int .i64 p, .int .i64 u, .int .i64 v, .int .i64 s] 29))
  have HG0 := Lib.hid (Blk.new (w.alloc (.cells #[.slice A N cap] 26)) 29 [.int .i64 x, .int .i64 y, .int .i64 p, .int .i64 u, .int .i64 v, .int .i64 s] (g := w.heap.size + 1) (by simp))
  have HB0 := Lib.hid (alloc2 w (.cells #[.slice A N cap] 26) (.cells #[.int .i64 x, .int .i64 y, .int .i64 p, .int .i64 u, .int .i64 v, .int .i64 s] 29))
  generalize (w.alloc (.cells #[.slice A N cap] 26)).alloc (.cells #[.int .i64 x, .int .i64 y, .int .i64 p, .int .i64 u, .int .i64 v, .int .i64 s] 29) = w2 at *
  obtain ⟨i0, hi0, hz0, hz1, hz2⟩ := infos ninfo
  obtain ⟨wm, hr, hown, hg⟩ := run_make_full (P := Try.prog) w2 w2.heap.size 31 3 i0 _ 1 Try.underlying31 hi0 hz0 hz1 .i64 .i64 M (by rw [hz2]; omega) (by unfold maxLen; omega) (Nat.le_refl _)
  have Bm : Below w2.heap.size w2 wm := (Below.refl _ w2).grown hg (Nat.le_refl _) (fun q hq => by cases hq)
  have M0 : NRw wm w2.heap.size M (ivals (List.replicate M 0)) := by
    rw [show (Value.int IntKind.i64 0).cells = #[.int .i64 0] from rfl, Nat.mul_one, toList_madeCells_one] at hown
    rw [show ivals (List.replicate M 0) = List.replicate M (.int .i64 0) by simp [ivals]]; exact ⟨by simp, hown⟩
  have hal : Below wm.heap.size wm (wm.alloc (.cells #[.slice (some ⟨w2.heap.size, 0, none⟩) M M] 31)) := (Below.refl _ wm).alloc (Nat.le_refl _) _
  rw [hr]
  clear hown hg hi0 hz0 hz1 hz2 hr
  go_wp2_with fail
  have HK := Lib.hid (KSt.mk (w0 := w) ((HE0.out.keep Bm).keep hal) ((HG0.out.keep Bm).keep hal) (M0.keep hal) (Blk.new wm 31 [.slice (some ⟨w2.heap.size, 0, none⟩) M M] rfl) (below2 (below2 HB0.out Bm) hal) (by have := HB0.out.size; have := HE0.out.lt; have := HG0.out.lt; have := M0.lt; omega))
  clear hal Bm M0 HE0 HG0 HB0
  generalize wm.alloc (.cells #[.slice (some ⟨w2.heap.size, 0, none⟩) M M] 31) = w3 at *
  generalize w2.heap.size = gA at *
  generalize wm.heap.size = gT at *
  obtain ⟨gE, hgE⟩ : ∃ g, w.heap.size = g := ⟨_, rfl⟩
  have HgE := Lib.hid hgE
  rw [hgE] at HK ⊢
  generalize gE + 1 = gG at *
  clear hgE
  go_loopw [30, 6] (fun i _ wr => ∃ r : Nat, r ≤ M ∧ i = .int .i64 r ∧ Hid (KSt w wr (.slice A N cap) gE gG gA gT M x y p u v s (List.replicate r (-1) ++ List.replicate (M - r) 0))) (fun i _ _ => M - (intOf i).toNat)
  case atStart => exact ⟨0, Nat.zero_le _, rfl, HK⟩
  case round =>
    clear HK
    obtain ⟨r, hr, rfl, HK⟩ := hrel
    by_cases hrn : r < M
    · have hrb : decide ((r : Int) < M) = true := by simp; omega
      have HK2 := Lib.hid (HK.out.store r (-1))
      rw [fill_set r M (-1) 0 hrn] at HK2
      have ht0 := HK.out.t.cell 0 rfl
      obtain ⟨⟨x0, m0⟩, mf⟩ := HK.out.a.cell r hrn
      have ml := HK.out.a.lt
      clear HK
      go_wp2_with fail
      exact ⟨⟨r + 1, hrn, by go_num, HK2⟩, by simp [intOf]; omega⟩
    · have hre : r = M := by omega
      rw [hre, Nat.sub_self, List.replicate_zero, List.append_nil, show List.replicate M (-1) = seedTo es x y p u v 0 by unfold seedTo; rw [HM.out]] at HK
      clear hr hre
      have he0 := HK.out.e.cell 0 rfl
      go_wp2_with fail
      clear he0
      go_loopw [41] (fun i wr => ∃ z : Nat, z ≤ N ∧ i = .int .i64 z ∧ Hid (KSt w wr (.slice A N cap) gE gG gA gT M x y p u v s (seedTo es x y p u v z))) (fun i _ => N - (intOf i).toNat)
      case atStart => exact ⟨0, Nat.zero_le _, rfl, HK⟩
      case round =>
        clear HK
        obtain ⟨z, hz, rfl, HK⟩ := hrel
        by_cases hzn : z < N
        · have hzb : decide ((z : Int) < N) = true := by simp; omega
          obtain ⟨E, hE⟩ : ∃ c, es[z]? = some c := ⟨_, List.getElem?_eq_getElem (by rw [HN.out]; exact hzn)⟩
          obtain ⟨a, rfl, hae, e0, e1, e2, e3⟩ := (HV.out.keep HK.out.b).at z E hE
          have hgE : es.getD z edZ = E := by rw [List.getD_eq_getElem?_getD, hE]; rfl
          have hIE := HI.out E (List.mem_of_getElem? hE)
          have q0 : IntKind.i64.wrap (E.a.x + E.b.x) = E.a.x + E.b.x := wI (by have := hIE.1.1; have := hIE.2.1; omega) (by have := hIE.1.1; have := hIE.2.1; omega)
          have q1 : IntKind.i64.wrap (E.a.y + E.b.y) = E.a.y + E.b.y := wI (by have := hIE.1.2; have := hIE.2.2; omega) (by have := hIE.1.2; have := hIE.2.2; omega)
          have hp0 := ptE_in hIE 1
          unfold ptE at hp0
          rw [if_neg (by decide), if_pos rfl] at hp0
          have q2 : IntKind.i64.wrap ((E.a.x + E.b.x).tdiv 2) = (E.a.x + E.b.x).tdiv 2 := wI (by have := hp0.1; dsimp only at this; omega) (by have := hp0.1; dsimp only at this; omega)
          have q3 : IntKind.i64.wrap ((E.a.y + E.b.y).tdiv 2) = (E.a.y + E.b.y).tdiv 2 := wI (by have := hp0.2; dsimp only at this; omega) (by have := hp0.2; dsimp only at this; omega)
          clear hp0
          go_wp2_with fail
          have hal := alloc2 wr (.cells #[.int .i64 E.a.x, .int .i64 E.a.y, .int .i64 E.b.x, .int .i64 E.b.y] 50) (.cells #[.int .i64 E.a.x, .int .i64 E.a.y, .int .i64 ((E.a.x + E.b.x).tdiv 2), .int .i64 ((E.a.y + E.b.y).tdiv 2), .int .i64 E.b.x, .int .i64 E.b.y] 41)
          have HL := Lib.hid (Blk.new (wr.alloc (.cells #[.int .i64 E.a.x, .int .i64 E.a.y, .int .i64 E.b.x, .int .i64 E.b.y] 50)) 41 [.int .i64 E.a.x, .int .i64 E.a.y, .int .i64 ((E.a.x + E.b.x).tdiv 2), .int .i64 ((E.a.y + E.b.y).tdiv 2), .int .i64 E.b.x, .int .i64 E.b.y] (g := wr.heap.size + 1) (by simp))
          have HK3 := Lib.hid (HK.out.keep hal)
          have HLA := Lib.hid (show wr.heap.size + 1 ≠ gA by have := HK.out.a.lt; omega)
          have HIE := Lib.hid hIE
          clear hal q0 q1 q2 q3 HK e0 e1 e2 e3 hae hIE hE
          generalize (wr.alloc (.cells #[.int .i64 E.a.x, .int .i64 E.a.y, .int .i64 E.b.x, .int .i64 E.b.y] 50)).alloc (.cells #[.int .i64 E.a.x, .int .i64 E.a.y, .int .i64 ((E.a.x + E.b.x).tdiv 2), .int .i64 ((E.a.y + E.b.y).tdiv 2), .int .i64 E.b.x, .int .i64 E.b.y] 41) = w4 at *
          generalize wr.heap.size + 1 = gL at *
          generalize wr.heap.size = gX at *
          obtain ⟨pts, hpts⟩ : ∃ l, [Value.int .i64 E.a.x, .int .i64 E.a.y, .int .i64 ((E.a.x + E.b.x).tdiv 2), .int .i64 ((E.a.y + E.b.y).tdiv 2), .int .i64 E.b.x, .int .i64 E.b.y] = l := ⟨_, rfl⟩
          have HPC := Lib.hid (show ∀ j, j < 3 → pts[j * 2]? = some (.int .i64 (ptE E j).x) ∧ pts[j * 2 + 1]? = some (.int .i64 (ptE E j).y) by
            intro j hj
            subst hpts
            rcases (show j = 0 ∨ j = 1 ∨ j = 2 by omega) with rfl | rfl | rfl
            · exact ⟨rfl, rfl⟩
            · exact ⟨rfl, rfl⟩
            · exact ⟨rfl, rfl⟩)
          rw [hpts] at HL
          clear hpts
          go_loopw [69] (fun i wr => ∃ j : Nat, j ≤ 3 ∧ i = .int .i64 j ∧ Hid (KSt w wr (.slice (some a) N cap) gE gG gA gT M x y p u v s (seed3 es x y p u v (seedTo es x y p u v z) z j)) ∧ Hid (Blk wr gL 41 pts)) (fun i _ => 3 - (intOf i).toNat)
          case atStart => exact ⟨0, Nat.zero_le _, rfl, HK3, HL⟩
          case round =>
            clear HK3 HL
            obtain ⟨j, hj, rfl, HK, HL⟩ := hrel
            by_cases hj3 : j < 3
            · have hjb : decide ((j : Int) < 3) = true := by simp; omega
              obtain ⟨hc0, hc1⟩ := HPC.out j hj3
              have l0 := HL.out.cell (j * 2) hc0
              have l1 := HL.out.cell (j * 2 + 1) hc1
              have hXY := ptE_in HIE.out j
              obtain ⟨X, hX⟩ : ∃ X, (ptE E j).x = X := ⟨_, rfl⟩
              obtain ⟨Y, hY⟩ : ∃ X, (ptE E j).y = X := ⟨_, rfl⟩
              rw [hX] at l0 hXY
              rw [hY] at l1 hXY
              obtain ⟨i, hi⟩ : ∃ i, plS X x u p = i := ⟨_, rfl⟩
              obtain ⟨k, hk⟩ : ∃ k, plS Y y v p = k := ⟨_, rfl⟩
              have hiu : i < u := by rw [← hi]; exact plS_lt (by omega)
              have hkv : k < v := by rw [← hk]; exact plS_lt (by omega)
              have HP1 := Lib.hid (fun w h => lplace_any gG x y p s X x u v u w h (by omega) (by omega) (by omega) (by omega))
              have HP2 := Lib.hid (fun w h => lplace_any gG x y p s Y y u v v w h (by omega) (by omega) (by omega) (by omega))
              rw [hi] at HP1
              rw [hk] at HP2
              have HIK := Lib.hid (seed3_in es x y p u v (by omega) (by omega) (M := (N : Int)) (seedTo_len es x y p u v z) (seedTo_in es x y p u v (M := (N : Int)) (by omega) (by omega) (Int.natCast_nonneg _) z (Int.ofNat_le.2 hz)) (r := z) (Int.ofNat_lt.2 hzn) j)
              have HOF := Lib.hid (fun w hG hA hT hE hv => loffer_any gG gA gT gE i k (.slice (some a) N cap) es x y p s u v z (seed3 es x y p u v (seedTo es x y p u v z) z j) w hG hA hT hE hv HI.out hx hy hp hu.2 hv2.2 hiu hkv (by rw [HN.out]; omega) (by rw [HN.out]; exact HIK.out))
              have hS : seed3 es x y p u v (seedTo es x y p u v z) z (j + 1) = offerS es (cenS x y p u) (seed3 es x y p u v (seedTo es x y p u v z) z j) (k * u + i) z := by
                rw [show k * u + i = cellE x y p u v (es.getD z edZ) j by unfold cellE; rw [hgE, hX, hY, hi, hk]]
                rfl
              rw [← hS, HM.out] at HOF
              have hal : Below wr.heap.size wr (wr.alloc (.cells #[.int .i64 X, .int .i64 Y] 41)) := (Below.refl _ _).alloc (Nat.le_refl _) _
              have HP := Lib.hid (Blk.new wr 41 [.int .i64 X, .int .i64 Y] rfl)
              have HPA := Lib.hid (show wr.heap.size ≠ gA by have := HK.out.a.lt; omega)
              have HK4 := Lib.hid (HK.out.keep hal)
              have HL4 := Lib.hid (HL.out.keep hal)
              clear hc0 hc1 hX hY hi hk hS HIK hXY HK HL hal
              go_upto_region 15 with fail
              generalize wr.alloc (.cells #[.int .i64 X, .int .i64 Y] 41) = w5 at *
              generalize wr.heap.size = P at *
              have hd : Below w5.heap.size w5 w5.drew := (Below.refl _ w5).drew
              have AB := Below.refl w5.heap.size w5.drew
              replace HP := Lib.hid (HP.out.keep hd)
              replace HK4 := Lib.hid (HK4.out.keep hd)
              replace HL4 := Lib.hid (HL4.out.keep hd)
              clear hd
              refine wp_region_held_drew (S := fun wx => wx.cell? ⟨P, 0, none⟩ = some (.int .i64 X) ∧ wx.cell? ⟨P, 1, none⟩ = some (.int .i64 Y) ∧ wx.cell? ⟨gG, 0, none⟩ = some (.int .i64 x) ∧ wx.cell? ⟨gG, 1, none⟩ = some (.int .i64 y) ∧ wx.cell? ⟨gG, 3, none⟩ = some (.int .i64 u) ∧ wx.cell? ⟨gG, 4, none⟩ = some (.int .i64 v)) (by kernel_rfl) (⟨HP.out.cell 0 rfl, HP.out.cell 1 rfl, HK4.out.g.cell 0 rfl, HK4.out.g.cell 1 rfl, HK4.out.g.cell 3 rfl, HK4.out.g.cell 4 rfl⟩) (fun hHeld => ?_)
              refine wpAnyH_take (i := 0) (v := ?_) rfl (by kernel_rfl) (by kernel_rfl) (by kernel_rfl) (fun _ _ _ h => h) (Or.inl ⟨by rfl, ?_⟩) hHeld ?_
              rotate_left
              · intro w hSw
                (try dsimp only at hSw)
                (try simp only [List.getElem_toArray, List.getElem_cons_zero])
                go_simp
                all_goals with_reducible rfl
              try simp only [List.getElem_toArray, List.getElem_cons_zero, Act.put, List.setIfInBounds_toArray, List.set_cons_zero, List.set_cons_succ]
              refine wpAnyH_take (i := 1) (v := ?_) rfl (by kernel_rfl) (by kernel_rfl) (by kernel_rfl) (fun _ _ _ h => h) (Or.inl ⟨by rfl, ?_⟩) hHeld ?_
              rotate_left
              · intro w hSw
                (try dsimp only at hSw)
                (try simp only [List.getElem_toArray, List.getElem_cons_zero, List.getElem_cons_succ])
                go_simp
                all_goals with_reducible rfl
              try simp only [List.getElem_toArray, List.getElem_cons_zero, List.getElem_cons_succ, Act.put, List.setIfInBounds_toArray, List.set_cons_zero, List.set_cons_succ]
              refine wpAnyH_take (i := 2) (v := ?_) rfl (by kernel_rfl) (by kernel_rfl) (by kernel_rfl) (fun _ _ _ h => h) (Or.inl ⟨by rfl, ?_⟩) hHeld ?_
              rotate_left
              · intro w hSw
                (try dsimp only at hSw)
                (try simp only [List.getElem_toArray, List.getElem_cons_zero, List.getElem_cons_succ])
                go_simp
                all_goals with_reducible rfl
              try simp only [List.getElem_toArray, List.getElem_cons_zero, List.getElem_cons_succ, Act.put, List.setIfInBounds_toArray, List.set_cons_zero, List.set_cons_succ]
              refine wpAnyH_take (i := 3) (v := ?_) rfl (by kernel_rfl) (by kernel_rfl) (by kernel_rfl) (fun _ _ _ h => h) (Or.inl ⟨by rfl, ?_⟩) hHeld ?_
              rotate_left
              · intro w hSw
                (try dsimp only at hSw)
                (try simp only [List.getElem_toArray, List.getElem_cons_zero, List.getElem_cons_succ])
                go_simp
                all_goals with_reducible rfl
              try simp only [List.getElem_toArray, List.getElem_cons_zero, List.getElem_cons_succ, Act.put, List.setIfInBounds_toArray, List.set_cons_zero, List.set_cons_succ]
              refine wpAnyH_take (i := 4) (v := ?_) rfl (by kernel_rfl) (by kernel_rfl) (by kernel_rfl) (fun _ _ _ h => h) (Or.inl ⟨by rfl, ?_⟩) hHeld ?_
              rotate_left
              · intro w hSw
                (try dsimp only at hSw)
                (try simp only [List.getElem_toArray, List.getElem_cons_zero, List.getElem_cons_succ])
                go_simp
                all_goals with_reducible rfl
              try simp only [List.getElem_toArray, List.getElem_cons_zero, List.getElem_cons_succ, Act.put, List.setIfInBounds_toArray, List.set_cons_zero, List.set_cons_succ]
              refine wpAnyH_take (i := 5) (v := ?_) rfl (by kernel_rfl) (by kernel_rfl) (by kernel_rfl) (fun _ _ _ h => h) (Or.inl ⟨by rfl, ?_⟩) hHeld ?_
              rotate_left
              · intro w hSw
                (try dsimp only at hSw)
                (try simp only [List.getElem_toArray, List.getElem_cons_zero, List.getElem_cons_succ])
                go_simp
                all_goals with_reducible rfl
              try simp only [List.getElem_toArray, List.getElem_cons_zero, List.getElem_cons_succ, Act.put, List.setIfInBounds_toArray, List.set_cons_zero, List.set_cons_succ]
              refine wpAnyH_take (i := 6) (v := ?_) rfl (by kernel_rfl) (by kernel_rfl) (by kernel_rfl) (fun _ _ _ h => h) (Or.inl ⟨by rfl, ?_⟩) hHeld ?_
              rotate_left
              · intro w hSw
                (try dsimp only at hSw)
                (try simp only [List.getElem_toArray, List.getElem_cons_zero, List.getElem_cons_succ])
                go_simp
                all_goals with_reducible rfl
              try simp only [List.getElem_toArray, List.getElem_cons_zero, List.getElem_cons_succ, Act.put, List.setIfInBounds_toArray, List.set_cons_zero, List.set_cons_succ]
              refine wpAnyH_take (i := 7) (v := ?_) rfl (by kernel_rfl) (by kernel_rfl) (by kernel_rfl) (fun _ _ _ h => h) (Or.inl ⟨by rfl, ?_⟩) hHeld ?_
              rotate_left
              · intro w hSw
                (try dsimp only at hSw)
                (try simp only [List.getElem_toArray, List.getElem_cons_zero, List.getElem_cons_succ])
                go_simp
                all_goals with_reducible rfl
              try simp only [List.getElem_toArray, List.getElem_cons_zero, List.getElem_cons_succ, Act.put, List.setIfInBounds_toArray, List.set_cons_zero, List.set_cons_succ]
              refine wpAnyH_take (i := 9) (v := ?_) rfl (by kernel_rfl) (by kernel_rfl) (by kernel_rfl) (fun _ _ _ h => h) (Or.inl ⟨by rfl, ?_⟩) hHeld ?_
              rotate_left
              · intro w hSw
                (try dsimp only at hSw)
                (try simp only [List.getElem_toArray, List.getElem_cons_zero, List.getElem_cons_succ])
                go_simp
                all_goals with_reducible rfl
              try simp only [List.getElem_toArray, List.getElem_cons_zero, List.getElem_cons_succ, Act.put, List.setIfInBounds_toArray, List.set_cons_zero, List.set_cons_succ]
              refine wpAnyH_take (i := 10) (v := ?_) rfl (by kernel_rfl) (by kernel_rfl) (by kernel_rfl) (fun _ _ _ h => h) (Or.inl ⟨by rfl, ?_⟩) hHeld ?_
              rotate_left
              · intro w hSw
                (try dsimp only at hSw)
                (try simp only [List.getElem_toArray, List.getElem_cons_zero, List.getElem_cons_succ])
                go_simp
                all_goals with_reducible rfl
              try simp only [List.getElem_toArray, List.getElem_cons_zero, List.getElem_cons_succ, Act.put, List.setIfInBounds_toArray, List.set_cons_zero, List.set_cons_succ]
              refine wpAnyH_take (i := 11) (v := ?_) rfl (by kernel_rfl) (by kernel_rfl) (by kernel_rfl) (fun _ _ _ h => h) (Or.inl ⟨by rfl, ?_⟩) hHeld ?_
              rotate_left
              · intro w hSw
                (try dsimp only at hSw)
                (try simp only [List.getElem_toArray, List.getElem_cons_zero, List.getElem_cons_succ])
                go_simp
                all_goals with_reducible rfl
              try simp only [List.getElem_toArray, List.getElem_cons_zero, List.getElem_cons_succ, Act.put, List.setIfInBounds_toArray, List.set_cons_zero, List.set_cons_succ]
              refine wpAnyH_take (i := 12) (v := ?_) rfl (by kernel_rfl) (by kernel_rfl) (by kernel_rfl) (fun _ _ _ h => h) (Or.inl ⟨by rfl, ?_⟩) hHeld ?_
              rotate_left
              · intro w hSw
                (try dsimp only at hSw)
                (try simp only [List.getElem_toArray, List.getElem_cons_zero, List.getElem_cons_succ])
                go_simp
                all_goals with_reducible rfl
              try simp only [List.getElem_toArray, List.getElem_cons_zero, List.getElem_cons_succ, Act.put, List.setIfInBounds_toArray, List.set_cons_zero, List.set_cons_succ]
              refine wpAnyH_take (i := 13) (v := ?_) rfl (by kernel_rfl) (by kernel_rfl) (by kernel_rfl) (fun _ _ _ h => h) (Or.inl ⟨by rfl, ?_⟩) hHeld ?_
              rotate_left
              · intro w hSw
                (try dsimp only at hSw)
                (try simp only [List.getElem_toArray, List.getElem_cons_zero, List.getElem_cons_succ])
                go_simp
                all_goals with_reducible rfl
              try simp only [List.getElem_toArray, List.getElem_cons_zero, List.getElem_cons_succ, Act.put, List.setIfInBounds_toArray, List.set_cons_zero, List.set_cons_succ]
              refine wpAnyH_take (i := 14) (v := ?_) rfl (by kernel_rfl) (by kernel_rfl) (by kernel_rfl) (fun _ _ _ h => h) (Or.inl ⟨by rfl, ?_⟩) hHeld ?_
              rotate_left
              · intro w hSw
                (try dsimp only at hSw)
                (try simp only [List.getElem_toArray, List.getElem_cons_zero, List.getElem_cons_succ])
                go_simp
                all_goals with_reducible rfl
              try simp only [List.getElem_toArray, List.getElem_cons_zero, List.getElem_cons_succ, Act.put, List.setIfInBounds_toArray, List.set_cons_zero, List.set_cons_succ]
              refine wpAnyH_take (i := 15) (v := ?_) rfl (by kernel_rfl) (by kernel_rfl) (by kernel_rfl) (fun _ _ _ h => h) (Or.inl ⟨by rfl, ?_⟩) hHeld ?_
              rotate_left
              · intro w hSw
                (try dsimp only at hSw)
                (try simp only [List.getElem_toArray, List.getElem_cons_zero, List.getElem_cons_succ])
                go_simp
                all_goals with_reducible rfl
              try simp only [List.getElem_toArray, List.getElem_cons_zero, List.getElem_cons_succ, Act.put, List.setIfInBounds_toArray, List.set_cons_zero, List.set_cons_succ]
              refine wpAnyH_take (i := 17) (v := ?_) rfl (by kernel_rfl) (by kernel_rfl) (by kernel_rfl) (fun _ _ _ h => h) (Or.inl ⟨by rfl, ?_⟩) hHeld ?_
              rotate_left
              · intro w hSw
                (try dsimp only at hSw)
                (try simp only [List.getElem_toArray, List.getElem_cons_zero, List.getElem_cons_succ])
                go_simp
                all_goals with_reducible rfl
              try simp only [List.getElem_toArray, List.getElem_cons_zero, List.getElem_cons_succ, Act.put, List.setIfInBounds_toArray, List.set_cons_zero, List.set_cons_succ]
              refine wpAnyH_ready (rs := [8]) (by kernel_rfl) (by simp) ?_
              refine AllReadyH.cons rfl (fun K hK => ?_) AllReadyH.nil
              try simp only [List.getElem_toArray, List.getElem_cons_zero, List.getElem_cons_succ]
              go_simp
              refine (HP1.out _ HK4.out.g).mono ?_
              rintro e wn ⟨rfl, hbn⟩
              have AB := AB.trans (hbn.mono (AB.size))
              replace HK4 := Lib.hid (HK4.out.keep hbn)
              replace HP := Lib.hid (HP.out.keep hbn)
              replace HL4 := Lib.hid (HL4.out.keep hbn)
              clear hbn
              go_wp2_with fail
              refine hK.out _ _ (⟨HP.out.cell 0 rfl, HP.out.cell 1 rfl, HK4.out.g.cell 0 rfl, HK4.out.g.cell 1 rfl, HK4.out.g.cell 3 rfl, HK4.out.g.cell 4 rfl⟩) (fun hHeld => ?_)
              clear hK K
              try simp only [List.getElem_toArray, List.getElem_cons_zero, List.getElem_cons_succ, Act.put, List.setIfInBounds_toArray, List.set_cons_zero, List.set_cons_succ]
              refine wpAnyH_ready (rs := [16]) (by kernel_rfl) (by simp) ?_
              refine AllReadyH.cons rfl (fun K hK => ?_) AllReadyH.nil
              try simp only [List.getElem_toArray, List.getElem_cons_zero, List.getElem_cons_succ]
              go_simp
              refine (HP2.out _ HK4.out.g).mono ?_
              rintro e wn ⟨rfl, hbn⟩
              have AB := AB.trans (hbn.mono (AB.size))
              replace HK4 := Lib.hid (HK4.out.keep hbn)
              replace HP := Lib.hid (HP.out.keep hbn)
              replace HL4 := Lib.hid (HL4.out.keep hbn)
              clear hbn
              go_wp2_with fail
              refine hK.out _ _ (⟨HP.out.cell 0 rfl, HP.out.cell 1 rfl, HK4.out.g.cell 0 rfl, HK4.out.g.cell 1 rfl, HK4.out.g.cell 3 rfl, HK4.out.g.cell 4 rfl⟩) (fun hHeld => ?_)
              clear hK K
              try simp only [List.getElem_toArray, List.getElem_cons_zero, List.getElem_cons_succ, Act.put, List.setIfInBounds_toArray, List.set_cons_zero, List.set_cons_succ]
              refine wpAnyH_ready (rs := [18]) (by kernel_rfl) (by simp) ?_
              refine AllReadyH.cons rfl (fun K hK => ?_) AllReadyH.nil
              try simp only [List.getElem_toArray, List.getElem_cons_zero, List.getElem_cons_succ]
              go_simp
              refine (HOF.out _ HK4.out.g HK4.out.a HK4.out.t HK4.out.e (HV.out.keep HK4.out.b)).mono ?_
              rintro r wn ⟨⟨V, rfl⟩, hA, hBt⟩
              have HP := Lib.hid (HP.out.but hBt HPA.out)
              have HL4 := Lib.hid (HL4.out.but hBt HLA.out)
              have HK4 := Lib.hid (HK4.out.but hBt hA)
              clear hA hBt
              go_wp2_with fail
              refine hK.out _ _ (⟨HP.out.cell 0 rfl, HP.out.cell 1 rfl, HK4.out.g.cell 0 rfl, HK4.out.g.cell 1 rfl, HK4.out.g.cell 3 rfl, HK4.out.g.cell 4 rfl⟩) (fun hHeld => ?_)
              clear hK K
              try simp only [List.getElem_toArray, List.getElem_cons_zero, List.getElem_cons_succ, Act.put, List.setIfInBounds_toArray, List.set_cons_zero, List.set_cons_succ]
              refine wpAnyH_done (by kernel_rfl) ?_ _
              clear HP1 HP2 HOF HP HPA
              go_wp2_with fail
              exact ⟨⟨j + 1, hj3, by go_num, HK4, HL4⟩, by simp [intOf]; omega⟩
            · have hje : j = 3 := by omega
              rw [hje] at HK
              clear hje hj
              go_wp2_with fail
              exact ⟨⟨z + 1, hzn, by go_num, HK⟩, by simp [intOf]; omega⟩
        · have hze : z = N := by omega
          rw [hze] at HK
          have HK : Hid (KSt w wr (.slice A N cap) gE gG gA gT M x y p u v s (passS es x y p u v 0)) := by rw [← HN.out] at HK ⊢; exact HK
          clear hz hze
          go_wp2_with fail
          go_loopw [13] (fun i wr => ∃ q : Nat, q ≤ 2 ∧ i = .int .i64 q ∧ Hid (KSt w wr (.slice A N cap) gE gG gA gT M x y p u v s (passS es x y p u v q))) (fun i _ => 2 - (intOf i).toNat)
          case atStart => exact ⟨0, Nat.zero_le _, rfl, HK⟩
          case round =>
            clear HK
            obtain ⟨q, hq, rfl, HK⟩ := hrel
            by_cases hq2 : q < 2
            · have hqb : decide ((q : Int) < 2) = true := by simp; omega
              have ht0 := HK.out.t.cell 0 rfl
              go_wp2_with fail
              clear ht0
              go_loopw [100] (fun i wr => ∃ n : Nat, n ≤ M ∧ i = .int .i64 n ∧ Hid (KSt w wr (.slice A N cap) gE gG gA gT M x y p u v s (passTo es x y p u v (if q = 0 then 1 else -1) (passS es x y p u v q) n))) (fun i _ => M - (intOf i).toNat)
              case atStart => exact ⟨0, Nat.zero_le _, rfl, HK⟩
              case round =>
                clear HK
                obtain ⟨n, hn, rfl, HK⟩ := hrel
                by_cases hnM : n < M
                · have hnb : decide ((n : Int) < M) = true := by simp; omega
                  have ht0 := HK.out.t.cell 0 rfl
                  have hg3 := HK.out.g.cell 3 rfl
                  obtain ⟨d, hd⟩ : ∃ d : Int, (if q = 0 then (1 : Int) else -1) = d := ⟨_, rfl⟩
                  rw [hd] at HK ⊢
                  obtain ⟨m, hm⟩ : ∃ m, texP u v d n = m := ⟨_, rfl⟩
                  have hmM : m < u * v := by rw [← hm]; exact texP_lt u v _ (by rw [HM.out]; exact hnM)
                  have hm1 : q = 1 → d = -1 ∧ IntKind.i64.wrap ((M : Int) - 1) = M - 1 ∧ IntKind.i64.wrap ((M : Int) - 1 - (n : Int)) = (m : Int) := fun h => by
                    have hd1 : d = -1 := by rw [← hd, h]; rfl
                    refine ⟨hd1, wI (by omega) (by omega), ?_⟩
                    rw [wI (by omega) (by omega), ← hm, hd1]
                    unfold texP
                    rw [if_neg (by decide), HM.out]
                    omega
                  have hm0 : q = 0 → d = 1 ∧ n = m := fun h => by
                    have hd1 : d = 1 := by rw [← hd, h]; rfl
                    refine ⟨hd1, ?_⟩
                    rw [← hm, hd1]
                    unfold texP
                    rw [if_pos rfl]
                  obtain ⟨i, hi⟩ : ∃ i, m % u = i := ⟨_, rfl⟩
                  obtain ⟨k, hk⟩ : ∃ i, m / u = i := ⟨_, rfl⟩
                  have hiw : (m : Int).tmod u = (i : Int) := by rw [Int.tmod_eq_emod_of_nonneg (by omega), ← hi]; rfl
                  have hkw : (m : Int).tdiv u = (k : Int) := by rw [Int.tdiv_eq_ediv_of_nonneg (by omega), ← hk]; rfl
                  have hiu : i < u := by rw [← hi]; exact Nat.mod_lt _ (by omega)
                  have hkv : k < v := by rw [← hk]; exact Nat.div_lt_of_lt_mul hmM
                  have hkw2 : IntKind.i64.wrap (k : Int) = k := wI (by omega) (by omega)
                  have hu0 : ((u : Int) == 0) = false := by simp; omega
                  have hST : passTo es x y p u v d (passS es x y p u v q) (n + 1) = near4 es x y p u v d (passTo es x y p u v d (passS es x y p u v q) n) m 4 := by rw [← hm]; rfl
                  have HLN := Lib.hid (show (passTo es x y p u v d (passS es x y p u v q) n).length = u * v by rw [passTo_len, passS_len])
                  have HIN := Lib.hid (passTo_in es x y p u v d (passS_len es x y p u v q) (passS_in es x y p u v (by omega) (by omega) q) n (by rw [HM.out]; omega))
                  rw [HN.out] at HIN
                  generalize passTo es x y p u v d (passS es x y p u v q) n = st at *
                  rcases (show q = 0 ∨ q = 1 by omega) with rfl | rfl
                  · obtain ⟨rfl, hmn⟩ := hm0 rfl
                    clear hm0 hm1
                    subst hmn
                    go_wp2_with fail
                    go_region
                    go_wp2_with fail
                    have hal : Below wr.heap.size wr (wr.alloc (.cells #[.int .i64 (-1), .int .i64 0, .int .i64 0, .int .i64 (-1), .int .i64 (-1), .int .i64 (-1), .int .i64 1, .int .i64 (-1)] 79)).drew := ((Below.refl _ _).alloc (Nat.le_refl _) _).drew
                    have HW := Lib.hid (Blk.new wr 79 [.int .i64 (-1), .int .i64 0, .int .i64 0, .int .i64 (-1), .int .i64 (-1), .int .i64 (-1), .int .i64 1, .int .i64 (-1)] rfl).drew
                    have HK4 := Lib.hid (HK.out.keep hal)
                    have HWA := Lib.hid (show wr.heap.size ≠ gA by have := HK.out.a.lt; omega)
                    clear hal HK ht0 hg3
                    generalize (wr.alloc (.cells #[.int .i64 (-1), .int .i64 0, .int .i64 0, .int .i64 (-1), .int .i64 (-1), .int .i64 (-1), .int .i64 1, .int .i64 (-1)] 79)).drew = w5 at *
                    generalize wr.heap.size = gW at *
                    obtain ⟨ws, hws⟩ : ∃ l, [Value.int .i64 (-1), .int .i64 0, .int .i64 0, .int .i64 (-1), .int .i64 (-1), .int .i64 (-1), .int .i64 1, .int .i64 (-1)] = l := ⟨_, rfl⟩
                    have HWC := Lib.hid (show ∀ j, j < 4 → ws[j * 2]? = some (.int .i64 (wx 1 j)) ∧ ws[j * 2 + 1]? = some (.int .i64 (wy 1 j)) by
                      intro j hj
                      subst hws
                      rcases (show j = 0 ∨ j = 1 ∨ j = 2 ∨ j = 3 by omega) with rfl | rfl | rfl | rfl
                      · exact ⟨rfl, rfl⟩
                      · exact ⟨rfl, rfl⟩
                      · exact ⟨rfl, rfl⟩
                      · exact ⟨rfl, rfl⟩)
                    rw [hws] at HW
                    clear hws
                    go_loopw [135] (fun i wr => ∃ j : Nat, j ≤ 4 ∧ i = .int .i64 j ∧ Hid (KSt w wr (.slice A N cap) gE gG gA gT M x y p u v s (near4 es x y p u v 1 st n j)) ∧ Hid (Blk wr gW 79 ws)) (fun i _ => 4 - (intOf i).toNat)
                    case atStart => exact ⟨0, Nat.zero_le _, rfl, HK4, HW⟩
                    case round =>
                      clear HK4 HW
                      obtain ⟨j, hj, rfl, HK, HW⟩ := hrel
                      by_cases hj4 : j < 4
                      · have hjb : decide ((j : Int) < 4) = true := by simp; omega
                        obtain ⟨hc0, hc1⟩ := HWC.out j hj4
                        have l0 := HW.out.cell (j * 2) hc0
                        have l1 := HW.out.cell (j * 2 + 1) hc1
                        have hX : -1 ≤ wx 1 j ∧ wx 1 j ≤ 1 := by unfold wx; split <;> (try split) <;> omega
                        have hY : -1 ≤ wy 1 j ∧ wy 1 j ≤ 1 := by unfold wy; split <;> omega
                        obtain ⟨X, hX0⟩ : ∃ X, wx 1 j = X := ⟨_, rfl⟩
                        obtain ⟨Y, hY0⟩ : ∃ X, wy 1 j = X := ⟨_, rfl⟩
                        rw [hX0] at l0 hX
                        rw [hY0] at l1 hY
                        obtain ⟨xx, hxx⟩ : ∃ z, (i : Int) + X = z := ⟨_, rfl⟩
                        obtain ⟨yy, hyy⟩ : ∃ z, (k : Int) + Y = z := ⟨_, rfl⟩
                        have hxw : IntKind.i64.wrap ((i : Int) + X) = xx := by rw [← hxx]; exact wI (by omega) (by omega)
                        have hyw : IntKind.i64.wrap ((k : Int) + Y) = yy := by rw [← hyy]; exact wI (by omega) (by omega)
                        go_wp2_with fail
                        have hal : Below wr.heap.size wr (wr.alloc (.cells #[.int .i64 X, .int .i64 Y] 79)) := (Below.refl _ _).alloc (Nat.le_refl _) _
                        have HQ := Blk.new wr 79 [.int .i64 X, .int .i64 Y] rfl
                        have HK5 := Lib.hid ((HK.out.keep hal))
                        have HW5 := Lib.hid ((HW.out.keep hal))
                        have q0 := HQ.cell 0 rfl
                        have q1 := HQ.cell 1 rfl
                        clear hal HK HW l0 l1 hc0 hc1
                        generalize wr.alloc (.cells #[.int .i64 X, .int .i64 Y] 79) = w6 at *
                        generalize wr.heap.size = Q at *
                        go_region
                        by_cases hc : ((0 ≤ xx ∧ 0 ≤ yy) ∧ xx < u) ∧ yy < v
                        · obtain ⟨⟨⟨z0, z1⟩, z2⟩, z3⟩ := hc
                          have z0b : decide (0 ≤ xx) = true := by simpa using z0
                          have z1b : decide (0 ≤ yy) = true := by simpa using z1
                          have z2b : decide (xx < (u : Int)) = true := by simpa using z2
                          have z3b : decide (yy < (v : Int)) = true := by simpa using z3
                          have g3 := HK5.out.g.cell 3 rfl
                          have g4 := HK5.out.g.cell 4 rfl
                          go_upto_region 33 with fail
                          have hd : Below w6.heap.size w6 w6.drew := (Below.refl _ _).drew
                          replace HK5 := Lib.hid (HK5.out.keep hd)
                          replace HW5 := Lib.hid (HW5.out.keep hd)
                          clear hd g3 g4 z0b z1b z2b z3b q0 q1 hxw hyw
                          generalize w6.drew = w7 at *
                          obtain ⟨xn, rfl⟩ : ∃ q : Nat, xx = q := ⟨xx.toNat, by omega⟩
                          obtain ⟨yn, rfl⟩ : ∃ q : Nat, yy = q := ⟨yy.toNat, by omega⟩
                          have hnb := nbr_of (u := u) (v := v) (n := n) (j := j) (a := xn) (b := yn) (d := 1) (by rw [hi, hX0]; exact hxx) (by rw [hk, hY0]; exact hyy) (by omega) (by omega)
                          have hnM0 : n < u * v := hmM
                          have hmM2 := nbr_lt hnb
                          rw [HM.out] at hmM2
                          have hnext : near4 es x y p u v 1 st n (j + 1) = offerS es (cenS x y p u) (near4 es x y p u v 1 st n j) n (knS (near4 es x y p u v 1 st n j) (yn * u + xn)) := by
                            rw [show near4 es x y p u v 1 st n (j + 1) = (match nbr u v 1 n j with
                              | some m0 => offerS es (cenS x y p u) (near4 es x y p u v 1 st n j) n (knS (near4 es x y p u v 1 st n j) m0)
                              | none => near4 es x y p u v 1 st n j) from rfl, hnb]
                          have hkn : k * u + i = n := by
                            rw [← hi, ← hk, Nat.mul_comm]
                            exact Nat.div_add_mod _ _
                          have HI4 := near4_in es x y p u v 1 HLN.out HIN.out hnM0 j
                          obtain ⟨zz, hzz⟩ : ∃ q, yn * u = q := ⟨_, rfl⟩
                          have hzw : IntKind.i64.wrap ((yn : Int) * u) = (zz : Int) := by rw [← Int.natCast_mul, hzz]; exact wI (by omega) (by omega)
                          rw [hzz] at hmM2 hnext
                          obtain ⟨mm, hmm⟩ : ∃ q, zz + xn = q := ⟨_, rfl⟩
                          have hmw : IntKind.i64.wrap ((zz : Int) + xn) = (mm : Int) := by rw [← hmm, Int.natCast_add]; exact wI (by omega) (by omega)
                          rw [hmm] at hmM2 hnext
                          have hcell := (HK5.out.a.val mm hmM2).1
                          have HOF := Lib.hid (fun e0 he w hG hA hT hE hv => loffer_any gG gA gT gE i k (.slice A N cap) es x y p s u v e0 (near4 es x y p u v 1 st n j) w hG hA hT hE hv HI.out hx hy hp hu.2 hv2.2 hiu hkv he (by rw [HN.out]; exact HI4))
                          rw [hkn, HM.out, HN.out] at HOF
                          have HEN := HI4 mm
                          generalize knS (near4 es x y p u v 1 st n j) mm = ee at *
                          replace HOF := Lib.hid (HOF.out ee HEN.2)
                          rw [← hnext] at HOF
                          have g3 := HK5.out.g.cell 3 rfl
                          have ht0 := HK5.out.t.cell 0 rfl
                          clear HI4 hnext hkn hnb hnM0 hzz hmm HEN hX0 hY0 hxx hyy HWC z0 z1 z2 z3 hX hY
                          go_wp2_with fail
                          refine (HOF.out _ HK5.out.g HK5.out.a HK5.out.t HK5.out.e (HV.out.keep HK5.out.b)).mono ?_
                          rintro r0 wn ⟨⟨V, rfl⟩, hA, hBt⟩
                          have HW6 := Lib.hid (HW5.out.but hBt HWA.out)
                          have HK6 := Lib.hid (HK5.out.but hBt hA)
                          clear hA hBt HOF HK5 HW5 g3 ht0 hcell
                          go_wp2_with fail
                          first
                            | exact ⟨⟨j + 1, hj4, by go_num, HK6, HW6⟩, by simp [intOf]; omega⟩
                            | (refine ⟨?_, ?_⟩
                               rotate_left
                               · show 4 - (intOf (.int .i64 ((j : Int) + 1))).toNat < 4 - (intOf (.int .i64 (j : Int))).toNat
                                 simp [intOf]
                                 omega
                               repeat apply Exists.intro
                               refine ⟨?_, rfl⟩
                               exact ⟨j + 1, hj4, by go_num, HK6, HW6⟩)
                        · have hnone : nbr u v 1 n j = none := by
                            unfold nbr
                            rw [hi, hk, hX0, hY0, hxx, hyy, if_neg (fun h => hc ⟨⟨⟨h.1, h.2.1⟩, h.2.2.1⟩, h.2.2.2⟩)]
                          have hnext : near4 es x y p u v 1 st n (j + 1) = near4 es x y p u v 1 st n j := by
                            rw [show near4 es x y p u v 1 st n (j + 1) = (match nbr u v 1 n j with
                              | some m0 => offerS es (cenS x y p u) (near4 es x y p u v 1 st n j) n (knS (near4 es x y p u v 1 st n j) m0)
                              | none => near4 es x y p u v 1 st n j) from rfl, hnone]
                          have hd : Below w6.heap.size w6 w6.drew := (Below.refl _ _).drew
                          rw [← hnext] at HK5
                          replace HK5 := Lib.hid (HK5.out.keep hd)
                          replace HW5 := Lib.hid (HW5.out.keep hd)
                          have g3 := HK5.out.g.cell 3 rfl
                          have g4 := HK5.out.g.cell 4 rfl
                          clear hd hnone hnext hX0 hY0 hxx hyy hxw hyw q0 q1 HWC
                          generalize w6.drew = w7 at *
                          by_cases z0 : 0 ≤ xx
                          · have z0b : decide (0 ≤ xx) = true := by simpa using z0
                            by_cases z1 : 0 ≤ yy
                            · have z1b : decide (0 ≤ yy) = true := by simpa using z1
                              by_cases z2 : xx < (u : Int)
                              · have z2b : decide (xx < (u : Int)) = true := by simpa using z2
                                have z3b : decide (yy < (v : Int)) = false := by simp; omega
                                clear hc z0 z1 z2
                                go_wp2_with fail
                                first
                                  | exact ⟨⟨j + 1, hj4, by go_num, HK5, HW5⟩, by simp [intOf]; omega⟩
                                  | (refine ⟨?_, ?_⟩
                                     rotate_left
                                     · show 4 - (intOf (.int .i64 ((j : Int) + 1))).toNat < 4 - (intOf (.int .i64 (j : Int))).toNat
                                       simp [intOf]
                                       omega
                                     repeat apply Exists.intro
                                     refine ⟨?_, rfl⟩
                                     exact ⟨j + 1, hj4, by go_num, HK5, HW5⟩)
                              · have z2b : decide (xx < (u : Int)) = false := by simp; omega
                                clear hc z0 z1 z2
                                go_wp2_with fail
                                first
                                  | exact ⟨⟨j + 1, hj4, by go_num, HK5, HW5⟩, by simp [intOf]; omega⟩
                                  | (refine ⟨?_, ?_⟩
                                     rotate_left
                                     · show 4 - (intOf (.int .i64 ((j : Int) + 1))).toNat < 4 - (intOf (.int .i64 (j : Int))).toNat
                                       simp [intOf]
                                       omega
                                     repeat apply Exists.intro
                                     refine ⟨?_, rfl⟩
                                     exact ⟨j + 1, hj4, by go_num, HK5, HW5⟩)
                            · have z1b : decide (0 ≤ yy) = false := by simp; omega
                              clear hc z0 z1
                              go_wp2_with fail
                              first
                                | exact ⟨⟨j + 1, hj4, by go_num, HK5, HW5⟩, by simp [intOf]; omega⟩
                                | (refine ⟨?_, ?_⟩
                                   rotate_left
                                   · show 4 - (intOf (.int .i64 ((j : Int) + 1))).toNat < 4 - (intOf (.int .i64 (j : Int))).toNat
                                     simp [intOf]
                                     omega
                                   repeat apply Exists.intro
                                   refine ⟨?_, rfl⟩
                                   exact ⟨j + 1, hj4, by go_num, HK5, HW5⟩)
                          · have z0b : decide (0 ≤ xx) = false := by simp; omega
                            clear hc z0
                            go_wp2_with fail
                            first
                              | exact ⟨⟨j + 1, hj4, by go_num, HK5, HW5⟩, by simp [intOf]; omega⟩
                              | (refine ⟨?_, ?_⟩
                                 rotate_left
                                 · show 4 - (intOf (.int .i64 ((j : Int) + 1))).toNat < 4 - (intOf (.int .i64 (j : Int))).toNat
                                   simp [intOf]
                                   omega
                                 repeat apply Exists.intro
                                 refine ⟨?_, rfl⟩
                                 exact ⟨j + 1, hj4, by go_num, HK5, HW5⟩)
                      · have hje : j = 4 := by omega
                        rw [hje, ← hST] at HK
                        clear hje hj
                        go_wp2_with fail
                        first
                          | exact ⟨⟨n + 1, hnM, by go_num, HK⟩, by simp [intOf]; omega⟩
                          | (refine ⟨?_, ?_⟩
                             rotate_left
                             · show M - (intOf (.int .i64 ((n : Int) + 1))).toNat < M - (intOf (.int .i64 (n : Int))).toNat
                               simp [intOf]
                               omega
                             repeat apply Exists.intro
                             refine ⟨?_, rfl⟩
                             exact ⟨n + 1, hnM, by go_num, HK⟩)
                  · obtain ⟨rfl, hm2, hm3⟩ := hm1 rfl
                    clear hm0 hm1
                    go_wp2_with fail
                    go_region
                    go_wp2_with fail
                    have hal : Below wr.heap.size wr (wr.alloc (.cells #[.int .i64 1, .int .i64 0, .int .i64 0, .int .i64 1, .int .i64 1, .int .i64 1, .int .i64 (-1), .int .i64 1] 79)).drew := ((Below.refl _ _).alloc (Nat.le_refl _) _).drew
                    have HW := Lib.hid (Blk.new wr 79 [.int .i64 1, .int .i64 0, .int .i64 0, .int .i64 1, .int .i64 1, .int .i64 1, .int .i64 (-1), .int .i64 1] rfl).drew
                    have HK4 := Lib.hid (HK.out.keep hal)
                    have HWA := Lib.hid (show wr.heap.size ≠ gA by have := HK.out.a.lt; omega)
                    clear hal HK ht0 hg3
                    generalize (wr.alloc (.cells #[.int .i64 1, .int .i64 0, .int .i64 0, .int .i64 1, .int .i64 1, .int .i64 1, .int .i64 (-1), .int .i64 1] 79)).drew = w5 at *
                    generalize wr.heap.size = gW at *
                    obtain ⟨ws, hws⟩ : ∃ l, [Value.int .i64 1, .int .i64 0, .int .i64 0, .int .i64 1, .int .i64 1, .int .i64 1, .int .i64 (-1), .int .i64 1] = l := ⟨_, rfl⟩
                    have HWC := Lib.hid (show ∀ j, j < 4 → ws[j * 2]? = some (.int .i64 (wx (-1) j)) ∧ ws[j * 2 + 1]? = some (.int .i64 (wy (-1) j)) by
                      intro j hj
                      subst hws
                      rcases (show j = 0 ∨ j = 1 ∨ j = 2 ∨ j = 3 by omega) with rfl | rfl | rfl | rfl
                      · exact ⟨rfl, rfl⟩
                      · exact ⟨rfl, rfl⟩
                      · exact ⟨rfl, rfl⟩
                      · exact ⟨rfl, rfl⟩)
                    rw [hws] at HW
                    clear hws
                    go_loopw [135] (fun i wr => ∃ j : Nat, j ≤ 4 ∧ i = .int .i64 j ∧ Hid (KSt w wr (.slice A N cap) gE gG gA gT M x y p u v s (near4 es x y p u v (-1) st m j)) ∧ Hid (Blk wr gW 79 ws)) (fun i _ => 4 - (intOf i).toNat)
                    case atStart => exact ⟨0, Nat.zero_le _, rfl, HK4, HW⟩
                    case round =>
                      clear HK4 HW
                      obtain ⟨j, hj, rfl, HK, HW⟩ := hrel
                      by_cases hj4 : j < 4
                      · have hjb : decide ((j : Int) < 4) = true := by simp; omega
                        obtain ⟨hc0, hc1⟩ := HWC.out j hj4
                        have l0 := HW.out.cell (j * 2) hc0
                        have l1 := HW.out.cell (j * 2 + 1) hc1
                        have hX : -1 ≤ wx (-1) j ∧ wx (-1) j ≤ 1 := by unfold wx; split <;> (try split) <;> omega
                        have hY : -1 ≤ wy (-1) j ∧ wy (-1) j ≤ 1 := by unfold wy; split <;> omega
                        obtain ⟨X, hX0⟩ : ∃ X, wx (-1) j = X := ⟨_, rfl⟩
                        obtain ⟨Y, hY0⟩ : ∃ X, wy (-1) j = X := ⟨_, rfl⟩
                        rw [hX0] at l0 hX
                        rw [hY0] at l1 hY
                        obtain ⟨xx, hxx⟩ : ∃ z, (i : Int) + X = z := ⟨_, rfl⟩
                        obtain ⟨yy, hyy⟩ : ∃ z, (k : Int) + Y = z := ⟨_, rfl⟩
                        have hxw : IntKind.i64.wrap ((i : Int) + X) = xx := by rw [← hxx]; exact wI (by omega) (by omega)
                        have hyw : IntKind.i64.wrap ((k : Int) + Y) = yy := by rw [← hyy]; exact wI (by omega) (by omega)
                        go_wp2_with fail
                        have hal : Below wr.heap.size wr (wr.alloc (.cells #[.int .i64 X, .int .i64 Y] 79)) := (Below.refl _ _).alloc (Nat.le_refl _) _
                        have HQ := Blk.new wr 79 [.int .i64 X, .int .i64 Y] rfl
                        have HK5 := Lib.hid ((HK.out.keep hal))
                        have HW5 := Lib.hid ((HW.out.keep hal))
                        have q0 := HQ.cell 0 rfl
                        have q1 := HQ.cell 1 rfl
                        clear hal HK HW l0 l1 hc0 hc1
                        generalize wr.alloc (.cells #[.int .i64 X, .int .i64 Y] 79) = w6 at *
                        generalize wr.heap.size = Q at *
                        go_region
                        by_cases hc : ((0 ≤ xx ∧ 0 ≤ yy) ∧ xx < u) ∧ yy < v
                        · obtain ⟨⟨⟨z0, z1⟩, z2⟩, z3⟩ := hc
                          have z0b : decide (0 ≤ xx) = true := by simpa using z0
                          have z1b : decide (0 ≤ yy) = true := by simpa using z1
                          have z2b : decide (xx < (u : Int)) = true := by simpa using z2
                          have z3b : decide (yy < (v : Int)) = true := by simpa using z3
                          have g3 := HK5.out.g.cell 3 rfl
                          have g4 := HK5.out.g.cell 4 rfl
                          go_upto_region 33 with fail
                          have hd : Below w6.heap.size w6 w6.drew := (Below.refl _ _).drew
                          replace HK5 := Lib.hid (HK5.out.keep hd)
                          replace HW5 := Lib.hid (HW5.out.keep hd)
                          clear hd g3 g4 z0b z1b z2b z3b q0 q1 hxw hyw
                          generalize w6.drew = w7 at *
                          obtain ⟨xn, rfl⟩ : ∃ q : Nat, xx = q := ⟨xx.toNat, by omega⟩
                          obtain ⟨yn, rfl⟩ : ∃ q : Nat, yy = q := ⟨yy.toNat, by omega⟩
                          have hnb := nbr_of (u := u) (v := v) (n := m) (j := j) (a := xn) (b := yn) (d := (-1)) (by rw [hi, hX0]; exact hxx) (by rw [hk, hY0]; exact hyy) (by omega) (by omega)
                          have hnM0 : m < u * v := hmM
                          have hmM2 := nbr_lt hnb
                          rw [HM.out] at hmM2
                          have hnext : near4 es x y p u v (-1) st m (j + 1) = offerS es (cenS x y p u) (near4 es x y p u v (-1) st m j) m (knS (near4 es x y p u v (-1) st m j) (yn * u + xn)) := by
                            rw [show near4 es x y p u v (-1) st m (j + 1) = (match nbr u v (-1) m j with
                              | some m0 => offerS es (cenS x y p u) (near4 es x y p u v (-1) st m j) m (knS (near4 es x y p u v (-1) st m j) m0)
                              | none => near4 es x y p u v (-1) st m j) from rfl, hnb]
                          have hkn : k * u + i = m := by
                            rw [← hi, ← hk, Nat.mul_comm]
                            exact Nat.div_add_mod _ _
                          have HI4 := near4_in es x y p u v (-1) HLN.out HIN.out hnM0 j
                          obtain ⟨zz, hzz⟩ : ∃ q, yn * u = q := ⟨_, rfl⟩
                          have hzw : IntKind.i64.wrap ((yn : Int) * u) = (zz : Int) := by rw [← Int.natCast_mul, hzz]; exact wI (by omega) (by omega)
                          rw [hzz] at hmM2 hnext
                          obtain ⟨mm, hmm⟩ : ∃ q, zz + xn = q := ⟨_, rfl⟩
                          have hmw : IntKind.i64.wrap ((zz : Int) + xn) = (mm : Int) := by rw [← hmm, Int.natCast_add]; exact wI (by omega) (by omega)
                          rw [hmm] at hmM2 hnext
                          have hcell := (HK5.out.a.val mm hmM2).1
                          have HOF := Lib.hid (fun e0 he w hG hA hT hE hv => loffer_any gG gA gT gE i k (.slice A N cap) es x y p s u v e0 (near4 es x y p u v (-1) st m j) w hG hA hT hE hv HI.out hx hy hp hu.2 hv2.2 hiu hkv he (by rw [HN.out]; exact HI4))
                          rw [hkn, HM.out, HN.out] at HOF
                          have HEN := HI4 mm
                          generalize knS (near4 es x y p u v (-1) st m j) mm = ee at *
                          replace HOF := Lib.hid (HOF.out ee HEN.2)
                          rw [← hnext] at HOF
                          have g3 := HK5.out.g.cell 3 rfl
                          have ht0 := HK5.out.t.cell 0 rfl
                          clear HI4 hnext hkn hnb hnM0 hzz hmm HEN hX0 hY0 hxx hyy HWC z0 z1 z2 z3 hX hY
                          go_wp2_with fail
                          refine (HOF.out _ HK5.out.g HK5.out.a HK5.out.t HK5.out.e (HV.out.keep HK5.out.b)).mono ?_
                          rintro r0 wn ⟨⟨V, rfl⟩, hA, hBt⟩
                          have HW6 := Lib.hid (HW5.out.but hBt HWA.out)
                          have HK6 := Lib.hid (HK5.out.but hBt hA)
                          clear hA hBt HOF HK5 HW5 g3 ht0 hcell
                          go_wp2_with fail
                          first
                            | exact ⟨⟨j + 1, hj4, by go_num, HK6, HW6⟩, by simp [intOf]; omega⟩
                            | (refine ⟨?_, ?_⟩
                               rotate_left
                               · show 4 - (intOf (.int .i64 ((j : Int) + 1))).toNat < 4 - (intOf (.int .i64 (j : Int))).toNat
                                 simp [intOf]
                                 omega
                               repeat apply Exists.intro
                               refine ⟨?_, rfl⟩
                               exact ⟨j + 1, hj4, by go_num, HK6, HW6⟩)
                        · have hnone : nbr u v (-1) m j = none := by
                            unfold nbr
                            rw [hi, hk, hX0, hY0, hxx, hyy, if_neg (fun h => hc ⟨⟨⟨h.1, h.2.1⟩, h.2.2.1⟩, h.2.2.2⟩)]
                          have hnext : near4 es x y p u v (-1) st m (j + 1) = near4 es x y p u v (-1) st m j := by
                            rw [show near4 es x y p u v (-1) st m (j + 1) = (match nbr u v (-1) m j with
                              | some m0 => offerS es (cenS x y p u) (near4 es x y p u v (-1) st m j) m (knS (near4 es x y p u v (-1) st m j) m0)
                              | none => near4 es x y p u v (-1) st m j) from rfl, hnone]
                          have hd : Below w6.heap.size w6 w6.drew := (Below.refl _ _).drew
                          rw [← hnext] at HK5
                          replace HK5 := Lib.hid (HK5.out.keep hd)
                          replace HW5 := Lib.hid (HW5.out.keep hd)
                          have g3 := HK5.out.g.cell 3 rfl
                          have g4 := HK5.out.g.cell 4 rfl
                          clear hd hnone hnext hX0 hY0 hxx hyy hxw hyw q0 q1 HWC
                          generalize w6.drew = w7 at *
                          by_cases z0 : 0 ≤ xx
                          · have z0b : decide (0 ≤ xx) = true := by simpa using z0
                            by_cases z1 : 0 ≤ yy
                            · have z1b : decide (0 ≤ yy) = true := by simpa using z1
                              by_cases z2 : xx < (u : Int)
                              · have z2b : decide (xx < (u : Int)) = true := by simpa using z2
                                have z3b : decide (yy < (v : Int)) = false := by simp; omega
                                clear hc z0 z1 z2
                                go_wp2_with fail
                                first
                                  | exact ⟨⟨j + 1, hj4, by go_num, HK5, HW5⟩, by simp [intOf]; omega⟩
                                  | (refine ⟨?_, ?_⟩
                                     rotate_left
                                     · show 4 - (intOf (.int .i64 ((j : Int) + 1))).toNat < 4 - (intOf (.int .i64 (j : Int))).toNat
                                       simp [intOf]
                                       omega
                                     repeat apply Exists.intro
                                     refine ⟨?_, rfl⟩
                                     exact ⟨j + 1, hj4, by go_num, HK5, HW5⟩)
                              · have z2b : decide (xx < (u : Int)) = false := by simp; omega
                                clear hc z0 z1 z2
                                go_wp2_with fail
                                first
                                  | exact ⟨⟨j + 1, hj4, by go_num, HK5, HW5⟩, by simp [intOf]; omega⟩
                                  | (refine ⟨?_, ?_⟩
                                     rotate_left
                                     · show 4 - (intOf (.int .i64 ((j : Int) + 1))).toNat < 4 - (intOf (.int .i64 (j : Int))).toNat
                                       simp [intOf]
                                       omega
                                     repeat apply Exists.intro
                                     refine ⟨?_, rfl⟩
                                     exact ⟨j + 1, hj4, by go_num, HK5, HW5⟩)
                            · have z1b : decide (0 ≤ yy) = false := by simp; omega
                              clear hc z0 z1
                              go_wp2_with fail
                              first
                                | exact ⟨⟨j + 1, hj4, by go_num, HK5, HW5⟩, by simp [intOf]; omega⟩
                                | (refine ⟨?_, ?_⟩
                                   rotate_left
                                   · show 4 - (intOf (.int .i64 ((j : Int) + 1))).toNat < 4 - (intOf (.int .i64 (j : Int))).toNat
                                     simp [intOf]
                                     omega
                                   repeat apply Exists.intro
                                   refine ⟨?_, rfl⟩
                                   exact ⟨j + 1, hj4, by go_num, HK5, HW5⟩)
                          · have z0b : decide (0 ≤ xx) = false := by simp; omega
                            clear hc z0
                            go_wp2_with fail
                            first
                              | exact ⟨⟨j + 1, hj4, by go_num, HK5, HW5⟩, by simp [intOf]; omega⟩
                              | (refine ⟨?_, ?_⟩
                                 rotate_left
                                 · show 4 - (intOf (.int .i64 ((j : Int) + 1))).toNat < 4 - (intOf (.int .i64 (j : Int))).toNat
                                   simp [intOf]
                                   omega
                                 repeat apply Exists.intro
                                 refine ⟨?_, rfl⟩
                                 exact ⟨j + 1, hj4, by go_num, HK5, HW5⟩)
                      · have hje : j = 4 := by omega
                        rw [hje, ← hST] at HK
                        clear hje hj
                        go_wp2_with fail
                        first
                          | exact ⟨⟨n + 1, hnM, by go_num, HK⟩, by simp [intOf]; omega⟩
                          | (refine ⟨?_, ?_⟩
                             rotate_left
                             · show M - (intOf (.int .i64 ((n : Int) + 1))).toNat < M - (intOf (.int .i64 (n : Int))).toNat
                               simp [intOf]
                               omega
                             repeat apply Exists.intro
                             refine ⟨?_, rfl⟩
                             exact ⟨n + 1, hnM, by go_num, HK⟩)
                · have hne : n = M := by omega
                  rw [hne] at HK
                  clear hne hn
                  have HK : Hid (KSt w wr (.slice A N cap) gE gG gA gT M x y p u v s (passS es x y p u v (q + 1))) := by unfold passS; rw [HM.out]; exact HK
                  go_wp2_with fail
                  exact ⟨⟨q + 1, hq2, by go_num, HK⟩, by simp [intOf]; omega⟩
            · have hqe : q = 2 := by omega
              subst hqe
              have ht0 := HK.out.t.cell 0 rfl
              go_wp2_with fail
              go_ret
              exact ⟨gA, rfl, HK.out.o.1, HK.out.a, HK.out.b⟩
end Go.Proofs.Yteiildeaccngjaa
