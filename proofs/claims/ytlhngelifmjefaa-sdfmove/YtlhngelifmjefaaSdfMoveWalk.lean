/-
  The walk of punchcutlaw10.SdfMove, over what the program is to do (no claim is made here).
-/
import Derived.Test.YtlhngelifmjefaaSdf1
import Derived.Test.YtlhngelifmjefaaGrd4
import Derived.Laws.OwnMore
import Derived.OpenShut
import Derived.Test.YtlhngelifmjefaaJoin
namespace Go.Proofs.Ytlhngelifmjefaa
open Go.RowKit

set_option linter.unusedSimpArgs false
/-- A place, halved to the lattice and moved (as the law does). -/
def farP (X Y : Int) (p : Pt) : Pt := ⟨p.x.tdiv 32 * 16 + 32 * X, p.y.tdiv 32 * 16 + 32 * Y⟩
def farE (X Y : Int) (e : Ed) : Ed := ⟨farP X Y e.a, farP X Y e.b⟩
theorem tdiv32 {z : Int} (h : z.natAbs ≤ 8192) : -256 ≤ z.tdiv 32 ∧ z.tdiv 32 ≤ 256 := by
  rw [Int.tdiv_eq_ediv]
  simp only [show (32 : Int).sign = 1 from rfl]
  split <;> omega
theorem far_in {X Y : Int} {p : Pt} (hX : -63 ≤ X ∧ X ≤ 63) (hY : -63 ≤ Y ∧ Y ≤ 63) (h : p.x.natAbs ≤ 8192 ∧ p.y.natAbs ≤ 8192) : (farP X Y p).x.natAbs ≤ 8192 ∧ (farP X Y p).y.natAbs ≤ 8192 := by
  have h1 := tdiv32 h.1
  have h2 := tdiv32 h.2
  unfold farP
  constructor <;> simp only [] <;> omega
theorem far_move (X Y : Int) (l : List Ed) : l.map (farE X Y) = (l.map (farE 0 0)).map (moveE ⟨32 * X, 32 * Y⟩) := by
  rw [List.map_map]
  refine List.map_congr_left (fun e _ => ?_)
  simp [farE, farP, moveE, moveP]
/-- The law's closure. -/
theorem mover10_any (px py X Y : Int) (g4 g5 : Nat) (t t' : TypeId) (w : World) (hp : px.natAbs ≤ 8192 ∧ py.natAbs ≤ 8192) (hX : -63 ≤ X ∧ X ≤ 63) (hY : -63 ≤ Y ∧ Y ≤ 63) (h4 : Blk w g4 t [.int .i64 X]) (h5 : Blk w g5 t' [.int .i64 Y]) :
    Calls Try.prog 23 #[.agg #[.int .i64 px, .int .i64 py], .pointer (some ⟨g4, 0, none⟩), .pointer (some ⟨g5, 0, none⟩)] w fun e w' => e = .returned (.agg #[.int .i64 (farP X Y ⟨px, py⟩).x, .int .i64 (farP X Y ⟨px, py⟩).y]) ∧ Below w.heap.size w w' := by
  obtain ⟨a, ha⟩ : ∃ a, px.tdiv 32 = a := ⟨_, rfl⟩
  obtain ⟨b, hb⟩ : ∃ b, py.tdiv 32 = b := ⟨_, rfl⟩
  have ba : -256 ≤ a ∧ a ≤ 256 := ha ▸ tdiv32 hp.1
  have bb : -256 ≤ b ∧ b ≤ 256 := hb ▸ tdiv32 hp.2
  have c4 := h4.cell 0 rfl
  have c5 := h5.cell 0 rfl
  have z4 := h4.lt
  have z5 := h5.lt
  have wa : IntKind.i64.wrap a = a := wI (by omega) (by omega)
  have wb : IntKind.i64.wrap b = b := wI (by omega) (by omega)
  clear h4 h5
  unfold farP
  simp only []
  rw [ha, hb]
  go_enter Try.func23, Try.ntmps23
  go_wp2
  exact bodyPost_ret (v := .agg #[.int .i64 (a * 16 + 32 * X), .int .i64 (b * 16 + 32 * Y)]) (by simp [results, Try.results23, go_sem]) rfl ⟨rfl, ((Below.refl _ w).alloc (Nat.le_refl _) _).alloc (by simp) _⟩

set_option maxRecDepth 100000 in
set_option maxHeartbeats 3200000 in
theorem sdfMove_walk (H : SdfOK) (A : Option Addr) (n cap : Nat) (cs : List (List Dot)) (s0 s1 s2 s3 s4 s5 : Int) (dx dy : Int) (w : World) (hcs : DotRows w A n cap cs) (hs : (0 ≤ s0 ∧ s0 ≤ 255) ∧ (0 ≤ s1 ∧ s1 ≤ 255) ∧ (0 ≤ s2 ∧ s2 ≤ 255) ∧ (0 ≤ s3 ∧ s3 ≤ 255) ∧ (0 ≤ s4 ∧ s4 ≤ 255) ∧ (0 ≤ s5 ∧ s5 ≤ 255)) (hx : -128 ≤ dx ∧ dx ≤ 127) (hy : -128 ≤ dy ∧ dy ≤ 127) :
    Calls Try.prog 8 #[.slice A n cap, .agg #[.int .u8 s0, .int .u8 s1, .int .u8 s2, .int .u8 s3, .int .u8 s4, .int .u8 s5], .int .i8 dx, .int .i8 dy] w fun e w' => e = .returned (.bool true) ∧ Below w.heap.size w w' := by
  have HD := Lib.hid hcs
  have HAW := Lib.hid (fun w => awake10 H w)
  obtain ⟨h0, h1, h2, h3, h4, h5⟩ := hs
  have HS := Lib.hid (fun w => sgrid_any s0 s1 s2 s3 s4 s5 h0 h1 h2 h3 h4 h5 w)
  have HB0 := Lib.hid ((Below.refl _ w).alloc (Nat.le_refl _) (.cells #[.int .u8 s0, .int .u8 s1, .int .u8 s2, .int .u8 s3, .int .u8 s4, .int .u8 s5] 24))
  have HK0 := Lib.hid (Blk.new w 24 [.int .u8 s0, .int .u8 s1, .int .u8 s2, .int .u8 s3, .int .u8 s4, .int .u8 s5] rfl)
  have hck : checkG (s0 - 128) (s1 - 128) (1 + s2 % 16) (1 + s3 % 10) (1 + s4 % 10) (1 + s5 % 64) = 0 := by unfold checkG; rw [if_neg (by omega), if_neg (by omega)]
  obtain ⟨u, hu⟩ : ∃ u : Nat, 1 + s3 % 10 = u := ⟨(1 + s3 % 10).toNat, by omega⟩
  obtain ⟨v, hv⟩ : ∃ v : Nat, 1 + s4 % 10 = v := ⟨(1 + s4 % 10).toNat, by omega⟩
  rw [hu, hv] at hck HS
  have bu : 1 ≤ u ∧ u ≤ 10 := by omega
  have bv : 1 ≤ v ∧ v ≤ 10 := by omega
  have bx : -128 ≤ s0 - 128 ∧ s0 - 128 ≤ 127 := by omega
  have by' : -128 ≤ s1 - 128 ∧ s1 - 128 ≤ 127 := by omega
  have bp : 1 ≤ 1 + s2 % 16 ∧ 1 + s2 % 16 ≤ 16 := by omega
  have bs : 1 ≤ 1 + s5 % 64 ∧ 1 + s5 % 64 ≤ 64 := by omega
  clear h0 h1 h2 h3 h4 h5 hu hv hcs
  generalize s0 - 128 = x at *
  generalize s1 - 128 = y at *
  generalize 1 + s2 % 16 = p at *
  generalize 1 + s5 % 64 = s at *
  go_enter Try.func8, Try.ntmps8
  go_wp2_with fail
  refine (HAW.out _).mono ?_
  rintro e w1 ⟨rfl, hb⟩
  have HK1 := Lib.hid (HK0.out.keep hb)
  have HB1 := Lib.hid (below2 HB0.out hb)
  have HC := Lib.hid (glyph7 A n cap cs w1 (HD.out.keep HB1.out))
  clear hb HK0 HB0 HD HAW
  go_wp2_with fail
  refine HC.out.mono ?_
  rintro e w2 ⟨U, es, rfl, hU, hln, hin, hcl, hb⟩
  have HK2 := Lib.hid (HK1.out.keep hb)
  have HB2 := Lib.hid (below2 HB1.out hb)
  have HU2 := Lib.hid hU.read
  have HIN := Lib.hid hin
  have HCL := Lib.hid hcl
  have hln2 : es.length ≤ 200000 := by omega
  have HLN := Lib.hid hln2
  obtain ⟨Au, capu, rfl⟩ := hU.form
  obtain ⟨N, hN⟩ : ∃ N, es.length = N := ⟨_, rfl⟩
  rw [hN] at HU2
  rw [hN]
  have HN := Lib.hid hN
  clear hb HK1 HB1 hU hin hcl hln hln2 hN HC
  have k0 := HK2.out.cell 0 rfl
  have k1 := HK2.out.cell 1 rfl
  have k2 := HK2.out.cell 2 rfl
  have k3 := HK2.out.cell 3 rfl
  have k4 := HK2.out.cell 4 rfl
  have k5 := HK2.out.cell 5 rfl
  have kl := HK2.out.lt
  go_wp2_with fail
  refine (HS.out _).mono ?_
  rintro e w3 ⟨rfl, hb⟩
  have hal : Below w3.heap.size w3 (w3.alloc (.cells #[.int .i64 x, .int .i64 y, .int .i64 p, .int .i64 u, .int .i64 v, .int .i64 s] 35)) := (Below.refl _ _).alloc (Nat.le_refl _) _
  have HU4 := Lib.hid ((HU2.out.keep hb).keep hal)
  have HB4 := Lib.hid (below2 (below2 HB2.out hb) hal)
  have HG4 := Lib.hid (Blk.new w3 35 [.int .i64 x, .int .i64 y, .int .i64 p, .int .i64 u, .int .i64 v, .int .i64 s] rfl)
  have hGw := Lib.hid (below2 HB2.out hb).size
  clear hb hal HK2 HU2 HB2 HS k0 k1 k2 k3 k4 k5 kl
  have hz4 : (w3.alloc (.cells #[.int .i64 x, .int .i64 y, .int .i64 p, .int .i64 u, .int .i64 v, .int .i64 s] 35)).heap.size = w3.heap.size + 1 := by simp
  go_upto_region 4 with fail
  generalize w3.alloc (.cells #[.int .i64 x, .int .i64 y, .int .i64 p, .int .i64 u, .int .i64 v, .int .i64 s] 35) = w4 at *
  generalize w3.heap.size = G at *
  have HX6 := Lib.hid ((Blk.new w4 3 [.int .i64 (dx.tmod 64)] (g := w4.heap.size) rfl).alloc (.cells #[.int .i64 (dy.tmod 64)] 3))
  have HY6 := Lib.hid (Blk.new (w4.alloc (.cells #[.int .i64 (dx.tmod 64)] 3)) 3 [.int .i64 (dy.tmod 64)] (g := w4.heap.size + 1) (by simp))
  have hal : Below w4.heap.size w4 ((w4.alloc (.cells #[.int .i64 (dx.tmod 64)] 3)).alloc (.cells #[.int .i64 (dy.tmod 64)] 3)) := alloc2 w4 _ _
  have HU6 := Lib.hid (HU4.out.keep hal)
  have HB6 := Lib.hid (below2 HB4.out hal)
  have HG6 := Lib.hid (HG4.out.keep hal)
  clear hal HU4 HB4 HG4
  have wdx : IntKind.i64.wrap dx = dx := wI (by omega) (by omega)
  have wdy : IntKind.i64.wrap dy = dy := wI (by omega) (by omega)
  have bX : -63 ≤ dx.tmod 64 ∧ dx.tmod 64 ≤ 63 := by rw [Int.tmod_eq_emod]; split <;> omega
  have bY : -63 ≤ dy.tmod 64 ∧ dy.tmod 64 ≤ 63 := by rw [Int.tmod_eq_emod]; split <;> omega
  go_wp2_with fail
  generalize (w4.alloc (.cells #[.int .i64 (dx.tmod 64)] 3)).alloc (.cells #[.int .i64 (dy.tmod 64)] 3) = w6 at *
  rw [hz4] at HX6 HY6
  have HXB := Lib.hid bX
  have HYB := Lib.hid bY
  generalize dx.tmod 64 = X at *
  generalize dy.tmod 64 = Y at *
  have HMV := Lib.hid (fun (px py : Int) wx (hp : px.natAbs ≤ 8192 ∧ py.natAbs ≤ 8192) h4 h5 => mover10_any px py X Y (G + 1) (G + 1 + 1) 3 3 wx hp bX bY h4 h5)
  clear hz4 wdx wdy bX bY hx hy
  have hln : N ≤ 200000 := by have := HLN.out; have := HN.out; omega
  go_loopw [39, 13] (fun i u wr => ∃ r : Nat, r ≤ N ∧ i = .int .i64 r ∧ Hid (ERow wr w6.heap.size u ((es.take r).map (farE X Y))) ∧ Hid (Below w6.heap.size w6 wr)) (fun i _ _ => N - (intOf i).toNat)
  case atStart => exact ⟨0, Nat.zero_le _, rfl, Lib.hid (ERow.nil _ _), Lib.hid (Below.refl _ _)⟩
  case round =>
    obtain ⟨r, hr, rfl, HE, HB⟩ := hrel
    by_cases hrn : r < N
    · have hrb : decide ((r : Int) < N) = true := by simp; omega
      obtain ⟨e1, hs⟩ : ∃ s, es[r]? = some s := ⟨_, List.getElem?_eq_getElem (by rw [HN.out]; exact hrn)⟩
      obtain ⟨a, rfl, ha, x0, x1, x2, x3⟩ := (HU6.out.keep HB.out).at r e1 hs
      have hT : (es.take (r + 1)).map (farE X Y) = (es.take r).map (farE X Y) ++ [farE X Y e1] := by rw [List.take_add_one, hs, List.map_append]; rfl
      have HLr : Hid (((es.take r).map (farE X Y)).length = r) := Lib.hid (by rw [List.length_map, List.length_take, HN.out]; omega)
      have hin1 := HIN.out e1 (List.mem_of_getElem? hs)
      obtain ⟨Lr, hLr⟩ : ∃ l, (es.take r).map (farE X Y) = l := ⟨_, rfl⟩
      rw [hLr] at HE HLr hT
      have HT := Lib.hid hT
      obtain ⟨⟨c0, c1⟩, c2, c3⟩ := e1
      obtain ⟨i1, i2⟩ := hin1
      simp only [] at x0 x1 x2 x3 i1 i2
      have HI1 := Lib.hid i1
      have HI2 := Lib.hid i2
      have hal : Below wr.heap.size wr (wr.alloc (.cells #[.int .i64 c0, .int .i64 c1, .int .i64 c2, .int .i64 c3] 57)) := (Below.refl _ _).alloc (Nat.le_refl _) _
      have AB := HB.out.trans (hal.mono HB.out.size)
      have HR := Lib.hid (HE.out.below hal)
      have HXb := Lib.hid ((HX6.out.keep HB.out).keep hal)
      have HYb := Lib.hid ((HY6.out.keep HB.out).keep hal)
      have HEb := Lib.hid (Blk.new wr 57 [.int .i64 c0, .int .i64 c1, .int .i64 c2, .int .i64 c3] rfl)
      clear hs hT hLr i1 i2 hal HE
      go_wp2_with fail
      generalize wr.alloc (.cells #[.int .i64 c0, .int .i64 c1, .int .i64 c2, .int .i64 c3] 57) = w7 at *
      generalize wr.heap.size = g7 at *
      have hd : Below w7.heap.size w7 w7.drew := (Below.refl _ w7).drew
      have AB := AB.drew
      replace HR := Lib.hid (HR.out.below hd)
      replace HXb := Lib.hid (HXb.out.keep hd)
      replace HYb := Lib.hid (HYb.out.keep hd)
      replace HEb := Lib.hid (HEb.out.keep hd)
      clear hd
      have y0 := HEb.out.cell 0 rfl
      have y1 := HEb.out.cell 1 rfl
      have y2 := HEb.out.cell 2 rfl
      have y3 := HEb.out.cell 3 rfl
      refine wp_region_held_drew (S := fun _ => True) (by kernel_rfl) (trivial) (fun hHeld => ?_)
      refine wpAnyH_take (i := 0) (v := ?_) rfl (by kernel_rfl) (by kernel_rfl) (by kernel_rfl) (fun _ _ _ h => h) (Or.inl ⟨by rfl, ?_⟩) hHeld ?_
      rotate_left
      · intro w hSw
        (try dsimp only at hSw)
        (try simp only [List.getElem_toArray, List.getElem_cons_zero])
        go_simp
        all_goals with_reducible rfl
      try simp only [List.getElem_toArray, List.getElem_cons_zero, Act.put, List.setIfInBounds_toArray, List.set_cons_zero, List.set_cons_succ]
      refine wpAnyH_take (i := 1) (v := ?_) rfl (by kernel_rfl) (by kernel_rfl) (by kernel_rfl) (fun _ _ _ h => h) (Or.inl ⟨by rfl, ?_⟩) hHeld ?_
      rotate_left
      · intro w hSw
        (try dsimp only at hSw)
        (try simp only [List.getElem_toArray, List.getElem_cons_zero, List.getElem_cons_succ])
        go_simp
        all_goals with_reducible rfl
      try simp only [List.getElem_toArray, List.getElem_cons_zero, List.getElem_cons_succ, Act.put, List.setIfInBounds_toArray, List.set_cons_zero, List.set_cons_succ]
      refine wpAnyH_take (i := 2) (v := ?_) rfl (by kernel_rfl) (by kernel_rfl) (by kernel_rfl) (fun _ _ _ h => h) (Or.inl ⟨by rfl, ?_⟩) hHeld ?_
      rotate_left
      · intro w hSw
        (try dsimp only at hSw)
        (try simp only [List.getElem_toArray, List.getElem_cons_zero, List.getElem_cons_succ])
        go_simp
        all_goals with_reducible rfl
      try simp only [List.getElem_toArray, List.getElem_cons_zero, List.getElem_cons_succ, Act.put, List.setIfInBounds_toArray, List.set_cons_zero, List.set_cons_succ]
      refine wpAnyH_take (i := 5) (v := ?_) rfl (by kernel_rfl) (by kernel_rfl) (by kernel_rfl) (fun _ _ _ h => h) (Or.inl ⟨by rfl, ?_⟩) hHeld ?_
      rotate_left
      · intro w hSw
        (try dsimp only at hSw)
        (try simp only [List.getElem_toArray, List.getElem_cons_zero, List.getElem_cons_succ])
        go_simp
        all_goals with_reducible rfl
      try simp only [List.getElem_toArray, List.getElem_cons_zero, List.getElem_cons_succ, Act.put, List.setIfInBounds_toArray, List.set_cons_zero, List.set_cons_succ]
      refine wpAnyH_take (i := 6) (v := ?_) rfl (by kernel_rfl) (by kernel_rfl) (by kernel_rfl) (fun _ _ _ h => h) (Or.inl ⟨by rfl, ?_⟩) hHeld ?_
      rotate_left
      · intro w hSw
        (try dsimp only at hSw)
        (try simp only [List.getElem_toArray, List.getElem_cons_zero, List.getElem_cons_succ])
        go_simp
        all_goals with_reducible rfl
      try simp only [List.getElem_toArray, List.getElem_cons_zero, List.getElem_cons_succ, Act.put, List.setIfInBounds_toArray, List.set_cons_zero, List.set_cons_succ]
      refine wpAnyH_ready (rs := [3, 7]) (by kernel_rfl) (by simp) ?_
      refine AllReadyH.cons rfl (fun K hK => ?_) (AllReadyH.cons rfl (fun K hK => ?_) AllReadyH.nil)
      · try simp only [List.getElem_toArray, List.getElem_cons_zero, List.getElem_cons_succ]
        go_simp
        refine hK.out _ _ (trivial) (fun hHeld => ?_)
        clear hK K
        try simp only [List.getElem_toArray, List.getElem_cons_zero, List.getElem_cons_succ, Act.put, List.setIfInBounds_toArray, List.set_cons_zero, List.set_cons_succ]
        refine wpAnyH_ready (rs := [4, 7]) (by kernel_rfl) (by simp) ?_
        refine AllReadyH.cons rfl (fun K hK => ?_) (AllReadyH.cons rfl (fun K hK => ?_) AllReadyH.nil)
        · try simp only [List.getElem_toArray, List.getElem_cons_zero, List.getElem_cons_succ]
          go_simp
          refine (HMV.out c0 c1 _ HI1.out HXb.out HYb.out).mono ?_
          rintro e wn ⟨rfl, hbn⟩
          have AB := AB.trans (hbn.mono (AB.size))
          replace HXb := Lib.hid (HXb.out.keep hbn)
          replace HYb := Lib.hid (HYb.out.keep hbn)
          replace HEb := Lib.hid (HEb.out.keep hbn)
          replace HR := Lib.hid (HR.out.below hbn)
          clear y0 y1 y2 y3
          have y0 := HEb.out.cell 0 rfl
          have y1 := HEb.out.cell 1 rfl
          have y2 := HEb.out.cell 2 rfl
          have y3 := HEb.out.cell 3 rfl
          clear hbn
          go_wp2_with fail
          refine hK.out _ _ (trivial) (fun hHeld => ?_)
          clear hK K
          try simp only [List.getElem_toArray, List.getElem_cons_zero, List.getElem_cons_succ, Act.put, List.setIfInBounds_toArray, List.set_cons_zero, List.set_cons_succ]
          refine wpAnyH_ready (rs := [7]) (by kernel_rfl) (by simp) ?_
          refine AllReadyH.cons rfl (fun K hK => ?_) AllReadyH.nil
          try simp only [List.getElem_toArray, List.getElem_cons_zero, List.getElem_cons_succ]
          go_simp
          refine hK.out _ _ (trivial) (fun hHeld => ?_)
          clear hK K
          try simp only [List.getElem_toArray, List.getElem_cons_zero, List.getElem_cons_succ, Act.put, List.setIfInBounds_toArray, List.set_cons_zero, List.set_cons_succ]
          refine wpAnyH_ready (rs := [8]) (by kernel_rfl) (by simp) ?_
          refine AllReadyH.cons rfl (fun K hK => ?_) AllReadyH.nil
          try simp only [List.getElem_toArray, List.getElem_cons_zero, List.getElem_cons_succ]
          go_simp
          refine (HMV.out c2 c3 _ HI2.out HXb.out HYb.out).mono ?_
          rintro e wn ⟨rfl, hbn⟩
          have AB := AB.trans (hbn.mono (AB.size))
          replace HXb := Lib.hid (HXb.out.keep hbn)
          replace HYb := Lib.hid (HYb.out.keep hbn)
          replace HEb := Lib.hid (HEb.out.keep hbn)
          replace HR := Lib.hid (HR.out.below hbn)
          clear y0 y1 y2 y3
          have y0 := HEb.out.cell 0 rfl
          have y1 := HEb.out.cell 1 rfl
          have y2 := HEb.out.cell 2 rfl
          have y3 := HEb.out.cell 3 rfl
          clear hbn
          go_wp2_with fail
          refine hK.out _ _ (trivial) (fun hHeld => ?_)
          clear hK K
          try simp only [List.getElem_toArray, List.getElem_cons_zero, List.getElem_cons_succ, Act.put, List.setIfInBounds_toArray, List.set_cons_zero, List.set_cons_succ]
          refine wpAnyH_take (i := 9) (v := ?_) rfl (by kernel_rfl) (by kernel_rfl) (by kernel_rfl) (fun _ _ _ h => h) (Or.inl ⟨by rfl, ?_⟩) hHeld ?_
          rotate_left
          · intro w hSw
            (try dsimp only at hSw)
            (try simp only [List.getElem_toArray, List.getElem_cons_zero, List.getElem_cons_succ])
            go_simp
            all_goals with_reducible rfl
          try simp only [List.getElem_toArray, List.getElem_cons_zero, List.getElem_cons_succ, Act.put, List.setIfInBounds_toArray, List.set_cons_zero, List.set_cons_succ]
          refine wpAnyH_ready (rs := [10]) (by kernel_rfl) (by simp) ?_
          refine AllReadyH.cons rfl (fun K hK => ?_) AllReadyH.nil
          try simp only [List.getElem_toArray, List.getElem_cons_zero, List.getElem_cons_succ]
          go_simp
          replace HR := Lib.hid (HR.out.alloc (.cells #[.int .i64 (farP X Y ⟨c0, c1⟩).x, .int .i64 (farP X Y ⟨c0, c1⟩).y, .int .i64 (farP X Y ⟨c2, c3⟩).x, .int .i64 (farP X Y ⟨c2, c3⟩).y] 57))
          have HL := Lib.hid (erd_blk (Blk.new wn 57 (ecells [farE X Y ⟨⟨c0, c1⟩, c2, c3⟩]) rfl) rfl)
          have AB := AB.alloc AB.size (.cells #[.int .i64 (farP X Y ⟨c0, c1⟩).x, .int .i64 (farP X Y ⟨c0, c1⟩).y, .int .i64 (farP X Y ⟨c2, c3⟩).x, .int .i64 (farP X Y ⟨c2, c3⟩).y] 57)
          clear y0 y1 y2 y3
          refine hK.out _ _ (trivial) (fun hHeld => ?_)
          clear hK K
          try simp only [List.getElem_toArray, List.getElem_cons_zero, List.getElem_cons_succ, Act.put, List.setIfInBounds_toArray, List.set_cons_zero, List.set_cons_succ]
          refine wpAnyH_ready (rs := [11]) (by kernel_rfl) (by simp) ?_
          refine AllReadyH.cons rfl (fun K hK => ?_) AllReadyH.nil
          try simp only [List.getElem_toArray, List.getElem_cons_zero, List.getElem_cons_succ]
          refine step_if (by kernel_rfl) ?_
          refine join_wp (.tmp 44) (.tmp 54) ?_ w6.heap.size _ Lr r ?_ HR.out HLr.out _ 1 1 [farE X Y ⟨⟨c0, c1⟩, c2, c3⟩] ?_ HL.out rfl ?_ ?_ ?_
          · rfl
          · kernel_rfl
          · kernel_rfl
          · omega
          · exact AB.size
          intro A6 c6 wn hE6 hb6
          rw [← HT.out] at hE6
          have HE6 := Lib.hid hE6
          have AB := AB.trans hb6
          clear hb6 hE6 HR HL
          refine hK.out _ _ (trivial) (fun hHeld => ?_)
          clear hK K
          try simp only [List.getElem_toArray, List.getElem_cons_zero, List.getElem_cons_succ, Act.put, List.setIfInBounds_toArray, List.set_cons_zero, List.set_cons_succ]
          refine wpAnyH_take (i := 12) (v := ?_) rfl (by kernel_rfl) (by kernel_rfl) (by kernel_rfl) (fun _ _ _ h => h) (Or.inl ⟨by rfl, ?_⟩) hHeld ?_
          rotate_left
          · intro w hSw
            (try dsimp only at hSw)
            (try simp only [List.getElem_toArray, List.getElem_cons_zero, List.getElem_cons_succ])
            go_simp
            all_goals with_reducible rfl
          try simp only [List.getElem_toArray, List.getElem_cons_zero, List.getElem_cons_succ, Act.put, List.setIfInBounds_toArray, List.set_cons_zero, List.set_cons_succ]
          refine wpAnyH_done (by kernel_rfl) ?_ _
          go_wp2
          exact ⟨⟨r + 1, by omega, by go_num, HE6, Lib.hid AB⟩, by simp [intOf]; omega⟩
        · try simp only [List.getElem_toArray, List.getElem_cons_zero, List.getElem_cons_succ]
          go_simp
          refine hK.out _ _ (trivial) (fun hHeld => ?_)
          clear hK K
          try simp only [List.getElem_toArray, List.getElem_cons_zero, List.getElem_cons_succ, Act.put, List.setIfInBounds_toArray, List.set_cons_zero, List.set_cons_succ]
          refine wpAnyH_ready (rs := [4]) (by kernel_rfl) (by simp) ?_
          refine AllReadyH.cons rfl (fun K hK => ?_) AllReadyH.nil
          try simp only [List.getElem_toArray, List.getElem_cons_zero, List.getElem_cons_succ]
          go_simp
          refine (HMV.out c0 c1 _ HI1.out HXb.out HYb.out).mono ?_
          rintro e wn ⟨rfl, hbn⟩
          have AB := AB.trans (hbn.mono (AB.size))
          replace HXb := Lib.hid (HXb.out.keep hbn)
          replace HYb := Lib.hid (HYb.out.keep hbn)
          replace HEb := Lib.hid (HEb.out.keep hbn)
          replace HR := Lib.hid (HR.out.below hbn)
          clear y0 y1 y2 y3
          have y0 := HEb.out.cell 0 rfl
          have y1 := HEb.out.cell 1 rfl
          have y2 := HEb.out.cell 2 rfl
          have y3 := HEb.out.cell 3 rfl
          clear hbn
          go_wp2_with fail
          refine hK.out _ _ (trivial) (fun hHeld => ?_)
          clear hK K
          try simp only [List.getElem_toArray, List.getElem_cons_zero, List.getElem_cons_succ, Act.put, List.setIfInBounds_toArray, List.set_cons_zero, List.set_cons_succ]
          refine wpAnyH_ready (rs := [8]) (by kernel_rfl) (by simp) ?_
          refine AllReadyH.cons rfl (fun K hK => ?_) AllReadyH.nil
          try simp only [List.getElem_toArray, List.getElem_cons_zero, List.getElem_cons_succ]
          go_simp
          refine (HMV.out c2 c3 _ HI2.out HXb.out HYb.out).mono ?_
          rintro e wn ⟨rfl, hbn⟩
          have AB := AB.trans (hbn.mono (AB.size))
          replace HXb := Lib.hid (HXb.out.keep hbn)
          replace HYb := Lib.hid (HYb.out.keep hbn)
          replace HEb := Lib.hid (HEb.out.keep hbn)
          replace HR := Lib.hid (HR.out.below hbn)
          clear y0 y1 y2 y3
          have y0 := HEb.out.cell 0 rfl
          have y1 := HEb.out.cell 1 rfl
          have y2 := HEb.out.cell 2 rfl
          have y3 := HEb.out.cell 3 rfl
          clear hbn
          go_wp2_with fail
          refine hK.out _ _ (trivial) (fun hHeld => ?_)
          clear hK K
          try simp only [List.getElem_toArray, List.getElem_cons_zero, List.getElem_cons_succ, Act.put, List.setIfInBounds_toArray, List.set_cons_zero, List.set_cons_succ]
          refine wpAnyH_take (i := 9) (v := ?_) rfl (by kernel_rfl) (by kernel_rfl) (by kernel_rfl) (fun _ _ _ h => h) (Or.inl ⟨by rfl, ?_⟩) hHeld ?_
          rotate_left
          · intro w hSw
            (try dsimp only at hSw)
            (try simp only [List.getElem_toArray, List.getElem_cons_zero, List.getElem_cons_succ])
            go_simp
            all_goals with_reducible rfl
          try simp only [List.getElem_toArray, List.getElem_cons_zero, List.getElem_cons_succ, Act.put, List.setIfInBounds_toArray, List.set_cons_zero, List.set_cons_succ]
          refine wpAnyH_ready (rs := [10]) (by kernel_rfl) (by simp) ?_
          refine AllReadyH.cons rfl (fun K hK => ?_) AllReadyH.nil
          try simp only [List.getElem_toArray, List.getElem_cons_zero, List.getElem_cons_succ]
          go_simp
          replace HR := Lib.hid (HR.out.alloc (.cells #[.int .i64 (farP X Y ⟨c0, c1⟩).x, .int .i64 (farP X Y ⟨c0, c1⟩).y, .int .i64 (farP X Y ⟨c2, c3⟩).x, .int .i64 (farP X Y ⟨c2, c3⟩).y] 57))
          have HL := Lib.hid (erd_blk (Blk.new wn 57 (ecells [farE X Y ⟨⟨c0, c1⟩, c2, c3⟩]) rfl) rfl)
          have AB := AB.alloc AB.size (.cells #[.int .i64 (farP X Y ⟨c0, c1⟩).x, .int .i64 (farP X Y ⟨c0, c1⟩).y, .int .i64 (farP X Y ⟨c2, c3⟩).x, .int .i64 (farP X Y ⟨c2, c3⟩).y] 57)
          clear y0 y1 y2 y3
          refine hK.out _ _ (trivial) (fun hHeld => ?_)
          clear hK K
          try simp only [List.getElem_toArray, List.getElem_cons_zero, List.getElem_cons_succ, Act.put, List.setIfInBounds_toArray, List.set_cons_zero, List.set_cons_succ]
          refine wpAnyH_ready (rs := [11]) (by kernel_rfl) (by simp) ?_
          refine AllReadyH.cons rfl (fun K hK => ?_) AllReadyH.nil
          try simp only [List.getElem_toArray, List.getElem_cons_zero, List.getElem_cons_succ]
          refine step_if (by kernel_rfl) ?_
          refine join_wp (.tmp 44) (.tmp 54) ?_ w6.heap.size _ Lr r ?_ HR.out HLr.out _ 1 1 [farE X Y ⟨⟨c0, c1⟩, c2, c3⟩] ?_ HL.out rfl ?_ ?_ ?_
          · rfl
          · kernel_rfl
          · kernel_rfl
          · omega
          · exact AB.size
          intro A6 c6 wn hE6 hb6
          rw [← HT.out] at hE6
          have HE6 := Lib.hid hE6
          have AB := AB.trans hb6
          clear hb6 hE6 HR HL
          refine hK.out _ _ (trivial) (fun hHeld => ?_)
          clear hK K
          try simp only [List.getElem_toArray, List.getElem_cons_zero, List.getElem_cons_succ, Act.put, List.setIfInBounds_toArray, List.set_cons_zero, List.set_cons_succ]
          refine wpAnyH_take (i := 12) (v := ?_) rfl (by kernel_rfl) (by kernel_rfl) (by kernel_rfl) (fun _ _ _ h => h) (Or.inl ⟨by rfl, ?_⟩) hHeld ?_
          rotate_left
          · intro w hSw
            (try dsimp only at hSw)
            (try simp only [List.getElem_toArray, List.getElem_cons_zero, List.getElem_cons_succ])
            go_simp
            all_goals with_reducible rfl
          try simp only [List.getElem_toArray, List.getElem_cons_zero, List.getElem_cons_succ, Act.put, List.setIfInBounds_toArray, List.set_cons_zero, List.set_cons_succ]
          refine wpAnyH_done (by kernel_rfl) ?_ _
          go_wp2
          exact ⟨⟨r + 1, by omega, by go_num, HE6, Lib.hid AB⟩, by simp [intOf]; omega⟩
      · try simp only [List.getElem_toArray, List.getElem_cons_zero, List.getElem_cons_succ]
        go_simp
        refine hK.out _ _ (trivial) (fun hHeld => ?_)
        clear hK K
        try simp only [List.getElem_toArray, List.getElem_cons_zero, List.getElem_cons_succ, Act.put, List.setIfInBounds_toArray, List.set_cons_zero, List.set_cons_succ]
        refine wpAnyH_ready (rs := [3]) (by kernel_rfl) (by simp) ?_
        refine AllReadyH.cons rfl (fun K hK => ?_) AllReadyH.nil
        try simp only [List.getElem_toArray, List.getElem_cons_zero, List.getElem_cons_succ]
        go_simp
        refine hK.out _ _ (trivial) (fun hHeld => ?_)
        clear hK K
        try simp only [List.getElem_toArray, List.getElem_cons_zero, List.getElem_cons_succ, Act.put, List.setIfInBounds_toArray, List.set_cons_zero, List.set_cons_succ]
        refine wpAnyH_ready (rs := [4]) (by kernel_rfl) (by simp) ?_
        refine AllReadyH.cons rfl (fun K hK => ?_) AllReadyH.nil
        try simp only [List.getElem_toArray, List.getElem_cons_zero, List.getElem_cons_succ]
        go_simp
        refine (HMV.out c0 c1 _ HI1.out HXb.out HYb.out).mono ?_
        rintro e wn ⟨rfl, hbn⟩
        have AB := AB.trans (hbn.mono (AB.size))
        replace HXb := Lib.hid (HXb.out.keep hbn)
        replace HYb := Lib.hid (HYb.out.keep hbn)
        replace HEb := Lib.hid (HEb.out.keep hbn)
        replace HR := Lib.hid (HR.out.below hbn)
        clear y0 y1 y2 y3
        have y0 := HEb.out.cell 0 rfl
        have y1 := HEb.out.cell 1 rfl
        have y2 := HEb.out.cell 2 rfl
        have y3 := HEb.out.cell 3 rfl
        clear hbn
        go_wp2_with fail
        refine hK.out _ _ (trivial) (fun hHeld => ?_)
        clear hK K
        try simp only [List.getElem_toArray, List.getElem_cons_zero, List.getElem_cons_succ, Act.put, List.setIfInBounds_toArray, List.set_cons_zero, List.set_cons_succ]
        refine wpAnyH_ready (rs := [8]) (by kernel_rfl) (by simp) ?_
        refine AllReadyH.cons rfl (fun K hK => ?_) AllReadyH.nil
        try simp only [List.getElem_toArray, List.getElem_cons_zero, List.getElem_cons_succ]
        go_simp
        refine (HMV.out c2 c3 _ HI2.out HXb.out HYb.out).mono ?_
        rintro e wn ⟨rfl, hbn⟩
        have AB := AB.trans (hbn.mono (AB.size))
        replace HXb := Lib.hid (HXb.out.keep hbn)
        replace HYb := Lib.hid (HYb.out.keep hbn)
        replace HEb := Lib.hid (HEb.out.keep hbn)
        replace HR := Lib.hid (HR.out.below hbn)
        clear y0 y1 y2 y3
        have y0 := HEb.out.cell 0 rfl
        have y1 := HEb.out.cell 1 rfl
        have y2 := HEb.out.cell 2 rfl
        have y3 := HEb.out.cell 3 rfl
        clear hbn
        go_wp2_with fail
        refine hK.out _ _ (trivial) (fun hHeld => ?_)
        clear hK K
        try simp only [List.getElem_toArray, List.getElem_cons_zero, List.getElem_cons_succ, Act.put, List.setIfInBounds_toArray, List.set_cons_zero, List.set_cons_succ]
        refine wpAnyH_take (i := 9) (v := ?_) rfl (by kernel_rfl) (by kernel_rfl) (by kernel_rfl) (fun _ _ _ h => h) (Or.inl ⟨by rfl, ?_⟩) hHeld ?_
        rotate_left
        · intro w hSw
          (try dsimp only at hSw)
          (try simp only [List.getElem_toArray, List.getElem_cons_zero, List.getElem_cons_succ])
          go_simp
          all_goals with_reducible rfl
        try simp only [List.getElem_toArray, List.getElem_cons_zero, List.getElem_cons_succ, Act.put, List.setIfInBounds_toArray, List.set_cons_zero, List.set_cons_succ]
        refine wpAnyH_ready (rs := [10]) (by kernel_rfl) (by simp) ?_
        refine AllReadyH.cons rfl (fun K hK => ?_) AllReadyH.nil
        try simp only [List.getElem_toArray, List.getElem_cons_zero, List.getElem_cons_succ]
        go_simp
        replace HR := Lib.hid (HR.out.alloc (.cells #[.int .i64 (farP X Y ⟨c0, c1⟩).x, .int .i64 (farP X Y ⟨c0, c1⟩).y, .int .i64 (farP X Y ⟨c2, c3⟩).x, .int .i64 (farP X Y ⟨c2, c3⟩).y] 57))
        have HL := Lib.hid (erd_blk (Blk.new wn 57 (ecells [farE X Y ⟨⟨c0, c1⟩, c2, c3⟩]) rfl) rfl)
        have AB := AB.alloc AB.size (.cells #[.int .i64 (farP X Y ⟨c0, c1⟩).x, .int .i64 (farP X Y ⟨c0, c1⟩).y, .int .i64 (farP X Y ⟨c2, c3⟩).x, .int .i64 (farP X Y ⟨c2, c3⟩).y] 57)
        clear y0 y1 y2 y3
        refine hK.out _ _ (trivial) (fun hHeld => ?_)
        clear hK K
        try simp only [List.getElem_toArray, List.getElem_cons_zero, List.getElem_cons_succ, Act.put, List.setIfInBounds_toArray, List.set_cons_zero, List.set_cons_succ]
        refine wpAnyH_ready (rs := [11]) (by kernel_rfl) (by simp) ?_
        refine AllReadyH.cons rfl (fun K hK => ?_) AllReadyH.nil
        try simp only [List.getElem_toArray, List.getElem_cons_zero, List.getElem_cons_succ]
        refine step_if (by kernel_rfl) ?_
        refine join_wp (.tmp 44) (.tmp 54) ?_ w6.heap.size _ Lr r ?_ HR.out HLr.out _ 1 1 [farE X Y ⟨⟨c0, c1⟩, c2, c3⟩] ?_ HL.out rfl ?_ ?_ ?_
        · rfl
        · kernel_rfl
        · kernel_rfl
        · omega
        · exact AB.size
        intro A6 c6 wn hE6 hb6
        rw [← HT.out] at hE6
        have HE6 := Lib.hid hE6
        have AB := AB.trans hb6
        clear hb6 hE6 HR HL
        refine hK.out _ _ (trivial) (fun hHeld => ?_)
        clear hK K
        try simp only [List.getElem_toArray, List.getElem_cons_zero, List.getElem_cons_succ, Act.put, List.setIfInBounds_toArray, List.set_cons_zero, List.set_cons_succ]
        refine wpAnyH_take (i := 12) (v := ?_) rfl (by kernel_rfl) (by kernel_rfl) (by kernel_rfl) (fun _ _ _ h => h) (Or.inl ⟨by rfl, ?_⟩) hHeld ?_
        rotate_left
        · intro w hSw
          (try dsimp only at hSw)
          (try simp only [List.getElem_toArray, List.getElem_cons_zero, List.getElem_cons_succ])
          go_simp
          all_goals with_reducible rfl
        try simp only [List.getElem_toArray, List.getElem_cons_zero, List.getElem_cons_succ, Act.put, List.setIfInBounds_toArray, List.set_cons_zero, List.set_cons_succ]
        refine wpAnyH_done (by kernel_rfl) ?_ _
        go_wp2
        exact ⟨⟨r + 1, by omega, by go_num, HE6, Lib.hid AB⟩, by simp [intOf]; omega⟩
    · obtain rfl : r = N := by omega
      have hfull : es.take r = es := List.take_of_length_le (by rw [HN.out]; exact Nat.le_refl _)
      rw [hfull] at HE
      have HFR := Lib.hid (ERow.read HE.out)
      have HFW := HE
      have hG6 := Lib.hid HG6.out.lt
      obtain ⟨Af, cf, e⟩ := HE.out.form
      replace HFW := Lib.hid HFW.out
      rw [List.length_map, HN.out] at e
      subst e
      have HUr := Lib.hid (HU6.out.keep HB.out)
      have HXr := Lib.hid (HX6.out.keep HB.out)
      have HYr := Lib.hid (HY6.out.keep HB.out)
      have HGr := Lib.hid (HG6.out.keep HB.out)
      have HBr := Lib.hid (below2 HB6.out HB.out)
      have HB8 := Lib.hid HB.out
      clear HE HB HU6 HX6 HY6 HG6 HB6 hfull HMV
      obtain ⟨i0, hi0, hz0, hz1, hz2⟩ := infos einfo
      have bX := HXB.out
      have bY := HYB.out
      go_wp2_with fail
      generalize wr = w8 at *
      go_loopw [59, 17] (fun i u wr => ∃ q : Nat, q ≤ r ∧ i = .int .i64 q ∧ Hid (ERow wr w8.heap.size u ((es.take q).map (farE 0 0))) ∧ Hid (Below w8.heap.size w8 wr)) (fun i _ _ => r - (intOf i).toNat)
      case atStart => exact ⟨0, Nat.zero_le _, rfl, Lib.hid (ERow.nil _ _), Lib.hid (Below.refl _ _)⟩
      case round =>
        obtain ⟨q, hq, rfl, HE, HB⟩ := hrel
        by_cases hqn : q < r
        · have hrb : decide ((q : Int) < r) = true := by simp; omega
          obtain ⟨e1, hs⟩ : ∃ s, es[q]? = some s := ⟨_, List.getElem?_eq_getElem (by rw [HN.out]; exact hqn)⟩
          obtain ⟨a, rfl, ha, x0, x1, x2, x3⟩ := (HFR.out.keep HB.out).at q (farE X Y e1) (by rw [List.getElem?_map, hs]; rfl)
          have hT : (es.take (q + 1)).map (farE 0 0) = (es.take q).map (farE 0 0) ++ [farE 0 0 e1] := by rw [List.take_add_one, hs, List.map_append]; rfl
          have hLr : ((es.take q).map (farE 0 0)).length = q := by rw [List.length_map, List.length_take, HN.out]; omega
          obtain ⟨i1, i2⟩ := HIN.out e1 (List.mem_of_getElem? hs)
          have j1 := far_in bX bY i1
          have j2 := far_in bX bY i2
          have hne : farE 0 0 e1 = ⟨⟨(farP X Y e1.a).x - 32 * X, (farP X Y e1.a).y - 32 * Y⟩, ⟨(farP X Y e1.b).x - 32 * X, (farP X Y e1.b).y - 32 * Y⟩⟩ := by
            unfold farE farP
            simp only [Ed.mk.injEq, Pt.mk.injEq]
            omega
          rw [hne] at hT
          simp only [farE] at x0 x1 x2 x3
          generalize (es.take q).map (farE 0 0) = Lr at *
          generalize (farP X Y e1.a).x = c0 at *
          generalize (farP X Y e1.a).y = c1 at *
          generalize (farP X Y e1.b).x = c2 at *
          generalize (farP X Y e1.b).y = c3 at *
          have HT := Lib.hid hT
          have HLr := Lib.hid hLr
          have hxc := (HXr.out.keep HB.out).cell 0 rfl
          have hyc := (HYr.out.keep HB.out).cell 0 rfl
          have hxl := (HXr.out.keep HB.out).lt
          have hyl := (HYr.out.keep HB.out).lt
          have hsz := HB.out.size
          have HB1 := Lib.hid ((HB.out.alloc HB.out.size (.cells #[.int .i64 c0, .int .i64 c1, .int .i64 c2, .int .i64 c3] 57)).alloc (Nat.le_trans HB.out.size (by simp)) (.cells #[.int .i64 (c0 - 32 * X), .int .i64 (c1 - 32 * Y), .int .i64 (c2 - 32 * X), .int .i64 (c3 - 32 * Y)] 57))
          have HE1 := Lib.hid (ERow.own ((HE.out.alloc (.cells #[.int .i64 c0, .int .i64 c1, .int .i64 c2, .int .i64 c3] 57)).alloc (.cells #[.int .i64 (c0 - 32 * X), .int .i64 (c1 - 32 * Y), .int .i64 (c2 - 32 * X), .int .i64 (c3 - 32 * Y)] 57)) hLr)
          have HL1 := Lib.hid (Blk.new (wr.alloc (.cells #[.int .i64 c0, .int .i64 c1, .int .i64 c2, .int .i64 c3] 57)) 57 [.int .i64 (c0 - 32 * X), .int .i64 (c1 - 32 * Y), .int .i64 (c2 - 32 * X), .int .i64 (c3 - 32 * Y)] (g := wr.heap.size + 1) (by simp))
          clear hs hT hLr i1 i2 hne HE
          go_wp2_with (at_builtin; refine wpList_append_lies _ rfl _ _ _ (by rfl) w8.heap.size 57 i0 _ 4 32 Try.underlying26 hi0 hz0 hz1 hz2 (by rfl) (by omega) _ q _ (by rfl) HE1.out ⟨wr.heap.size + 1, 0, none⟩ 1 1 [.int .i64 (c0 - 32 * X), .int .i64 (c1 - 32 * Y), .int .i64 (c2 - 32 * X), .int .i64 (c3 - 32 * Y)] (by rfl) (by rfl) (World.news_of_block HL1.out) (by simp [Value.oneCell']) (by omega) (by simp [maxLen]; omega) (by omega) (by simp; omega) (wr.heap.size + 2) (by simp) ?_; intro g5 cp5 w5 hown hgrow hat hlt)
          have HE2 : Hid (ERow w5 w8.heap.size (.slice (some ⟨g5, 0, none⟩) (q + 1) cp5) ((es.take (q + 1)).map (farE 0 0))) := Lib.hid (by
            rw [HT.out]
            unfold ERow
            rw [List.length_append, HLr.out, ecells_push]
            exact hown)
          have HB2 := Lib.hid (HB1.out.grown hgrow HB1.out.size (fun k hk => (World.ownsRow.lt HE1.out k hk).1))
          exact ⟨⟨q + 1, by omega, by go_num, HE2, HB2⟩, by simp [intOf]; omega⟩
        · obtain rfl : q = r := by omega
          have hfull : es.take q = es := List.take_of_length_le (by rw [HN.out]; exact Nat.le_refl _)
          rw [hfull] at HE
          have hfm := far_move X Y es
          have hlf : (es.map (farE X Y)).length ≤ 200000 := by rw [List.length_map]; exact HLN.out
          have hif : ∀ e ∈ es.map (farE X Y), InD e := by
            intro e he
            obtain ⟨t, ht, rfl⟩ := List.mem_map.1 he
            exact ⟨far_in bX bY (HIN.out t ht).1, far_in bX bY (HIN.out t ht).2⟩
          have hin0 : ∀ e ∈ es.map (farE 0 0), InD e := by
            intro e he
            obtain ⟨t, ht, rfl⟩ := List.mem_map.1 he
            exact ⟨far_in (by omega) (by omega) (HIN.out t ht).1, far_in (by omega) (by omega) (HIN.out t ht).2⟩
          have hln0 : (es.map (farE 0 0)).length = q := by rw [List.length_map]; exact HN.out
          have hl0 : (es.map (farE 0 0)).length ≤ 200000 := by rw [hln0]; omega
          have HNW := Lib.hid HE.out
          have HFX := Lib.hid (HFW.out.below HB.out)
          have HW8 := HB8
          obtain ⟨An, cn, e⟩ := HE.out.form
          rw [hln0] at e
          subst e
          obtain ⟨x', hx'⟩ : ∃ x', x.tdiv 2 = x' := ⟨_, rfl⟩
          obtain ⟨y', hy'⟩ : ∃ y', y.tdiv 2 = y' := ⟨_, rfl⟩
          have bx' : -64 ≤ x' ∧ x' ≤ 64 := by rw [← hx', Int.tdiv_eq_ediv]; simp only [show (2 : Int).sign = 1 from rfl]; split <;> omega
          have by2 : -64 ≤ y' ∧ y' ≤ 64 := by rw [← hy', Int.tdiv_eq_ediv]; simp only [show (2 : Int).sign = 1 from rfl]; split <;> omega
          have hc1 : checkG x' y' p u v s = 0 := by unfold checkG; rw [if_neg (by omega), if_neg (by omega)]
          have hc2 : checkG (x' + X) (y' + Y) p u v s = 0 := by unfold checkG; rw [if_neg (by omega), if_neg (by omega)]
          have HM1 := Lib.hid (fun w h => H.make (.slice An q cn) (es.map (farE 0 0)) x' y' p s u v w h hl0 hin0 hc1)
          have HM2 := Lib.hid (fun w h => H.make (.slice Af q cf) (es.map (farE X Y)) (x' + X) (y' + Y) p s u v w h hlf hif hc2)
          rw [hfm, fldN_mv] at HM2
          rw [← hfm] at HM2
          have HLT := Lib.hid (fldN_lt (es.map (farE 0 0)) x' y' p s u (u * v) bs.1)
          generalize fldN (es.map (farE 0 0)) x' y' p s u (u * v) = bb at *
          have HXc := Lib.hid (HXr.out.keep HB.out)
          have HYc := Lib.hid (HYr.out.keep HB.out)
          have HGc := Lib.hid (HGr.out.keep HB.out)
          have HFc := Lib.hid (HFR.out.keep HB.out)
          have HBc := Lib.hid (below2 HBr.out HB.out)
          have k0 := HGc.out.cell 0 rfl
          have k1 := HGc.out.cell 1 rfl
          have k2 := HGc.out.cell 2 rfl
          have k3 := HGc.out.cell 3 rfl
          have k4 := HGc.out.cell 4 rfl
          have k5 := HGc.out.cell 5 rfl
          have kf := HGc.out.frozen
          have kl := HGc.out.lt
          have xc := HXc.out.cell 0 rfl
          have yc := HYc.out.cell 0 rfl
          have xl := HXc.out.lt
          have yl := HYc.out.lt
          have wx' : IntKind.i64.wrap x' = x' := wI (by omega) (by omega)
          have wy' : IntKind.i64.wrap y' = y' := wI (by omega) (by omega)
          clear HE HB HXr HYr HGr HFR HBr HFW hfull hfm hlf hif hin0 hln0 hl0 hc1 hc2 hck
          go_wp2_with fail
          go_region
          go_wp2_with fail
          have HQ := Lib.hid (Blk.new ((wr.setCell ⟨G, 0, none⟩ (.int .i64 x')).setCell ⟨G, 1, none⟩ (.int .i64 y')) 35 [.int .i64 (x' + X), .int .i64 (y' + Y), .int .i64 p, .int .i64 u, .int .i64 v, .int .i64 s] (g := wr.heap.size) (by simp)).drew
          have heq : ∀ k, k < wr.heap.size → k ≠ G → (((wr.setCell ⟨G, 0, none⟩ (.int .i64 x')).setCell ⟨G, 1, none⟩ (.int .i64 y')).alloc (.cells #[.int .i64 (x' + X), .int .i64 (y' + Y), .int .i64 p, .int .i64 u, .int .i64 v, .int .i64 s] 35)).drew.heap[k]? = wr.heap[k]? := fun k hk hg => (Below.heap_alloc _ _ k (by simpa using hk)).trans ((Below.heap_setCell _ ⟨G, 1, none⟩ _ k hg).trans (Below.heap_setCell _ ⟨G, 0, none⟩ _ k hg))
          have hg6 := hG6.out
          have hg8 : G < w8.heap.size := Nat.lt_of_lt_of_le hg6 HW8.out.size
          have HN9 := Lib.hid (ERow.read (own_blocks HNW.out fun k hk => heq k (World.ownsRow.lt HNW.out k hk).2 (by have := (World.ownsRow.lt HNW.out k hk).1; omega)))
          have HF9 := Lib.hid (ERow.read (own_blocks HFX.out fun k hk => heq k (World.ownsRow.lt HFX.out k hk).2 (by have := (World.ownsRow.lt HFX.out k hk).1; omega)))
          have HB9 := Lib.hid ((((HBc.out.setCell (p := ⟨G, 0, none⟩) hGw.out (.int .i64 x')).setCell (p := ⟨G, 1, none⟩) hGw.out (.int .i64 y')).alloc (by simpa using HBc.out.size) (.cells #[.int .i64 (x' + X), .int .i64 (y' + Y), .int .i64 p, .int .i64 u, .int .i64 v, .int .i64 s] 35)).drew)
          clear heq HGc HXc HYc HFc HBc HNW HFX hg6 hg8 k0 k1 k2 k3 k4 k5 kf kl xc yc xl yl
          generalize (((wr.setCell ⟨G, 0, none⟩ (.int .i64 x')).setCell ⟨G, 1, none⟩ (.int .i64 y')).alloc (.cells #[.int .i64 (x' + X), .int .i64 (y' + Y), .int .i64 p, .int .i64 u, .int .i64 v, .int .i64 s] 35)).drew = w9 at *
          generalize wr.heap.size = Q at *
          refine (HM1.out _ HN9.out).mono ?_
          rintro e w4 ⟨V, rfl, hV, hb⟩
          have hal : Below w4.heap.size w4 (w4.alloc (.cells #[.int .i64 u, .int .i64 v, V] 30)) := (Below.refl _ _).alloc (Nat.le_refl _) _
          have HQ5 := Lib.hid ((HQ.out.keep hb).keep hal)
          have HB5 := Lib.hid (below2 (below2 HB9.out hb) hal)
          have HR5 := Lib.hid ((HF9.out.keep hb).keep hal)
          have HV5 := Lib.hid (hV.keep hal)
          have HF5 := Lib.hid (Blk.new w4 30 [.int .i64 u, .int .i64 v, V] rfl)
          clear hb hal HQ HB9 HF9 HN9 hV HM1
          obtain ⟨Av, capv, rfl⟩ := HV5.out.form
          generalize bb.length = L at *
          have k0 := HQ5.out.cell 0 rfl
          have k1 := HQ5.out.cell 1 rfl
          have k2 := HQ5.out.cell 2 rfl
          have k3 := HQ5.out.cell 3 rfl
          have k4 := HQ5.out.cell 4 rfl
          have k5 := HQ5.out.cell 5 rfl
          have kl := HQ5.out.lt
          go_wp2_with fail
          refine (HM2.out _ HR5.out).mono ?_
          rintro e w7 ⟨V2, rfl, hV2, hb⟩
          have hal : Below w7.heap.size w7 (w7.alloc (.cells #[.int .i64 u, .int .i64 v, V2] 30)) := (Below.refl _ _).alloc (Nat.le_refl _) _
          have HF8 := Lib.hid ((HF5.out.keep hb).keep hal)
          have HB8 := Lib.hid (below2 (below2 HB5.out hb) hal)
          have HV8 := Lib.hid ((HV5.out.keep hb).keep hal)
          have HW8 := Lib.hid (hV2.keep hal)
          obtain ⟨Aw, capw, rfl⟩ := hV2.form
          clear hb hal HF5 HB5 HV5 HR5 HQ5 hV2 HM2 k0 k1 k2 k3 k4 k5 kl
          have f0 := HF8.out.cell 0 rfl
          have f1 := HF8.out.cell 1 rfl
          have f2 := HF8.out.cell 2 rfl
          have fl := HF8.out.lt
          go_wp2_with fail
          refine (same10_any _ _ _ _ _ _ (HV8.out.read HLT.out) (HW8.out.read HLT.out)).mono ?_
          rintro e w9 ⟨rfl, hb⟩
          have HB9 := Lib.hid (below2 HB8.out hb)
          clear hb
          go_wp2
          go_ret
          exact ⟨rfl, HB9.out⟩

end Go.Proofs.Ytlhngelifmjefaa
