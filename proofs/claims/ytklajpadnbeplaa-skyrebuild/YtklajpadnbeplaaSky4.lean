/-
  The document's examples of layer 14 (no claim is made here).
-/
import Derived.Test.YtklajpadnbeplaaSky3
namespace Go.Proofs.Ytklajpadnbeplaa
open Go.RowKit

def exL : List Nat := [2, 2, 2, 0, 0, 0, 0, 0]
theorem ex_may : mayL (List.replicate (side 8) 0) (side 9) 0 0 3 2 = true := by decide
theorem ex_laid : laidL (List.replicate (side 8) 0) (side 9) 0 0 3 2 = exL := by decide
theorem ex_fit6 : fitV exL (side 9) 6 1 = (((0 : Int), (2 : Int), (6 : Int), (1 : Int)), true) := by decide
theorem ex_fit5 : fitV exL (side 9) 5 1 = (((3 : Int), (0 : Int), (5 : Int), (1 : Int)), true) := by decide
theorem ex_high2 : highL exL 2 = 2 := by decide
theorem ex_high8 : highL exL 8 = -1 := by decide
theorem ex_reb : rebL (side 8) (side 9) [((0 : Int), (0 : Int), (3 : Int), (2 : Int))] = exL := by decide
theorem ex_steps : (stepsL exL).length = 2 := by decide
theorem rrd_one {w : World} {g : Nat} {r : Rc} (h : Blk w g 31 [.int .i64 r.1, .int .i64 r.2.1, .int .i64 r.2.2.1, .int .i64 r.2.2.2]) : RRd w (.slice (some ⟨g, 0, none⟩) 1 1) [r] := by
  refine ⟨_, 1, rfl, Nat.le_refl _, fun i hi => ?_⟩
  obtain rfl : i = 0 := by simp at hi; omega
  exact ⟨_, rfl, h.lt, h.cell 0 rfl, h.cell 1 rfl, h.cell 2 rfl, h.cell 3 rfl⟩

set_option maxRecDepth 100000 in
set_option maxHeartbeats 1600000 in
theorem awake14 {R : World → (Nat → Prop) → Value → List Nat → Nat → Prop} (K : SkyOK R) (w : World) : Calls Try.prog 10 #[] w fun e w' => e = .returned (.bool true) ∧ Below w.heap.size w w' := by
  have H1 := Lib.hid (K.of 8 9 w (by decide) (by decide))
  have H2 := Lib.hid (fun ks v w h => K.put ks v (List.replicate (side 8) 0) (side 9) ((0 : Int), (0 : Int), (3 : Int), (2 : Int)) w h ⟨⟨by decide, by decide⟩, by decide, by decide⟩)
  have H3 := Lib.hid (fun ks v w h => K.fit ks v exL (side 9) 6 1 w h (by decide) (by decide))
  have H4 := Lib.hid (fun ks v w h => K.fit ks v exL (side 9) 5 1 w h (by decide) (by decide))
  have H5 := Lib.hid (fun vr w h => K.rebuild 8 9 vr [((0 : Int), (0 : Int), (3 : Int), (2 : Int))] w (by decide) (by decide) h (by decide) (by intro r hr; rw [List.mem_singleton] at hr; subst hr; exact ⟨⟨by decide, by decide⟩, by decide, by decide⟩))
  have H6 := Lib.hid (fun ks v w h => K.high ks v exL (side 9) 2 w h (by decide))
  have H7 := Lib.hid (fun ks v w h => K.high ks v exL (side 9) 8 w h (by decide))
  have H8 := Lib.hid (fun ks v w h => K.steps ks v exL (side 9) w h)
  rw [ex_reb] at H5
  rw [ex_fit6] at H3
  rw [ex_fit5] at H4
  simp only [rcV] at H3 H4
  rw [ex_high2] at H6
  rw [ex_high8] at H7
  go_enter Try.func10, Try.ntmps10
  go_wp2_with fail
  refine H1.out.mono ?_
  rintro e w1 ⟨ks, v, rfl, hR, hks, hb⟩
  have HB1 := Lib.hid hb
  obtain ⟨a, rfl⟩ := K.ptr hR
  have H2a := H2.out _ _ _ hR
  rw [ex_may, ex_laid] at H2a
  replace H2a := Lib.hid H2a
  have HKS := Lib.hid hks
  clear hb hks hR H1 H2
  go_wp2_with fail
  refine H2a.out.mono ?_
  rintro e w2 ⟨rfl, ks2, hR, hk2, hb⟩
  have HR2 := Lib.hid hR
  have HB2 := Lib.hid (HB1.out.trans (hb.below (B := w.heap.size) HKS.out HB1.out.size))
  clear hb hR hk2 H2a HB1 HKS
  go_wp2_with fail
  refine (H3.out _ _ _ HR2.out).mono ?_
  rintro e w3 ⟨rfl, hb⟩
  have hal : Below w3.heap.size w3 (w3.alloc (.cells #[.int .i64 0, .int .i64 2, .int .i64 6, .int .i64 1] 31)) := (Below.refl _ _).alloc (Nat.le_refl _) _
  have HR4 := Lib.hid (K.below (K.below HR2.out hb) hal)
  have HB4 := Lib.hid (below2 (below2 HB2.out hb) hal)
  have HA4 := Lib.hid (Blk.new w3 31 [.int .i64 0, .int .i64 2, .int .i64 6, .int .i64 1] rfl)
  clear hb hal HR2 HB2 H3
  go_wp2_with fail
  refine (H4.out _ _ _ HR4.out).mono ?_
  rintro e w5 ⟨rfl, hb⟩
  have hal : Below w5.heap.size w5 (w5.alloc (.cells #[.int .i64 3, .int .i64 0, .int .i64 5, .int .i64 1] 31)) := (Below.refl _ _).alloc (Nat.le_refl _) _
  have hal2 : Below (w5.alloc (.cells #[.int .i64 3, .int .i64 0, .int .i64 5, .int .i64 1] 31)).heap.size (w5.alloc (.cells #[.int .i64 3, .int .i64 0, .int .i64 5, .int .i64 1] 31)) ((w5.alloc (.cells #[.int .i64 3, .int .i64 0, .int .i64 5, .int .i64 1] 31)).alloc (.cells #[.int .i64 0, .int .i64 0, .int .i64 3, .int .i64 2] 31)) := (Below.refl _ _).alloc (Nat.le_refl _) _
  have HR6 := Lib.hid (K.below (K.below (K.below HR4.out hb) hal) hal2)
  have HB6 := Lib.hid (below2 (below2 (below2 HB4.out hb) hal) hal2)
  have HA6 := Lib.hid (((HA4.out.keep hb).keep hal).keep hal2)
  have HE6 := Lib.hid ((Blk.new w5 31 [.int .i64 3, .int .i64 0, .int .i64 5, .int .i64 1] rfl).keep hal2)
  have HC6 := Lib.hid (rrd_one (r := ((0 : Int), (0 : Int), (3 : Int), (2 : Int))) (Blk.new (w5.alloc (.cells #[.int .i64 3, .int .i64 0, .int .i64 5, .int .i64 1] 31)) 31 [.int .i64 0, .int .i64 0, .int .i64 3, .int .i64 2] (g := w5.heap.size + 1) (by simp)))
  clear hb hal hal2 HR4 HB4 HA4 H4
  generalize w3.heap.size = F1 at *
  go_wp2_with fail
  refine (H5.out _ _ HC6.out).mono ?_
  rintro e w7 ⟨kt, vt, rfl, hT, _, hb⟩
  have HR7 := Lib.hid (K.below HR6.out hb)
  have HT7 := Lib.hid hT
  have HB7 := Lib.hid (below2 HB6.out hb)
  have HA7 := Lib.hid (HA6.out.keep hb)
  have HE7 := Lib.hid (HE6.out.keep hb)
  obtain ⟨at_, rfl⟩ := K.ptr hT
  clear hb hT HR6 HB6 HA6 HE6 HC6 H5
  generalize w5.heap.size = F2 at *
  have a0 := HA7.out.cell 0 rfl
  have a1 := HA7.out.cell 1 rfl
  have a2 := HA7.out.cell 2 rfl
  have a3 := HA7.out.cell 3 rfl
  have al := HA7.out.lt
  have b0 := HE7.out.cell 0 rfl
  have b1 := HE7.out.cell 1 rfl
  have b2 := HE7.out.cell 2 rfl
  have b3 := HE7.out.cell 3 rfl
  have bl := HE7.out.lt
  go_wp2_with fail
  refine (H6.out _ _ _ HR7.out).mono ?_
  rintro e w8 ⟨rfl, hb⟩
  have HR8 := Lib.hid (K.below HR7.out hb)
  have HT8 := Lib.hid (K.below HT7.out hb)
  have HB8 := Lib.hid (below2 HB7.out hb)
  clear hb HR7 HT7 HB7 HA7 HE7 H6 a0 a1 a2 a3 al b0 b1 b2 b3 bl
  go_wp2_with fail
  refine (H7.out _ _ _ HR8.out).mono ?_
  rintro e w9 ⟨rfl, hb⟩
  have HT9 := Lib.hid (K.below HT8.out hb)
  have HB9 := Lib.hid (below2 HB8.out hb)
  clear hb HR8 HT8 HB8 H7
  go_wp2_with fail
  refine (H8.out _ _ _ HT9.out).mono ?_
  rintro e w10 ⟨V, rfl, hV, hb⟩
  have HBz := Lib.hid (below2 HB9.out hb)
  obtain ⟨Av, cv, rfl⟩ := hV.form
  rw [ex_steps]
  clear hb hV HT9 HB9
  go_wp2_with fail
  go_ret
  exact ⟨rfl, HBz.out⟩

end Go.Proofs.Ytklajpadnbeplaa
