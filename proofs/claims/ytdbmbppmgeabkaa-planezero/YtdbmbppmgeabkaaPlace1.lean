/-
  What the helpers of layer 3's laws do to any world: contracts (no claim is made here).
-/
import Derived.Test.YtdbmbppmgeabkaaPlane3
namespace Go.Proofs.Ytdbmbppmgeabkaa
open Go.RowKit

set_option maxHeartbeats 400000 in
theorem point_any (x y : Int) (hx : x.natAbs ≤ 32768) (hy : y.natAbs ≤ 32768) (w : World) :
    Calls Try.prog 10 #[.agg #[.int .i16 x, .int .i16 y]] w fun e w' => e = .returned (.agg #[.int .i64 x, .int .i64 y]) ∧ Below w.heap.size w w' := by
  go_enter Try.func10, Try.ntmps10
  go_wp2
  exact bodyPost_ret (v := .agg #[.int .i64 x, .int .i64 y]) (by simp [results, Try.results10, go_sem]) rfl ⟨rfl, alloc2 _ _ _⟩

set_option maxHeartbeats 400000 in
theorem small_any (x y : Int) (hx : x.natAbs ≤ 32768) (hy : y.natAbs ≤ 32768) (w : World) :
    Calls Try.prog 11 #[.agg #[.int .i16 x, .int .i16 y]] w fun e w' => e = .returned (.agg #[.int .i64 (x.tmod 8193), .int .i64 (y.tmod 8193)]) ∧ Below w.heap.size w w' := by
  go_enter Try.func11, Try.ntmps11
  go_wp2
  exact bodyPost_ret (v := .agg #[.int .i64 (x.tmod 8193), .int .i64 (y.tmod 8193)]) (by simp [results, Try.results11, go_sem]) rfl ⟨rfl, alloc2 _ _ _⟩

set_option maxHeartbeats 400000 in
theorem quarter_any (x y : Int) (hy : y.natAbs ≤ 32768) (w : World) :
    Calls Try.prog 7 #[.agg #[.int .i64 x, .int .i64 y]] w fun e w' => e = .returned (.agg #[.int .i64 (-y), .int .i64 x]) ∧ Below w.heap.size w w' := by
  have e1 : IntKind.i64.wrap (-y) = -y := wI (by omega) (by omega)
  go_enter Try.func7, Try.ntmps7
  go_wp2
  exact bodyPost_ret (v := .agg #[.int .i64 (-y), .int .i64 x]) (by simp [results, Try.results7, go_sem]) rfl ⟨rfl, alloc2 _ _ _⟩

set_option maxHeartbeats 400000 in
theorem half_any (x y : Int) (hx : x.natAbs ≤ 32768) (hy : y.natAbs ≤ 32768) (w : World) :
    Calls Try.prog 14 #[.agg #[.int .i64 x, .int .i64 y]] w fun e w' => e = .returned (.agg #[.int .i64 (x.tdiv 2), .int .i64 (y.tdiv 2)]) ∧ Below w.heap.size w w' := by
  go_enter Try.func14, Try.ntmps14
  go_wp2
  exact bodyPost_ret (v := .agg #[.int .i64 (x.tdiv 2), .int .i64 (y.tdiv 2)]) (by simp [results, Try.results14, go_sem]) rfl ⟨rfl, alloc2 _ _ _⟩

theorem four_of {w ws W : World} {ga gb : Nat} {a0 a1 b0 b1 : Value} (x0 : ws.cell? ⟨ga, 0, none⟩ = some a0) (x1 : ws.cell? ⟨ga, 1, none⟩ = some a1) (y0 : ws.cell? ⟨gb, 0, none⟩ = some b0) (y1 : ws.cell? ⟨gb, 1, none⟩ = some b1) (h : Below w.heap.size w ws) (hb : Below ws.heap.size ws W) :
    W.cell? ⟨ga, 0, none⟩ = some a0 ∧ W.cell? ⟨ga, 1, none⟩ = some a1 ∧ W.cell? ⟨gb, 0, none⟩ = some b0 ∧ W.cell? ⟨gb, 1, none⟩ = some b1 ∧ Below w.heap.size w W :=
  ⟨keep hb x0, keep hb x1, keep hb y0, keep hb y1, below2 h hb⟩
theorem four_set {w W : World} {ga gb gr : Nat} {a0 a1 b0 b1 : Value} (s0 s1 s2 s3 : Value) (ha : ¬ ga = gr) (hb : ¬ gb = gr) (hg : w.heap.size ≤ gr)
    (h : W.cell? ⟨ga, 0, none⟩ = some a0 ∧ W.cell? ⟨ga, 1, none⟩ = some a1 ∧ W.cell? ⟨gb, 0, none⟩ = some b0 ∧ W.cell? ⟨gb, 1, none⟩ = some b1 ∧ Below w.heap.size w W) :
    ((((W.setCell ⟨gr, 0, none⟩ s0).setCell ⟨gr, 1, none⟩ s1).setCell ⟨gr, 2, none⟩ s2).setCell ⟨gr, 3, none⟩ s3).cell? ⟨ga, 0, none⟩ = some a0 ∧ ((((W.setCell ⟨gr, 0, none⟩ s0).setCell ⟨gr, 1, none⟩ s1).setCell ⟨gr, 2, none⟩ s2).setCell ⟨gr, 3, none⟩ s3).cell? ⟨ga, 1, none⟩ = some a1 ∧
    ((((W.setCell ⟨gr, 0, none⟩ s0).setCell ⟨gr, 1, none⟩ s1).setCell ⟨gr, 2, none⟩ s2).setCell ⟨gr, 3, none⟩ s3).cell? ⟨gb, 0, none⟩ = some b0 ∧ ((((W.setCell ⟨gr, 0, none⟩ s0).setCell ⟨gr, 1, none⟩ s1).setCell ⟨gr, 2, none⟩ s2).setCell ⟨gr, 3, none⟩ s3).cell? ⟨gb, 1, none⟩ = some b1 ∧
    Below w.heap.size w ((((W.setCell ⟨gr, 0, none⟩ s0).setCell ⟨gr, 1, none⟩ s1).setCell ⟨gr, 2, none⟩ s2).setCell ⟨gr, 3, none⟩ s3) := by
  have o : ∀ (W : World) (g i j : Nat) (s : Value), ¬ g = gr → (W.setCell ⟨gr, i, none⟩ s).cell? ⟨g, j, none⟩ = W.cell? ⟨g, j, none⟩ := fun W g i j s hij => World.cell?_setCell_other _ _ _ _ (by intro h; simp only [Addr.mk.injEq] at h; omega)
  refine ⟨?_, ?_, ?_, ?_, (((h.2.2.2.2.setCell hg _).setCell hg _).setCell hg _).setCell hg _⟩
  · rw [o _ _ _ _ _ ha, o _ _ _ _ _ ha, o _ _ _ _ _ ha, o _ _ _ _ _ ha]; exact h.1
  · rw [o _ _ _ _ _ ha, o _ _ _ _ _ ha, o _ _ _ _ _ ha, o _ _ _ _ _ ha]; exact h.2.1
  · rw [o _ _ _ _ _ hb, o _ _ _ _ _ hb, o _ _ _ _ _ hb, o _ _ _ _ _ hb]; exact h.2.2.1
  · rw [o _ _ _ _ _ hb, o _ _ _ _ _ hb, o _ _ _ _ _ hb, o _ _ _ _ _ hb]; exact h.2.2.2.1

/-- A block of four cells that may be written. -/
def FourW (w : World) (g : Nat) (u v x y : Value) : Prop := Four w g u v x y ∧ w.frozen? ⟨g, 0, none⟩ = false ∧ w.frozen? ⟨g, 1, none⟩ = false ∧ w.frozen? ⟨g, 2, none⟩ = false ∧ w.frozen? ⟨g, 3, none⟩ = false
theorem FourW.keep {W w : World} {g : Nat} {u v x y : Value} (h : FourW W g u v x y) (hb : Below W.heap.size W w) : FourW w g u v x y :=
  ⟨h.1.keep hb, (hb.frozen (p := ⟨g, 0, none⟩) h.1.lt).trans h.2.1, (hb.frozen (p := ⟨g, 1, none⟩) h.1.lt).trans h.2.2.1, (hb.frozen (p := ⟨g, 2, none⟩) h.1.lt).trans h.2.2.2.1, (hb.frozen (p := ⟨g, 3, none⟩) h.1.lt).trans h.2.2.2.2⟩
theorem FourW.alloc {W : World} {g : Nat} {u v x y : Value} (h : FourW W g u v x y) (o : Obj) : FourW (W.alloc o) g u v x y := h.keep ((Below.refl _ W).alloc (Nat.le_refl _) o)
theorem FourW.new {W : World} {g : Nat} (u v x y : Value) (t : TypeId) (h : g = W.heap.size) : FourW (W.alloc (.cells #[u, v, x, y] t)) g u v x y := by
  subst h; exact ⟨Four.new _ _ _ _ _ rfl, by simp, by simp, by simp, by simp⟩
theorem FourW.ret {w W : World} {g : Nat} {u v x y : Value} (h : FourW W g u v x y) (s0 s1 s2 s3 : Value) (hb : Below w.heap.size w W) (hg : w.heap.size ≤ g) :
    Four ((((W.setCell ⟨g, 0, none⟩ s0).setCell ⟨g, 1, none⟩ s1).setCell ⟨g, 2, none⟩ s2).setCell ⟨g, 3, none⟩ s3) g s0 s1 s2 s3 ∧ Below w.heap.size w ((((W.setCell ⟨g, 0, none⟩ s0).setCell ⟨g, 1, none⟩ s1).setCell ⟨g, 2, none⟩ s2).setCell ⟨g, 3, none⟩ s3) := by
  obtain ⟨⟨h0, h1, h2, h3⟩, -⟩ := h
  have o : ∀ (W : World) (i j : Nat) (s : Value), i ≠ j → (W.setCell ⟨g, i, none⟩ s).cell? ⟨g, j, none⟩ = W.cell? ⟨g, j, none⟩ := fun W i j s hij => World.cell?_setCell_other _ _ _ _ (by intro h; simp only [Addr.mk.injEq] at h; omega)
  refine ⟨⟨?_, ?_, ?_, ?_⟩, (((hb.setCell hg _).setCell hg _).setCell hg _).setCell hg _⟩
  · rw [o _ 3 0 _ (by omega), o _ 2 0 _ (by omega), o _ 1 0 _ (by omega)]; exact World.cell?_setCell_same _ _ _ h0
  · rw [o _ 3 1 _ (by omega), o _ 2 1 _ (by omega)]; exact World.cell?_setCell_same _ _ _ (by rw [o _ 0 1 _ (by omega)]; exact h1)
  · rw [o _ 3 2 _ (by omega)]; exact World.cell?_setCell_same _ _ _ (by rw [o _ 1 2 _ (by omega), o _ 0 2 _ (by omega)]; exact h2)
  · exact World.cell?_setCell_same _ _ _ (by rw [o _ 2 3 _ (by omega), o _ 1 3 _ (by omega), o _ 0 3 _ (by omega)]; exact h3)

set_option maxHeartbeats 800000 in
theorem edge_raw (a0 a1 b0 b1 x0 x1 y0 y1 : Int)
    (HA : Hid (∀ w, Calls Try.prog 11 #[.agg #[.int .i16 a0, .int .i16 a1]] w fun e w' => e = .returned (.agg #[.int .i64 x0, .int .i64 x1]) ∧ Below w.heap.size w w'))
    (HB : Hid (∀ w, Calls Try.prog 11 #[.agg #[.int .i16 b0, .int .i16 b1]] w fun e w' => e = .returned (.agg #[.int .i64 y0, .int .i64 y1]) ∧ Below w.heap.size w w')) (w : World) :
    Calls Try.prog 9 #[.agg #[.int .i16 a0, .int .i16 a1], .agg #[.int .i16 b0, .int .i16 b1]] w fun e w' => e = .returned (.agg #[.int .i64 x0, .int .i64 x1, .int .i64 y0, .int .i64 y1]) ∧ Below w.heap.size w w' := by
  go_enter Try.func9, Try.ntmps9
  go_wp2_with fail
  have TA : Two (((w.alloc (.cells #[.int .i16 a0, .int .i16 a1] 24)).alloc (.cells #[.int .i16 b0, .int .i16 b1] 24)).alloc (.cells #[.int .i64 0, .int .i64 0, .int .i64 0, .int .i64 0] 33)) w.heap.size _ _ := ((Two.new _ _ _ rfl).alloc _).alloc _
  have TB : Two (((w.alloc (.cells #[.int .i16 a0, .int .i16 a1] 24)).alloc (.cells #[.int .i16 b0, .int .i16 b1] 24)).alloc (.cells #[.int .i64 0, .int .i64 0, .int .i64 0, .int .i64 0] 33)) (w.heap.size + 1) _ _ := (Two.new _ _ _ (by simp)).alloc _
  have TR : FourW (((w.alloc (.cells #[.int .i16 a0, .int .i16 a1] 24)).alloc (.cells #[.int .i16 b0, .int .i16 b1] 24)).alloc (.cells #[.int .i64 0, .int .i64 0, .int .i64 0, .int .i64 0] 33)) (w.heap.size + 1 + 1) _ _ _ _ := FourW.new _ _ _ _ _ (by simp)
  have BS := alloc3 w (.cells #[.int .i16 a0, .int .i16 a1] 24) (.cells #[.int .i16 b0, .int .i16 b1] 24) (.cells #[.int .i64 0, .int .i64 0, .int .i64 0, .int .i64 0] 33)
  generalize ((w.alloc (.cells #[.int .i16 a0, .int .i16 a1] 24)).alloc (.cells #[.int .i16 b0, .int .i16 b1] 24)).alloc (.cells #[.int .i64 0, .int .i64 0, .int .i64 0, .int .i64 0] 33) = ws at *
  generalize hgr : w.heap.size + 1 + 1 = gr at *
  generalize hgb : w.heap.size + 1 = gb at *
  generalize hge : w.heap.size = ge at *
  have hlt : w.heap.size ≤ gr := by omega
  have n1 : ¬ ge = gr := by omega
  have n2 : ¬ gb = gr := by omega
  rw [← hge] at BS
  clear hgr hgb
  obtain ⟨a0c, a1c, -, -⟩ := TA
  obtain ⟨b0c, b1c, -, -⟩ := TB
  have hD : ws.drew.cell? ⟨ge, 0, none⟩ = some (.int .i16 a0) ∧ ws.drew.cell? ⟨ge, 1, none⟩ = some (.int .i16 a1) ∧ ws.drew.cell? ⟨gb, 0, none⟩ = some (.int .i16 b0) ∧ ws.drew.cell? ⟨gb, 1, none⟩ = some (.int .i16 b1) ∧ Below w.heap.size w ws.drew := ⟨a0c, a1c, b0c, b1c, BS.drew⟩
  go_region_held3 (fun wx => wx.cell? ⟨ge, 0, none⟩ = some (.int .i16 a0) ∧ wx.cell? ⟨ge, 1, none⟩ = some (.int .i16 a1) ∧ wx.cell? ⟨gb, 0, none⟩ = some (.int .i16 b0) ∧ wx.cell? ⟨gb, 1, none⟩ = some (.int .i16 b1) ∧ Below w.heap.size w wx)
    (first
      | with_reducible assumption
      | with_reducible exact four_set _ _ _ _ n1 n2 hlt hS3)
    (first
      | (go_at_call 11; (with_reducible refine (HA.out _).mono ?_); rintro e w2 ⟨rfl, hb2⟩; replace hb2 := undrew hb2; have hS2 := four_of a0c a1c b0c b1c BS hb2)
      | (go_at_call 11; (with_reducible refine (HB.out _).mono ?_); rintro e w3 ⟨rfl, hb3⟩; have A3 := below2 hb2 hb3; have hS3 := four_of a0c a1c b0c b1c BS A3; have TR3 := TR.keep A3; have zr := TR3.1.lt; have r0 := TR3.1.1; have r1 := TR3.1.2.1; have r2 := TR3.1.2.2.1; have r3 := TR3.1.2.2.2; have k0 := TR3.2.1; have k1 := TR3.2.2.1; have k2 := TR3.2.2.2.1; have k3 := TR3.2.2.2.2))
  obtain ⟨⟨q0, q1, q2, q3⟩, BF⟩ := TR3.ret (.int .i64 x0) (.int .i64 x1) (.int .i64 y0) (.int .i64 y1) hS3.2.2.2.2 hlt
  clear hD hS2 hS3 r0 r1 r2 r3 k0 k1 k2 k3 TR TR3 hb2 hb3 A3 a0c a1c b0c b1c BS
  go_wp2_with fail
  exact bodyPost_ret (v := .agg #[.int .i64 x0, .int .i64 x1, .int .i64 y0, .int .i64 y1]) (by simp [results, Try.results9, go_sem, q0, q1, q2, q3]) rfl ⟨rfl, BF⟩

theorem edge_any (a0 a1 b0 b1 : Int) (ha : a0.natAbs ≤ 32768 ∧ a1.natAbs ≤ 32768) (hb : b0.natAbs ≤ 32768 ∧ b1.natAbs ≤ 32768) (w : World) :
    Calls Try.prog 9 #[.agg #[.int .i16 a0, .int .i16 a1], .agg #[.int .i16 b0, .int .i16 b1]] w fun e w' => e = .returned (.agg #[.int .i64 (a0.tmod 8193), .int .i64 (a1.tmod 8193), .int .i64 (b0.tmod 8193), .int .i64 (b1.tmod 8193)]) ∧ Below w.heap.size w w' :=
  edge_raw a0 a1 b0 b1 _ _ _ _ (Lib.hid fun w => small_any _ _ ha.1 ha.2 w) (Lib.hid fun w => small_any _ _ hb.1 hb.2 w) w

end Go.Proofs.Ytdbmbppmgeabkaa
