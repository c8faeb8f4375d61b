/-
  Layer 6's examples (no claim is made here).
-/
import Derived.Test.YtnejdngeeppphaaFlt3
import Derived.Test.YtnejdngeeppphaaFlt4
namespace Go.Proofs.Ytnejdngeeppphaa
open Go.RowKit

theorem srd_blk {w : World} {g : Nat} {t : TypeId} {l : List Sg} {n : Nat} (h : Blk w g t (scells l)) (hn : l.length = n) : SRd w (.slice (some ⟨g, 0, none⟩) n n) l := by
  subst hn
  refine ⟨_, _, rfl, Nat.le_refl _, fun i hi => ⟨_, rfl, h.lt, ?_⟩⟩
  have k : ∀ j, (⟨g, 0, none⟩ : Addr).add j = ⟨g, j, none⟩ := fun j => by unfold Addr.add; by_cases h0 : j = 0 <;> simp [h0]
  unfold SAt
  rw [k, k, k, k, k, k, k]
  exact ⟨h.cell _ (scells_at l i 0 hi (by omega)), h.cell _ (scells_at l i 1 hi (by omega)), h.cell _ (scells_at l i 2 hi (by omega)), h.cell _ (scells_at l i 3 hi (by omega)), h.cell _ (scells_at l i 4 hi (by omega)), h.cell _ (scells_at l i 5 hi (by omega)), h.cell _ (scells_at l i 6 hi (by omega))⟩
def exS : Sg := ⟨⟨0, 0⟩, ⟨2, 4⟩, ⟨4, 0⟩, true⟩
def exT : Sg := ⟨⟨4, 0⟩, ⟨4, 0⟩, ⟨0, 0⟩, false⟩
theorem ex_edges : edgesS [exS, exT] = [⟨⟨0, 0⟩, ⟨16, 24⟩⟩, ⟨⟨16, 24⟩, ⟨32, 32⟩⟩, ⟨⟨32, 32⟩, ⟨48, 24⟩⟩, ⟨⟨48, 24⟩, ⟨64, 0⟩⟩, ⟨⟨64, 0⟩, ⟨0, 0⟩⟩] := by decide
theorem ex_box : boxS [⟨⟨0, 0⟩, ⟨16, 24⟩⟩, ⟨⟨16, 24⟩, ⟨32, 32⟩⟩, ⟨⟨32, 32⟩, ⟨48, 24⟩⟩, ⟨⟨48, 24⟩, ⟨64, 0⟩⟩, ⟨⟨64, 0⟩, ⟨0, 0⟩⟩] = (⟨0, 0⟩, ⟨64, 32⟩) := by decide

theorem exS_in : inS exS := by unfold inS inX exS; simp
theorem exT_in : inS exT := by unfold inS inX exT; simp

set_option maxHeartbeats 1600000 in
theorem awake6 (w : World) : Calls Try.prog 9 #[] w fun e w' => e = .returned (.bool true) ∧ Below w.heap.size w w' := by
  have HO := Lib.hid (fun w => pon_any 0 0 2 4 4 0 true 2 (by omega) exS_in w)
  have K0 := (Blk.new w 25 [.int .i64 0, .int .i64 0, .int .i64 2, .int .i64 4, .int .i64 4, .int .i64 0, .bool true] rfl).alloc (.cells #[.int .i64 0, .int .i64 0, .int .i64 2, .int .i64 4, .int .i64 4, .int .i64 0, .bool true, .int .i64 4, .int .i64 0, .int .i64 4, .int .i64 0, .int .i64 0, .int .i64 0, .bool false] 25)
  have K1 := Blk.new (w.alloc (.cells #[.int .i64 0, .int .i64 0, .int .i64 2, .int .i64 4, .int .i64 4, .int .i64 0, .bool true] 25)) 25 [.int .i64 0, .int .i64 0, .int .i64 2, .int .i64 4, .int .i64 4, .int .i64 0, .bool true, .int .i64 4, .int .i64 0, .int .i64 4, .int .i64 0, .int .i64 0, .int .i64 0, .bool false] (g := w.heap.size + 1) (by simp)
  have HE := Lib.hid (edges_any (.slice (some ⟨w.heap.size + 1, 0, none⟩) 2 2) [exS, exT] _ (srd_blk K1 rfl) (by decide) (by
    intro s hs
    simp only [List.mem_cons, List.not_mem_nil, or_false] at hs
    rcases hs with rfl | rfl
    · exact exS_in
    · exact exT_in))
  have HB0 := Lib.hid (below_a2 w (.cells #[.int .i64 0, .int .i64 0, .int .i64 2, .int .i64 4, .int .i64 4, .int .i64 0, .bool true] 25) (.cells #[.int .i64 0, .int .i64 0, .int .i64 2, .int .i64 4, .int .i64 4, .int .i64 0, .bool true, .int .i64 4, .int .i64 0, .int .i64 4, .int .i64 0, .int .i64 0, .int .i64 0, .bool false] 25))
  have HK0 := Lib.hid K0
  clear K0 K1
  go_enter Try.func9, Try.ntmps9
  go_wp2_with fail
  refine HE.out.mono ?_
  rintro e w2 ⟨u, rfl, hu, hb2⟩
  rw [ex_edges] at hu
  have hr := ERow.read hu
  have CX := box_any u _ w2 hr (by decide)
  rw [ex_box] at CX
  simp only [ptA] at CX
  have HBX := Lib.hid CX
  clear CX
  obtain ⟨A, cap, rfl⟩ := hu.form
  obtain ⟨a, rfl, ha, x0, x1, x2, x3⟩ := hr.at 4 _ rfl
  have HB2 := Lib.hid (HB0.out.trans (hb2.mono HB0.out.size))
  have K2 := HK0.out.keep hb2
  have hcap : 5 ≤ cap := by obtain ⟨_, _, e, h, _⟩ := hr; injection e with _ _ e; rw [e]; exact h
  have hX := Lib.hid (And.intro x0 (And.intro x1 (And.intro x2 x3)))
  have HK2 := Lib.hid K2
  clear hb2 hu hr HE HB0 HK0 x0 x1 x2 x3 K2
  go_wp2_with fail
  refine HBX.out.mono ?_
  rintro e w3 ⟨rfl, hb3⟩
  have HB3 := Lib.hid (HB2.out.trans (hb3.mono HB2.out.size))
  have K3 := (HK2.out.keep hb3)
  obtain ⟨x0, x1, x2, x3⟩ := hX.out
  have y0 := keepc hb3 x0
  have y1 := keepc hb3 x1
  have y2 := keepc hb3 x2
  have y3 := keepc hb3 x3
  have z := Nat.lt_of_lt_of_le ha hb3.size
  have ea : a.add (4 * 4) = ⟨a.block, a.off + 16, none⟩ := by simp [Addr.add]
  rw [ea] at y0 y1 y2 y3
  have k0 := K3.cell 0 rfl
  have k1 := K3.cell 1 rfl
  have k2 := K3.cell 2 rfl
  have k3 := K3.cell 3 rfl
  have k4 := K3.cell 4 rfl
  have k5 := K3.cell 5 rfl
  have k6 := K3.cell 6 rfl
  have kz := K3.lt
  clear hb3 x0 x1 x2 x3 hX HK2 K3
  clear ea
  go_wp2_with fail
  refine (HO.out _).mono ?_
  rintro e w4 ⟨rfl, hb4⟩
  have HB4 := Lib.hid ((HB3.out.alloc HB3.out.size _).alloc (Nat.le_trans HB3.out.size (by simp)) _ |>.trans (hb4.mono (Nat.le_trans HB3.out.size (by simp; omega))))
  have l0 := (Blk.new w3 23 [.int .i64 0, .int .i64 0] rfl).alloc (.cells #[.int .i64 64, .int .i64 32] 23)
  have l1 := Blk.new (w3.alloc (.cells #[.int .i64 0, .int .i64 0] 23)) 23 [.int .i64 64, .int .i64 32] (g := w3.heap.size + 1) (by simp)
  have L0 := l0.keep hb4
  have L1 := l1.keep hb4
  have m0 := L0.cell 0 rfl
  have m1 := L0.cell 1 rfl
  have m2 := L1.cell 0 rfl
  have m3 := L1.cell 1 rfl
  have hb5 : Below w3.heap.size w3 w4 := (below_a2 w3 _ _).trans (hb4.mono (by simp; omega))
  replace y0 := keepc hb5 y0
  replace y1 := keepc hb5 y1
  replace y2 := keepc hb5 y2
  replace y3 := keepc hb5 y3
  have z4 := Nat.lt_of_lt_of_le z hb5.size
  clear hb4 hb5 l0 l1 L0 L1 k0 k1 k2 k3 k4 k5 k6 kz z ha
  go_wp2_with fail
  go_ret
  exact ⟨rfl, HB4.out⟩

end Go.Proofs.Ytnejdngeeppphaa
