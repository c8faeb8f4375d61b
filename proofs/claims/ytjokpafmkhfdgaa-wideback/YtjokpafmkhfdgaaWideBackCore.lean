/-
  The walk of the law WideBack: it returns true, and nothing that was there has turned (no claim is made here: the row is WideBack).
-/
import Derived.Test.YtjokpafmkhfdgaaAwake1
import Derived.Deep.CutBlock
import Derived.Deep.DeepCutAuto
import Derived.Deep.RegionWith
import Derived.OpenShut
namespace Go.Proofs.Ytjokpafmkhfdgaa
open Go.RowKit

set_option maxHeartbeats 1000000 in
set_option maxRecDepth 100000 in
theorem wideBack_core (x y r b m p1 p0 s1 s0 : Int) (eb : max y 1 = b) (em : r % b = m) (hr : 0 ≤ r) (hb : 1 ≤ b)
    (M1 : Hid (∀ w, Calls Try.prog 12 #[.int .u64 x, .int .u64 b] w fun e w' => e = .returned (.agg #[.int .u64 p1, .int .u64 p0]) ∧ Below w.heap.size w w'))
    (P1 : Hid (∀ w, Calls Try.prog 16 #[.agg #[.int .u64 p1, .int .u64 p0], .agg #[.int .u64 0, .int .u64 m]] w fun e w' => e = .returned (.tuple #[.agg #[.int .u64 s1, .int .u64 s0], .bool false]) ∧ Below w.heap.size w w'))
    (D1 : Hid (∀ w, Calls Try.prog 18 #[.agg #[.int .u64 s1, .int .u64 s0], .int .u64 b] w fun e w' => e = .returned (.tuple #[.int .u64 x, .int .u64 m, .int .i64 0]) ∧ Below w.heap.size w w')) (w : World) :
    Calls Try.prog 9 #[.int .u64 x, .int .u64 y, .int .u64 r] w fun e w' => e = .returned (.bool true) ∧ Below w.heap.size w w' := by
  have z1 : (b == 0) = false := by simp; omega
  go_enter Try.func9, Try.ntmps9
  go_wp2_with fail
  refine (awake_any _).mono ?_
  rintro e w1 ⟨rfl, hb1⟩
  go_upto_region 4 with fail

  go_cut [7, 8] (fun s7 s8 wx => ∃ g : Nat, s7 = .pointer (some ⟨g, 0, none⟩) ∧ s8 = .bool false ∧ wx.cell? ⟨g, 0, none⟩ = some (.int .u64 s1) ∧ wx.cell? ⟨g, 1, none⟩ = some (.int .u64 s0) ∧ Below w.heap.size w wx)
  case first =>
    go_region_with (first
      | (go_at_call 12; refine (M1.out _).mono ?_; rintro e w2 ⟨rfl, hb2⟩; obtain ⟨hc2, hf2, hz2⟩ := bcell hb2)
      | (go_at_call 16; refine (P1.out _).mono ?_; rintro e w3 ⟨rfl, hb3⟩; obtain ⟨hc3, hf3, hz3⟩ := bcell hb3))
    all_goals
      go_wp2_with fail
      go_meet
      have b1 := hb1.size
      have b2 := hb2.size
      have b3 := hb3.size
      (try simp at b2)
      (try simp at b3)
      have B2 : Below w.heap.size w w2 := by
        first
          | exact below2 hb1.drew hb2
          | exact below2 (hb1.alloc hb1.size _).drew hb2
      have B3 : Below w.heap.size w w3 := by
        first
          | exact below2 B2 hb3
          | exact below2 (B2.alloc B2.size _) hb3
      first
        | (obtain ⟨q0, q1, q2⟩ := pair_stored (w := w) (w3 := w3) (g := w2.heap.size) (.int .u64 s1) (.int .u64 s0) B3 (by omega) (u := .int .u64 0) (v := .int .u64 0) (by go_simp) (by go_simp); exact ⟨_, rfl, rfl, q0, q1, q2⟩)
        | (obtain ⟨q0, q1, q2⟩ := pair_stored (w := w) (w3 := w3) (g := w1.heap.size) (.int .u64 s1) (.int .u64 s0) B3 (by omega) (u := .int .u64 0) (v := .int .u64 0) (by go_simp) (by go_simp); exact ⟨_, rfl, rfl, q0, q1, q2⟩)
        | exact ⟨_, rfl, rfl, by simp, by simp, B3.alloc B3.size _⟩
  case rest =>
    obtain ⟨g, rfl, rfl, c0, c1, hbx⟩ := hcut
    go_wp2_with fail
    refine (D1.out _).mono ?_
    rintro e w4 ⟨rfl, hb4⟩
    go_wp2
    go_ret
    exact ⟨rfl, below2 hbx hb4⟩

end Go.Proofs.Ytjokpafmkhfdgaa
