/-
  The walk of punchcutlaw14.SkyEmpty, over what the program is to do (no claim is made here).
-/
import Derived.Test.YtklajpadnbeplaaSky4
namespace Go.Proofs.Ytklajpadnbeplaa
open Go.RowKit

set_option maxRecDepth 100000 in
set_option maxHeartbeats 1600000 in
theorem skyEmpty_walk {R : World → (Nat → Prop) → Value → List Nat → Nat → Prop} (K : SkyOK R) (a0 a1 m n : Int) (w : World) (h0 : -128 ≤ a0 ∧ a0 ≤ 127) (h1 : -128 ≤ a1 ∧ a1 ≤ 127) (h2 : -32768 ≤ m ∧ m ≤ 32767) (h3 : -32768 ≤ n ∧ n ≤ 32767) :
    Calls Try.prog 7 #[.int .i8 a0, .int .i8 a1, .int .i16 m, .int .i16 n] w fun e w' => e = .returned (.bool true) ∧ Below w.heap.size w w' := by
  have HAW := Lib.hid (fun w => awake14 K w)
  have HOF := Lib.hid (fun w => K.of a0 a1 w (by omega) (by omega))
  have HFI := Lib.hid (fun ks v w h => K.fit ks v (List.replicate (side a0) 0) (side a1) m n w h (by omega) (by omega))
  have hs0 : ((side a0 : Nat) : Int) = max 0 (min a0 64) := by unfold side; omega
  have hs1 : ((side a1 : Nat) : Int) = max 0 (min a1 64) := by unfold side; omega
  have m1 := fun w => run_min2i (P := Try.prog) #[3, 3] 3 a0 64 w
  have m2 := fun w => run_min2i (P := Try.prog) #[3, 3] 3 a1 64 w
  have m3 := fun w => run_max2i (P := Try.prog) #[3, 3] 3 0 (min a0 64) w
  have m4 := fun w => run_max2i (P := Try.prog) #[3, 3] 3 0 (min a1 64) w
  rw [← hs0] at m3
  rw [← hs1] at m4
  have HFV : Hid (fitV (List.replicate (side a0) 0) (side a1) m n = if m < 1 ∨ n < 1 ∨ (side a0 : Int) < m ∨ (side a1 : Int) < n then ((0, 0, 0, 0), false) else ((0, 0, m, n), true)) := Lib.hid (by
    unfold fitV
    by_cases hc : m < 1 ∨ n < 1 ∨ (side a0 : Int) < m ∨ (side a1 : Int) < n
    · rw [if_pos hc, fitL_none (by rw [List.length_replicate]; exact hc)]
    · rw [if_neg hc, fit_zero _ _ _ _ (by omega) (by omega) (by omega) (by omega)]
      rfl)
  generalize side a0 = S0 at *
  generalize side a1 = S1 at *
  clear hs0 hs1
  go_enter Try.func7, Try.ntmps7
  go_wp2_with fail
  refine (HAW.out _).mono ?_
  rintro e w1 ⟨rfl, hb⟩
  have HB1 := Lib.hid hb
  clear hb
  go_wp2_with fail
  refine (HOF.out _).mono ?_
  rintro e w2 ⟨ks, v, rfl, hR, -, hb⟩
  obtain ⟨a, rfl⟩ := K.ptr hR
  have HR2 := Lib.hid hR
  have HB2 := Lib.hid (below2 HB1.out hb)
  have HF2 := HFI.out _ _ _ hR
  rw [HFV.out] at HF2
  clear hb hR HB1 HOF HFI HAW
  by_cases hc : m < 1 ∨ n < 1 ∨ (S0 : Int) < m ∨ (S1 : Int) < n
  · rw [if_pos hc] at HF2
    simp only [rcV] at HF2
    have HF3 := Lib.hid HF2
    clear HF2
    go_wp2_with fail
    refine HF3.out.mono ?_
    rintro e w3 ⟨rfl, hb⟩
    have hal : Below w3.heap.size w3 (w3.alloc (.cells #[.int .i64 0, .int .i64 0, .int .i64 0, .int .i64 0] 31)) := (Below.refl _ _).alloc (Nat.le_refl _) _
    have HB4 := Lib.hid (below2 (below2 HB2.out hb) hal)
    clear hb hal
    go_wp2_with fail
    all_goals first
      | (exfalso; omega)
      | (go_ret
         exact ⟨rfl, HB4.out⟩)
  · rw [if_neg hc] at HF2
    simp only [rcV] at HF2
    have HF3 := Lib.hid HF2
    clear HF2
    have c1 : decide (m < 1) = false := by simp; omega
    have c2 : decide (n < 1) = false := by simp; omega
    have c3 : decide ((S0 : Int) < m) = false := by simp; omega
    have c4 : decide ((S1 : Int) < n) = false := by simp; omega
    go_wp2_with fail
    refine HF3.out.mono ?_
    rintro e w3 ⟨rfl, hb⟩
    have hal : Below w3.heap.size w3 (w3.alloc (.cells #[.int .i64 0, .int .i64 0, .int .i64 m, .int .i64 n] 31)) := (Below.refl _ _).alloc (Nat.le_refl _) _
    have HB4 := Lib.hid (below2 (below2 HB2.out hb) hal)
    clear hb hal
    go_wp2_with fail
    all_goals first
      | (go_ret
         exact ⟨rfl, HB4.out⟩)
      | (exfalso; omega)

end Go.Proofs.Ytklajpadnbeplaa
