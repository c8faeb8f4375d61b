/-
  The document's examples of layer 8 (no claim is made here).
-/
import Derived.Test.YtkolfdoclchaaaaDst1
namespace Go.Proofs.Ytkolfdoclchaaaa
open Go.RowKit

/-- The two edges of the document's example. -/
def twoE : List Ed := [⟨⟨100, 0⟩, ⟨110, 0⟩⟩, ⟨⟨3, 4⟩, ⟨30, 4⟩⟩]
theorem two_in : ∀ s ∈ twoE, InD s := by unfold twoE InD; simp
theorem two_near : Near twoE ⟨0, 0⟩ (25, 1) 1 := by
  refine .inr ⟨1, ⟨⟨3, 4⟩, ⟨30, 4⟩⟩, rfl, rfl, rfl, by decide, fun i d h _ => ?_⟩
  match i, h with
  | 0, h => cases h; exact ⟨by unfold leF; decide, fun _ => by unfold ltF; decide⟩
  | 1, h => cases h; exact ⟨by unfold leF; decide, fun h => absurd h (by decide)⟩
  | (n + 2), h => cases h
theorem two_one : Best twoE ⟨0, 0⟩ (fun k => decide (k = 0)) (10000, 1) 0 := by
  refine .inr ⟨0, ⟨⟨100, 0⟩, ⟨110, 0⟩⟩, rfl, rfl, rfl, by decide, fun i d h ht => ?_⟩
  match i, h with
  | 0, h => cases h; exact ⟨by unfold leF; decide, fun h => absurd h (by decide)⟩
  | (n + 1), h => simp at ht
theorem two_eight : eightS twoE ⟨0, 0⟩ = 40 := by decide
theorem two_sign : sgS twoE ⟨0, 0⟩ = -1 := by decide
theorem two_sign5 : sgS twoE ⟨5, 4⟩ = 0 := by decide
set_option maxRecDepth 100000 in
theorem first_any (k : Nat) (w : World) : Calls Try.prog 24 #[.int .i64 k] w fun e w' => e = .returned (.bool (decide (k = 0))) ∧ Below w.heap.size w w' := by
  go_enter Try.func24, Try.ntmps24
  have hk : ((k : Int) == 0) = decide (k = 0) := by by_cases h : k = 0 <;> simp [h]
  go_wp2
  go_ret
  exact ⟨rfl, Below.refl _ _⟩
set_option maxRecDepth 100000 in
set_option maxHeartbeats 1600000 in
theorem awake8 (w : World) : Calls Try.prog 9 #[] w fun e w' => e = .returned (.bool true) ∧ Below w.heap.size w w' := by
  have p0 : InP ⟨0, 0⟩ := by unfold InP; simp
  have hN : ∀ w v, ERd w v twoE → Calls Try.prog 12 #[v, .agg #[.int .i64 0, .int .i64 0]] w fun e w' => e = .returned (.tuple #[.agg #[.int .i64 25, .int .i64 1], .int .i64 1]) ∧ Below w.heap.size w w' := fun w v h => (near_any v twoE 0 0 w h (by decide) two_in p0).mono (by
    rintro e w' ⟨n, d, k, rfl, h, hb⟩
    obtain ⟨h1, rfl⟩ := h.unique two_near
    injection h1 with h1 h2
    subst h1 h2
    exact ⟨rfl, hb⟩)
  have hM : ∀ w, Calls Try.prog 12 #[.slice none 0 0, .agg #[.int .i64 0, .int .i64 0]] w fun e w' => e = .returned (.tuple #[.agg #[.int .i64 0, .int .i64 0], .int .i64 (-1)]) ∧ Below w.heap.size w w' := fun w => (near_any _ [] 0 0 w (ERd.nil w) (by decide) (by simp) p0).mono (by
    rintro e w' ⟨n, d, k, rfl, h, hb⟩
    obtain ⟨h1, rfl⟩ := h.unique (Best.nil _ _)
    injection h1 with h1 h2
    subst h1 h2
    exact ⟨rfl, hb⟩)
  have hS : ∀ w v, ERd w v twoE → Calls Try.prog 16 #[v, .agg #[.int .i64 0, .int .i64 0], .func (.func 24) #[] #[]] w fun e w' => e = .returned (.tuple #[.agg #[.int .i64 10000, .int .i64 1], .int .i64 0]) ∧ Below w.heap.size w w' := fun w v h => (some_any v twoE 0 0 _ #[] (fun k => decide (k = 0)) (fun _ _ => True) (fun _ => False) w h (by decide) two_in p0 (fun args w => by kernel_rfl)
      (fun k w1 _ _ _ => (first_any k w1).mono (fun e w' h => ⟨h.1, trivial, But.of h.2⟩)) (fun _ _ _ _ _ => trivial) trivial (fun _ h => h.elim)).mono (by
    rintro e w' ⟨n, d, k, rfl, h, _, hb⟩
    obtain ⟨h1, rfl⟩ := h.unique two_one
    injection h1 with h1 h2
    subst h1 h2
    exact ⟨rfl, hb.below (fun _ h => h.elim) (Nat.le_refl _)⟩)
  have hE : ∀ w v, ERd w v twoE → Calls Try.prog 18 #[v, .agg #[.int .i64 0, .int .i64 0]] w fun e w' => e = .returned (.int .i64 40) ∧ Below w.heap.size w w' := fun w v h => by have h1 := eight_any v twoE 0 0 w h (by decide) two_in p0; rwa [two_eight] at h1
  have hG : ∀ w v, ERd w v twoE → Calls Try.prog 22 #[v, .agg #[.int .i64 0, .int .i64 0]] w fun e w' => e = .returned (.int .i64 (-1)) ∧ Below w.heap.size w w' := fun w v h => by have h1 := sign_any v twoE 0 0 w h (by decide) two_in p0; rwa [two_sign] at h1
  have hH : ∀ w v, ERd w v twoE → Calls Try.prog 22 #[v, .agg #[.int .i64 5, .int .i64 4]] w fun e w' => e = .returned (.int .i64 0) ∧ Below w.heap.size w w' := fun w v h => by have h1 := sign_any v twoE 5 4 w h (by decide) two_in (by unfold InP; simp); rwa [two_sign5] at h1
  have HN := Lib.hid hN
  have HM := Lib.hid hM
  have HS := Lib.hid hS
  have HE := Lib.hid hE
  have HG := Lib.hid hG
  have HH := Lib.hid hH
  have HE1 : Hid (ERd (w.alloc (.cells #[.int .i64 100, .int .i64 0, .int .i64 110, .int .i64 0, .int .i64 3, .int .i64 4, .int .i64 30, .int .i64 4] 39)) (.slice (some ⟨w.heap.size, 0, none⟩) 2 2) twoE) := Lib.hid (erd_blk (Blk.new _ 39 (ecells twoE) rfl) rfl)
  have HB1 := Lib.hid ((Below.refl _ w).alloc (Nat.le_refl _) (.cells #[.int .i64 100, .int .i64 0, .int .i64 110, .int .i64 0, .int .i64 3, .int .i64 4, .int .i64 30, .int .i64 4] 39))
  clear hN hM hS hE hG hH
  go_enter Try.func9, Try.ntmps9
  go_wp2_with fail
  refine (HN.out _ _ HE1.out).mono ?_
  rintro e w1 ⟨rfl, hb1⟩
  replace HE1 := Lib.hid (HE1.out.keep hb1)
  replace HB1 := Lib.hid (HB1.out.trans (hb1.mono HB1.out.size))
  clear hb1
  go_wp2_with fail
  have HF2 := Lib.hid (Blk.new w1 34 [.int .i64 25, .int .i64 1] rfl)
  replace HE1 := Lib.hid (HE1.out.keep ((Below.refl _ w1).alloc (Nat.le_refl _) (.cells #[.int .i64 25, .int .i64 1] 34)))
  replace HB1 := Lib.hid (HB1.out.alloc HB1.out.size (.cells #[.int .i64 25, .int .i64 1] 34))
  refine (HM.out _).mono ?_
  rintro e w2 ⟨rfl, hb1⟩
  replace HE1 := Lib.hid (HE1.out.keep hb1)
  replace HF2 := Lib.hid (HF2.out.keep hb1)
  replace HB1 := Lib.hid (HB1.out.trans (hb1.mono HB1.out.size))
  clear hb1
  go_wp2_with fail
  replace HF2 := Lib.hid (HF2.out.alloc (.cells #[.int .i64 0, .int .i64 0] 34))
  replace HE1 := Lib.hid (HE1.out.keep ((Below.refl _ w2).alloc (Nat.le_refl _) (.cells #[.int .i64 0, .int .i64 0] 34)))
  replace HB1 := Lib.hid (HB1.out.alloc HB1.out.size (.cells #[.int .i64 0, .int .i64 0] 34))
  refine (HS.out _ _ HE1.out).mono ?_
  rintro e w3 ⟨rfl, hb1⟩
  replace HE1 := Lib.hid (HE1.out.keep hb1)
  replace HF2 := Lib.hid (HF2.out.keep hb1)
  replace HB1 := Lib.hid (HB1.out.trans (hb1.mono HB1.out.size))
  clear hb1 HM HN HS
  replace HF2 := Lib.hid (HF2.out.alloc (.cells #[.int .i64 10000, .int .i64 1] 34))
  replace HE1 := Lib.hid (HE1.out.keep ((Below.refl _ w3).alloc (Nat.le_refl _) (.cells #[.int .i64 10000, .int .i64 1] 34)))
  replace HB1 := Lib.hid (HB1.out.alloc HB1.out.size (.cells #[.int .i64 10000, .int .i64 1] 34))
  have f0 := HF2.out.cell 0 rfl
  have f1 := HF2.out.cell 1 rfl
  go_wp2_with fail
  refine (HE.out _ _ HE1.out).mono ?_
  rintro e w4 ⟨rfl, hb1⟩
  replace HE1 := Lib.hid (HE1.out.keep hb1)
  replace HB1 := Lib.hid (HB1.out.trans (hb1.mono HB1.out.size))
  clear hb1 HE
  go_wp2_with fail
  refine (HG.out _ _ HE1.out).mono ?_
  rintro e w5 ⟨rfl, hb1⟩
  replace HE1 := Lib.hid (HE1.out.keep hb1)
  replace HB1 := Lib.hid (HB1.out.trans (hb1.mono HB1.out.size))
  clear hb1 HG
  go_wp2_with fail
  refine (HH.out _ _ HE1.out).mono ?_
  rintro e w6 ⟨rfl, hb1⟩
  replace HB1 := Lib.hid (HB1.out.trans (hb1.mono HB1.out.size))
  clear hb1 HH
  go_wp2
  go_ret
  exact ⟨rfl, HB1.out⟩

end Go.Proofs.Ytkolfdoclchaaaa
