/-
  What the verifier's compare of layer 1 does to any world: a contract (no claim is made here).
-/
import Derived.Test.YtjokpafmkhfdgaaBits2
namespace Go.Proofs.Ytjokpafmkhfdgaa
open Go.RowKit

/-- What holds of memory while compare goes round. -/
structure CompW (w : World) (xa ya : Array Value) (wr : World) : Prop where
  below : Below w.heap.size w wr
  a : wr.heap[w.heap.size]? = some (.cells xa 24 (0, 0))
  b : wr.heap[w.heap.size + 1]? = some (.cells ya 24 (0, 0))
theorem CompW.drewN {w : World} {xa ya : Array Value} {wr : World} (h : CompW w xa ya wr) (n : Nat) : CompW w xa ya (wr.drewN n) := ⟨below_drewN h.below n, h.a, h.b⟩
theorem CompW.start (w : World) (xa ya : Array Value) : CompW w xa ya ((w.alloc (.cells xa 24)).alloc (.cells ya 24)) := by
  refine ⟨((Below.refl _ w).alloc (Nat.le_refl _) _).alloc (by simp) _, ?_, ?_⟩
  · exact heap_keep _ _ _ _ (heap_last _ _ _ rfl)
  · exact heap_last _ _ _ (by simp)

set_option maxHeartbeats 4000000 in
set_option maxRecDepth 100000 in
theorem comp_core (F G : Nat → Bool) (r : Int) (w : World)
    (Hne : Hid (∀ k, k < 128 → (∀ j, k < j → j < 128 → F j = G j) → F k ≠ G k → r = if F k then 1 else -1)) (Heq : Hid ((∀ j, j < 128 → F j = G j) → r = 0)) :
    Calls Try.prog 15 #[.agg (barr F), .agg (barr G)] w fun e w' => e = .returned (.int .i64 r) ∧ Below w.heap.size w w' := by
  have g0 : Hid (∀ k, k < 128 → (barr F)[k]? = some (.bool (F k))) := fun k h => Barr.get F k h
  have g1 : Hid (∀ k, k < 128 → (barr G)[k]? = some (.bool (G k))) := fun k h => Barr.get G k h
  generalize barr F = xa at g0 ⊢
  generalize barr G = ya at g1 ⊢
  go_enter Try.func15, Try.ntmps15
  go_wp2_with fail
  go_loopw [5] (fun i wr => ∃ k : Int, -1 ≤ k ∧ k < 128 ∧ i = .int .i64 k ∧ Hid (∀ j : Nat, k < j → j < 128 → F j = G j) ∧ CompW w xa ya wr) (fun i _ => (intOf i + 1).toNat)
  case atStart =>
    exact ⟨127, by omega, by omega, rfl, fun j _ _ => by omega, CompW.start w xa ya⟩
  case round =>
    obtain ⟨k, hk, hk2, rfl, hE, hR⟩ := hrel
    by_cases hk3 : 0 ≤ k
    · obtain ⟨n, rfl⟩ := Int.eq_ofNat_of_zero_le hk3
      have hn : n < 128 := by omega
      have c0 := cell_of_block hR.a (g0.out n hn)
      have c1 := cell_of_block hR.b (g1.out n hn)
      have hN := Lib.hid (Hne.out n hn (fun j h1 h2 => hE.out j (by omega) h2))
      have HR := Lib.hid hR
      have HQ : Hid (F n = F n ∧ G n = G n) := ⟨rfl, rfl⟩
      clear hR
      generalize hx : F n = x at c0 hN
      generalize hy : G n = y at c1 hN
      have HX := Lib.hid hx
      have HY := Lib.hid hy
      clear hx hy HQ
      cases x
      · cases y
        · have HE : Hid (∀ j : Nat, (n : Int) - 1 < j → j < 128 → F j = G j) := fun j h1 h2 => by
            by_cases e : j = n
            · subst e; exact HX.out.trans HY.out.symm
            · exact hE.out j (by omega) h2
          go_wp2_with fail
          go_quiet (fail)
          go_wp2_with fail
          go_roundw
          case rel => exact ⟨(n : Int) - 1, by omega, by omega, rfl, HE.out, HR.out.drewN _⟩
          case measure => simp [intOf]
        · obtain rfl := hN.out (by decide)
          go_wp2_with fail
          go_quiet (fail)
          go_wp2_with fail
          go_ret
          exact ⟨rfl, (HR.out.drewN _).below⟩
      · cases y
        · obtain rfl := hN.out (by decide)
          go_wp2_with fail
          go_quiet (fail)
          go_wp2_with fail
          go_ret
          exact ⟨rfl, (HR.out.drewN _).below⟩
        · have HE : Hid (∀ j : Nat, (n : Int) - 1 < j → j < 128 → F j = G j) := fun j h1 h2 => by
            by_cases e : j = n
            · subst e; exact HX.out.trans HY.out.symm
            · exact hE.out j (by omega) h2
          go_wp2_with fail
          go_quiet (fail)
          go_wp2_with fail
          go_roundw
          case rel => exact ⟨(n : Int) - 1, by omega, by omega, rfl, HE.out, HR.out.drewN _⟩
          case measure => simp [intOf]
    · have hr : r = 0 := Heq.out (fun j hj => hE.out j (by omega) hj)
      subst hr
      go_wp2
      go_ret
      exact ⟨rfl, hR.below⟩

theorem comp_facts (x y : BitVec 128) :
    (∀ k, k < 128 → (∀ j, k < j → j < 128 → x.getLsbD j = y.getLsbD j) → x.getLsbD k ≠ y.getLsbD k → cmpN x.toNat y.toNat = if x.getLsbD k then 1 else -1) ∧
    ((∀ j, j < 128 → x.getLsbD j = y.getLsbD j) → cmpN x.toNat y.toNat = 0) := by
  constructor
  · intro k hk hj hne
    have htop : x.toNat / 2 ^ (k + 1) = y.toNat / 2 ^ (k + 1) := by
      apply Nat.eq_of_testBit_eq
      intro i
      rw [Nat.testBit_div_two_pow, Nat.testBit_div_two_pow]
      by_cases h : i + (k + 1) < 128
      · exact hj (i + (k + 1)) (by omega) h
      · rw [Nat.testBit_lt_two_pow (Nat.lt_of_lt_of_le x.isLt (Nat.pow_le_pow_right (by omega) (by omega))), Nat.testBit_lt_two_pow (Nat.lt_of_lt_of_le y.isLt (Nat.pow_le_pow_right (by omega) (by omega)))]
    have hx : x.getLsbD k = decide (x.toNat / 2 ^ k % 2 = 1) := by rw [BitVec.getLsbD, Nat.testBit_eq_decide_div_mod_eq]
    have hy : y.getLsbD k = decide (y.toNat / 2 ^ k % 2 = 1) := by rw [BitVec.getLsbD, Nat.testBit_eq_decide_div_mod_eq]
    have dx : x.toNat / 2 ^ (k + 1) = x.toNat / 2 ^ k / 2 := by rw [Nat.pow_succ, Nat.div_div_eq_div_mul]
    have dy : y.toNat / 2 ^ (k + 1) = y.toNat / 2 ^ k / 2 := by rw [Nat.pow_succ, Nat.div_div_eq_div_mul]
    rw [dx, dy] at htop
    have lt_of : ∀ a b : Nat, a / 2 ^ k < b / 2 ^ k → a < b := fun a b h => by
      rcases Nat.lt_or_ge a b with g | g
      · exact g
      · have := Nat.div_le_div_right (c := 2 ^ k) g; omega
    rw [hx, hy] at hne
    rw [hx]
    by_cases e : x.toNat / 2 ^ k % 2 = 1
    · rw [decide_eq_true e] at hne ⊢
      have e2 : ¬ y.toNat / 2 ^ k % 2 = 1 := fun h => hne (by rw [decide_eq_true h])
      have := lt_of y.toNat x.toNat (by omega)
      unfold cmpN
      rw [if_neg (by omega), if_pos this]
      rfl
    · rw [decide_eq_false e] at hne ⊢
      have e2 : y.toNat / 2 ^ k % 2 = 1 := by
        by_cases h : y.toNat / 2 ^ k % 2 = 1
        · exact h
        · exact absurd (by rw [decide_eq_false h]) hne
      have := lt_of x.toNat y.toNat (by omega)
      unfold cmpN
      rw [if_pos this]
      rfl
  · intro h
    have : x = y := BitVec.eq_of_getLsbD_eq (fun i hi => h i hi)
    subst this
    unfold cmpN
    simp

theorem comp128_any (x y : BitVec 128) (w : World) :
    Calls Try.prog 15 #[.agg (bvArr x), .agg (bvArr y)] w fun e w' => e = .returned (.int .i64 (cmpN x.toNat y.toNat)) ∧ Below w.heap.size w w' :=
  comp_core (fun i => x.getLsbD i) (fun i => y.getLsbD i) _ w (comp_facts x y).1 (comp_facts x y).2

end Go.Proofs.Ytjokpafmkhfdgaa
