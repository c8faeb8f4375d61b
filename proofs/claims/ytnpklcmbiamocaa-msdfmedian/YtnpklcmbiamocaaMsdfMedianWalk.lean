/-
  The walk of punchcutlaw12.MsdfMedian, over what the program is to do (no claim is made here).
-/
import Derived.Test.YtnpklcmbiamocaaMsd2
namespace Go.Proofs.Ytnpklcmbiamocaa
open Go.RowKit

/-- How many of the first r of three are no more, and no less. -/
def cLe (a b c m r : Nat) : Nat := (if 0 < r ∧ a ≤ m then 1 else 0) + (if 1 < r ∧ b ≤ m then 1 else 0) + (if 2 < r ∧ c ≤ m then 1 else 0)
def cGe (a b c m r : Nat) : Nat := (if 0 < r ∧ m ≤ a then 1 else 0) + (if 1 < r ∧ m ≤ b then 1 else 0) + (if 2 < r ∧ m ≤ c then 1 else 0)
theorem c_step (a b c m r e : Nat) (he : [a, b, c][r]? = some e) : cLe a b c m (r + 1) = (if e ≤ m then cLe a b c m r + 1 else cLe a b c m r) ∧ cGe a b c m (r + 1) = (if m ≤ e then cGe a b c m r + 1 else cGe a b c m r) := by
  have hr : r = 0 ∨ r = 1 ∨ r = 2 := by have := (List.getElem?_eq_some_iff.1 he).1; simp at this; omega
  rcases hr with rfl | rfl | rfl <;> simp at he <;> subst he <;> unfold cLe cGe <;> constructor <;> (repeat' split) <;> omega
theorem c_two (a b c m : Nat) (h : m = a ∧ (b ≤ a ∧ a ≤ c ∨ c ≤ a ∧ a ≤ b) ∨ m = b ∧ (a ≤ b ∧ b ≤ c ∨ c ≤ b ∧ b ≤ a) ∨ m = c ∧ (a ≤ c ∧ c ≤ b ∨ b ≤ c ∧ c ≤ a)) : 2 ≤ cLe a b c m 3 ∧ 2 ≤ cGe a b c m 3 ∧ (m = a ∨ m = b ∨ m = c) := by
  unfold cLe cGe
  refine ⟨?_, ?_, by omega⟩ <;> (repeat' split) <;> omega

set_option maxRecDepth 100000 in
set_option maxHeartbeats 3200000 in
theorem msdfMedian_walk (H : CornOK) (K : MsdfOK) (a0 a1 a2 : Int) (w : World) (h0 : 0 ≤ a0 ∧ a0 ≤ 255) (h1 : 0 ≤ a1 ∧ a1 ≤ 255) (h2 : 0 ≤ a2 ∧ a2 ≤ 255) :
    Calls Try.prog 5 #[.int .u8 a0, .int .u8 a1, .int .u8 a2] w fun e w' => e = .returned (.bool true) ∧ Below w.heap.size w w' := by
  have HAW := Lib.hid (fun w => awake12 H K w)
  obtain ⟨a, rfl⟩ : ∃ a : Nat, a0 = a := ⟨a0.toNat, by omega⟩
  obtain ⟨b, rfl⟩ : ∃ a : Nat, a1 = a := ⟨a1.toNat, by omega⟩
  obtain ⟨c, rfl⟩ : ∃ a : Nat, a2 = a := ⟨a2.toNat, by omega⟩
  have HMN := Lib.hid (fun w => K.median a b c w (by omega) (by omega) (by omega))
  have HMD := Lib.hid (c_two a b c _ (medN_mid a b c))
  generalize medN a b c = m at *
  go_enter Try.func5, Try.ntmps5
  go_wp2_with fail
  refine (HAW.out _).mono ?_
  rintro e w1 ⟨rfl, hb⟩
  have HB1 := Lib.hid hb
  clear hb HAW
  go_wp2_with fail
  refine (HMN.out _).mono ?_
  rintro e w2 ⟨rfl, hb⟩
  have HB2 := Lib.hid (below2 HB1.out hb)
  have hal : Below w2.heap.size w2 (w2.alloc (.cells #[.int .u8 a, .int .u8 b, .int .u8 c] 5)) := (Below.refl _ _).alloc (Nat.le_refl _) _
  have HB3 := Lib.hid (below2 HB2.out hal)
  have HC := Lib.hid (Blk.new w2 5 [.int .u8 a, .int .u8 b, .int .u8 c] rfl)
  clear hb hal HB1 HB2 HMN
  go_wp2_with fail
  generalize w2.alloc (.cells #[.int .u8 a, .int .u8 b, .int .u8 c] 5) = w3 at *
  generalize w2.heap.size = G at *
  go_loopw [23, 8, 9] (fun i x y wr => ∃ r p q : Nat, r ≤ 3 ∧ i = .int .i64 r ∧ x = .int .i64 p ∧ y = .int .i64 q ∧ Hid (cLe a b c m r = p ∧ cGe a b c m r = q ∧ p ≤ r ∧ q ≤ r) ∧ wr = w3) (fun i _ _ _ => 3 - (intOf i).toNat)
  case atStart => exact ⟨0, 0, 0, by omega, rfl, rfl, rfl, Lib.hid (by simp [cLe, cGe]), rfl⟩
  case round =>
    obtain ⟨r, p, q, hr, rfl, rfl, rfl, HPQ, rfl⟩ := hrel
    by_cases hr3 : r < 3
    · have hrb : decide ((r : Int) < 3) = true := by simp; omega
      obtain ⟨e, he⟩ : ∃ e, [a, b, c][r]? = some e := ⟨_, List.getElem?_eq_getElem (by simp; omega)⟩
      have hst := c_step a b c m r e he
      have ce := HC.out.cell r (v := .int .u8 e) (by rw [show ([.int .u8 (a : Int), .int .u8 (b : Int), .int .u8 (c : Int)] : List Value) = [a, b, c].map (fun (n : Nat) => Value.int .u8 n) from rfl, List.getElem?_map, he]; rfl)
      have cl := HC.out.lt
      rw [HPQ.out.1, HPQ.out.2.1] at hst
      have hpb := HPQ.out.2.2
      have HST := Lib.hid hst
      clear he hst
      by_cases k1 : e ≤ m
      · have kb1 : decide ((e : Int) ≤ m) = true := by simp; omega
        by_cases k2 : m ≤ e
        · have kb2 : decide ((m : Int) ≤ e) = true := by simp; omega
          have HS2 := Lib.hid (show cLe a b c m (r + 1) = p + 1 ∧ cGe a b c m (r + 1) = q + 1 from ⟨HST.out.1.trans (if_pos k1), HST.out.2.trans (if_pos k2)⟩)
          go_wp2_with fail
          exact ⟨⟨r + 1, p + 1, q + 1, hr3, by go_num, by go_num, by go_num, Lib.hid ⟨HS2.out.1, HS2.out.2, by omega, by omega⟩, trivial⟩, by simp [intOf]; omega⟩
        · have kb2 : decide ((m : Int) ≤ e) = false := by simp; omega
          have HS2 := Lib.hid (show cLe a b c m (r + 1) = p + 1 ∧ cGe a b c m (r + 1) = q from ⟨HST.out.1.trans (if_pos k1), HST.out.2.trans (if_neg k2)⟩)
          go_wp2_with fail
          exact ⟨⟨r + 1, p + 1, q, hr3, by go_num, by go_num, rfl, Lib.hid ⟨HS2.out.1, HS2.out.2, by omega, by omega⟩, trivial⟩, by simp [intOf]; omega⟩
      · have kb1 : decide ((e : Int) ≤ m) = false := by simp; omega
        have kb2 : decide ((m : Int) ≤ e) = true := by simp; omega
        have HS2 := Lib.hid (show cLe a b c m (r + 1) = p ∧ cGe a b c m (r + 1) = q + 1 from ⟨HST.out.1.trans (if_neg k1), HST.out.2.trans (if_pos (by omega))⟩)
        go_wp2_with fail
        exact ⟨⟨r + 1, p, q + 1, hr3, by go_num, rfl, by go_num, Lib.hid ⟨HS2.out.1, HS2.out.2, by omega, by omega⟩, trivial⟩, by simp [intOf]; omega⟩
    · obtain rfl : r = 3 := by omega
      have hmd := HMD.out
      rw [HPQ.out.1, HPQ.out.2.1] at hmd
      obtain ⟨g1, g2, g3⟩ := hmd
      have gb1 : decide ((2 : Int) ≤ p) = true := by simp; omega
      have gb2 : decide ((2 : Int) ≤ q) = true := by simp; omega
      have g4 : ((m : Int) == a) = true ∨ ((m : Int) == a) = false ∧ ((m : Int) == b) = true ∨ ((m : Int) == a) = false ∧ ((m : Int) == b) = false ∧ ((m : Int) == c) = true := by simp; omega
      clear g3 HMD HPQ
      rcases g4 with g4 | ⟨g4, g5⟩ | ⟨g4, g5, g6⟩
      all_goals
        go_wp2_with fail
        go_ret
        exact ⟨rfl, HB3.out⟩

end Go.Proofs.Ytnpklcmbiamocaa
