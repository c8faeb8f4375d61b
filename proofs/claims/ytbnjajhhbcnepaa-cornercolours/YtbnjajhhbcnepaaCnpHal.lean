/-
  What the program's halves of layer 11 does to any world: a contract (no claim is made here).
-/
import Derived.Test.YtbnjajhhbcnepaaCorn3
namespace Go.Proofs.Ytbnjajhhbcnepaa
open Go.RowKit

/-- A row of n cells that is filled from the c-th cell on, round its end: how far behind the c-th a cell is, which cell is so far behind it, and the row with s cells filled. -/
def posR (n c j : Nat) : Nat := if j < c then j + n - c else j - c
def atR (n c s : Nat) : Nat := if c + s < n then c + s else c + s - n
def rotF (t : Nat → Nat) (n c s : Nat) : List Nat := (List.range n).map fun j => if posR n c j < s then t j else 0
theorem atR_lt {n c s : Nat} (hc : c < n) (hs : s < n) : atR n c s < n := by unfold atR; split <;> omega
theorem posR_at {n c s : Nat} (hc : c < n) (hs : s < n) : posR n c (atR n c s) = s := by unfold posR atR; (repeat' split) <;> omega
theorem at_posR {n c j : Nat} (hc : c < n) (hj : j < n) : atR n c (posR n c j) = j := by unfold posR atR; (repeat' split) <;> omega
theorem posR_lt {n c j : Nat} (hc : c < n) (hj : j < n) : posR n c j < n := by unfold posR; split <;> omega
theorem atR_mod {n c s : Nat} (hc : c < n) (hs : s < n) : (c + s) % n = atR n c s := by
  unfold atR
  split
  · exact Nat.mod_eq_of_lt (by omega)
  · rw [Nat.mod_eq_sub_mod (by omega), Nat.mod_eq_of_lt (by omega)]
theorem atR_tmod {n c s : Nat} (hc : c < n) (hs : s < n) : ((c : Int) + s).tmod n = (atR n c s : Nat) := by
  rw [show (c : Int) + s = ((c + s : Nat) : Int) by omega, ← Int.ofNat_tmod, atR_mod hc hs]
theorem rotF_length (t : Nat → Nat) (n c s : Nat) : (rotF t n c s).length = n := by simp [rotF]
theorem rotF_zero (t : Nat → Nat) (n c : Nat) : nvals (rotF t n c 0) = List.replicate n (.int .i64 0) := by
  refine List.ext_getElem (by simp [nvals, rotF]) (fun j h1 h2 => ?_)
  simp [nvals, rotF]
theorem rotF_full (t : Nat → Nat) (n c : Nat) (hc : c < n) : rotF t n c n = (List.range n).map t := by
  refine List.map_congr_left (fun j hj => ?_)
  rw [if_pos (posR_lt hc (List.mem_range.1 hj))]
theorem rotF_set (t : Nat → Nat) (n c s : Nat) (hc : c < n) (hs : s < n) : (nvals (rotF t n c s)).set (atR n c s) (.int .i64 (t (atR n c s) : Nat)) = nvals (rotF t n c (s + 1)) := by
  refine List.ext_getElem (by simp [nvals, rotF]) (fun j h1 h2 => ?_)
  have hj : j < n := by simpa [nvals, rotF] using h2
  rw [List.getElem_set]
  by_cases e : atR n c s = j
  · subst e
    simp [nvals, rotF, posR_at hc hs]
  · have : posR n c j < s ↔ posR n c j < s + 1 := by
      have h : posR n c j ≠ s := fun h => e (by rw [← h]; exact at_posR hc hj)
      omega
    simp [nvals, rotF, e, this]
theorem NRw.rot {w : World} {gm n c s : Nat} {t : Nat → Nat} {x : Int} (h : NRw w gm n ((nvals (rotF t n c s)).set (atR n c s) (.int .i64 x))) (hx : ((t (atR n c s) : Nat) : Int) = x) (hc : c < n) (hs : s < n) : NRw w gm n (nvals (rotF t n c (s + 1))) := by
  subst hx
  rw [rotF_set t n c s hc hs] at h
  exact h
theorem NRw.rotrow {w : World} {gm n c : Nat} {t : Nat → Nat} (h : NRw w gm n (nvals (rotF t n c n))) (hc : c < n) : NRow w gm (.slice (some ⟨gm, 0, none⟩) n n) ((List.range n).map t) := by
  have := h.2
  unfold NRow
  rw [← rotF_full t n c hc, rotF_length]
  exact this
theorem NRw.made {w : World} {gm n c : Nat} {t : Nat → Nat} (h : w.ownsRow gm 3 1 (.slice (some ⟨gm, 0, none⟩) n n) n (madeCells (Value.int IntKind.i64 0).cells (n * 1)).toList) : NRw w gm n (nvals (rotF t n c 0)) := by
  rw [show (Value.int IntKind.i64 0).cells = #[.int .i64 0] from rfl, Nat.mul_one, toList_madeCells_one] at h
  rw [rotF_zero]; exact ⟨by simp, h⟩
theorem oneC_pos (n c s : Nat) (hc : c < n) (hs : s < n) : oneC n c (atR n c s) = if n ≤ 2 * s then 6 else 5 := by
  unfold oneC
  have := posR_at hc hs
  unfold posR at this
  rw [this]

set_option maxRecDepth 100000 in
set_option maxHeartbeats 3200000 in
theorem phalves_any (n c : Nat) (hn : n ≤ 200000) (hc : c < n) (w : World) :
    Calls Try.prog 29 #[.int .i64 n, .int .i64 c] w fun e w' => ∃ V, e = .returned V ∧ NRow w' w.heap.size V ((List.range n).map (oneC n c)) ∧ Below w.heap.size w w' := by
  obtain ⟨i0, hi0, hz0, hz1, hz2⟩ := infos ninfo
  obtain ⟨wm, hr, hown, hg⟩ := run_make_full (P := Try.prog) w w.heap.size 38 3 i0 _ 1 Try.underlying38 hi0 hz0 hz1 .i64 .i64 n (by rw [hz2]; omega) (by unfold maxLen; omega) (Nat.le_refl _)
  have HBm := Lib.hid ((Below.refl _ w).grown hg (Nat.le_refl _) (fun q hq => by cases hq))
  have HM0 : Hid (NRw wm w.heap.size n (nvals (rotF (oneC n c) n c 0))) := Lib.hid (NRw.made hown)
  clear hown hg hi0 hz0 hz1 hz2
  go_enter Try.func29, Try.ntmps29
  go_wp2_with fail
  clear hr
  go_loopw [11] (fun i wr => ∃ r : Nat, r ≤ n ∧ i = .int .i64 r ∧ Hid (NRw wr w.heap.size n (nvals (rotF (oneC n c) n c r))) ∧ Hid (Below w.heap.size w wr)) (fun i _ => n - (intOf i).toNat)
  case atStart => exact ⟨0, Nat.zero_le _, rfl, HM0, HBm⟩
  case round =>
    clear HM0 HBm
    obtain ⟨r, hr, rfl, HM, HB⟩ := hrel
    by_cases hrn : r < n
    · have hrb : decide ((r : Int) < n) = true := by simp; omega
      have HC := Lib.hid (oneC_pos n c r hc hrn)
      have htm := atR_tmod hc hrn
      have hal := atR_lt hc hrn
      obtain ⟨j, hj⟩ : ∃ j, atR n c r = j := ⟨_, rfl⟩
      have HJ := Lib.hid hj
      rw [hj] at htm hal HC
      obtain ⟨⟨x1, m1⟩, mf⟩ := HM.out.cell j hal
      have ml := HM.out.lt
      have hnz : ((n : Int) == 0) = false := by simp; omega
      have z1 : IntKind.i64.wrap (2 * (r : Int)) = 2 * r := wI (by omega) (by omega)
      have z2 : IntKind.i64.wrap ((c : Int) + r) = c + r := wI (by omega) (by omega)
      have z3 : IntKind.i64.wrap (j : Int) = j := wI (by omega) (by omega)
      clear hj
      by_cases h2 : n ≤ 2 * r
      · have hb2 : decide ((n : Int) ≤ 2 * r) = true := by simp; omega
        have HC2 := Lib.hid (HC.out.trans (if_pos h2))
        have HM2 := Lib.hid (HM.out.store j (.int .i64 6))
        have HB2 := Lib.hid (HB.out.setCell (p := ⟨w.heap.size, j, none⟩) (Nat.le_refl _) (.int .i64 6))
        have HM3 := Lib.hid (NRw.rot (w := wr.setCell ⟨w.heap.size, j, none⟩ (.int .i64 6)) (t := oneC n c) (x := 6) (by rw [HJ.out]; exact HM2.out) (by rw [HJ.out, HC2.out]; rfl) hc hrn)
        clear HC HM2
        go_wp2_with fail
        exact ⟨⟨r + 1, hrn, by go_num, HM3, HB2⟩, by simp [intOf]; omega⟩
      · have hb2 : decide ((n : Int) ≤ 2 * r) = false := by simp; omega
        have HC2 := Lib.hid (HC.out.trans (if_neg h2))
        have HM2 := Lib.hid (HM.out.store j (.int .i64 5))
        have HB2 := Lib.hid (HB.out.setCell (p := ⟨w.heap.size, j, none⟩) (Nat.le_refl _) (.int .i64 5))
        have HM3 := Lib.hid (NRw.rot (w := wr.setCell ⟨w.heap.size, j, none⟩ (.int .i64 5)) (t := oneC n c) (x := 5) (by rw [HJ.out]; exact HM2.out) (by rw [HJ.out, HC2.out]; rfl) hc hrn)
        clear HC HM2
        go_wp2_with fail
        exact ⟨⟨r + 1, hrn, by go_num, HM3, HB2⟩, by simp [intOf]; omega⟩
    · obtain rfl : r = n := by omega
      go_wp2_with fail
      go_ret
      exact ⟨_, rfl, HM.out.rotrow hc, HB.out⟩

end Go.Proofs.Ytbnjajhhbcnepaa
