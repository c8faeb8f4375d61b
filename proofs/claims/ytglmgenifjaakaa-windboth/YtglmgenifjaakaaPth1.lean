/-
  What the small functions of layer 5 do to any world: middle, pointOf, lineFrom, begin's own test, slices.IndexFunc (no claim is made here).
-/
import Derived.Test.YtglmgenifjaakaaBlk
namespace Go.Proofs.Ytglmgenifjaakaa
open Go.RowKit

/-- A number of a contour that is small. -/
def smallV (v : Vtx) : Prop := (-1000 ≤ v.x ∧ v.x ≤ 1000) ∧ -1000 ≤ v.y ∧ v.y ≤ 1000
theorem below3 (w : World) (a b c : Obj) : Below w.heap.size w (((w.alloc a).alloc b).alloc c) := (((Below.refl _ w).alloc (Nat.le_refl _) _).alloc (by simp) _).alloc (by simp; omega) _

set_option maxHeartbeats 400000 in
theorem middle_any (x y : Int) (b : Bool) (x' y' : Int) (b' : Bool) (h : (-1000 ≤ x ∧ x ≤ 1000) ∧ -1000 ≤ y ∧ y ≤ 1000) (h' : (-1000 ≤ x' ∧ x' ≤ 1000) ∧ -1000 ≤ y' ∧ y' ≤ 1000) (w : World) :
    Calls Try.prog 39 #[.agg #[.int .i64 x, .int .i64 y, .bool b], .agg #[.int .i64 x', .int .i64 y', .bool b']] w fun e w' => e = .returned (.agg #[.int .i64 (x + x'), .int .i64 (y + y')]) ∧ Below w.heap.size w w' := by
  obtain ⟨⟨h1, h2⟩, h3, h4⟩ := h
  obtain ⟨⟨h5, h6⟩, h7, h8⟩ := h'
  go_enter Try.func39, Try.ntmps39
  go_wp2
  exact bodyPost_ret (v := .agg #[.int .i64 (x + x'), .int .i64 (y + y')]) (by simp [results, Try.results39, go_sem]) rfl ⟨rfl, below3 _ _ _ _⟩

set_option maxHeartbeats 400000 in
theorem pointOf_any (x y : Int) (b : Bool) (h : (-1000 ≤ x ∧ x ≤ 1000) ∧ -1000 ≤ y ∧ y ≤ 1000) (w : World) :
    Calls Try.prog 38 #[.agg #[.int .i64 x, .int .i64 y, .bool b]] w fun e w' => e = .returned (.agg #[.int .i64 (x + x), .int .i64 (y + y)]) ∧ Below w.heap.size w w' := by
  have HM := Lib.hid (fun w => middle_any x y b x y b h h w)
  go_enter Try.func38, Try.ntmps38
  go_wp2_with fail
  refine (HM.out _).mono ?_
  rintro e w1 ⟨rfl, hb1⟩
  have B := Blk.keep (Blk.new (w.alloc (.cells #[.int .i64 x, .int .i64 y, .bool b] 66)) 31 [.int .i64 0, .int .i64 0] (g := w.heap.size + 1) (by simp)) hb1
  have hB : Below w.heap.size w w1 := (((Below.refl _ w).alloc (Nat.le_refl _) _).alloc (by simp) _).trans (hb1.mono (by simp; omega))
  have c0 := B.cell 0 rfl
  have c1 := B.cell 1 rfl
  have f0 := B.frozen 0
  have f1 := B.frozen 1
  have z := B.lt
  have HB := Lib.hid hB
  have HBk := Lib.hid B
  clear hb1 hB B
  go_wp2_with fail
  have R := (HBk.out.set 0 (.int .i64 (x + x))).set 1 (.int .i64 (y + y))
  have q0 := R.cell 0 rfl
  have q1 := R.cell 1 rfl
  exact bodyPost_ret (v := .agg #[.int .i64 (x + x), .int .i64 (y + y)]) (by simp [results, Try.results38, go_sem, q0, q1]) rfl ⟨rfl, (HB.out.setCell (by simp) _).setCell (by simp) _⟩

set_option maxHeartbeats 400000 in
theorem lineFrom_any (x y : Int) (w : World) :
    Calls Try.prog 36 #[.agg #[.int .i64 x, .int .i64 y]] w fun e w' => e = .returned (.agg #[.int .i64 x, .int .i64 y, .int .i64 x, .int .i64 y, .int .i64 0, .int .i64 0, .bool false]) ∧ Below w.heap.size w w' := by
  go_enter Try.func36, Try.ntmps36
  go_wp2
  exact bodyPost_ret (v := .agg #[.int .i64 x, .int .i64 y, .int .i64 x, .int .i64 y, .int .i64 0, .int .i64 0, .bool false]) (by simp [results, Try.results36, go_sem]) rfl ⟨rfl, ((Below.refl _ w).alloc (Nat.le_refl _) _).alloc (by simp) _⟩

set_option maxHeartbeats 400000 in
theorem isOn_any (x y : Int) (b : Bool) (w : World) :
    Calls Try.prog 42 #[.agg #[.int .i64 x, .int .i64 y, .bool b]] w fun e w' => e = .returned (.bool b) ∧ Below w.heap.size w w' := by
  go_enter Try.func42, Try.ntmps42
  go_wp2
  go_ret
  exact ⟨rfl, (Below.refl _ w).alloc (Nat.le_refl _) _⟩

/-- Where the first point on the line is, as slices.IndexFunc tells it. -/
def firstI (c : List Vtx) : Int := match firstOn c with | none => -1 | some f => f
theorem firstI_at {c : List Vtx} {k : Nat} {v : Vtx} (h : c[k]? = some v) (hv : v.on = true) (h0 : ∀ u ∈ c.take k, u.on = false) : firstI c = k := by
  unfold firstI; rw [firstOn_is h hv h0]
theorem firstI_none {c : List Vtx} (h : ∀ u ∈ c, u.on = false) : firstI c = -1 := by unfold firstI; rw [firstOn_off h]

set_option maxHeartbeats 800000 in
theorem indexFunc_any (v : Value) (c : List Vtx) (w : World) (hv : VRd w v c) (hl : c.length ≤ 1000) :
    Calls Try.prog 41 #[v, .func (.func 42) #[] #[]] w fun e w' => e = .returned (.int .i64 (firstI c)) ∧ Below w.heap.size w w' := by
  obtain ⟨A, cap, rfl, hc, h3⟩ := hv
  have H3 := Lib.hid h3
  obtain ⟨n, hn⟩ : ∃ n : Nat, c.length = n := ⟨_, rfl⟩
  rw [hn] at hc hl
  rw [hn]
  have HN := Lib.hid hn
  obtain ⟨R, hR⟩ : ∃ R : Int, firstI c = R := ⟨_, rfl⟩
  rw [hR]
  have HR := Lib.hid hR
  clear h3 hn hR
  go_enter Try.func41, Try.ntmps41
  go_wp2_with fail
  go_loopw [8] (fun i wr => ∃ r : Nat, r ≤ n ∧ i = .int .i64 r ∧ Hid (∀ u ∈ c.take r, u.on = false) ∧ Hid (Below w.heap.size w wr)) (fun i _ => n - (intOf i).toNat)
  case atStart => exact ⟨0, Nat.zero_le _, rfl, Lib.hid (fun u hu => by cases hu), Lib.hid (Below.refl _ _)⟩
  case round =>
    obtain ⟨r, hr, rfl, HT, HB⟩ := hrel
    by_cases hrn : r < n
    · have hrb : decide ((r : Int) < n) = true := by simp; omega
      obtain ⟨a, rfl, hal, x0, x1, x2⟩ := H3.out r (by have := HN.out; omega)
      have kp : ∀ p : Addr, p.block = a.block → wr.cell? p = w.cell? p := fun p hp => HB.out.cell (by rw [hp]; exact hal)
      replace x0 := (kp _ (block_add _ _)).trans x0
      replace x1 := (kp _ (block_add _ _)).trans x1
      replace x2 := (kp _ (block_add _ _)).trans x2
      obtain ⟨d, hdd⟩ : ∃ d, d = c[r]'(by have := HN.out; omega) := ⟨_, rfl⟩
      rw [← hdd] at x0 x1 x2
      have HDJ : Hid (c[r]? = some d) := Lib.hid (by rw [hdd]; exact List.getElem?_eq_getElem _)
      obtain ⟨dx, dy, don⟩ := d
      simp only [] at x0 x1 x2
      rw [add_spell _ _ _ (by omega)] at x1 x2
      clear hdd kp
      go_wp2_with fail
      refine (isOn_any dx dy don _).mono ?_
      rintro e w1 ⟨rfl, hb1⟩
      have HB1 := Lib.hid (HB.out.trans (hb1.mono HB.out.size))
      clear hb1 HB x0 x1 x2
      cases don with
      | true =>
        have e : R = r := by rw [← HR.out]; exact firstI_at HDJ.out rfl HT.out
        subst e
        go_wp2
        go_ret
        exact ⟨rfl, HB1.out⟩
      | false =>
        have HT' : Hid (∀ u ∈ c.take (r + 1), u.on = false) := Lib.hid (by
          rw [take_push c r _ HDJ.out]
          intro u hu
          rcases List.mem_append.1 hu with hu | hu
          · exact HT.out u hu
          · rw [List.mem_singleton] at hu; subst hu; rfl)
        go_wp2_with fail
        exact ⟨⟨r + 1, by omega, by go_num, HT', HB1⟩, by simp [intOf]; omega⟩
    · obtain rfl : r = n := by omega
      have e : R = -1 := by
        rw [← HR.out]
        refine firstI_none ?_
        have h := HT.out
        rwa [List.take_of_length_le (by rw [HN.out]; omega)] at h
      subst e
      go_wp2
      go_ret
      exact ⟨rfl, HB.out⟩

end Go.Proofs.Ytglmgenifjaakaa
