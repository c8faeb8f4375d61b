/-
  What the program's reader of layer 4 does to any world: next, step (no claim is made here).
-/
import Derived.Test.YtgkhpnjfpahlgaaPRow
namespace Go.Proofs.Ytgkhpnjfpahlgaa
open Go.RowKit

/-- A block of two cells that may be written. -/
def Two (w : World) (g : Nat) (u v : Value) : Prop := w.cell? ⟨g, 0, none⟩ = some u ∧ w.cell? ⟨g, 1, none⟩ = some v ∧ w.frozen? ⟨g, 0, none⟩ = false ∧ w.frozen? ⟨g, 1, none⟩ = false
theorem Two.lt {w : World} {g : Nat} {u v : Value} (h : Two w g u v) : g < w.heap.size := World.block_lt_of_cell? w _ h.1
theorem Two.block {w w' : World} {g : Nat} {a b : Value} (h : Two w g a b) (hb : w'.heap[g]? = w.heap[g]?) : Two w' g a b :=
  ⟨(World.cell?_of_block (a := ⟨g, 0, none⟩) hb).trans h.1, (World.cell?_of_block (a := ⟨g, 1, none⟩) hb).trans h.2.1, (World.frozen?_of_block (a := ⟨g, 0, none⟩) hb).trans h.2.2.1, (World.frozen?_of_block (a := ⟨g, 1, none⟩) hb).trans h.2.2.2⟩
theorem Two.keep {w w' : World} {g : Nat} {a b : Value} (h : Two w g a b) (hb : Below w.heap.size w w') : Two w' g a b := h.block (hb.block g h.lt)
theorem Two.grown {w w' : World} {g : Nat} {a b : Value} {row : Option Nat} (h : Two w g a b) (hg : w.grownBy w' row) (hne : some g ≠ row) : Two w' g a b := h.block (hg.block g h.lt hne)
theorem Two.alloc {w : World} {g : Nat} {u v : Value} (h : Two w g u v) (o : Obj) : Two (w.alloc o) g u v := h.keep ((Below.refl _ w).alloc (Nat.le_refl _) o)
theorem Two.new {w : World} {g : Nat} (u v : Value) (t : TypeId) (h : g = w.heap.size) : Two (w.alloc (.cells #[u, v] t)) g u v := by
  subst h; exact ⟨by simp, by simp, by simp, by simp⟩
theorem Two.set0 {w : World} {g : Nat} {u v : Value} (h : Two w g u v) (x : Value) : Two (w.setCell ⟨g, 0, none⟩ x) g x v :=
  ⟨World.cell?_setCell_same _ _ _ h.1, by rw [World.cell?_setCell_other _ _ _ _ (by simp)]; exact h.2.1, by simp [h.2.2.1], by simp [h.2.2.2]⟩
theorem Two.set1 {w : World} {g : Nat} {u v : Value} (h : Two w g u v) (x : Value) : Two (w.setCell ⟨g, 1, none⟩ x) g u x :=
  ⟨by rw [World.cell?_setCell_other _ _ _ _ (by simp)]; exact h.1, World.cell?_setCell_same _ _ _ h.2.1, by simp [h.2.2.1], by simp [h.2.2.2]⟩
/-- But for one block nothing is other; no block is new. -/
structure Nigh (g : Nat) (w w' : World) : Prop where
  os : w'.os = w.os
  tape : w'.tape = w.tape
  output : w'.output = w.output
  size : w'.heap.size = w.heap.size
  block : ∀ k, k ≠ g → w'.heap[k]? = w.heap[k]?
theorem Nigh.refl (g : Nat) (w : World) : Nigh g w w := ⟨rfl, rfl, rfl, rfl, fun _ _ => rfl⟩
theorem Nigh.trans {g : Nat} {a b c : World} (h : Nigh g a b) (k : Nigh g b c) : Nigh g a c := ⟨k.os.trans h.os, k.tape.trans h.tape, k.output.trans h.output, k.size.trans h.size, fun i hi => (k.block i hi).trans (h.block i hi)⟩
theorem Nigh.set {g : Nat} {w : World} (p : Addr) (hp : p.block = g) (x : Value) : Nigh g w (w.setCell p x) := ⟨rfl, rfl, rfl, by simp, fun k hk => heap_set w p x k (by omega)⟩
theorem Nigh.below {g B : Nat} {w w' : World} (h : Nigh g w w') (hB : B ≤ g) : Below B w w' := ⟨h.os, h.tape, h.output, Nat.le_of_eq h.size.symm, fun k hk => h.block k (by omega)⟩
theorem Nigh.bytes {g : Nat} {w w' : World} {v : Value} {c : List Nat} (h : Nigh g w w') (hb : BRd w v c) (hne : v.ownBlock ≠ some g) : BRd w' v c := hb.blocks (Nat.le_of_eq h.size.symm) fun k hk _ => h.block k (fun e => hne (by rw [hk, e]))
theorem Nigh.own {g : Nat} {w w' : World} {base : Nat} {e : TypeId} {size : Nat} {v : Value} {n : Nat} {xs : List Value} (h : Nigh g w w') (ho : w.ownsRow base e size v n xs) (hne : v.ownBlock ≠ some g) : w'.ownsRow base e size v n xs :=
  own_blocks ho fun k hk => h.block k (fun e => hne (by rw [hk, e]))

/-- The reader: the bytes that are left, and whether some were missing. The bytes lie below B. -/
def Rdr (w : World) (g B : Nat) (bs : List Nat) (sh : Bool) : Prop := ∃ sv, Two w g sv (.bool sh) ∧ BRd w sv bs ∧ (bs ≠ [] → sv.ownBlock ≠ some g) ∧ (bs ≠ [] → ∀ k, sv.ownBlock = some k → k < B)
theorem BRd.off {w w' : World} {v : Value} {c : List Nat} (h : BRd w v c) (hz : w.heap.size ≤ w'.heap.size) (hb : c ≠ [] → ∀ g, v.ownBlock = some g → w'.heap[g]? = w.heap[g]?) : BRd w' v c := by
  cases c with
  | nil =>
    obtain ⟨A, cap, rfl, _, h2, _, _⟩ := h
    exact BRd.none A cap h2
  | cons b r => exact h.blocks hz fun g hg _ => hb (by simp) g hg
theorem Rdr.keep {w w' : World} {g B : Nat} {bs : List Nat} {sh : Bool} (h : Rdr w g B bs sh) (hB : B ≤ g) (hb : Below (g + 1) w w') : Rdr w' g B bs sh := by
  obtain ⟨sv, h1, h2, h3, h4⟩ := h
  exact ⟨sv, h1.block (hb.block g (Nat.lt_succ_self _)), h2.off hb.size (fun hne k hk => hb.block k (by have := h4 hne k hk; omega)), h3, h4⟩
theorem Rdr.lt {w : World} {g B : Nat} {bs : List Nat} {sh : Bool} (h : Rdr w g B bs sh) : g < w.heap.size := by
  obtain ⟨sv, h1, _⟩ := h
  exact h1.lt

set_option maxHeartbeats 400000 in
theorem next_any (g B : Nat) (bs : List Nat) (sh : Bool) (w : World) (h : Rdr w g B bs sh) :
    Calls Try.prog 35 #[.pointer (some ⟨g, 0, none⟩)] w fun e w' => e = .returned (.int .u8 (bs.headD 0 : Nat)) ∧ Rdr w' g B bs.tail (sh || bs.isEmpty) ∧ Nigh g w w' := by
  obtain ⟨sv, hT, hR, hne, hbd⟩ := h
  have HBD := Lib.hid hbd
  clear hbd
  have HT := Lib.hid hT
  have HR := Lib.hid hR
  obtain ⟨t0, t1, f0, f1⟩ := hT
  have tz := HT.out.lt
  obtain ⟨A, cap, rfl, h1, h2, h4, h3⟩ := hR
  cases bs with
  | nil =>
    clear h3 h4
    clear hne
    simp only [List.length_nil] at t0 h1
    go_enter Try.func35, Try.ntmps35
    go_wp2
    go_ret
    have hN : Nigh g w (w.setCell ⟨g, 1, none⟩ (.bool true)) := Nigh.set ⟨g, 1, none⟩ rfl _
    exact ⟨rfl, ⟨_, by simpa using HT.out.set1 (.bool true), BRd.none _ _ h2, fun h => absurd rfl h, fun h => absurd rfl h⟩, hN⟩
  | cons b r =>
    replace hne := hne (by simp)
    obtain ⟨a, rfl, hlt, c0⟩ := h3 0 (by simp)
    simp only [List.getElem_cons_zero] at c0
    have c0' : w.cell? a = some (.int .u8 b) := by simpa [Addr.add] using c0
    have HL : Hid ((b :: r).length = r.length + 1) := Lib.hid rfl
    obtain ⟨L, hL⟩ : ∃ L, r.length = L := ⟨_, rfl⟩
    have hLl : (b :: r).length = L + 1 := by rw [← hL]; rfl
    rw [hLl] at t0 h1 hne HT HR
    have HD := Lib.hid (HR.out.drop 1 (by simp))
    clear h3 h4 c0
    have hag : a.block ≠ g := fun e => hne (by show some a.block = _; rw [e])
    go_enter Try.func35, Try.ntmps35
    go_wp2_with fail
    all_goals
      go_ret
    case inl h =>
      subst h
      obtain rfl : L = 0 := by omega
      obtain rfl : r = [] := List.eq_nil_of_length_eq_zero hL
      have hN : Nigh g w (w.setCell ⟨g, 0, none⟩ (.slice (some a) 0 0)) := Nigh.set ⟨g, 0, none⟩ rfl _
      exact ⟨rfl, ⟨_, by simpa using HT.out.set0 (.slice (some a) 0 0), BRd.none _ _ (by unfold maxLen; omega), fun _ => hne, fun h => absurd rfl h⟩, hN⟩
    case inr h =>
      have hN : Nigh g w (w.setCell ⟨g, 0, none⟩ (.slice (some ⟨a.block, a.off + 1, none⟩) L (cap - 1))) := Nigh.set ⟨g, 0, none⟩ rfl _
      have hD : BRd w (.slice (some ⟨a.block, a.off + 1, none⟩) L (cap - 1)) r := HD.out
      exact ⟨rfl, ⟨_, by simpa using HT.out.set0 (.slice (some ⟨a.block, a.off + 1, none⟩) L (cap - 1)), hN.bytes hD hne, fun _ => hne, fun _ k hk => HBD.out (by simp) k hk⟩, hN⟩

end Go.Proofs.Ytgkhpnjfpahlgaa
