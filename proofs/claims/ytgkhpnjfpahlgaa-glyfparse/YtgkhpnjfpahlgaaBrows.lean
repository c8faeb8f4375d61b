/-
  Rows of bytes that are ours, three of them apart from each other, and what an append does to them; the law's far of layer 4 (no claim is made here).
-/
import Derived.Test.YtgkhpnjfpahlgaaVsame
namespace Go.Proofs.Ytgkhpnjfpahlgaa
open Go.RowKit

/-- Bytes as values; a row of bytes that is ours. -/
def bvals (bs : List Nat) : List Value := bs.map fun (b : Nat) => .int .u8 (b : Int)
def BRow (w : World) (base : Nat) (v : Value) (bs : List Nat) : Prop := w.ownsRow base 5 1 v bs.length (bvals bs)
theorem bvals_append (a b : List Nat) : bvals (a ++ b) = bvals a ++ bvals b := List.map_append
theorem bvals_length (a : List Nat) : (bvals a).length = a.length := List.length_map _
theorem BRow.nil (w : World) (base : Nat) : BRow w base (.slice none 0 0) [] := World.ownsRow_nil _ _ _ _
theorem BRow.alloc {w : World} {base : Nat} {v : Value} {bs : List Nat} (h : BRow w base v bs) (o : Obj) : BRow (w.alloc o) base v bs := World.ownsRow.alloc h o
theorem BRow.below {w w' : World} {base : Nat} {v : Value} {bs : List Nat} (h : BRow w base v bs) (hb : Below w.heap.size w w') : BRow w' base v bs := own_blocks h fun g hg => hb.block g (World.ownsRow.lt h g hg).2
theorem BRow.form {w : World} {base : Nat} {v : Value} {bs : List Nat} (h : BRow w base v bs) : ∃ A cap, v = .slice A bs.length cap := own_form h
theorem BRow.own {w : World} {base : Nat} {v : Value} {bs : List Nat} {n : Nat} (h : BRow w base v bs) (hn : bs.length = n) : w.ownsRow base 5 1 v n (bvals bs) := hn ▸ h

/-- Two values whose rows lie in different blocks. -/
def Apart (a b : Value) : Prop := ∀ g, a.ownBlock = some g → b.ownBlock ≠ some g
theorem Apart.symm {a b : Value} (h : Apart a b) : Apart b a := fun g hb ha => h g ha hb
theorem Apart.nil (b : Value) : Apart (.slice none 0 0) b := fun _ h => by cases h
theorem Apart.ne {a b : Value} (h : Apart a b) : b.ownBlock = none ∨ b.ownBlock ≠ a.ownBlock := by
  cases hb : b.ownBlock with
  | none => exact .inl rfl
  | some g => exact .inr fun e => h g e.symm hb
/-- A row that was appended to is as far from the others as before. -/
theorem Apart.grown {a b : Value} {g H n cap : Nat} (h : Apart a b) (hat : a.ownBlock = some g ∨ g = H) (hb : ∀ k, b.ownBlock = some k → k < H) : Apart (.slice (some ⟨g, 0, none⟩) n cap) b := by
  intro k hk hbk
  have hk' : g = k := by simpa [Value.ownBlock] using hk
  subst hk'
  rcases hat with e | e
  · exact h g e hbk
  · have := hb g hbk; omega
theorem BRow.kept {w w' : World} {base : Nat} {a b : Value} {bs : List Nat} (h : BRow w base b bs) (hg : w.grownBy w' a.ownBlock) (hab : Apart a b) : BRow w' base b bs := World.ownsRow.kept h hg hab.ne

/-- Three rows of bytes, apart. -/
def B3 (w : World) (base : Nat) (a b c : Value) (la lb lc : List Nat) : Prop := (BRow w base a la ∧ BRow w base b lb ∧ BRow w base c lc) ∧ Apart a b ∧ Apart a c ∧ Apart b c
theorem B3.alloc {w : World} {base : Nat} {a b c : Value} {la lb lc : List Nat} (h : B3 w base a b c la lb lc) (o : Obj) : B3 (w.alloc o) base a b c la lb lc := ⟨⟨h.1.1.alloc o, h.1.2.1.alloc o, h.1.2.2.alloc o⟩, h.2⟩
theorem B3.below {w w' : World} {base : Nat} {a b c : Value} {la lb lc : List Nat} (h : B3 w base a b c la lb lc) (hb : Below w.heap.size w w') : B3 w' base a b c la lb lc := ⟨⟨h.1.1.below hb, h.1.2.1.below hb, h.1.2.2.below hb⟩, h.2⟩
theorem B3.swap {w : World} {base : Nat} {a b c : Value} {la lb lc : List Nat} (h : B3 w base a b c la lb lc) : B3 w base b c a lb lc la := ⟨⟨h.1.2.1, h.1.2.2, h.1.1⟩, h.2.2.2, h.2.1.symm, h.2.2.1.symm⟩
/-- The first row was appended to. -/
theorem B3.push {w w1 : World} {base : Nat} {a b c : Value} {la lb lc new : List Nat} {g cap H k m : Nat} (h : B3 w base a b c la lb lc) (hg : w.grownBy w1 a.ownBlock) (hat : a.ownBlock = some g ∨ g = H) (hH : w.heap.size = H) (hk : la.length = k) (hm : new.length = m)
    (hown : w1.ownsRow base 5 1 (.slice (some ⟨g, 0, none⟩) (k + m) cap) (k + m) (bvals la ++ bvals new)) : B3 w1 base (.slice (some ⟨g, 0, none⟩) (k + m) cap) b c (la ++ new) lb lc := by
  refine ⟨⟨?_, h.1.2.1.kept hg h.2.1, h.1.2.2.kept hg h.2.2.1⟩, h.2.1.grown hat ?_, h.2.2.1.grown hat ?_, h.2.2.2⟩
  · unfold BRow
    rw [bvals_append, List.length_append, hk, hm]
    exact hown
  · intro k hk; rw [← hH]; exact (World.ownsRow.lt h.1.2.1 k hk).2
  · intro k hk; rw [← hH]; exact (World.ownsRow.lt h.1.2.2 k hk).2
/-- Cells of a block in which no row lies. -/
def Cell2 (w : World) (g : Nat) (x y : Value) : Prop := w.cell? ⟨g, 0, none⟩ = some x ∧ w.cell? ⟨g, 1, none⟩ = some y
theorem Cell2.lt {w : World} {g : Nat} {x y : Value} (h : Cell2 w g x y) : g < w.heap.size := World.block_lt_of_cell? w _ h.1
theorem Cell2.keep {w w' : World} {g : Nat} {x y : Value} (h : Cell2 w g x y) (hb : w'.heap[g]? = w.heap[g]?) : Cell2 w' g x y := ⟨(World.cell?_of_block (a := ⟨g, 0, none⟩) hb).trans h.1, (World.cell?_of_block (a := ⟨g, 1, none⟩) hb).trans h.2⟩
theorem Cell2.alloc {w : World} {g : Nat} {x y : Value} (h : Cell2 w g x y) (o : Obj) : Cell2 (w.alloc o) g x y := h.keep (((Below.refl _ w).alloc (Nat.le_refl _) o).block g h.lt)
theorem Cell2.grown {w w' : World} {g : Nat} {x y : Value} {row : Option Nat} (h : Cell2 w g x y) (hg : w.grownBy w' row) (hne : some g ≠ row) : Cell2 w' g x y := h.keep (hg.block g h.lt hne)

/-- The second row was appended to by one byte. -/
theorem B3.push2 {w w1 : World} {base : Nat} {a b c : Value} {la lb lc : List Nat} {g cap k : Nat} (h : B3 w base a b c la lb lc) (o : Obj) (hg : (w.alloc o).grownBy w1 b.ownBlock) (hat : b.ownBlock = some g ∨ g = w.heap.size + 1) (hl : lb.length = k) (n : Nat)
    (hown : w1.ownsRow base 5 1 (.slice (some ⟨g, 0, none⟩) (k + 1) cap) (k + 1) (bvals lb ++ [.int .u8 (n : Int)])) : B3 w1 base a (.slice (some ⟨g, 0, none⟩) (k + 1) cap) c la (lb ++ [n]) lc :=
  ((h.alloc o).swap.push hg hat (by simp) hl (new := [n]) rfl hown).swap.swap
/-- The third row was appended to by one byte, beside two pairs of cells in which no row lies. -/
def St3 (w0 w : World) (base : Nat) (a b c : Value) (la lb lc : List Nat) (gv gs : Nat) (x y p q : Value) : Prop := B3 w base a b c la lb lc ∧ Cell2 w gv x y ∧ Cell2 w gs p q ∧ (c.ownBlock ≠ some gv ∧ c.ownBlock ≠ some gs) ∧ Below base w0 w
theorem St3.push {w0 w w1 : World} {base : Nat} {a b c : Value} {la lb lc : List Nat} {gv gs g cap k : Nat} {x y p q : Value} (h : St3 w0 w base a b c la lb lc gv gs x y p q) (hbase : base ≤ w0.heap.size) (o : Obj) (hg : (w.alloc o).grownBy w1 c.ownBlock) (hat : c.ownBlock = some g ∨ g = w.heap.size + 1) (hl : lc.length = k) (n : Nat)
    (hown : w1.ownsRow base 5 1 (.slice (some ⟨g, 0, none⟩) (k + 1) cap) (k + 1) (bvals lc ++ [.int .u8 (n : Int)])) : St3 w0 w1 base a b (.slice (some ⟨g, 0, none⟩) (k + 1) cap) la lb (lc ++ [n]) gv gs x y p q := by
  obtain ⟨hB, hv, hs, hn, hb⟩ := h
  have hz : base ≤ w.heap.size := Nat.le_trans hbase hb.size
  refine ⟨(((hB.alloc o).swap.swap.push hg hat (by simp) hl (new := [n]) rfl hown)).swap, (hv.alloc o).grown hg (fun e => hn.1 e.symm), (hs.alloc o).grown hg (fun e => hn.2 e.symm), ⟨fun e => ?_, fun e => ?_⟩, (hb.alloc hz o).grown hg (by simp; omega) (fun k hk => (World.ownsRow.lt hB.1.2.2 k hk).1)⟩
  · have e' : g = gv := by simpa [Value.ownBlock] using e
    subst e'
    rcases hat with h1 | h1
    · exact hn.1 h1
    · have := hv.lt; omega
  · have e' : g = gs := by simpa [Value.ownBlock] using e
    subst e'
    rcases hat with h1 | h1
    · exact hn.2 h1
    · have := hs.lt; omega

theorem binfo : (Try.prog.info? 5).map (fun i => (i.zero, i.size, i.bytes)) = some (some (.int .u8 0), 1, 1) := by kernel_rfl

set_option maxHeartbeats 400000 in
theorem far_any (d : Int) (w : World) : Calls Try.prog 25 #[.int .i64 d] w fun e w' => e = .returned (.bool (far d)) ∧ w = w' := by
  by_cases h1 : d < -128
  · have e : far d = true := decide_eq_true (.inl h1)
    rw [e]
    go_enter Try.func25, Try.ntmps25
    go_wp2
    go_ret
    exact ⟨rfl, rfl⟩
  · by_cases h2 : 127 < d
    · have e : far d = true := decide_eq_true (.inr h2)
      rw [e]
      go_enter Try.func25, Try.ntmps25
      go_wp2
      go_ret
      exact ⟨rfl, rfl⟩
    · have e : far d = false := decide_eq_false (by omega)
      rw [e]
      go_enter Try.func25, Try.ntmps25
      go_wp2
      go_ret
      exact ⟨rfl, rfl⟩

end Go.Proofs.Ytgkhpnjfpahlgaa
