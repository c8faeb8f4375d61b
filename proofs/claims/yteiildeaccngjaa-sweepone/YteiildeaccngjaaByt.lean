/-
  Rows of bytes that are ours, rows that are read, and bytes as a string (no claim is made here).
-/
import Derived.Test.YteiildeaccngjaaBlk
import Derived.Test.YteiildeaccngjaaMdot
import Derived.Laws.IdiomStrings
import Derived.Laws.BytesArg
namespace Go.Proofs.Yteiildeaccngjaa
open Go.RowKit

/-- Bytes as values; a row of bytes that is ours. -/
def bvals (bs : List Nat) : List Value := bs.map fun (b : Nat) => .int .u8 (b : Int)
def BRow (w : World) (base : Nat) (v : Value) (bs : List Nat) : Prop := w.ownsRow base 5 1 v bs.length (bvals bs)
theorem bvals_append (a b : List Nat) : bvals (a ++ b) = bvals a ++ bvals b := List.map_append
theorem bvals_length (a : List Nat) : (bvals a).length = a.length := List.length_map _
theorem BRow.nil (w : World) (base : Nat) : BRow w base (.slice none 0 0) [] := World.ownsRow_nil _ _ _ _
theorem BRow.alloc {w : World} {base : Nat} {v : Value} {bs : List Nat} (h : BRow w base v bs) (o : Obj) : BRow (w.alloc o) base v bs := World.ownsRow.alloc h o
theorem BRow.below {w w' : World} {base : Nat} {v : Value} {bs : List Nat} (h : BRow w base v bs) (hb : Below w.heap.size w w') : BRow w' base v bs := own_blocks h fun g hg => hb.block g (World.ownsRow.lt h g hg).2
theorem BRow.form {w : World} {base : Nat} {v : Value} {bs : List Nat} (h : BRow w base v bs) : ∃ A cap, v = .slice A bs.length cap := own_form h
theorem BRow.own {w : World} {base : Nat} {v : Value} {bs : List Nat} {n : Nat} (h : BRow w base v bs) (hn : bs.length = n) : w.ownsRow base 5 1 v n (bvals bs) := hn ▸ h
/-- Two values whose rows lie in different blocks. -/
def Apart (a b : Value) : Prop := ∀ g, a.ownBlock = some g → b.ownBlock ≠ some g
theorem Apart.symm {a b : Value} (h : Apart a b) : Apart b a := fun g hb ha => h g ha hb
theorem Apart.nil (b : Value) : Apart (.slice none 0 0) b := fun _ h => by cases h
theorem Apart.ne {a b : Value} (h : Apart a b) : b.ownBlock = none ∨ b.ownBlock ≠ a.ownBlock := by
  cases hb : b.ownBlock with
  | none => exact .inl rfl
  | some g => exact .inr fun e => h g e.symm hb
/-- A row that was appended to is as far from the others as before. -/
theorem Apart.grown {a b : Value} {g H n cap : Nat} (h : Apart a b) (hat : a.ownBlock = some g ∨ g = H) (hb : ∀ k, b.ownBlock = some k → k < H) : Apart (.slice (some ⟨g, 0, none⟩) n cap) b := by
  intro k hk hbk
  have hk' : g = k := by simpa [Value.ownBlock] using hk
  subst hk'
  rcases hat with e | e
  · exact h g e hbk
  · have := hb g hbk; omega
theorem BRow.kept {w w' : World} {base : Nat} {a b : Value} {bs : List Nat} (h : BRow w base b bs) (hg : w.grownBy w' a.ownBlock) (hab : Apart a b) : BRow w' base b bs := World.ownsRow.kept h hg hab.ne
/-- Bytes that are read. -/
def BRd (w : World) (v : Value) (bs : List Nat) : Prop :=
  ∃ A cap, v = .slice A bs.length cap ∧ bs.length ≤ cap ∧ cap ≤ maxLen ∧ (∀ b ∈ bs, b < 256) ∧ ∀ i (h : i < bs.length), ∃ a, A = some a ∧ a.block < w.heap.size ∧ w.cell? (a.add i) = some (.int .u8 (bs[i] : Nat))
theorem BRd.blocks {w w' : World} {v : Value} {c : List Nat} (h : BRd w v c) (hz : w.heap.size ≤ w'.heap.size) (hb : ∀ g, v.ownBlock = some g → g < w.heap.size → w'.heap[g]? = w.heap[g]?) : BRd w' v c := by
  obtain ⟨A, cap, rfl, h1, h2, h4, h3⟩ := h
  refine ⟨A, cap, rfl, h1, h2, h4, fun i hi => ?_⟩
  obtain ⟨a, rfl, hlt, c0⟩ := h3 i hi
  have e := hb a.block rfl hlt
  exact ⟨a, rfl, by omega, (World.cell?_of_block (a := a.add i) (by rw [block_add]; exact e)).trans c0⟩
theorem BRd.keep {w w' : World} {v : Value} {c : List Nat} (h : BRd w v c) (hb : Below w.heap.size w w') : BRd w' v c := h.blocks hb.size fun g _ hg => hb.block g hg
theorem BRow.read {w : World} {base : Nat} {u : Value} {c : List Nat} (h : BRow w base u c) (hc : ∀ b ∈ c, b < 256) : BRd w u c := by
  rcases h.2 with ⟨rfl, h0⟩ | ⟨g, cap, cur, rfl, _, hg, hl, hm, _, _⟩
  · have : c = [] := List.eq_nil_of_length_eq_zero h0
    subst this
    exact ⟨none, 0, rfl, Nat.le_refl _, by unfold maxLen; omega, hc, fun i hi => absurd hi (Nat.not_lt_zero _)⟩
  · refine ⟨_, cap, rfl, hl, hm, hc, fun i hi => ⟨_, rfl, (World.ownsRow.lt h g rfl).2, ?_⟩⟩
    exact World.ownsRow.cells h rfl _ _ (by simp [bvals, hi])
theorem add_add (a : Addr) (i j : Nat) : (a.add i).add j = a.add (i + j) := by
  unfold Addr.add
  by_cases hi : i = 0 <;> by_cases hj : j = 0 <;> simp [hi, hj, Nat.add_assoc]
theorem BRd.drop {w : World} {a : Addr} {n cap : Nat} {c : List Nat} (h : BRd w (.slice (some a) n cap) c) (k : Nat) (hk : k ≤ c.length) : BRd w (.slice (some (a.add k)) (n - k) (cap - k)) (c.drop k) := by
  obtain ⟨A, cap', e, h1, h2, h4, h3⟩ := h
  injection e with e1 e2 e3
  subst e1 e3
  refine ⟨some (a.add k), cap - k, ?_, ?_, by omega, fun b hb => h4 b (List.mem_of_mem_drop hb), fun i hi => ?_⟩
  · rw [List.length_drop, e2]
  · rw [List.length_drop]; omega
  · rw [List.length_drop] at hi
    obtain ⟨a', ha, hlt, c0⟩ := h3 (k + i) (by omega)
    injection ha with ha
    subst ha
    exact ⟨_, rfl, by rw [block_add]; exact hlt, by rw [add_add, List.getElem_drop]; exact c0⟩
theorem BRd.none {w : World} (A : Option Addr) (cap : Nat) (hc : cap ≤ maxLen) : BRd w (.slice A 0 cap) [] := ⟨A, cap, rfl, Nat.zero_le _, hc, (fun _ h => nomatch h), fun _ hi => absurd hi (Nat.not_lt_zero _)⟩
theorem BRd.take {w : World} {A : Option Addr} {n cap : Nat} {c : List Nat} (h : BRd w (.slice A n cap) c) (k : Nat) (hk : k ≤ c.length) : BRd w (.slice A k cap) (c.take k) := by
  obtain ⟨A', cap', e, h1, h2, h4, h3⟩ := h
  injection e with e1 e2 e3
  subst e1 e3
  refine ⟨A, cap, by rw [List.length_take, Nat.min_eq_left hk], ?_, h2, fun b hb => h4 b (List.mem_of_mem_take hb), fun i hi => ?_⟩
  · rw [List.length_take]; omega
  · rw [List.length_take] at hi
    obtain ⟨a', ha, hlt, c0⟩ := h3 i (by omega)
    exact ⟨a', ha, hlt, by rw [List.getElem_take]; exact c0⟩
def strOf (bs : List Nat) : ByteArray := ⟨(bs.map UInt8.ofNat).toArray⟩
theorem run_strOf {w : World} {v : Value} {bs : List Nat} (h : BRd w v bs) : (convert 34 9 v).run Try.prog w = .ok (.string (strOf bs)) w := by
  obtain ⟨A, cap, rfl, _, _, h4, h3⟩ := h
  cases A with
  | none =>
    have hb : bs = [] := by
      cases bs with
      | nil => rfl
      | cons b r => obtain ⟨a, ha, _⟩ := h3 0 (by simp); cases ha
    subst hb
    exact run_convert_bytes_nil w 34 5 Try.underlying34 Try.underlying5 0 cap 9 Try.underlying9
  | some a =>
    have := run_convert_bytes_back (P := Try.prog) w 34 9 5 a cap (bs.map UInt8.ofNat) Try.underlying34 Try.underlying5 Try.underlying9 (by
      intro j hj
      rw [List.length_map] at hj
      obtain ⟨a', ha, _, hc⟩ := h3 j hj
      injection ha with ha
      subst ha
      rw [hc, List.getElem_map]
      have hlt := h4 bs[j] (List.getElem_mem _)
      congr 2
      rw [UInt8.toNat_ofNat']
      omega)
    rw [List.length_map] at this
    exact this
theorem strOf_inj {a b : List Nat} (ha : ∀ x ∈ a, x < 256) (hb : ∀ x ∈ b, x < 256) (h : strOf a = strOf b) : a = b := by
  unfold strOf at h
  injection h with h
  have h' := congrArg Array.toList h
  simp only [] at h'
  have key : ∀ (a b : List Nat), (∀ x ∈ a, x < 256) → (∀ x ∈ b, x < 256) → a.map UInt8.ofNat = b.map UInt8.ofNat → a = b := by
    intro a
    induction a with
    | nil => intro b _ _ h; cases b with | nil => rfl | cons _ _ => simp at h
    | cons x a ih =>
      intro b ha hb h
      cases b with
      | nil => simp at h
      | cons y b =>
        simp only [List.map_cons, List.cons.injEq] at h
        have h1 := congrArg UInt8.toNat h.1
        rw [UInt8.toNat_ofNat', UInt8.toNat_ofNat'] at h1
        have hx := ha x (List.mem_cons_self ..)
        have hy := hb y (List.mem_cons_self ..)
        rw [ih b (fun z hz => ha z (List.mem_cons_of_mem _ hz)) (fun z hz => hb z (List.mem_cons_of_mem _ hz)) h.2]
        congr 1
        omega
  exact key a b ha hb h'
theorem BRd.grown {w w' : World} {v : Value} {c : List Nat} {row : Option Nat} (h : BRd w v c) (hg : w.grownBy w' row) (hne : v.ownBlock = Option.none ∨ v.ownBlock ≠ row) : BRd w' v c :=
  h.blocks hg.size fun g hv hlt => hg.block g hlt (fun e => by
    rcases hne with h | h
    · rw [hv] at h; cases h
    · exact h (hv.trans e))
theorem binfo : (Try.prog.info? 5).map (fun i => (i.zero, i.size, i.bytes)) = some (some (.int .u8 0), 1, 1) := by kernel_rfl
theorem BRow.keep {w w' : World} {base : Nat} {v : Value} {bs : List Nat} (h : BRow w base v bs) (hb : Below w.heap.size w w') : BRow w' base v bs := h.below hb
theorem BRow.push1 {w : World} {base K : Nat} {V : Value} {bs : List Nat} {c : Nat} (hK : bs.length = K) (h : w.ownsRow base 5 1 V (K + 1) (bvals bs ++ [.int .u8 (c : Int)])) : BRow w base V (bs ++ [c]) := by
  unfold BRow
  rw [bvals_append, List.length_append, hK]
  exact h
theorem BRow.mono {w : World} {base b : Nat} {V : Value} {bs : List Nat} (h : BRow w base V bs) (hb : b ≤ base) : BRow w b V bs := World.ownsRow.mono h hb
theorem BRow.ge {w : World} {base g : Nat} {V : Value} {bs : List Nat} (h : BRow w base V bs) (e : V.ownBlock = some g) : base ≤ g ∧ g < w.heap.size := World.ownsRow.lt h g e
theorem BRow.set {w : World} {base : Nat} {V : Value} {bs : List Nat} (h : BRow w base V bs) {p : Addr} (hp : p.block < base) (x : Value) : BRow (w.setCell p x) base V bs := own_blocks h fun g hg => heap_set w p x g (by have := (World.ownsRow.lt h g hg).1; omega)

end Go.Proofs.Yteiildeaccngjaa
