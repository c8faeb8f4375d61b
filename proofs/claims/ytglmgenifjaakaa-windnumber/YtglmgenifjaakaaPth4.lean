/-
  What path.Segs' closure does to any world: it ends a piece (no claim is made here).
-/
import Derived.Test.YtglmgenifjaakaaPth3
namespace Go.Proofs.Ytglmgenifjaakaa
open Go.RowKit

theorem scell_one (s : Sg) : ∀ u ∈ scell s, u.oneCell' = true := by
  intro u hu
  simp only [scell, List.mem_cons, List.not_mem_nil, or_false] at hu
  rcases hu with rfl | rfl | rfl | rfl | rfl | rfl | rfl <;> rfl
theorem SRow.heap {w w' : World} {base : Nat} {u : Value} {l : List Sg} (h : SRow w base u l) (hb : ∀ k, base ≤ k → k < w.heap.size → w'.heap[k]? = w.heap[k]?) : SRow w' base u l :=
  own_blocks h fun g hg => hb g (World.ownsRow.lt h g hg).1 (World.ownsRow.lt h g hg).2
theorem SRow.set {w : World} {base : Nat} {u : Value} {l : List Sg} (h : SRow w base u l) {p : Addr} (hp : p.block < base) (x : Value) : SRow (w.setCell p x) base u l := h.heap fun k hk _ => heap_set w p x k (by omega)
theorem SRow.alloc {w : World} {base : Nat} {u : Value} {l : List Sg} (h : SRow w base u l) (o : Obj) : SRow (w.alloc o) base u l := h.below ((Below.refl _ w).alloc (Nat.le_refl _) o)
theorem SRow.form {w : World} {base : Nat} {u : Value} {l : List Sg} (h : SRow w base u l) : ∃ A cap, u = .slice A l.length cap := own_form h
def seg7 (ax ay bx by' cx cy : Int) (cv : Bool) : List Value := [.int .i64 ax, .int .i64 ay, .int .i64 bx, .int .i64 by', .int .i64 cx, .int .i64 cy, .bool cv]

/-- What the closure leaves. -/
def EndAt (w : World) (gc gs base : Nat) (v : Value) (l : List Sg) (s : Sg) (e : Ending) (w' : World) : Prop :=
  e = .returned (.tuple #[]) ∧ Blk w' gc 70 (seg7 s.c.x s.c.y s.c.x s.c.y 0 0 false) ∧ (∃ v', Blk w' gs 59 [v'] ∧ SRow w' base v' (l ++ [s])) ∧ But (fun k => k = gc ∨ k = gs ∨ v.ownBlock = some k) w w'

set_option maxHeartbeats 1600000 in
theorem endAt_any (px py ax ay bx by' cx cy : Int) (cv : Bool) (gc gs base : Nat) (v : Value) (l : List Sg) (w : World) (hc : Blk w gc 70 (seg7 ax ay bx by' cx cy cv)) (hs : Blk w gs 59 [v]) (hv : SRow w base v l)
    (h1 : gc < base) (h2 : gs < base) (h3 : gc ≠ gs) (hl : l.length ≤ 2000) (hbase : base ≤ w.heap.size) :
    Calls Try.prog 37 #[.agg #[.int .i64 px, .int .i64 py], .pointer (some ⟨gc, 0, none⟩), .pointer (some ⟨gs, 0, none⟩)] w (EndAt w gc gs base v l ⟨⟨ax, ay⟩, ⟨bx, by'⟩, ⟨px, py⟩, cv⟩) := by
  have HC := Lib.hid hc
  have HS := Lib.hid hs
  have HV := Lib.hid hv
  obtain ⟨n, hn⟩ : ∃ n, l.length = n := ⟨_, rfl⟩
  rw [hn] at hl
  obtain ⟨A, cap, rfl⟩ := hv.form
  rw [hn] at hs HS HV
  rw [hn]
  have HN := Lib.hid hn
  have c0 := hc.cell 0 rfl
  have c1 := hc.cell 1 rfl
  have c2 := hc.cell 2 rfl
  have c3 := hc.cell 3 rfl
  have c4 := hc.cell 4 rfl
  have c5 := hc.cell 5 rfl
  have c6 := hc.cell 6 rfl
  have f4 := hc.frozen 4
  have f5 := hc.frozen 5
  have s0 := hs.cell 0 rfl
  have sf := hs.frozen 0
  have z1 : gc < w.heap.size := hc.lt
  have z2 : gs < w.heap.size := hs.lt
  have h3' : ¬ gs = gc := fun e => h3 e.symm
  obtain ⟨i0, hi0, hz0, hz1, hz2⟩ := infos sinfo
  have T1 := (((HC.out.set 4 (.int .i64 px)).set 5 (.int .i64 py)).alloc (.cells #[.int .i64 px, .int .i64 py] 31)).alloc (.cells #[.int .i64 ax, .int .i64 ay, .int .i64 bx, .int .i64 by', .int .i64 px, .int .i64 py, .bool cv] 70)
  have T2 := (((HS.out.other (k := gc) 4 (.int .i64 px) h3').other (k := gc) 5 (.int .i64 py) h3').alloc (.cells #[.int .i64 px, .int .i64 py] 31)).alloc (.cells #[.int .i64 ax, .int .i64 ay, .int .i64 bx, .int .i64 by', .int .i64 px, .int .i64 py, .bool cv] 70)
  have T3 := (Blk.new ((w.setCell ⟨gc, 4, none⟩ (.int .i64 px)).setCell ⟨gc, 5, none⟩ (.int .i64 py)) 31 [.int .i64 px, .int .i64 py] (g := w.heap.size) (by simp)).alloc (.cells #[.int .i64 ax, .int .i64 ay, .int .i64 bx, .int .i64 by', .int .i64 px, .int .i64 py, .bool cv] 70)
  have T4 := (((HV.out.set (p := ⟨gc, 4, none⟩) h1 (.int .i64 px)).set (p := ⟨gc, 5, none⟩) h1 (.int .i64 py)).alloc (.cells #[.int .i64 px, .int .i64 py] 31)).alloc (.cells #[.int .i64 ax, .int .i64 ay, .int .i64 bx, .int .i64 by', .int .i64 px, .int .i64 py, .bool cv] 70)
  have T5 := Blk.new (((w.setCell ⟨gc, 4, none⟩ (.int .i64 px)).setCell ⟨gc, 5, none⟩ (.int .i64 py)).alloc (.cells #[.int .i64 px, .int .i64 py] 31)) 70 [.int .i64 ax, .int .i64 ay, .int .i64 bx, .int .i64 by', .int .i64 px, .int .i64 py, .bool cv] (g := w.heap.size + 1) (by simp)
  have T6 : But (fun k => k = gc ∨ k = gs ∨ (Value.slice A n cap).ownBlock = some k) w ((((w.setCell ⟨gc, 4, none⟩ (.int .i64 px)).setCell ⟨gc, 5, none⟩ (.int .i64 py)).alloc (.cells #[.int .i64 px, .int .i64 py] 31)).alloc (.cells #[.int .i64 ax, .int .i64 ay, .int .i64 bx, .int .i64 by', .int .i64 px, .int .i64 py, .bool cv] 70)) :=
    ((((But.of (Below.refl _ w)).set ⟨gc, 4, none⟩ (.inl rfl) _).set ⟨gc, 5, none⟩ (.inl rfl) _).trans (But.of ((Below.refl _ _).alloc (Nat.le_refl _) _))).trans (But.of ((Below.refl _ _).alloc (Nat.le_refl _) _))
  have HT1 := Lib.hid T1
  have HT2 := Lib.hid T2
  have HT3 := Lib.hid T3
  have HT4 := Lib.hid (SRow.own T4 HN.out)
  have HT5 := Lib.hid T5
  have HT6 := Lib.hid T6
  have row1 : ∀ k, k < base → some k ≠ Value.ownBlock (.slice A n cap) := fun k hk e => by have := (HT4.out.lt k e.symm).1; omega
  have row2 : some w.heap.size ≠ Value.ownBlock (.slice A n cap) := fun e => by have := (World.ownsRow.lt HV.out w.heap.size e.symm).2; omega
  have HR1 := Lib.hid row1
  have HR2 := Lib.hid row2
  clear hc hs hv hn T1 T2 T3 T4 T5 T6 row1 row2
  go_enter Try.func37, Try.ntmps37
  go_wp2_with (at_builtin; refine wpList_append_lies _ rfl _ _ _ (by rfl) base 70 i0 _ 7 56 Try.underlying59 hi0 hz0 hz1 hz2 (by rfl) (by omega) _ n _ (by rfl) HT4.out ⟨w.heap.size + 1, 0, none⟩ 1 1 [.int .i64 ax, .int .i64 ay, .int .i64 bx, .int .i64 by', .int .i64 px, .int .i64 py, .bool cv] (by rfl) (by rfl) (World.news_of_block HT5.out) (by simp [Value.oneCell']) (by omega) (by simp [maxLen]; omega) (by omega) (by simp; omega) (w.heap.size + 2) (by simp) ?_; intro g cp w1 hown hgrow hat hlt; have G1 := HT1.out.grown hgrow (HR1.out gc h1); have G2 := HT2.out.grown hgrow (HR1.out gs h2); have G3 := HT3.out.grown hgrow HR2.out; have q0 := G2.cell 0 rfl; have q1 := G2.frozen 0; have q2 := G2.lt; have q3 := G3.cell 0 rfl; have q4 := G3.cell 1 rfl; have q5 := G3.lt; have q6 : ¬ w.heap.size = gs := (by omega))
  refine (lineFrom_any _ _ _).mono ?_
  rintro e w2 ⟨rfl, hb2⟩
  have G4 := (G1.other (k := gs) 0 (.slice (some ⟨g, 0, none⟩) (n + 1) cp) h3).keep hb2
  have G5 := (G2.set 0 (.slice (some ⟨g, 0, none⟩) (n + 1) cp)).keep hb2
  have VN : SRow w1 base (.slice (some ⟨g, 0, none⟩) (n + 1) cp) (l ++ [⟨⟨ax, ay⟩, ⟨bx, by'⟩, ⟨px, py⟩, cv⟩]) := by
    unfold SRow
    rw [List.length_append, HN.out, scells_push]
    exact hown
  have V5 := (VN.set (p := ⟨gs, 0, none⟩) h2 (.slice (some ⟨g, 0, none⟩) (n + 1) cp)).below hb2
  have B5 : But (fun k => k = gc ∨ k = gs ∨ (Value.slice A n cap).ownBlock = some k) w w2 := ((HT6.out.grown hgrow (fun q hq _ => .inr (.inr hq))).set ⟨gs, 0, none⟩ (.inr (.inl rfl)) _).trans (But.of hb2)
  have HG4 := Lib.hid G4
  have HG5 := Lib.hid G5
  have HV5 := Lib.hid V5
  have HB5 := Lib.hid B5
  have d0 := G4.cell 0 rfl
  have d1 := G4.cell 1 rfl
  have d2 := G4.cell 2 rfl
  have d3 := G4.cell 3 rfl
  have d4 := G4.cell 4 rfl
  have d5 := G4.cell 5 rfl
  have d6 := G4.cell 6 rfl
  have e0 := G4.frozen 0
  have e1 := G4.frozen 1
  have e2 := G4.frozen 2
  have e3 := G4.frozen 3
  have e4 := G4.frozen 4
  have e5 := G4.frozen 5
  have e6 := G4.frozen 6
  have ez := G4.lt
  clear hb2 hown hgrow hat hlt G1 G2 G3 q0 q1 q2 q3 q4 q5 q6 G4 G5 VN V5 B5 c0 c1 c2 c3 c4 c5 c6 f4 f5 s0 sf HT1 HT2 HT3 HT4 HT5 HT6 HR1 HR2
  go_wp2_with fail
  have R1 := (((((((HG4.out.set 0 (.int .i64 px)).set 1 (.int .i64 py)).set 2 (.int .i64 px)).set 3 (.int .i64 py)).set 4 (.int .i64 0)).set 5 (.int .i64 0)).set 6 (.bool false))
  have R2 := (((((((HG5.out.other (k := gc) 0 (.int .i64 px) h3').other (k := gc) 1 (.int .i64 py) h3').other (k := gc) 2 (.int .i64 px) h3').other (k := gc) 3 (.int .i64 py) h3').other (k := gc) 4 (.int .i64 0) h3').other (k := gc) 5 (.int .i64 0) h3').other (k := gc) 6 (.bool false) h3')
  have R3 := (((((((HV5.out.set (p := ⟨gc, 0, none⟩) h1 (.int .i64 px)).set (p := ⟨gc, 1, none⟩) h1 (.int .i64 py)).set (p := ⟨gc, 2, none⟩) h1 (.int .i64 px)).set (p := ⟨gc, 3, none⟩) h1 (.int .i64 py)).set (p := ⟨gc, 4, none⟩) h1 (.int .i64 0)).set (p := ⟨gc, 5, none⟩) h1 (.int .i64 0)).set (p := ⟨gc, 6, none⟩) h1 (.bool false))
  have R4 := (((((((HB5.out.set ⟨gc, 0, none⟩ (.inl rfl) (.int .i64 px)).set ⟨gc, 1, none⟩ (.inl rfl) (.int .i64 py)).set ⟨gc, 2, none⟩ (.inl rfl) (.int .i64 px)).set ⟨gc, 3, none⟩ (.inl rfl) (.int .i64 py)).set ⟨gc, 4, none⟩ (.inl rfl) (.int .i64 0)).set ⟨gc, 5, none⟩ (.inl rfl) (.int .i64 0)).set ⟨gc, 6, none⟩ (.inl rfl) (.bool false))
  exact bodyPost_ret (v := .tuple #[]) (by simp [results, Try.results37, go_sem]) rfl ⟨rfl, R1, ⟨_, R2, R3⟩, R4⟩

end Go.Proofs.Ytglmgenifjaakaa
