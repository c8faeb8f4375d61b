/-
  The document's examples of layer 13 (no claim is made here).
-/
import Derived.Test.YteiildeaccngjaaSwp3
import Derived.Test.YteiildeaccngjaaMsdf
namespace Go.Proofs.Yteiildeaccngjaa
open Go.RowKit

theorem swp_lt (es : List Ed) (x y p s : Int) (u v : Nat) (hs : 1 ≤ s) : ∀ b ∈ fldS es x y p s u v, b < 256 := by
  intro b hb
  unfold fldS at hb
  obtain ⟨j, _, rfl⟩ := List.mem_map.1 hb
  have := swG_in es s (cenS x y p u j) (knS (knownL es x y p u v) j) hs
  unfold swN
  omega
theorem IRd.form {w : World} {v : Value} {l : List Int} (h : IRd w v l) : ∃ A cap, v = .slice A l.length cap := by obtain ⟨A, cap, e, _⟩ := h; exact ⟨A, cap, e⟩
theorem IRd.at {w : World} {A : Option Addr} {n cap : Nat} {l : List Int} (h : IRd w (.slice A n cap) l) (i : Nat) (hi : i < l.length) : ∃ a, A = some a ∧ a.block < w.heap.size ∧ w.cell? (a.add i) = some (.int .i64 (knS l i)) := by
  obtain ⟨A, cap, e, _, h⟩ := h
  simp only [Value.slice.injEq] at e
  obtain ⟨rfl, rfl, rfl⟩ := e
  exact h i hi
theorem tri_known : 0 ≤ knS (knownL triE (-2) (-2) 2 4 4) 0 := knownL_all triE (-2) (-2) 2 4 4 (by decide) (by decide) (by decide) (by decide)
theorem tri_swept : ∃ n : Nat, (fldS triE (-2) (-2) 2 8 4 4)[5]? = some n ∧ 128 < n := by
  refine ⟨_, fldS_at triE (-2) (-2) 2 8 4 4 5 (by decide), ?_⟩
  have hk := knownL_all triE (-2) (-2) 2 4 4 (by decide) (by decide) (by decide) (show 5 < 4 * 4 by decide)
  have hi := (knownL_in triE (-2) (-2) 2 4 4 (by decide) (by decide) 5).2
  have h := sw_over triE 8 (cenS (-2) (-2) 2 4 5) (knS (knownL triE (-2) (-2) 2 4 4) 5) (by decide) (.inl ⟨hk, hi⟩)
  have hd := tri_dec.2
  have hc : cenS (-2) (-2) 2 4 5 = midP (-2) (-2) 2 1 1 := rfl
  rw [hc] at h ⊢
  have h1 := h.1 hd
  have h2 := swN_is triE 8 (midP (-2) (-2) 2 1 1) (knS (knownL triE (-2) (-2) 2 4 4) 5) (by decide)
  omega

theorem e8_sq_small8 (e : Ed) (p : Pt) (h : InD e) (hp : InP p) : 0 ≤ e8 (sqF e p) ∧ e8 (sqF e p) ≤ 1000000 := by
  obtain ⟨l1, l2, l3⟩ := sq_small e p h hp
  obtain ⟨a0, a1, _⟩ := e8_spec l1.1 l2.1 (by omega)
  refine ⟨a0, ?_⟩
  rcases Int.lt_or_le 1000000 (e8 (sqF e p)) with k | k
  · exfalso
    have m : (1000001 : Int) * 1000001 ≤ e8 (sqF e p) * e8 (sqF e p) := Int.mul_le_mul (by omega) (by omega) (by omega) (by omega)
    have m2 := Int.mul_le_mul_of_nonneg_right m (Int.le_of_lt l2.1)
    omega
  · exact k
theorem snew_ex {w W : World} {n : Nat} (AB : Below n w W) (hn : n ≤ w.heap.size) (t : TypeId) (vs : List Value) : ∃ g, W.heap.size = g ∧ n ≤ g ∧ Blk (W.alloc (.cells vs.toArray t)) g t vs ∧ Below n w (W.alloc (.cells vs.toArray t)) ∧ Below W.heap.size W (W.alloc (.cells vs.toArray t)) :=
  ⟨_, rfl, Nat.le_trans hn AB.size, Blk.new _ _ _ rfl, AB.alloc (Nat.le_trans hn AB.size) _, (Below.refl _ _).alloc (Nat.le_refl _) _⟩
theorem sput2 {w : World} {g : Nat} {t : TypeId} {a b x y : Value} (h : Blk w g t [a, b]) : Blk ((w.setCell ⟨g, 0, none⟩ x).setCell ⟨g, 1, none⟩ y) g t [x, y] := (h.set 0 x).set 1 y
theorem soth2 {w : World} {g k : Nat} {t : TypeId} {vs : List Value} {x y : Value} (h : Blk w k t vs) (hne : k ≠ g) : Blk ((w.setCell ⟨g, 0, none⟩ x).setCell ⟨g, 1, none⟩ y) k t vs := (h.other 0 x hne).other 1 y hne
theorem sbelow2 {w W : World} {n g : Nat} {x y : Value} (h : Below n w W) (hg : n ≤ g) : Below n w ((W.setCell ⟨g, 0, none⟩ x).setCell ⟨g, 1, none⟩ y) := (h.setCell (p := ⟨g, 0, none⟩) hg x).setCell (p := ⟨g, 1, none⟩) hg y

set_option maxRecDepth 100000 in
set_option maxHeartbeats 1600000 in
theorem awake13 (H : SwpOK) (w : World) : Calls Try.prog 9 #[] w fun e w' => e = .returned (.bool true) ∧ Below w.heap.size w w' := by
  have hal0 : Below (w.alloc (.cells #[.int .i64 0, .int .i64 0, .int .i64 320, .int .i64 0, .int .i64 320, .int .i64 0, .int .i64 0, .int .i64 320, .int .i64 0, .int .i64 320, .int .i64 0, .int .i64 0] 50)).heap.size (w.alloc (.cells #[.int .i64 0, .int .i64 0, .int .i64 320, .int .i64 0, .int .i64 320, .int .i64 0, .int .i64 0, .int .i64 320, .int .i64 0, .int .i64 320, .int .i64 0, .int .i64 0] 50)) ((w.alloc (.cells #[.int .i64 0, .int .i64 0, .int .i64 320, .int .i64 0, .int .i64 320, .int .i64 0, .int .i64 0, .int .i64 320, .int .i64 0, .int .i64 320, .int .i64 0, .int .i64 0] 50)).alloc (.cells #[.int .i64 (-2), .int .i64 (-2), .int .i64 2, .int .i64 4, .int .i64 4, .int .i64 8] 29)) := (Below.refl _ _).alloc (Nat.le_refl _) _
  have HE1 := Lib.hid ((erd_blk (l := triE) (Blk.new w 50 (ecells triE) rfl) rfl).keep hal0)
  have HB1 := Lib.hid (alloc2 w (.cells #[.int .i64 0, .int .i64 0, .int .i64 320, .int .i64 0, .int .i64 320, .int .i64 0, .int .i64 0, .int .i64 320, .int .i64 0, .int .i64 320, .int .i64 0, .int .i64 0] 50) (.cells #[.int .i64 (-2), .int .i64 (-2), .int .i64 2, .int .i64 4, .int .i64 4, .int .i64 8] 29))
  have HG1 := Lib.hid (Blk.new (w.alloc (.cells #[.int .i64 0, .int .i64 0, .int .i64 320, .int .i64 0, .int .i64 320, .int .i64 0, .int .i64 0, .int .i64 320, .int .i64 0, .int .i64 320, .int .i64 0, .int .i64 0] 50)) 29 [.int .i64 (-2), .int .i64 (-2), .int .i64 2, .int .i64 4, .int .i64 4, .int .i64 8] (g := w.heap.size + 1) (by simp))
  clear hal0
  have HM := Lib.hid (fun w v h => H.make v triE (-2) (-2) 2 8 4 4 w h (by decide) tri_in (by decide))
  have HK := Lib.hid (fun w v h => H.known v triE (-2) (-2) 2 8 4 4 w h (by decide) tri_in (by decide))
  have HN := Lib.hid (fun w h => H.known (.slice none 0 0) [] (-2) (-2) 2 8 4 4 w h (by decide) (fun s hs => nomatch hs) (by decide))
  go_enter Try.func9, Try.ntmps9
  go_wp2_with fail
  refine (HM.out _ _ HE1.out).mono ?_
  rintro e w1 ⟨V, rfl, hV, hb⟩
  replace HE1 := Lib.hid (HE1.out.keep hb)
  have HB2 := Lib.hid (below2 HB1.out hb)
  have HG2 := Lib.hid (HG1.out.keep hb)
  clear HM HB1 HG1 hb
  obtain ⟨X5, t5, d5⟩ := tri_swept
  obtain ⟨A, cap, rfl⟩ := hV.form
  rw [show (fldS triE (-2) (-2) 2 8 4 4).length = 16 from fldS_length _ _ _ _ _ _ _] at hV ⊢
  obtain ⟨-, a, rfl, ha, b5⟩ := hV.byte 5 t5
  clear t5 hV
  have hal : Below w1.heap.size w1 (w1.alloc (.cells #[.int .i64 4, .int .i64 4, .slice (some a) 16 cap] 36)) := (Below.refl _ _).alloc (Nat.le_refl _) _
  have HF := Lib.hid (Blk.new w1 36 [.int .i64 4, .int .i64 4, .slice (some a) 16 cap] rfl)
  replace HE1 := Lib.hid (HE1.out.keep hal)
  have HB3 := Lib.hid (below2 HB2.out hal)
  have HG3 := Lib.hid (HG2.out.keep hal)
  have c5 := Go.Proofs.Yteiildeaccngjaa.keep hal b5
  have g0 := HG3.out.cell 0 rfl
  have g1 := HG3.out.cell 1 rfl
  have g2 := HG3.out.cell 2 rfl
  have g3 := HG3.out.cell 3 rfl
  have g4 := HG3.out.cell 4 rfl
  have g5 := HG3.out.cell 5 rfl
  have gl := HG3.out.lt
  clear HB2 HG2 b5 hal
  go_wp2_with fail
  refine (HK.out _ _ HE1.out).mono ?_
  rintro e w2 ⟨V, rfl, hV, hb⟩
  have HF2 := Lib.hid (HF.out.keep hb)
  have HG4 := Lib.hid (HG3.out.keep hb)
  have HB4 := Lib.hid (below2 HB3.out hb)
  have d5 := Go.Proofs.Yteiildeaccngjaa.keep hb c5
  have hk := tri_known
  obtain ⟨Al, capl, rfl⟩ := hV.form
  have h0 := hV.at 0 (by rw [knownL_len]; decide)
  rw [knownL_len]
  generalize knS (knownL triE (-2) (-2) 2 4 4) 0 = k0 at *
  obtain ⟨al, rfl, hl, l0⟩ := h0
  rw [show al.add 0 = al from rfl] at l0
  rw [show a.add 5 = ⟨a.block, a.off + 5, none⟩ from rfl] at d5
  have hab : a.block < w2.heap.size := Nat.lt_of_lt_of_le (Nat.lt_of_lt_of_le ha (by simp)) hb.size
  clear hb c5 HF HG3 HB3 HE1 HK hV g0 g1 g2 g3 g4 g5 gl ha
  generalize w1.heap.size = F at *
  have f2 := HF2.out.cell 2 rfl
  have fl := HF2.out.lt
  have g0 := HG4.out.cell 0 rfl
  have g1 := HG4.out.cell 1 rfl
  have g2 := HG4.out.cell 2 rfl
  have g3 := HG4.out.cell 3 rfl
  have g4 := HG4.out.cell 4 rfl
  have g5 := HG4.out.cell 5 rfl
  have gl := HG4.out.lt
  have hx : decide ((128 : Int) < X5) = true := by simp; omega
  have hk0 : decide ((0 : Int) ≤ k0) = true := by simp; omega
  go_wp2_with fail
  refine (HN.out _ (ERd.nil _)).mono ?_
  rintro e w3 ⟨V, rfl, hV, hb⟩
  have HB5 := Lib.hid (below2 HB4.out hb)
  obtain ⟨An, capn, rfl⟩ := hV.form
  rw [knownL_len]
  clear hb hV
  go_wp2_with fail
  go_ret
  exact ⟨rfl, HB5.out⟩

end Go.Proofs.Yteiildeaccngjaa
