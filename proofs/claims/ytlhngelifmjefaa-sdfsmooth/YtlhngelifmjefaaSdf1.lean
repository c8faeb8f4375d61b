/-
  What the program's Texel, Row and Make of layer 10 are to do to any world, as one premise; the document's examples (no claim is made here).
-/
import Derived.Test.YtlhngelifmjefaaSdf0
import Derived.Test.YtlhngelifmjefaaGrd4
namespace Go.Proofs.Ytlhngelifmjefaa
open Go.RowKit

/-- P10.1, P10.2. -/
structure SdfOK : Prop where
  texel : ∀ (ve : Value) (es : List Ed) (x y p s : Int) (u v i k : Nat) (w : World), ERd w ve es → es.length ≤ 200000 → (∀ s ∈ es, InD s) → checkG x y p u v s = 0 → i < u → k < v →
    Calls Try.prog 16 #[ve, .agg #[.int .i64 x, .int .i64 y, .int .i64 p, .int .i64 u, .int .i64 v, .int .i64 s], .int .i64 i, .int .i64 k] w fun e w' => e = .returned (.int .u8 (texN es s (midP x y p i k) : Nat)) ∧ Below w.heap.size w w'
  row : ∀ (ve : Value) (es : List Ed) (x y p s : Int) (u v k : Nat) (w : World), ERd w ve es → es.length ≤ 200000 → (∀ s ∈ es, InD s) → checkG x y p u v s = 0 → k < v →
    Calls Try.prog 17 #[ve, .agg #[.int .i64 x, .int .i64 y, .int .i64 p, .int .i64 u, .int .i64 v, .int .i64 s], .int .i64 k] w fun e w' => ∃ V, e = .returned V ∧ BRow w' w.heap.size V (rowN es x y p s u k) ∧ Below w.heap.size w w'
  make : ∀ (ve : Value) (es : List Ed) (x y p s : Int) (u v : Nat) (w : World), ERd w ve es → es.length ≤ 200000 → (∀ s ∈ es, InD s) → checkG x y p u v s = 0 →
    Calls Try.prog 12 #[ve, .agg #[.int .i64 x, .int .i64 y, .int .i64 p, .int .i64 u, .int .i64 v, .int .i64 s]] w fun e w' => ∃ V, e = .returned (.tuple #[.agg #[.int .i64 u, .int .i64 v, V], .int .i64 0]) ∧ BRow w' w.heap.size V (fldN es x y p s u (u * v)) ∧ Below w.heap.size w w'
  wrong : ∀ (ve : Value) (es : List Ed) (x y p u v s : Int) (w : World), ERd w ve es → checkG x y p u v s ≠ 0 →
    Calls Try.prog 12 #[ve, .agg #[.int .i64 x, .int .i64 y, .int .i64 p, .int .i64 u, .int .i64 v, .int .i64 s]] w fun e w' => e = .returned (.tuple #[.agg #[.int .i64 0, .int .i64 0, .slice none 0 0], .int .i64 (checkG x y p u v s)]) ∧ Below w.heap.size w w'

/-- The three edges of the document's example. -/
def triE : List Ed := [⟨⟨0, 0⟩, ⟨320, 0⟩⟩, ⟨⟨320, 0⟩, ⟨0, 320⟩⟩, ⟨⟨0, 320⟩, ⟨0, 0⟩⟩]
theorem tri_in : ∀ s ∈ triE, InD s := by unfold triE InD; simp
theorem tri_at0 : (fldN triE (-2) (-2) 2 8 4 16)[0]? = some (texN triE 8 (midP (-2) (-2) 2 0 0)) := fldN_at _ _ _ _ _ _ _ 0 (by decide)
theorem tri_at5 : (fldN triE (-2) (-2) 2 8 4 16)[5]? = some (texN triE 8 (midP (-2) (-2) 2 1 1)) := fldN_at _ _ _ _ _ _ _ 5 (by decide)
theorem tri_dec : texG triE 8 (midP (-2) (-2) 2 0 0) < 128 ∧ 128 < texG triE 8 (midP (-2) (-2) 2 1 1) := by decide
theorem tri_len : (fldN triE (-2) (-2) 2 8 4 16).length = 16 := fldN_length _ _ _ _ _ _ _

/-- A byte of a row that is ours. -/
theorem BRow.byte {w : World} {base n cap : Nat} {A : Option Addr} {bs : List Nat} (h : BRow w base (.slice A n cap) bs) (i : Nat) {b : Nat} (hb : bs[i]? = some b) : n = bs.length ∧ ∃ a, A = some a ∧ a.block < w.heap.size ∧ w.cell? (a.add i) = some (.int .u8 (b : Int)) := by
  obtain ⟨hi, hv⟩ := List.getElem?_eq_some_iff.1 hb
  rcases h.2 with ⟨e, h0⟩ | ⟨g, cp, cur, e, hg, hg2, hl, hm, _, _⟩
  · omega
  · simp only [Value.slice.injEq] at e
    obtain ⟨rfl, rfl, rfl⟩ := e
    refine ⟨rfl, _, rfl, (World.ownsRow.lt h g rfl).2, ?_⟩
    have k := World.ownsRow.cells h rfl i (.int .u8 (b : Int)) (by unfold bvals; rw [List.getElem?_map, hb]; rfl)
    exact k

set_option maxRecDepth 100000 in
set_option maxHeartbeats 1600000 in
theorem awake10 (H : SdfOK) (w : World) : Calls Try.prog 10 #[] w fun e w' => e = .returned (.bool true) ∧ Below w.heap.size w w' := by
  have HE1 : Hid (ERd (w.alloc (.cells #[.int .i64 0, .int .i64 0, .int .i64 320, .int .i64 0, .int .i64 320, .int .i64 0, .int .i64 0, .int .i64 320, .int .i64 0, .int .i64 320, .int .i64 0, .int .i64 0] 57)) (.slice (some ⟨w.heap.size, 0, none⟩) 3 3) triE) := Lib.hid (erd_blk (Blk.new _ 57 (ecells triE) rfl) rfl)
  have HB1 := Lib.hid ((Below.refl _ w).alloc (Nat.le_refl _) (.cells #[.int .i64 0, .int .i64 0, .int .i64 320, .int .i64 0, .int .i64 320, .int .i64 0, .int .i64 0, .int .i64 320, .int .i64 0, .int .i64 320, .int .i64 0, .int .i64 0] 57))
  have HM := Lib.hid (fun w v h => H.make v triE (-2) (-2) 2 8 4 4 w h (by decide) tri_in (by decide))
  have HW := Lib.hid (fun w v h => H.wrong v triE 0 0 0 0 0 0 w h (by decide))
  go_enter Try.func10, Try.ntmps10
  go_wp2_with fail
  refine (HM.out _ _ HE1.out).mono ?_
  rintro e w1 ⟨V, rfl, hV, hb⟩
  replace HE1 := Lib.hid (HE1.out.keep hb)
  have HB2 := Lib.hid (below2 HB1.out hb)
  clear HM HB1 hb
  have t0 := tri_at0
  have t5 := tri_at5
  obtain ⟨d0, d5⟩ := tri_dec
  rw [← texN_is _ _ _ (by decide)] at d0 d5
  obtain ⟨A, cap, rfl⟩ := hV.form
  rw [show (fldN triE (-2) (-2) 2 8 4 (4 * 4)).length = 16 from fldN_length _ _ _ _ _ _ _] at hV ⊢
  obtain ⟨-, a, rfl, ha, b0⟩ := hV.byte 0 t0
  obtain ⟨-, a', e', ha', b5⟩ := hV.byte 5 t5
  cases e'
  generalize texN triE 8 (midP (-2) (-2) 2 0 0) = X0 at *
  generalize texN triE 8 (midP (-2) (-2) 2 1 1) = X5 at *
  clear t0 t5 hV ha'
  go_wp2_with fail
  have hal : Below w1.heap.size w1 (w1.alloc (.cells #[.int .i64 4, .int .i64 4, .slice (some a) 16 cap] 30)) := (Below.refl _ _).alloc (Nat.le_refl _) _
  have HF := Lib.hid (Blk.new w1 30 [.int .i64 4, .int .i64 4, .slice (some a) 16 cap] rfl)
  replace HE1 := Lib.hid (HE1.out.keep hal)
  have HB3 := Lib.hid (below2 HB2.out hal)
  have c0 := Go.Proofs.Ytlhngelifmjefaa.keep hal b0
  have c5 := Go.Proofs.Ytlhngelifmjefaa.keep hal b5
  clear b0 b5 HB2 hal
  generalize w1.alloc (.cells #[.int .i64 4, .int .i64 4, .slice (some a) 16 cap] 30) = w2 at *
  generalize w1.heap.size = F at *
  refine (HW.out _ _ HE1.out).mono ?_
  rintro e w3 ⟨rfl, hb⟩
  have HF3 := Lib.hid ((HF.out.keep hb).alloc (.cells #[.int .i64 0, .int .i64 0, .slice none 0 0] 30))
  have hB4 := below2 HB3.out hb
  have HB4 := Lib.hid (hB4.alloc hB4.size (.cells #[.int .i64 0, .int .i64 0, .slice none 0 0] 30))
  have e0 := keepAlloc (.cells #[.int .i64 0, .int .i64 0, .slice none 0 0] 30) (Go.Proofs.Ytlhngelifmjefaa.keep hb c0)
  have e5 := keepAlloc (.cells #[.int .i64 0, .int .i64 0, .slice none 0 0] 30) (Go.Proofs.Ytlhngelifmjefaa.keep hb c5)
  have f0 := HF3.out.cell 0 rfl
  have f2 := HF3.out.cell 2 rfl
  have fl := (HF.out.keep hb).lt
  clear hb hB4 c0 c5 HF HB3 HE1 HW
  have hck : checkG 0 0 0 0 0 0 = 6 := by decide
  rw [hck]
  rw [show a.add 0 = a from rfl] at e0
  rw [show a.add 5 = ⟨a.block, a.off + 5, none⟩ from rfl] at e5
  go_wp2
  go_ret
  exact ⟨rfl, HB4.out⟩

end Go.Proofs.Ytlhngelifmjefaa
