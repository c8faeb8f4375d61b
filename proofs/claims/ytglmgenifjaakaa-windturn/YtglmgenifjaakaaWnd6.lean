/-
  What the law's Glyph makes, for layer 7's laws (no claim is made here).
-/
import Derived.Test.YtglmgenifjaakaaFlt12
import Derived.Test.YtglmgenifjaakaaFlt14
import Derived.Test.YtglmgenifjaakaaWnd4
import Derived.Test.YtglmgenifjaakaaWnd5
namespace Go.Proofs.Ytglmgenifjaakaa
open Go.RowKit

theorem leE_in {s : Ed} (h : leE s) : InD s := by
  unfold leE leP at h
  unfold InD
  omega
theorem glyph7 (A : Option Addr) (n cap : Nat) (cs : List (List Dot)) (w : World) (hcs : DotRows w A n cap cs) :
    Calls Try.prog 10 #[.slice A n cap] w fun e w' => ∃ u es, e = .returned u ∧ ERow w' w.heap.size u es ∧ es.length ≤ 100000 ∧ (∀ s ∈ es, InD s) ∧ (∃ ls : List (List Ed), es = ls.flatten ∧ (∀ l ∈ ls, ∃ q, Way q l q) ∧ ∀ e ∈ ls.flatten, leE e) ∧ Below w.heap.size w w' := by
  refine (glyph_more A n cap cs w hcs).mono ?_
  rintro e w' ⟨u, es, fo, rfl, h1, h2, h3, h4⟩
  obtain ⟨ls, g1, g2, g3⟩ := glyph_facts fo
  rw [g1] at h3
  exact ⟨u, es, rfl, h1, h2, fun s hs => leE_in (g3 s (h3 ▸ hs)), ⟨ls, h3, g2, g3⟩, h4⟩

/-- Two cells of a block, and Below: what a region with calls keeps. -/
theorem S2_call {w W W' : World} {k : Nat} {v0 v1 : Value} (hb : Below W.heap.size W W') (hh : W.cell? ⟨k, 0, none⟩ = some v0 ∧ W.cell? ⟨k, 1, none⟩ = some v1 ∧ Below w.heap.size w W) : W'.cell? ⟨k, 0, none⟩ = some v0 ∧ W'.cell? ⟨k, 1, none⟩ = some v1 ∧ Below w.heap.size w W' :=
  ⟨keep hb hh.1, keep hb hh.2.1, hh.2.2.trans (hb.mono hh.2.2.size)⟩
theorem S2_alloc {w W : World} {k : Nat} {v0 v1 : Value} (o : Obj) (hh : W.cell? ⟨k, 0, none⟩ = some v0 ∧ W.cell? ⟨k, 1, none⟩ = some v1 ∧ Below w.heap.size w W) : (W.alloc o).cell? ⟨k, 0, none⟩ = some v0 ∧ (W.alloc o).cell? ⟨k, 1, none⟩ = some v1 ∧ Below w.heap.size w (W.alloc o) := S2_call ((Below.refl _ W).alloc (Nat.le_refl _) o) hh
theorem S2_drew {w W : World} {k : Nat} {v0 v1 : Value} (hh : W.cell? ⟨k, 0, none⟩ = some v0 ∧ W.cell? ⟨k, 1, none⟩ = some v1 ∧ Below w.heap.size w W) : W.drew.cell? ⟨k, 0, none⟩ = some v0 ∧ W.drew.cell? ⟨k, 1, none⟩ = some v1 ∧ Below w.heap.size w W.drew := ⟨hh.1, hh.2.1, hh.2.2.drew⟩
theorem two_kept {W w' : World} {g : Nat} {t : TypeId} {a b : Value} (h : g = W.heap.size) (hb : Below (W.alloc (.cells #[a, b] t)).heap.size (W.alloc (.cells #[a, b] t)) w') : w'.cell? ⟨g, 0, none⟩ = some a ∧ w'.cell? ⟨g, 1, none⟩ = some b ∧ g < w'.heap.size := by
  have K := (Blk.new W t [a, b] h).keep hb
  exact ⟨K.cell 0 rfl, K.cell 1 rfl, K.lt⟩
theorem S2_of {w W : World} {k : Nat} {v0 v1 : Value} (h0 : w.cell? ⟨k, 0, none⟩ = some v0) (h1 : w.cell? ⟨k, 1, none⟩ = some v1) (hb : Below w.heap.size w W) : W.cell? ⟨k, 0, none⟩ = some v0 ∧ W.cell? ⟨k, 1, none⟩ = some v1 ∧ Below w.heap.size w W := ⟨keep hb h0, keep hb h1, hb⟩
theorem S2_below {w W : World} {k : Nat} {v0 v1 : Value} (hh : W.cell? ⟨k, 0, none⟩ = some v0 ∧ W.cell? ⟨k, 1, none⟩ = some v1 ∧ Below w.heap.size w W) : Below w.heap.size w W := hh.2.2
theorem S2_blk {w : World} {k : Nat} {t : TypeId} {v0 v1 : Value} (h : Blk w k t [v0, v1]) : w.cell? ⟨k, 0, none⟩ = some v0 ∧ w.cell? ⟨k, 1, none⟩ = some v1 ∧ Below w.heap.size w w := ⟨h.cell 0 rfl, h.cell 1 rfl, Below.refl _ _⟩

end Go.Proofs.Ytglmgenifjaakaa
