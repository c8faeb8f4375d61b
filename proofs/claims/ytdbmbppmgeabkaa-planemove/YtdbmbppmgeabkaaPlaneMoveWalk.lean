/-
  The walk of the law PlaneMove (no claim is made here: the row is PlaneMove).
-/
import Derived.Test.YtdbmbppmgeabkaaMove1
import Derived.OpenShut
namespace Go.Proofs.Ytdbmbppmgeabkaa
open Go.RowKit

theorem S8_call {w W W' : World} {k0 o0 k1 o1 k2 o2 k3 o3 k4 o4 k5 o5 k6 o6 k7 o7 : Nat} {v0 v1 v2 v3 v4 v5 v6 v7 : Value} (hb : Below W.heap.size W W') (hh : W.cell? ⟨k0, o0, none⟩ = some v0 ∧ W.cell? ⟨k1, o1, none⟩ = some v1 ∧ W.cell? ⟨k2, o2, none⟩ = some v2 ∧ W.cell? ⟨k3, o3, none⟩ = some v3 ∧ W.cell? ⟨k4, o4, none⟩ = some v4 ∧ W.cell? ⟨k5, o5, none⟩ = some v5 ∧ W.cell? ⟨k6, o6, none⟩ = some v6 ∧ W.cell? ⟨k7, o7, none⟩ = some v7 ∧ Below w.heap.size w W) :
    W'.cell? ⟨k0, o0, none⟩ = some v0 ∧ W'.cell? ⟨k1, o1, none⟩ = some v1 ∧ W'.cell? ⟨k2, o2, none⟩ = some v2 ∧ W'.cell? ⟨k3, o3, none⟩ = some v3 ∧ W'.cell? ⟨k4, o4, none⟩ = some v4 ∧ W'.cell? ⟨k5, o5, none⟩ = some v5 ∧ W'.cell? ⟨k6, o6, none⟩ = some v6 ∧ W'.cell? ⟨k7, o7, none⟩ = some v7 ∧ Below w.heap.size w W' :=
  ⟨keep hb hh.1, keep hb hh.2.1, keep hb hh.2.2.1, keep hb hh.2.2.2.1, keep hb hh.2.2.2.2.1, keep hb hh.2.2.2.2.2.1, keep hb hh.2.2.2.2.2.2.1, keep hb hh.2.2.2.2.2.2.2.1, below2 hh.2.2.2.2.2.2.2.2 hb⟩
theorem S8_alloc {w W : World} {k0 o0 k1 o1 k2 o2 k3 o3 k4 o4 k5 o5 k6 o6 k7 o7 : Nat} {v0 v1 v2 v3 v4 v5 v6 v7 : Value} (o : Obj) (hh : W.cell? ⟨k0, o0, none⟩ = some v0 ∧ W.cell? ⟨k1, o1, none⟩ = some v1 ∧ W.cell? ⟨k2, o2, none⟩ = some v2 ∧ W.cell? ⟨k3, o3, none⟩ = some v3 ∧ W.cell? ⟨k4, o4, none⟩ = some v4 ∧ W.cell? ⟨k5, o5, none⟩ = some v5 ∧ W.cell? ⟨k6, o6, none⟩ = some v6 ∧ W.cell? ⟨k7, o7, none⟩ = some v7 ∧ Below w.heap.size w W) :
    (W.alloc o).cell? ⟨k0, o0, none⟩ = some v0 ∧ (W.alloc o).cell? ⟨k1, o1, none⟩ = some v1 ∧ (W.alloc o).cell? ⟨k2, o2, none⟩ = some v2 ∧ (W.alloc o).cell? ⟨k3, o3, none⟩ = some v3 ∧ (W.alloc o).cell? ⟨k4, o4, none⟩ = some v4 ∧ (W.alloc o).cell? ⟨k5, o5, none⟩ = some v5 ∧ (W.alloc o).cell? ⟨k6, o6, none⟩ = some v6 ∧ (W.alloc o).cell? ⟨k7, o7, none⟩ = some v7 ∧ Below w.heap.size w (W.alloc o) :=
  S8_call ((Below.refl _ W).alloc (Nat.le_refl _) o) hh
theorem S8_drew {w W : World} {k0 o0 k1 o1 k2 o2 k3 o3 k4 o4 k5 o5 k6 o6 k7 o7 : Nat} {v0 v1 v2 v3 v4 v5 v6 v7 : Value} (hh : W.cell? ⟨k0, o0, none⟩ = some v0 ∧ W.cell? ⟨k1, o1, none⟩ = some v1 ∧ W.cell? ⟨k2, o2, none⟩ = some v2 ∧ W.cell? ⟨k3, o3, none⟩ = some v3 ∧ W.cell? ⟨k4, o4, none⟩ = some v4 ∧ W.cell? ⟨k5, o5, none⟩ = some v5 ∧ W.cell? ⟨k6, o6, none⟩ = some v6 ∧ W.cell? ⟨k7, o7, none⟩ = some v7 ∧ Below w.heap.size w W) :
    W.drew.cell? ⟨k0, o0, none⟩ = some v0 ∧ W.drew.cell? ⟨k1, o1, none⟩ = some v1 ∧ W.drew.cell? ⟨k2, o2, none⟩ = some v2 ∧ W.drew.cell? ⟨k3, o3, none⟩ = some v3 ∧ W.drew.cell? ⟨k4, o4, none⟩ = some v4 ∧ W.drew.cell? ⟨k5, o5, none⟩ = some v5 ∧ W.drew.cell? ⟨k6, o6, none⟩ = some v6 ∧ W.drew.cell? ⟨k7, o7, none⟩ = some v7 ∧ Below w.heap.size w W.drew :=
  ⟨hh.1, hh.2.1, hh.2.2.1, hh.2.2.2.1, hh.2.2.2.2.1, hh.2.2.2.2.2.1, hh.2.2.2.2.2.2.1, hh.2.2.2.2.2.2.2.1, hh.2.2.2.2.2.2.2.2.drew⟩
theorem S8_set2 {w W : World} {k0 o0 k1 o1 k2 o2 k3 o3 k4 o4 k5 o5 k6 o6 k7 o7 r b : Nat} {v0 v1 v2 v3 v4 v5 v6 v7 : Value} (s0 s1 : Value) (hw : w.heap.size ≤ b) (hk : k0 < b ∧ k1 < b ∧ k2 < b ∧ k3 < b ∧ k4 < b ∧ k5 < b ∧ k6 < b ∧ k7 < b) (hr : b ≤ r) (hh : W.cell? ⟨k0, o0, none⟩ = some v0 ∧ W.cell? ⟨k1, o1, none⟩ = some v1 ∧ W.cell? ⟨k2, o2, none⟩ = some v2 ∧ W.cell? ⟨k3, o3, none⟩ = some v3 ∧ W.cell? ⟨k4, o4, none⟩ = some v4 ∧ W.cell? ⟨k5, o5, none⟩ = some v5 ∧ W.cell? ⟨k6, o6, none⟩ = some v6 ∧ W.cell? ⟨k7, o7, none⟩ = some v7 ∧ Below w.heap.size w W) :
    ((W.setCell ⟨r, 0, none⟩ s0).setCell ⟨r, 1, none⟩ s1).cell? ⟨k0, o0, none⟩ = some v0 ∧ ((W.setCell ⟨r, 0, none⟩ s0).setCell ⟨r, 1, none⟩ s1).cell? ⟨k1, o1, none⟩ = some v1 ∧ ((W.setCell ⟨r, 0, none⟩ s0).setCell ⟨r, 1, none⟩ s1).cell? ⟨k2, o2, none⟩ = some v2 ∧ ((W.setCell ⟨r, 0, none⟩ s0).setCell ⟨r, 1, none⟩ s1).cell? ⟨k3, o3, none⟩ = some v3 ∧ ((W.setCell ⟨r, 0, none⟩ s0).setCell ⟨r, 1, none⟩ s1).cell? ⟨k4, o4, none⟩ = some v4 ∧ ((W.setCell ⟨r, 0, none⟩ s0).setCell ⟨r, 1, none⟩ s1).cell? ⟨k5, o5, none⟩ = some v5 ∧ ((W.setCell ⟨r, 0, none⟩ s0).setCell ⟨r, 1, none⟩ s1).cell? ⟨k6, o6, none⟩ = some v6 ∧ ((W.setCell ⟨r, 0, none⟩ s0).setCell ⟨r, 1, none⟩ s1).cell? ⟨k7, o7, none⟩ = some v7 ∧ Below w.heap.size w ((W.setCell ⟨r, 0, none⟩ s0).setCell ⟨r, 1, none⟩ s1) := by
  have o : ∀ (W : World) x i j, ¬ x = r → ∀ {v : Value}, (W.setCell ⟨r, i, none⟩ v).cell? ⟨x, j, none⟩ = W.cell? ⟨x, j, none⟩ := fun W x i j hx v => World.cell?_setCell_other _ _ _ _ (by intro h; simp only [Addr.mk.injEq] at h; omega)
  have hg : w.heap.size ≤ r := Nat.le_trans hw hr
  exact ⟨by rw [o _ _ _ _ (Nat.ne_of_lt (Nat.lt_of_lt_of_le (hk.1) hr)), o _ _ _ _ (Nat.ne_of_lt (Nat.lt_of_lt_of_le (hk.1) hr))]; exact hh.1, by rw [o _ _ _ _ (Nat.ne_of_lt (Nat.lt_of_lt_of_le (hk.2.1) hr)), o _ _ _ _ (Nat.ne_of_lt (Nat.lt_of_lt_of_le (hk.2.1) hr))]; exact hh.2.1, by rw [o _ _ _ _ (Nat.ne_of_lt (Nat.lt_of_lt_of_le (hk.2.2.1) hr)), o _ _ _ _ (Nat.ne_of_lt (Nat.lt_of_lt_of_le (hk.2.2.1) hr))]; exact hh.2.2.1, by rw [o _ _ _ _ (Nat.ne_of_lt (Nat.lt_of_lt_of_le (hk.2.2.2.1) hr)), o _ _ _ _ (Nat.ne_of_lt (Nat.lt_of_lt_of_le (hk.2.2.2.1) hr))]; exact hh.2.2.2.1, by rw [o _ _ _ _ (Nat.ne_of_lt (Nat.lt_of_lt_of_le (hk.2.2.2.2.1) hr)), o _ _ _ _ (Nat.ne_of_lt (Nat.lt_of_lt_of_le (hk.2.2.2.2.1) hr))]; exact hh.2.2.2.2.1, by rw [o _ _ _ _ (Nat.ne_of_lt (Nat.lt_of_lt_of_le (hk.2.2.2.2.2.1) hr)), o _ _ _ _ (Nat.ne_of_lt (Nat.lt_of_lt_of_le (hk.2.2.2.2.2.1) hr))]; exact hh.2.2.2.2.2.1, by rw [o _ _ _ _ (Nat.ne_of_lt (Nat.lt_of_lt_of_le (hk.2.2.2.2.2.2.1) hr)), o _ _ _ _ (Nat.ne_of_lt (Nat.lt_of_lt_of_le (hk.2.2.2.2.2.2.1) hr))]; exact hh.2.2.2.2.2.2.1, by rw [o _ _ _ _ (Nat.ne_of_lt (Nat.lt_of_lt_of_le (hk.2.2.2.2.2.2.2) hr)), o _ _ _ _ (Nat.ne_of_lt (Nat.lt_of_lt_of_le (hk.2.2.2.2.2.2.2) hr))]; exact hh.2.2.2.2.2.2.2.1, ((hh.2.2.2.2.2.2.2.2.setCell hg _).setCell hg _)⟩
theorem S8_set4 {w W : World} {k0 o0 k1 o1 k2 o2 k3 o3 k4 o4 k5 o5 k6 o6 k7 o7 r b : Nat} {v0 v1 v2 v3 v4 v5 v6 v7 : Value} (s0 s1 s2 s3 : Value) (hw : w.heap.size ≤ b) (hk : k0 < b ∧ k1 < b ∧ k2 < b ∧ k3 < b ∧ k4 < b ∧ k5 < b ∧ k6 < b ∧ k7 < b) (hr : b ≤ r) (hh : W.cell? ⟨k0, o0, none⟩ = some v0 ∧ W.cell? ⟨k1, o1, none⟩ = some v1 ∧ W.cell? ⟨k2, o2, none⟩ = some v2 ∧ W.cell? ⟨k3, o3, none⟩ = some v3 ∧ W.cell? ⟨k4, o4, none⟩ = some v4 ∧ W.cell? ⟨k5, o5, none⟩ = some v5 ∧ W.cell? ⟨k6, o6, none⟩ = some v6 ∧ W.cell? ⟨k7, o7, none⟩ = some v7 ∧ Below w.heap.size w W) :
    ((((W.setCell ⟨r, 0, none⟩ s0).setCell ⟨r, 1, none⟩ s1).setCell ⟨r, 2, none⟩ s2).setCell ⟨r, 3, none⟩ s3).cell? ⟨k0, o0, none⟩ = some v0 ∧ ((((W.setCell ⟨r, 0, none⟩ s0).setCell ⟨r, 1, none⟩ s1).setCell ⟨r, 2, none⟩ s2).setCell ⟨r, 3, none⟩ s3).cell? ⟨k1, o1, none⟩ = some v1 ∧ ((((W.setCell ⟨r, 0, none⟩ s0).setCell ⟨r, 1, none⟩ s1).setCell ⟨r, 2, none⟩ s2).setCell ⟨r, 3, none⟩ s3).cell? ⟨k2, o2, none⟩ = some v2 ∧ ((((W.setCell ⟨r, 0, none⟩ s0).setCell ⟨r, 1, none⟩ s1).setCell ⟨r, 2, none⟩ s2).setCell ⟨r, 3, none⟩ s3).cell? ⟨k3, o3, none⟩ = some v3 ∧ ((((W.setCell ⟨r, 0, none⟩ s0).setCell ⟨r, 1, none⟩ s1).setCell ⟨r, 2, none⟩ s2).setCell ⟨r, 3, none⟩ s3).cell? ⟨k4, o4, none⟩ = some v4 ∧ ((((W.setCell ⟨r, 0, none⟩ s0).setCell ⟨r, 1, none⟩ s1).setCell ⟨r, 2, none⟩ s2).setCell ⟨r, 3, none⟩ s3).cell? ⟨k5, o5, none⟩ = some v5 ∧ ((((W.setCell ⟨r, 0, none⟩ s0).setCell ⟨r, 1, none⟩ s1).setCell ⟨r, 2, none⟩ s2).setCell ⟨r, 3, none⟩ s3).cell? ⟨k6, o6, none⟩ = some v6 ∧ ((((W.setCell ⟨r, 0, none⟩ s0).setCell ⟨r, 1, none⟩ s1).setCell ⟨r, 2, none⟩ s2).setCell ⟨r, 3, none⟩ s3).cell? ⟨k7, o7, none⟩ = some v7 ∧ Below w.heap.size w ((((W.setCell ⟨r, 0, none⟩ s0).setCell ⟨r, 1, none⟩ s1).setCell ⟨r, 2, none⟩ s2).setCell ⟨r, 3, none⟩ s3) := by
  have o : ∀ (W : World) x i j, ¬ x = r → ∀ {v : Value}, (W.setCell ⟨r, i, none⟩ v).cell? ⟨x, j, none⟩ = W.cell? ⟨x, j, none⟩ := fun W x i j hx v => World.cell?_setCell_other _ _ _ _ (by intro h; simp only [Addr.mk.injEq] at h; omega)
  have hg : w.heap.size ≤ r := Nat.le_trans hw hr
  exact ⟨by rw [o _ _ _ _ (Nat.ne_of_lt (Nat.lt_of_lt_of_le (hk.1) hr)), o _ _ _ _ (Nat.ne_of_lt (Nat.lt_of_lt_of_le (hk.1) hr)), o _ _ _ _ (Nat.ne_of_lt (Nat.lt_of_lt_of_le (hk.1) hr)), o _ _ _ _ (Nat.ne_of_lt (Nat.lt_of_lt_of_le (hk.1) hr))]; exact hh.1, by rw [o _ _ _ _ (Nat.ne_of_lt (Nat.lt_of_lt_of_le (hk.2.1) hr)), o _ _ _ _ (Nat.ne_of_lt (Nat.lt_of_lt_of_le (hk.2.1) hr)), o _ _ _ _ (Nat.ne_of_lt (Nat.lt_of_lt_of_le (hk.2.1) hr)), o _ _ _ _ (Nat.ne_of_lt (Nat.lt_of_lt_of_le (hk.2.1) hr))]; exact hh.2.1, by rw [o _ _ _ _ (Nat.ne_of_lt (Nat.lt_of_lt_of_le (hk.2.2.1) hr)), o _ _ _ _ (Nat.ne_of_lt (Nat.lt_of_lt_of_le (hk.2.2.1) hr)), o _ _ _ _ (Nat.ne_of_lt (Nat.lt_of_lt_of_le (hk.2.2.1) hr)), o _ _ _ _ (Nat.ne_of_lt (Nat.lt_of_lt_of_le (hk.2.2.1) hr))]; exact hh.2.2.1, by rw [o _ _ _ _ (Nat.ne_of_lt (Nat.lt_of_lt_of_le (hk.2.2.2.1) hr)), o _ _ _ _ (Nat.ne_of_lt (Nat.lt_of_lt_of_le (hk.2.2.2.1) hr)), o _ _ _ _ (Nat.ne_of_lt (Nat.lt_of_lt_of_le (hk.2.2.2.1) hr)), o _ _ _ _ (Nat.ne_of_lt (Nat.lt_of_lt_of_le (hk.2.2.2.1) hr))]; exact hh.2.2.2.1, by rw [o _ _ _ _ (Nat.ne_of_lt (Nat.lt_of_lt_of_le (hk.2.2.2.2.1) hr)), o _ _ _ _ (Nat.ne_of_lt (Nat.lt_of_lt_of_le (hk.2.2.2.2.1) hr)), o _ _ _ _ (Nat.ne_of_lt (Nat.lt_of_lt_of_le (hk.2.2.2.2.1) hr)), o _ _ _ _ (Nat.ne_of_lt (Nat.lt_of_lt_of_le (hk.2.2.2.2.1) hr))]; exact hh.2.2.2.2.1, by rw [o _ _ _ _ (Nat.ne_of_lt (Nat.lt_of_lt_of_le (hk.2.2.2.2.2.1) hr)), o _ _ _ _ (Nat.ne_of_lt (Nat.lt_of_lt_of_le (hk.2.2.2.2.2.1) hr)), o _ _ _ _ (Nat.ne_of_lt (Nat.lt_of_lt_of_le (hk.2.2.2.2.2.1) hr)), o _ _ _ _ (Nat.ne_of_lt (Nat.lt_of_lt_of_le (hk.2.2.2.2.2.1) hr))]; exact hh.2.2.2.2.2.1, by rw [o _ _ _ _ (Nat.ne_of_lt (Nat.lt_of_lt_of_le (hk.2.2.2.2.2.2.1) hr)), o _ _ _ _ (Nat.ne_of_lt (Nat.lt_of_lt_of_le (hk.2.2.2.2.2.2.1) hr)), o _ _ _ _ (Nat.ne_of_lt (Nat.lt_of_lt_of_le (hk.2.2.2.2.2.2.1) hr)), o _ _ _ _ (Nat.ne_of_lt (Nat.lt_of_lt_of_le (hk.2.2.2.2.2.2.1) hr))]; exact hh.2.2.2.2.2.2.1, by rw [o _ _ _ _ (Nat.ne_of_lt (Nat.lt_of_lt_of_le (hk.2.2.2.2.2.2.2) hr)), o _ _ _ _ (Nat.ne_of_lt (Nat.lt_of_lt_of_le (hk.2.2.2.2.2.2.2) hr)), o _ _ _ _ (Nat.ne_of_lt (Nat.lt_of_lt_of_le (hk.2.2.2.2.2.2.2) hr)), o _ _ _ _ (Nat.ne_of_lt (Nat.lt_of_lt_of_le (hk.2.2.2.2.2.2.2) hr))]; exact hh.2.2.2.2.2.2.2.1, ((((hh.2.2.2.2.2.2.2.2.setCell hg _).setCell hg _).setCell hg _).setCell hg _)⟩
theorem S12_call {w W W' : World} {k0 o0 k1 o1 k2 o2 k3 o3 k4 o4 k5 o5 k6 o6 k7 o7 k8 o8 k9 o9 k10 o10 k11 o11 : Nat} {v0 v1 v2 v3 v4 v5 v6 v7 v8 v9 v10 v11 : Value} (hb : Below W.heap.size W W') (hh : W.cell? ⟨k0, o0, none⟩ = some v0 ∧ W.cell? ⟨k1, o1, none⟩ = some v1 ∧ W.cell? ⟨k2, o2, none⟩ = some v2 ∧ W.cell? ⟨k3, o3, none⟩ = some v3 ∧ W.cell? ⟨k4, o4, none⟩ = some v4 ∧ W.cell? ⟨k5, o5, none⟩ = some v5 ∧ W.cell? ⟨k6, o6, none⟩ = some v6 ∧ W.cell? ⟨k7, o7, none⟩ = some v7 ∧ W.cell? ⟨k8, o8, none⟩ = some v8 ∧ W.cell? ⟨k9, o9, none⟩ = some v9 ∧ W.cell? ⟨k10, o10, none⟩ = some v10 ∧ W.cell? ⟨k11, o11, none⟩ = some v11 ∧ Below w.heap.size w W) :
    W'.cell? ⟨k0, o0, none⟩ = some v0 ∧ W'.cell? ⟨k1, o1, none⟩ = some v1 ∧ W'.cell? ⟨k2, o2, none⟩ = some v2 ∧ W'.cell? ⟨k3, o3, none⟩ = some v3 ∧ W'.cell? ⟨k4, o4, none⟩ = some v4 ∧ W'.cell? ⟨k5, o5, none⟩ = some v5 ∧ W'.cell? ⟨k6, o6, none⟩ = some v6 ∧ W'.cell? ⟨k7, o7, none⟩ = some v7 ∧ W'.cell? ⟨k8, o8, none⟩ = some v8 ∧ W'.cell? ⟨k9, o9, none⟩ = some v9 ∧ W'.cell? ⟨k10, o10, none⟩ = some v10 ∧ W'.cell? ⟨k11, o11, none⟩ = some v11 ∧ Below w.heap.size w W' :=
  ⟨keep hb hh.1, keep hb hh.2.1, keep hb hh.2.2.1, keep hb hh.2.2.2.1, keep hb hh.2.2.2.2.1, keep hb hh.2.2.2.2.2.1, keep hb hh.2.2.2.2.2.2.1, keep hb hh.2.2.2.2.2.2.2.1, keep hb hh.2.2.2.2.2.2.2.2.1, keep hb hh.2.2.2.2.2.2.2.2.2.1, keep hb hh.2.2.2.2.2.2.2.2.2.2.1, keep hb hh.2.2.2.2.2.2.2.2.2.2.2.1, below2 hh.2.2.2.2.2.2.2.2.2.2.2.2 hb⟩
theorem S12_alloc {w W : World} {k0 o0 k1 o1 k2 o2 k3 o3 k4 o4 k5 o5 k6 o6 k7 o7 k8 o8 k9 o9 k10 o10 k11 o11 : Nat} {v0 v1 v2 v3 v4 v5 v6 v7 v8 v9 v10 v11 : Value} (o : Obj) (hh : W.cell? ⟨k0, o0, none⟩ = some v0 ∧ W.cell? ⟨k1, o1, none⟩ = some v1 ∧ W.cell? ⟨k2, o2, none⟩ = some v2 ∧ W.cell? ⟨k3, o3, none⟩ = some v3 ∧ W.cell? ⟨k4, o4, none⟩ = some v4 ∧ W.cell? ⟨k5, o5, none⟩ = some v5 ∧ W.cell? ⟨k6, o6, none⟩ = some v6 ∧ W.cell? ⟨k7, o7, none⟩ = some v7 ∧ W.cell? ⟨k8, o8, none⟩ = some v8 ∧ W.cell? ⟨k9, o9, none⟩ = some v9 ∧ W.cell? ⟨k10, o10, none⟩ = some v10 ∧ W.cell? ⟨k11, o11, none⟩ = some v11 ∧ Below w.heap.size w W) :
    (W.alloc o).cell? ⟨k0, o0, none⟩ = some v0 ∧ (W.alloc o).cell? ⟨k1, o1, none⟩ = some v1 ∧ (W.alloc o).cell? ⟨k2, o2, none⟩ = some v2 ∧ (W.alloc o).cell? ⟨k3, o3, none⟩ = some v3 ∧ (W.alloc o).cell? ⟨k4, o4, none⟩ = some v4 ∧ (W.alloc o).cell? ⟨k5, o5, none⟩ = some v5 ∧ (W.alloc o).cell? ⟨k6, o6, none⟩ = some v6 ∧ (W.alloc o).cell? ⟨k7, o7, none⟩ = some v7 ∧ (W.alloc o).cell? ⟨k8, o8, none⟩ = some v8 ∧ (W.alloc o).cell? ⟨k9, o9, none⟩ = some v9 ∧ (W.alloc o).cell? ⟨k10, o10, none⟩ = some v10 ∧ (W.alloc o).cell? ⟨k11, o11, none⟩ = some v11 ∧ Below w.heap.size w (W.alloc o) :=
  S12_call ((Below.refl _ W).alloc (Nat.le_refl _) o) hh
theorem S12_drew {w W : World} {k0 o0 k1 o1 k2 o2 k3 o3 k4 o4 k5 o5 k6 o6 k7 o7 k8 o8 k9 o9 k10 o10 k11 o11 : Nat} {v0 v1 v2 v3 v4 v5 v6 v7 v8 v9 v10 v11 : Value} (hh : W.cell? ⟨k0, o0, none⟩ = some v0 ∧ W.cell? ⟨k1, o1, none⟩ = some v1 ∧ W.cell? ⟨k2, o2, none⟩ = some v2 ∧ W.cell? ⟨k3, o3, none⟩ = some v3 ∧ W.cell? ⟨k4, o4, none⟩ = some v4 ∧ W.cell? ⟨k5, o5, none⟩ = some v5 ∧ W.cell? ⟨k6, o6, none⟩ = some v6 ∧ W.cell? ⟨k7, o7, none⟩ = some v7 ∧ W.cell? ⟨k8, o8, none⟩ = some v8 ∧ W.cell? ⟨k9, o9, none⟩ = some v9 ∧ W.cell? ⟨k10, o10, none⟩ = some v10 ∧ W.cell? ⟨k11, o11, none⟩ = some v11 ∧ Below w.heap.size w W) :
    W.drew.cell? ⟨k0, o0, none⟩ = some v0 ∧ W.drew.cell? ⟨k1, o1, none⟩ = some v1 ∧ W.drew.cell? ⟨k2, o2, none⟩ = some v2 ∧ W.drew.cell? ⟨k3, o3, none⟩ = some v3 ∧ W.drew.cell? ⟨k4, o4, none⟩ = some v4 ∧ W.drew.cell? ⟨k5, o5, none⟩ = some v5 ∧ W.drew.cell? ⟨k6, o6, none⟩ = some v6 ∧ W.drew.cell? ⟨k7, o7, none⟩ = some v7 ∧ W.drew.cell? ⟨k8, o8, none⟩ = some v8 ∧ W.drew.cell? ⟨k9, o9, none⟩ = some v9 ∧ W.drew.cell? ⟨k10, o10, none⟩ = some v10 ∧ W.drew.cell? ⟨k11, o11, none⟩ = some v11 ∧ Below w.heap.size w W.drew :=
  ⟨hh.1, hh.2.1, hh.2.2.1, hh.2.2.2.1, hh.2.2.2.2.1, hh.2.2.2.2.2.1, hh.2.2.2.2.2.2.1, hh.2.2.2.2.2.2.2.1, hh.2.2.2.2.2.2.2.2.1, hh.2.2.2.2.2.2.2.2.2.1, hh.2.2.2.2.2.2.2.2.2.2.1, hh.2.2.2.2.2.2.2.2.2.2.2.1, hh.2.2.2.2.2.2.2.2.2.2.2.2.drew⟩
theorem lat_intro {P : Program} {md : Region.Mode} {ops : Array Oper} {Q : Exit → Act → World → Prop} {S : World → Prop} {fuel : Nat} {listed : Array Bool} {a : Act} {w : World}
    (h : ∀ (G : Nat → Array Bool → Act → World → Prop) (A : Act), A = a → Hid (∀ f l b v, G f l b v ↔ wpAnyH P md ops Q S f l b v) → G fuel listed A w) : wpAnyH P md ops Q S fuel listed a w :=
  h (wpAnyH P md ops Q S) a rfl (Lib.hid fun _ _ _ _ => Iff.rfl)
theorem one_new {W : World} {g : Nat} {v : Value} {t : TypeId} (h : g = W.heap.size) : (W.alloc (.cells #[v] t)).cell? ⟨g, 0, none⟩ = some v := by subst h; simp
/-- Four cells of a block, and how they come to be. -/
theorem qmk {W : World} {g : Nat} {u v x y : Value} (h0 : W.cell? ⟨g, 0, none⟩ = some u) (h1 : W.cell? ⟨g, 1, none⟩ = some v) (h2 : W.cell? ⟨g, 2, none⟩ = some x) (h3 : W.cell? ⟨g, 3, none⟩ = some y) : Four W g u v x y := ⟨h0, h1, h2, h3⟩
theorem qset {W : World} {g : Nat} {u v x y : Value} (s0 s1 s2 s3 : Value) (h : Four W g u v x y) : Four ((((W.setCell ⟨g, 0, none⟩ s0).setCell ⟨g, 1, none⟩ s1).setCell ⟨g, 2, none⟩ s2).setCell ⟨g, 3, none⟩ s3) g s0 s1 s2 s3 := by
  obtain ⟨h0, h1, h2, h3⟩ := h
  have o : ∀ (W : World) (i j : Nat) (s : Value), i ≠ j → (W.setCell ⟨g, i, none⟩ s).cell? ⟨g, j, none⟩ = W.cell? ⟨g, j, none⟩ := fun W i j s hij => World.cell?_setCell_other _ _ _ _ (by intro h; simp only [Addr.mk.injEq] at h; omega)
  refine ⟨?_, ?_, ?_, ?_⟩
  · rw [o _ 3 0 _ (by omega), o _ 2 0 _ (by omega), o _ 1 0 _ (by omega)]; exact World.cell?_setCell_same _ _ _ h0
  · rw [o _ 3 1 _ (by omega), o _ 2 1 _ (by omega)]; exact World.cell?_setCell_same _ _ _ (by rw [o _ 0 1 _ (by omega)]; exact h1)
  · rw [o _ 3 2 _ (by omega)]; exact World.cell?_setCell_same _ _ _ (by rw [o _ 1 2 _ (by omega), o _ 0 2 _ (by omega)]; exact h2)
  · exact World.cell?_setCell_same _ _ _ (by rw [o _ 2 3 _ (by omega), o _ 1 3 _ (by omega), o _ 0 3 _ (by omega)]; exact h3)
theorem qover2 {W : World} {g k : Nat} {u v x y : Value} (s0 s1 : Value) (hk : ¬ g = k) (h : Four W g u v x y) : Four ((W.setCell ⟨k, 0, none⟩ s0).setCell ⟨k, 1, none⟩ s1) g u v x y := by
  have o : ∀ (W : World) (i j : Nat) (s : Value), (W.setCell ⟨k, i, none⟩ s).cell? ⟨g, j, none⟩ = W.cell? ⟨g, j, none⟩ := fun W i j s => World.cell?_setCell_other _ _ _ _ (by intro h; simp only [Addr.mk.injEq] at h; omega)
  exact ⟨by rw [o, o]; exact h.1, by rw [o, o]; exact h.2.1, by rw [o, o]; exact h.2.2.1, by rw [o, o]; exact h.2.2.2⟩
theorem qover4 {W : World} {g k : Nat} {u v x y : Value} (s0 s1 s2 s3 : Value) (hk : ¬ g = k) (h : Four W g u v x y) : Four ((((W.setCell ⟨k, 0, none⟩ s0).setCell ⟨k, 1, none⟩ s1).setCell ⟨k, 2, none⟩ s2).setCell ⟨k, 3, none⟩ s3) g u v x y := by
  have o : ∀ (W : World) (i j : Nat) (s : Value), (W.setCell ⟨k, i, none⟩ s).cell? ⟨g, j, none⟩ = W.cell? ⟨g, j, none⟩ := fun W i j s => World.cell?_setCell_other _ _ _ _ (by intro h; simp only [Addr.mk.injEq] at h; omega)
  exact ⟨by rw [o, o, o, o]; exact h.1, by rw [o, o, o, o]; exact h.2.1, by rw [o, o, o, o]; exact h.2.2.1, by rw [o, o, o, o]; exact h.2.2.2⟩
theorem pover4 {W : World} {g k : Nat} {u v : Value} (s0 s1 s2 s3 : Value) (hk : ¬ g = k) (h : Pair2 W g u v) : Pair2 ((((W.setCell ⟨k, 0, none⟩ s0).setCell ⟨k, 1, none⟩ s1).setCell ⟨k, 2, none⟩ s2).setCell ⟨k, 3, none⟩ s3) g u v := by
  have o : ∀ (W : World) (i j : Nat) (s : Value), (W.setCell ⟨k, i, none⟩ s).cell? ⟨g, j, none⟩ = W.cell? ⟨g, j, none⟩ := fun W i j s => World.cell?_setCell_other _ _ _ _ (by intro h; simp only [Addr.mk.injEq] at h; omega)
  exact ⟨by rw [o, o, o, o]; exact h.1, by rw [o, o, o, o]; exact h.2⟩


set_option linter.unusedSimpArgs false in
set_option maxHeartbeats 8000000 in
set_option maxRecDepth 100000 in
theorem planeMove_core (a0 a1 b0 b1 p0 p1 dx dy x0 x1 y0 y1 f0 f1 f2 f3 h0 h1 h2 h3 m0 m1 n0 n1 n d l m r : Int) (w : World)
    (HE : Hid (∀ w, Calls Try.prog 9 #[.agg #[.int .i16 a0, .int .i16 a1], .agg #[.int .i16 b0, .int .i16 b1]] w fun e w' => e = .returned (.agg #[.int .i64 x0, .int .i64 x1, .int .i64 y0, .int .i64 y1]) ∧ Below w.heap.size w w'))
    (HP : Hid (∀ w, Calls Try.prog 10 #[.agg #[.int .i16 p0, .int .i16 p1]] w fun e w' => e = .returned (.agg #[.int .i64 p0, .int .i64 p1]) ∧ Below w.heap.size w w'))
    (HMA : ∀ gx gy : Nat, Hid (∀ w : World, w.cell? ⟨gx, 0, none⟩ = some (.int .i8 dx) → w.cell? ⟨gy, 0, none⟩ = some (.int .i8 dy) → Calls Try.prog 13 #[.agg #[.int .i64 x0, .int .i64 x1], .pointer (some ⟨gx, 0, none⟩), .pointer (some ⟨gy, 0, none⟩)] w fun e w' => e = .returned (.agg #[.int .i64 f0, .int .i64 f1]) ∧ Below w.heap.size w w'))
    (HMB : ∀ gx gy : Nat, Hid (∀ w : World, w.cell? ⟨gx, 0, none⟩ = some (.int .i8 dx) → w.cell? ⟨gy, 0, none⟩ = some (.int .i8 dy) → Calls Try.prog 13 #[.agg #[.int .i64 y0, .int .i64 y1], .pointer (some ⟨gx, 0, none⟩), .pointer (some ⟨gy, 0, none⟩)] w fun e w' => e = .returned (.agg #[.int .i64 f2, .int .i64 f3]) ∧ Below w.heap.size w w'))
    (HMP : ∀ gx gy : Nat, Hid (∀ w : World, w.cell? ⟨gx, 0, none⟩ = some (.int .i8 dx) → w.cell? ⟨gy, 0, none⟩ = some (.int .i8 dy) → Calls Try.prog 13 #[.agg #[.int .i64 p0, .int .i64 p1], .pointer (some ⟨gx, 0, none⟩), .pointer (some ⟨gy, 0, none⟩)] w fun e w' => e = .returned (.agg #[.int .i64 m0, .int .i64 m1]) ∧ Below w.heap.size w w'))
    (HNA : Hid (∀ w, Calls Try.prog 14 #[.agg #[.int .i64 x0, .int .i64 x1]] w fun e w' => e = .returned (.agg #[.int .i64 h0, .int .i64 h1]) ∧ Below w.heap.size w w'))
    (HNB : Hid (∀ w, Calls Try.prog 14 #[.agg #[.int .i64 y0, .int .i64 y1]] w fun e w' => e = .returned (.agg #[.int .i64 h2, .int .i64 h3]) ∧ Below w.heap.size w w'))
    (HNP : Hid (∀ w, Calls Try.prog 14 #[.agg #[.int .i64 p0, .int .i64 p1]] w fun e w' => e = .returned (.agg #[.int .i64 n0, .int .i64 n1]) ∧ Below w.heap.size w w'))
    (HQf : Hid (∀ w, Calls Try.prog 8 #[.agg #[.int .i64 f0, .int .i64 f1, .int .i64 f2, .int .i64 f3], .agg #[.int .i64 m0, .int .i64 m1]] w fun e w' => e = .returned (.agg #[.int .i64 n, .int .i64 d]) ∧ Below w.heap.size w w'))
    (HQg : Hid (∀ w, Calls Try.prog 8 #[.agg #[.int .i64 h0, .int .i64 h1, .int .i64 h2, .int .i64 h3], .agg #[.int .i64 n0, .int .i64 n1]] w fun e w' => e = .returned (.agg #[.int .i64 n, .int .i64 d]) ∧ Below w.heap.size w w'))
    (HLf : Hid (∀ w, Calls Try.prog 15 #[.agg #[.int .i64 f0, .int .i64 f1, .int .i64 f2, .int .i64 f3], .agg #[.int .i64 m0, .int .i64 m1]] w fun e w' => e = .returned (.agg #[.int .i64 l, .int .i64 m]) ∧ Below w.heap.size w w'))
    (HLg : Hid (∀ w, Calls Try.prog 15 #[.agg #[.int .i64 h0, .int .i64 h1, .int .i64 h2, .int .i64 h3], .agg #[.int .i64 n0, .int .i64 n1]] w fun e w' => e = .returned (.agg #[.int .i64 l, .int .i64 m]) ∧ Below w.heap.size w w'))
    (HSf : Hid (∀ w, Calls Try.prog 16 #[.agg #[.int .i64 f0, .int .i64 f1, .int .i64 f2, .int .i64 f3], .agg #[.int .i64 m0, .int .i64 m1]] w fun e w' => e = .returned (.int .i64 r) ∧ Below w.heap.size w w'))
    (HSg : Hid (∀ w, Calls Try.prog 16 #[.agg #[.int .i64 h0, .int .i64 h1, .int .i64 h2, .int .i64 h3], .agg #[.int .i64 n0, .int .i64 n1]] w fun e w' => e = .returned (.int .i64 r) ∧ Below w.heap.size w w')) :
    Calls Try.prog 5 #[.agg #[.int .i16 a0, .int .i16 a1], .agg #[.int .i16 b0, .int .i16 b1], .agg #[.int .i16 p0, .int .i16 p1], .int .i8 dx, .int .i8 dy] w fun e w' => e = .returned (.bool true) ∧ Below w.heap.size w w' := by
  go_enter Try.func5, Try.ntmps5
  go_wp2_with fail
  refine (awake_any _).mono ?_
  rintro e w1 ⟨rfl, hb1⟩
  have TA : Two w1 w.heap.size _ _ := (((((Two.new _ _ _ rfl).alloc _).alloc _).alloc _).alloc _).keep hb1
  have TB : Two w1 (w.heap.size + 1) _ _ := ((((Two.new _ _ _ (by simp)).alloc _).alloc _).alloc _).keep hb1
  have TP : Two w1 (w.heap.size + 1 + 1) _ _ := (((Two.new _ _ _ (by simp)).alloc _).alloc _).keep hb1
  have XC : w1.cell? ⟨w.heap.size + 1 + 1 + 1, 0, none⟩ = some (.int .i8 dx) := keep hb1 (keepAlloc _ (one_new (by simp)))
  have YC : w1.cell? ⟨w.heap.size + 1 + 1 + 1 + 1, 0, none⟩ = some (.int .i8 dy) := keep hb1 (one_new (by simp))
  have B1 := below2 (below2 (alloc3 w _ _ _) (alloc2 _ _ _)) hb1
  clear hb1
  go_upto_region 5 with fail
  generalize w.heap.size + 1 + 1 + 1 + 1 = gy at *
  generalize w.heap.size + 1 + 1 + 1 = gx at *
  generalize w.heap.size + 1 + 1 = gp at *
  generalize w.heap.size + 1 = gb at *
  generalize hga : w.heap.size = ga at TA ⊢
  have zA := TA.lt
  have zB := TB.lt
  have zP := TP.lt
  have zX := World.block_lt_of_cell? w1 _ XC
  have zY := World.block_lt_of_cell? w1 _ YC
  have hD : w1.cell? ⟨ga, 0, none⟩ = some (.int .i16 a0) ∧ w1.cell? ⟨ga, 1, none⟩ = some (.int .i16 a1) ∧ w1.cell? ⟨gb, 0, none⟩ = some (.int .i16 b0) ∧ w1.cell? ⟨gb, 1, none⟩ = some (.int .i16 b1) ∧ w1.cell? ⟨gp, 0, none⟩ = some (.int .i16 p0) ∧ w1.cell? ⟨gp, 1, none⟩ = some (.int .i16 p1) ∧ w1.cell? ⟨gx, 0, none⟩ = some (.int .i8 dx) ∧ w1.cell? ⟨gy, 0, none⟩ = some (.int .i8 dy) ∧ Below w.heap.size w w1 := ⟨TA.1, TA.2.1, TB.1, TB.2.1, TP.1, TP.2.1, XC, YC, B1⟩
  obtain ⟨ws, rfl⟩ : ∃ ws, ws = w1 := ⟨_, rfl⟩
  have hw : w.heap.size ≤ ws.heap.size := B1.size
  have hKb : ga < ws.heap.size ∧ ga < ws.heap.size ∧ gb < ws.heap.size ∧ gb < ws.heap.size ∧ gp < ws.heap.size ∧ gp < ws.heap.size ∧ gx < ws.heap.size ∧ gy < ws.heap.size := ⟨zA, zA, zB, zB, zP, zP, zX, zY⟩
  clear zA zB zP zX zY
  clear TA TB TP B1 XC YC
  go_cut [13, 14] (fun s13 s14 wx => ∃ ge gq : Nat, s13 = .pointer (some ⟨ge, 0, none⟩) ∧ s14 = .pointer (some ⟨gq, 0, none⟩) ∧ Four wx ge (.int .i64 x0) (.int .i64 x1) (.int .i64 y0) (.int .i64 y1) ∧ Pair2 wx gq (.int .i64 p0) (.int .i64 p1) ∧ (wx.cell? ⟨ga, 0, none⟩ = some (.int .i16 a0) ∧ wx.cell? ⟨ga, 1, none⟩ = some (.int .i16 a1) ∧ wx.cell? ⟨gb, 0, none⟩ = some (.int .i16 b0) ∧ wx.cell? ⟨gb, 1, none⟩ = some (.int .i16 b1) ∧ wx.cell? ⟨gp, 0, none⟩ = some (.int .i16 p0) ∧ wx.cell? ⟨gp, 1, none⟩ = some (.int .i16 p1) ∧ wx.cell? ⟨gx, 0, none⟩ = some (.int .i8 dx) ∧ wx.cell? ⟨gy, 0, none⟩ = some (.int .i8 dy) ∧ Below w.heap.size w wx))
  case first =>
    go_region_held3 (fun wx => wx.cell? ⟨ga, 0, none⟩ = some (.int .i16 a0) ∧ wx.cell? ⟨ga, 1, none⟩ = some (.int .i16 a1) ∧ wx.cell? ⟨gb, 0, none⟩ = some (.int .i16 b0) ∧ wx.cell? ⟨gb, 1, none⟩ = some (.int .i16 b1) ∧ wx.cell? ⟨gp, 0, none⟩ = some (.int .i16 p0) ∧ wx.cell? ⟨gp, 1, none⟩ = some (.int .i16 p1) ∧ wx.cell? ⟨gx, 0, none⟩ = some (.int .i8 dx) ∧ wx.cell? ⟨gy, 0, none⟩ = some (.int .i8 dy) ∧ Below w.heap.size w wx)
      ((repeat (first | with_reducible assumption | with_reducible refine S8_alloc _ ?_ | with_reducible refine S8_drew ?_ | with_reducible refine S8_set4 _ _ _ _ hw hKb (by omega) ?_ | with_reducible refine S8_set2 _ _ hw hKb (by omega) ?_)))
      (first
        | (go_at_call 9; (with_reducible refine (HE.out _).mono ?_); rintro e w2 ⟨rfl, hb⟩; replace hb := undrew hb; have hS2 : w2.cell? ⟨ga, 0, none⟩ = some (.int .i16 a0) ∧ w2.cell? ⟨ga, 1, none⟩ = some (.int .i16 a1) ∧ w2.cell? ⟨gb, 0, none⟩ = some (.int .i16 b0) ∧ w2.cell? ⟨gb, 1, none⟩ = some (.int .i16 b1) ∧ w2.cell? ⟨gp, 0, none⟩ = some (.int .i16 p0) ∧ w2.cell? ⟨gp, 1, none⟩ = some (.int .i16 p1) ∧ w2.cell? ⟨gx, 0, none⟩ = some (.int .i8 dx) ∧ w2.cell? ⟨gy, 0, none⟩ = some (.int .i8 dy) ∧ Below w.heap.size w w2 := S8_call hb (by (repeat (first | with_reducible assumption | with_reducible refine S8_alloc _ ?_ | with_reducible refine S8_drew ?_))); have hz2 : ws.heap.size ≤ w2.heap.size := (by have := hb.size; (try simp at this); omega);
            (first
              | ((with_reducible have U : FourW w2 (ws.heap.size) (.int .i64 0) (.int .i64 0) (.int .i64 0) (.int .i64 0) := ((FourW.new _ _ _ _ _ rfl).alloc _).keep hb); have Uc0 := U.1.1; have Uc1 := U.1.2.1; have Uc2 := U.1.2.2.1; have Uc3 := U.1.2.2.2; have Uf0 := U.2.1; have Uf1 := U.2.2.1; have Uf2 := U.2.2.2.1; have Uf3 := U.2.2.2.2; have Uz := U.1.lt; (with_reducible have V : Two w2 (ws.heap.size + 1) (.int .i64 0) (.int .i64 0) := (Two.new _ _ _ (by simp)).keep hb); have Vc0 := V.1; have Vc1 := V.2.1; have Vf0 := V.2.2.1; have Vf1 := V.2.2.2; have Vz := V.lt)
              | ((with_reducible have V : Two w2 (ws.heap.size) (.int .i64 0) (.int .i64 0) := ((Two.new _ _ _ rfl).alloc _).keep hb); have Vc0 := V.1; have Vc1 := V.2.1; have Vf0 := V.2.2.1; have Vf1 := V.2.2.2; have Vz := V.lt; (with_reducible have U : FourW w2 (ws.heap.size + 1) (.int .i64 0) (.int .i64 0) (.int .i64 0) (.int .i64 0) := (FourW.new _ _ _ _ _ (by simp)).keep hb); have Uc0 := U.1.1; have Uc1 := U.1.2.1; have Uc2 := U.1.2.2.1; have Uc3 := U.1.2.2.2; have Uf0 := U.2.1; have Uf1 := U.2.2.1; have Uf2 := U.2.2.2.1; have Uf3 := U.2.2.2.2; have Uz := U.1.lt)
              | ((with_reducible have U : FourW w2 (ws.heap.size) (.int .i64 0) (.int .i64 0) (.int .i64 0) (.int .i64 0) := (FourW.new _ _ _ _ _ rfl).keep hb); have Uc0 := U.1.1; have Uc1 := U.1.2.1; have Uc2 := U.1.2.2.1; have Uc3 := U.1.2.2.2; have Uf0 := U.2.1; have Uf1 := U.2.2.1; have Uf2 := U.2.2.2.1; have Uf3 := U.2.2.2.2; have Uz := U.1.lt)
              | ((with_reducible have V : Two w2 (ws.heap.size) (.int .i64 0) (.int .i64 0) := (Two.new _ _ _ rfl).keep hb); have Vc0 := V.1; have Vc1 := V.2.1; have Vf0 := V.2.2.1; have Vf1 := V.2.2.2; have Vz := V.lt)
              | skip))
        | (go_at_call 10; (with_reducible refine (HP.out _).mono ?_); rintro e w3 ⟨rfl, hb⟩; have hS3 : w3.cell? ⟨ga, 0, none⟩ = some (.int .i16 a0) ∧ w3.cell? ⟨ga, 1, none⟩ = some (.int .i16 a1) ∧ w3.cell? ⟨gb, 0, none⟩ = some (.int .i16 b0) ∧ w3.cell? ⟨gb, 1, none⟩ = some (.int .i16 b1) ∧ w3.cell? ⟨gp, 0, none⟩ = some (.int .i16 p0) ∧ w3.cell? ⟨gp, 1, none⟩ = some (.int .i16 p1) ∧ w3.cell? ⟨gx, 0, none⟩ = some (.int .i8 dx) ∧ w3.cell? ⟨gy, 0, none⟩ = some (.int .i8 dy) ∧ Below w.heap.size w w3 := S8_call hb (by (repeat (first | with_reducible assumption | with_reducible refine S8_alloc _ ?_ | with_reducible refine S8_drew ?_))); have hz3 : w2.heap.size ≤ w3.heap.size := (by have := hb.size; (try simp at this); omega); (first | ((with_reducible have U := U.keep hb); have Uc0 := U.1.1; have Uc1 := U.1.2.1; have Uc2 := U.1.2.2.1; have Uc3 := U.1.2.2.2; have Uf0 := U.2.1; have Uf1 := U.2.2.1; have Uf2 := U.2.2.2.1; have Uf3 := U.2.2.2.2; have Uz := U.1.lt) | ((with_reducible have U := (U.alloc _).keep hb); have Uc0 := U.1.1; have Uc1 := U.1.2.1; have Uc2 := U.1.2.2.1; have Uc3 := U.1.2.2.2; have Uf0 := U.2.1; have Uf1 := U.2.2.1; have Uf2 := U.2.2.2.1; have Uf3 := U.2.2.2.2; have Uz := U.1.lt) | skip); (first | ((with_reducible have V := V.keep hb); have Vc0 := V.1; have Vc1 := V.2.1; have Vf0 := V.2.2.1; have Vf1 := V.2.2.2; have Vz := V.lt) | ((with_reducible have V := (V.alloc _).keep hb); have Vc0 := V.1; have Vc1 := V.2.1; have Vf0 := V.2.2.1; have Vf1 := V.2.2.2; have Vz := V.lt) | skip);
            (first
              | ((with_reducible have U : FourW w3 (w2.heap.size) (.int .i64 0) (.int .i64 0) (.int .i64 0) (.int .i64 0) := ((FourW.new _ _ _ _ _ rfl).alloc _).keep hb); have Uc0 := U.1.1; have Uc1 := U.1.2.1; have Uc2 := U.1.2.2.1; have Uc3 := U.1.2.2.2; have Uf0 := U.2.1; have Uf1 := U.2.2.1; have Uf2 := U.2.2.2.1; have Uf3 := U.2.2.2.2; have Uz := U.1.lt; (with_reducible have V : Two w3 (w2.heap.size + 1) (.int .i64 0) (.int .i64 0) := (Two.new _ _ _ (by simp)).keep hb); have Vc0 := V.1; have Vc1 := V.2.1; have Vf0 := V.2.2.1; have Vf1 := V.2.2.2; have Vz := V.lt)
              | ((with_reducible have V : Two w3 (w2.heap.size) (.int .i64 0) (.int .i64 0) := ((Two.new _ _ _ rfl).alloc _).keep hb); have Vc0 := V.1; have Vc1 := V.2.1; have Vf0 := V.2.2.1; have Vf1 := V.2.2.2; have Vz := V.lt; (with_reducible have U : FourW w3 (w2.heap.size + 1) (.int .i64 0) (.int .i64 0) (.int .i64 0) (.int .i64 0) := (FourW.new _ _ _ _ _ (by simp)).keep hb); have Uc0 := U.1.1; have Uc1 := U.1.2.1; have Uc2 := U.1.2.2.1; have Uc3 := U.1.2.2.2; have Uf0 := U.2.1; have Uf1 := U.2.2.1; have Uf2 := U.2.2.2.1; have Uf3 := U.2.2.2.2; have Uz := U.1.lt)
              | ((with_reducible have U : FourW w3 (w2.heap.size) (.int .i64 0) (.int .i64 0) (.int .i64 0) (.int .i64 0) := (FourW.new _ _ _ _ _ rfl).keep hb); have Uc0 := U.1.1; have Uc1 := U.1.2.1; have Uc2 := U.1.2.2.1; have Uc3 := U.1.2.2.2; have Uf0 := U.2.1; have Uf1 := U.2.2.1; have Uf2 := U.2.2.2.1; have Uf3 := U.2.2.2.2; have Uz := U.1.lt)
              | ((with_reducible have V : Two w3 (w2.heap.size) (.int .i64 0) (.int .i64 0) := (Two.new _ _ _ rfl).keep hb); have Vc0 := V.1; have Vc1 := V.2.1; have Vf0 := V.2.2.1; have Vf1 := V.2.2.2; have Vz := V.lt)
              | skip)))
    all_goals
      go_wp2_with fail
      go_meet
      first
        | with_reducible exact ⟨_, _, rfl, rfl, Four.alloc (Four.new _ _ _ _ _ rfl) _, pnew _ _ _ (by simp), by assumption⟩
        | with_reducible exact ⟨_, _, rfl, rfl, Four.new _ _ _ _ _ (by simp), palloc _ (pnew _ _ _ rfl), by assumption⟩
        | with_reducible exact ⟨_, _, rfl, rfl, Four.alloc (qset _ _ _ _ (qmk (by assumption) (by assumption) (by assumption) (by assumption))) _, pnew _ _ _ (by simp), by assumption⟩
        | with_reducible exact ⟨_, _, rfl, rfl, Four.new _ _ _ _ _ (by simp), palloc _ (pset _ _ (pmk (by assumption) (by assumption))), by assumption⟩
        | with_reducible exact ⟨_, _, rfl, rfl, qover2 _ _ (by omega) (qset _ _ _ _ (qmk (by assumption) (by assumption) (by assumption) (by assumption))), pset _ _ (pover4 _ _ _ _ (by omega) (pmk (by assumption) (by assumption))), by assumption⟩
  case rest =>
    obtain ⟨ge, gq, rfl, rfl, hE, hQ, hS⟩ := hcut
    have hD2 : wc.cell? ⟨ge, 0, none⟩ = some (.int .i64 x0) ∧ wc.cell? ⟨ge, 1, none⟩ = some (.int .i64 x1) ∧ wc.cell? ⟨ge, 2, none⟩ = some (.int .i64 y0) ∧ wc.cell? ⟨ge, 3, none⟩ = some (.int .i64 y1) ∧ wc.cell? ⟨gq, 0, none⟩ = some (.int .i64 p0) ∧ wc.cell? ⟨gq, 1, none⟩ = some (.int .i64 p1) ∧ wc.cell? ⟨gx, 0, none⟩ = some (.int .i8 dx) ∧ wc.cell? ⟨gy, 0, none⟩ = some (.int .i8 dy) ∧ Below w.heap.size w wc := ⟨hE.1, hE.2.1, hE.2.2.1, hE.2.2.2, hQ.1, hQ.2, hS.2.2.2.2.2.2.1, hS.2.2.2.2.2.2.2.1, hS.2.2.2.2.2.2.2.2⟩
    clear hD hE hQ hS
    replace HMA : Hid (∀ W : World, (W.cell? ⟨ge, 0, none⟩ = some (.int .i64 x0) ∧ W.cell? ⟨ge, 1, none⟩ = some (.int .i64 x1) ∧ W.cell? ⟨ge, 2, none⟩ = some (.int .i64 y0) ∧ W.cell? ⟨ge, 3, none⟩ = some (.int .i64 y1) ∧ W.cell? ⟨gq, 0, none⟩ = some (.int .i64 p0) ∧ W.cell? ⟨gq, 1, none⟩ = some (.int .i64 p1) ∧ W.cell? ⟨gx, 0, none⟩ = some (.int .i8 dx) ∧ W.cell? ⟨gy, 0, none⟩ = some (.int .i8 dy) ∧ Below w.heap.size w W) → Calls Try.prog 13 #[.agg #[.int .i64 x0, .int .i64 x1], .pointer (some ⟨gx, 0, none⟩), .pointer (some ⟨gy, 0, none⟩)] W fun e w' => e = .returned (.agg #[.int .i64 f0, .int .i64 f1]) ∧ Below W.heap.size W w') := Lib.hid fun W h => (HMA gx gy).out W h.2.2.2.2.2.2.1 h.2.2.2.2.2.2.2.1
    replace HMB : Hid (∀ W : World, (W.cell? ⟨ge, 0, none⟩ = some (.int .i64 x0) ∧ W.cell? ⟨ge, 1, none⟩ = some (.int .i64 x1) ∧ W.cell? ⟨ge, 2, none⟩ = some (.int .i64 y0) ∧ W.cell? ⟨ge, 3, none⟩ = some (.int .i64 y1) ∧ W.cell? ⟨gq, 0, none⟩ = some (.int .i64 p0) ∧ W.cell? ⟨gq, 1, none⟩ = some (.int .i64 p1) ∧ W.cell? ⟨gx, 0, none⟩ = some (.int .i8 dx) ∧ W.cell? ⟨gy, 0, none⟩ = some (.int .i8 dy) ∧ Below w.heap.size w W) → Calls Try.prog 13 #[.agg #[.int .i64 y0, .int .i64 y1], .pointer (some ⟨gx, 0, none⟩), .pointer (some ⟨gy, 0, none⟩)] W fun e w' => e = .returned (.agg #[.int .i64 f2, .int .i64 f3]) ∧ Below W.heap.size W w') := Lib.hid fun W h => (HMB gx gy).out W h.2.2.2.2.2.2.1 h.2.2.2.2.2.2.2.1
    clear hKb hw HE HP
    have zE := World.block_lt_of_cell? wc _ hD2.1
    have zQ := World.block_lt_of_cell? wc _ hD2.2.2.2.2.1
    have zX := World.block_lt_of_cell? wc _ hD2.2.2.2.2.2.2.1
    have zY := World.block_lt_of_cell? wc _ hD2.2.2.2.2.2.2.2.1
    have hw := hD2.2.2.2.2.2.2.2.2.size
    simp only [] at zE zQ zX zY
    go_upto_region 6 with fail
    clear ws
    obtain ⟨ws, rfl⟩ : ∃ ws, ws = wc := ⟨_, rfl⟩
    have hKb : ge < ws.heap.size ∧ ge < ws.heap.size ∧ ge < ws.heap.size ∧ ge < ws.heap.size ∧ gq < ws.heap.size ∧ gq < ws.heap.size ∧ gx < ws.heap.size ∧ gy < ws.heap.size := ⟨zE, zE, zE, zE, zQ, zQ, zX, zY⟩
    clear zE zQ zX zY
    go_cut [15, 16] (fun s15 s16 wx => ∃ gf gg : Nat, s15 = .pointer (some ⟨gf, 0, none⟩) ∧ s16 = .pointer (some ⟨gg, 0, none⟩) ∧ Four wx gf (.int .i64 f0) (.int .i64 f1) (.int .i64 f2) (.int .i64 f3) ∧ Four wx gg (.int .i64 h0) (.int .i64 h1) (.int .i64 h2) (.int .i64 h3) ∧ (wx.cell? ⟨ge, 0, none⟩ = some (.int .i64 x0) ∧ wx.cell? ⟨ge, 1, none⟩ = some (.int .i64 x1) ∧ wx.cell? ⟨ge, 2, none⟩ = some (.int .i64 y0) ∧ wx.cell? ⟨ge, 3, none⟩ = some (.int .i64 y1) ∧ wx.cell? ⟨gq, 0, none⟩ = some (.int .i64 p0) ∧ wx.cell? ⟨gq, 1, none⟩ = some (.int .i64 p1) ∧ wx.cell? ⟨gx, 0, none⟩ = some (.int .i8 dx) ∧ wx.cell? ⟨gy, 0, none⟩ = some (.int .i8 dy) ∧ Below w.heap.size w wx))
    case first =>
      clear HMP HNP HQf HQg HLf HLg HSf HSg hga
      refine wp_region_held_drew (S := fun wx => wx.cell? ⟨ge, 0, none⟩ = some (.int .i64 x0) ∧ wx.cell? ⟨ge, 1, none⟩ = some (.int .i64 x1) ∧ wx.cell? ⟨ge, 2, none⟩ = some (.int .i64 y0) ∧ wx.cell? ⟨ge, 3, none⟩ = some (.int .i64 y1) ∧ wx.cell? ⟨gq, 0, none⟩ = some (.int .i64 p0) ∧ wx.cell? ⟨gq, 1, none⟩ = some (.int .i64 p1) ∧ wx.cell? ⟨gx, 0, none⟩ = some (.int .i8 dx) ∧ wx.cell? ⟨gy, 0, none⟩ = some (.int .i8 dy) ∧ Below w.heap.size w wx) (by kernel_rfl) (S8_drew hD2) (fun hHeld => ?_)
      refine wpAnyH_take (i := 0) (v := ?_) rfl (by kernel_rfl) (by kernel_rfl) (by kernel_rfl) (fun _ _ _ h => h) (Or.inl ⟨by rfl, ?_⟩) hHeld ?_
      rotate_left
      · intro w hSw
        (try dsimp only at hSw)
        (try simp only [List.getElem_toArray, List.getElem_cons_zero, List.getElem_cons_succ])
        go_simp
        all_goals with_reducible rfl
      try simp only [List.getElem_toArray, List.getElem_cons_zero, List.getElem_cons_succ, Act.put, List.setIfInBounds_toArray, List.set_cons_zero, List.set_cons_succ]
      refine wpAnyH_take (i := 1) (v := ?_) rfl (by kernel_rfl) (by kernel_rfl) (by kernel_rfl) (fun _ _ _ h => h) (Or.inl ⟨by rfl, ?_⟩) hHeld ?_
      rotate_left
      · intro w hSw
        (try dsimp only at hSw)
        (try simp only [List.getElem_toArray, List.getElem_cons_zero, List.getElem_cons_succ])
        go_simp
        all_goals with_reducible rfl
      try simp only [List.getElem_toArray, List.getElem_cons_zero, List.getElem_cons_succ, Act.put, List.setIfInBounds_toArray, List.set_cons_zero, List.set_cons_succ]
      refine wpAnyH_take (i := 2) (v := ?_) rfl (by kernel_rfl) (by kernel_rfl) (by kernel_rfl) (fun _ _ _ h => h) (Or.inl ⟨by rfl, ?_⟩) hHeld ?_
      rotate_left
      · intro w hSw
        (try dsimp only at hSw)
        (try simp only [List.getElem_toArray, List.getElem_cons_zero, List.getElem_cons_succ])
        go_simp
        all_goals with_reducible rfl
      try simp only [List.getElem_toArray, List.getElem_cons_zero, List.getElem_cons_succ, Act.put, List.setIfInBounds_toArray, List.set_cons_zero, List.set_cons_succ]
      refine wpAnyH_take (i := 4) (v := ?_) rfl (by kernel_rfl) (by kernel_rfl) (by kernel_rfl) (fun _ _ _ h => h) (Or.inl ⟨by rfl, ?_⟩) hHeld ?_
      rotate_left
      · intro w hSw
        (try dsimp only at hSw)
        (try simp only [List.getElem_toArray, List.getElem_cons_zero, List.getElem_cons_succ])
        go_simp
        all_goals with_reducible rfl
      try simp only [List.getElem_toArray, List.getElem_cons_zero, List.getElem_cons_succ, Act.put, List.setIfInBounds_toArray, List.set_cons_zero, List.set_cons_succ]
      refine wpAnyH_take (i := 5) (v := ?_) rfl (by kernel_rfl) (by kernel_rfl) (by kernel_rfl) (fun _ _ _ h => h) (Or.inl ⟨by rfl, ?_⟩) hHeld ?_
      rotate_left
      · intro w hSw
        (try dsimp only at hSw)
        (try simp only [List.getElem_toArray, List.getElem_cons_zero, List.getElem_cons_succ])
        go_simp
        all_goals with_reducible rfl
      try simp only [List.getElem_toArray, List.getElem_cons_zero, List.getElem_cons_succ, Act.put, List.setIfInBounds_toArray, List.set_cons_zero, List.set_cons_succ]
      refine wpAnyH_take (i := 6) (v := ?_) rfl (by kernel_rfl) (by kernel_rfl) (by kernel_rfl) (fun _ _ _ h => h) (Or.inl ⟨by rfl, ?_⟩) hHeld ?_
      rotate_left
      · intro w hSw
        (try dsimp only at hSw)
        (try simp only [List.getElem_toArray, List.getElem_cons_zero, List.getElem_cons_succ])
        go_simp
        all_goals with_reducible rfl
      try simp only [List.getElem_toArray, List.getElem_cons_zero, List.getElem_cons_succ, Act.put, List.setIfInBounds_toArray, List.set_cons_zero, List.set_cons_succ]
      refine wpAnyH_take (i := 9) (v := ?_) rfl (by kernel_rfl) (by kernel_rfl) (by kernel_rfl) (fun _ _ _ h => h) (Or.inl ⟨by rfl, ?_⟩) hHeld ?_
      rotate_left
      · intro w hSw
        (try dsimp only at hSw)
        (try simp only [List.getElem_toArray, List.getElem_cons_zero, List.getElem_cons_succ])
        go_simp
        all_goals with_reducible rfl
      try simp only [List.getElem_toArray, List.getElem_cons_zero, List.getElem_cons_succ, Act.put, List.setIfInBounds_toArray, List.set_cons_zero, List.set_cons_succ]
      refine wpAnyH_take (i := 10) (v := ?_) rfl (by kernel_rfl) (by kernel_rfl) (by kernel_rfl) (fun _ _ _ h => h) (Or.inl ⟨by rfl, ?_⟩) hHeld ?_
      rotate_left
      · intro w hSw
        (try dsimp only at hSw)
        (try simp only [List.getElem_toArray, List.getElem_cons_zero, List.getElem_cons_succ])
        go_simp
        all_goals with_reducible rfl
      try simp only [List.getElem_toArray, List.getElem_cons_zero, List.getElem_cons_succ, Act.put, List.setIfInBounds_toArray, List.set_cons_zero, List.set_cons_succ]
      refine wpAnyH_take (i := 11) (v := ?_) rfl (by kernel_rfl) (by kernel_rfl) (by kernel_rfl) (fun _ _ _ h => h) (Or.inl ⟨by rfl, ?_⟩) hHeld ?_
      rotate_left
      · intro w hSw
        (try dsimp only at hSw)
        (try simp only [List.getElem_toArray, List.getElem_cons_zero, List.getElem_cons_succ])
        go_simp
        all_goals with_reducible rfl
      try simp only [List.getElem_toArray, List.getElem_cons_zero, List.getElem_cons_succ, Act.put, List.setIfInBounds_toArray, List.set_cons_zero, List.set_cons_succ]
      refine wpAnyH_take (i := 13) (v := ?_) rfl (by kernel_rfl) (by kernel_rfl) (by kernel_rfl) (fun _ _ _ h => h) (Or.inl ⟨by rfl, ?_⟩) hHeld ?_
      rotate_left
      · intro w hSw
        (try dsimp only at hSw)
        (try simp only [List.getElem_toArray, List.getElem_cons_zero, List.getElem_cons_succ])
        go_simp
        all_goals with_reducible rfl
      try simp only [List.getElem_toArray, List.getElem_cons_zero, List.getElem_cons_succ, Act.put, List.setIfInBounds_toArray, List.set_cons_zero, List.set_cons_succ]
      refine wpAnyH_take (i := 14) (v := ?_) rfl (by kernel_rfl) (by kernel_rfl) (by kernel_rfl) (fun _ _ _ h => h) (Or.inl ⟨by rfl, ?_⟩) hHeld ?_
      rotate_left
      · intro w hSw
        (try dsimp only at hSw)
        (try simp only [List.getElem_toArray, List.getElem_cons_zero, List.getElem_cons_succ])
        go_simp
        all_goals with_reducible rfl
      try simp only [List.getElem_toArray, List.getElem_cons_zero, List.getElem_cons_succ, Act.put, List.setIfInBounds_toArray, List.set_cons_zero, List.set_cons_succ]
      refine wpAnyH_take (i := 15) (v := ?_) rfl (by kernel_rfl) (by kernel_rfl) (by kernel_rfl) (fun _ _ _ h => h) (Or.inl ⟨by rfl, ?_⟩) hHeld ?_
      rotate_left
      · intro w hSw
        (try dsimp only at hSw)
        (try simp only [List.getElem_toArray, List.getElem_cons_zero, List.getElem_cons_succ])
        go_simp
        all_goals with_reducible rfl
      try simp only [List.getElem_toArray, List.getElem_cons_zero, List.getElem_cons_succ, Act.put, List.setIfInBounds_toArray, List.set_cons_zero, List.set_cons_succ]
      refine lat_intro (fun G A hA hG => ?_)
      clear hHeld
      have P4_11 : Hid (∀ (gf gg : Nat) (wx : World), (wx.cell? ⟨ge, 0, none⟩ = some (.int .i64 x0) ∧ wx.cell? ⟨ge, 1, none⟩ = some (.int .i64 x1) ∧ wx.cell? ⟨ge, 2, none⟩ = some (.int .i64 y0) ∧ wx.cell? ⟨ge, 3, none⟩ = some (.int .i64 y1) ∧ wx.cell? ⟨gq, 0, none⟩ = some (.int .i64 p0) ∧ wx.cell? ⟨gq, 1, none⟩ = some (.int .i64 p1) ∧ wx.cell? ⟨gx, 0, none⟩ = some (.int .i8 dx) ∧ wx.cell? ⟨gy, 0, none⟩ = some (.int .i8 dy) ∧ Below w.heap.size w wx) → ws.heap.size ≤ wx.heap.size → FourW wx gf (.int .i64 0) (.int .i64 0) (.int .i64 0) (.int .i64 0) → ws.heap.size ≤ gf → FourW wx gg (.int .i64 0) (.int .i64 0) (.int .i64 0) (.int .i64 0) → ws.heap.size ≤ gg → ¬ gf = gg → G 2 #[true, true, true, true, true, true, true, true, true, true, true, true, true, true, true, true, true, true, true, true, false, false] ((((((((A.put (some 28) (.agg #[.int .i64 f0, .int .i64 f1])).put (some 32) (.agg #[.int .i64 f2, .int .i64 f3])).put (some 37) (.agg #[.int .i64 h0, .int .i64 h1])).put (some 41) (.agg #[.int .i64 h2, .int .i64 h3])).put (some 33) (.agg #[.int .i64 f0, .int .i64 f1, .int .i64 f2, .int .i64 f3])).put (some 42) (.agg #[.int .i64 h0, .int .i64 h1, .int .i64 h2, .int .i64 h3])).put (some 15) (.pointer (some ⟨gf, 0, none⟩))).put (some 16) (.pointer (some ⟨gg, 0, none⟩))) wx) := by
        refine Lib.hid ?_
        intro gf gg wx hHeld hz T0 hT0 T1 hT1 hn01
        rw [hG.out, hA]
        try simp only [Act.put, List.setIfInBounds_toArray, List.set_cons_zero, List.set_cons_succ]
        refine wpAnyH_ready (rs := [20]) (by kernel_rfl) (by simp) ?_
        refine AllReadyH.cons rfl (fun K hK => ?_) AllReadyH.nil
        have hn10 : ¬ gg = gf := fun h => hn01 h.symm
        obtain ⟨⟨c0, c1, c2, c3⟩, xx0, xx1, xx2, xx3⟩ := id T0
        have zf := T0.1.lt
        have zg := T1.1.lt
        try simp only [List.getElem_toArray, List.getElem_cons_zero, List.getElem_cons_succ]
        go_simp
        refine hK.out _ _ (S8_set4 _ _ _ _ hw hKb hT0 hHeld) (fun hHeld => ?_)
        clear hK K
        try simp only [List.getElem_toArray, List.getElem_cons_zero, List.getElem_cons_succ, Act.put, List.setIfInBounds_toArray, List.set_cons_zero, List.set_cons_succ]
        refine wpAnyH_ready (rs := [21]) (by kernel_rfl) (by simp) ?_
        refine AllReadyH.cons rfl (fun K hK => ?_) AllReadyH.nil
        obtain ⟨⟨d0, d1, d2, d3⟩, yy0, yy1, yy2, yy3⟩ := id T1
        try simp only [List.getElem_toArray, List.getElem_cons_zero, List.getElem_cons_succ]
        go_simp
        refine hK.out _ _ (S8_set4 _ _ _ _ hw hKb hT1 hHeld) (fun hHeld => ?_)
        clear hK K
        try simp only [List.getElem_toArray, List.getElem_cons_zero, List.getElem_cons_succ, Act.put, List.setIfInBounds_toArray, List.set_cons_zero, List.set_cons_succ]
        refine wpAnyH_done (by kernel_rfl) ?_ _
        go_wp2_with fail
        go_meet
        exact ⟨gf, gg, rfl, rfl, qover4 _ _ _ _ hn01 (qset _ _ _ _ T0.1), qset _ _ _ _ (qover4 _ _ _ _ hn10 T1.1), hHeld⟩
      have P4_10 : Hid (∀ (gf : Nat) (wx : World), (wx.cell? ⟨ge, 0, none⟩ = some (.int .i64 x0) ∧ wx.cell? ⟨ge, 1, none⟩ = some (.int .i64 x1) ∧ wx.cell? ⟨ge, 2, none⟩ = some (.int .i64 y0) ∧ wx.cell? ⟨ge, 3, none⟩ = some (.int .i64 y1) ∧ wx.cell? ⟨gq, 0, none⟩ = some (.int .i64 p0) ∧ wx.cell? ⟨gq, 1, none⟩ = some (.int .i64 p1) ∧ wx.cell? ⟨gx, 0, none⟩ = some (.int .i8 dx) ∧ wx.cell? ⟨gy, 0, none⟩ = some (.int .i8 dy) ∧ Below w.heap.size w wx) → ws.heap.size ≤ wx.heap.size → FourW wx gf (.int .i64 0) (.int .i64 0) (.int .i64 0) (.int .i64 0) → ws.heap.size ≤ gf → G 3 #[true, true, true, true, true, true, true, true, true, true, true, true, true, true, true, true, true, true, true, false, false, false] (((((((A.put (some 28) (.agg #[.int .i64 f0, .int .i64 f1])).put (some 32) (.agg #[.int .i64 f2, .int .i64 f3])).put (some 37) (.agg #[.int .i64 h0, .int .i64 h1])).put (some 41) (.agg #[.int .i64 h2, .int .i64 h3])).put (some 33) (.agg #[.int .i64 f0, .int .i64 f1, .int .i64 f2, .int .i64 f3])).put (some 42) (.agg #[.int .i64 h0, .int .i64 h1, .int .i64 h2, .int .i64 h3])).put (some 15) (.pointer (some ⟨gf, 0, none⟩))) wx) := by
        refine Lib.hid ?_
        intro gf wx hHeld hz T0 hT0
        rw [hG.out, hA]
        try simp only [Act.put, List.setIfInBounds_toArray, List.set_cons_zero, List.set_cons_succ]
        refine wpAnyH_ready (rs := [19]) (by kernel_rfl) (by simp) ?_
        refine AllReadyH.cons rfl (fun K hK => ?_) ?_
        · try simp only [List.getElem_toArray, List.getElem_cons_zero, List.getElem_cons_succ]
          go_simp
          refine hK.out _ _ (S8_alloc _ hHeld) (fun hH => ?_)
          clear hK K
          try simp only [List.getElem_toArray, List.getElem_cons_zero, List.getElem_cons_succ, Act.put, List.setIfInBounds_toArray, List.set_cons_zero, List.set_cons_succ]
          have N := P4_11.out gf wx.heap.size _ hH (by simp; omega) (T0.alloc _) hT0 (FourW.new _ _ _ _ _ rfl) hz (by have := T0.1.lt; omega)
          rw [hG.out, hA] at N
          (try simp only [Act.put, List.setIfInBounds_toArray, List.set_cons_zero, List.set_cons_succ] at N)
          exact N
        exact AllReadyH.nil
      have P4_01 : Hid (∀ (gg : Nat) (wx : World), (wx.cell? ⟨ge, 0, none⟩ = some (.int .i64 x0) ∧ wx.cell? ⟨ge, 1, none⟩ = some (.int .i64 x1) ∧ wx.cell? ⟨ge, 2, none⟩ = some (.int .i64 y0) ∧ wx.cell? ⟨ge, 3, none⟩ = some (.int .i64 y1) ∧ wx.cell? ⟨gq, 0, none⟩ = some (.int .i64 p0) ∧ wx.cell? ⟨gq, 1, none⟩ = some (.int .i64 p1) ∧ wx.cell? ⟨gx, 0, none⟩ = some (.int .i8 dx) ∧ wx.cell? ⟨gy, 0, none⟩ = some (.int .i8 dy) ∧ Below w.heap.size w wx) → ws.heap.size ≤ wx.heap.size → FourW wx gg (.int .i64 0) (.int .i64 0) (.int .i64 0) (.int .i64 0) → ws.heap.size ≤ gg → G 3 #[true, true, true, true, true, true, true, true, true, true, true, true, true, true, true, true, true, true, false, true, false, false] (((((((A.put (some 28) (.agg #[.int .i64 f0, .int .i64 f1])).put (some 32) (.agg #[.int .i64 f2, .int .i64 f3])).put (some 37) (.agg #[.int .i64 h0, .int .i64 h1])).put (some 41) (.agg #[.int .i64 h2, .int .i64 h3])).put (some 33) (.agg #[.int .i64 f0, .int .i64 f1, .int .i64 f2, .int .i64 f3])).put (some 42) (.agg #[.int .i64 h0, .int .i64 h1, .int .i64 h2, .int .i64 h3])).put (some 16) (.pointer (some ⟨gg, 0, none⟩))) wx) := by
        refine Lib.hid ?_
        intro gg wx hHeld hz T1 hT1
        rw [hG.out, hA]
        try simp only [Act.put, List.setIfInBounds_toArray, List.set_cons_zero, List.set_cons_succ]
        refine wpAnyH_ready (rs := [18]) (by kernel_rfl) (by simp) ?_
        refine AllReadyH.cons rfl (fun K hK => ?_) ?_
        · try simp only [List.getElem_toArray, List.getElem_cons_zero, List.getElem_cons_succ]
          go_simp
          refine hK.out _ _ (S8_alloc _ hHeld) (fun hH => ?_)
          clear hK K
          try simp only [List.getElem_toArray, List.getElem_cons_zero, List.getElem_cons_succ, Act.put, List.setIfInBounds_toArray, List.set_cons_zero, List.set_cons_succ]
          have N := P4_11.out wx.heap.size gg _ hH (by simp; omega) (FourW.new _ _ _ _ _ rfl) hz (T1.alloc _) hT1 (by have := T1.1.lt; omega)
          rw [hG.out, hA] at N
          (try simp only [Act.put, List.setIfInBounds_toArray, List.set_cons_zero, List.set_cons_succ] at N)
          exact N
        exact AllReadyH.nil
      have P4_00 : Hid (∀ (wx : World), (wx.cell? ⟨ge, 0, none⟩ = some (.int .i64 x0) ∧ wx.cell? ⟨ge, 1, none⟩ = some (.int .i64 x1) ∧ wx.cell? ⟨ge, 2, none⟩ = some (.int .i64 y0) ∧ wx.cell? ⟨ge, 3, none⟩ = some (.int .i64 y1) ∧ wx.cell? ⟨gq, 0, none⟩ = some (.int .i64 p0) ∧ wx.cell? ⟨gq, 1, none⟩ = some (.int .i64 p1) ∧ wx.cell? ⟨gx, 0, none⟩ = some (.int .i8 dx) ∧ wx.cell? ⟨gy, 0, none⟩ = some (.int .i8 dy) ∧ Below w.heap.size w wx) → ws.heap.size ≤ wx.heap.size → G 4 #[true, true, true, true, true, true, true, true, true, true, true, true, true, true, true, true, true, true, false, false, false, false] ((((((A.put (some 28) (.agg #[.int .i64 f0, .int .i64 f1])).put (some 32) (.agg #[.int .i64 f2, .int .i64 f3])).put (some 37) (.agg #[.int .i64 h0, .int .i64 h1])).put (some 41) (.agg #[.int .i64 h2, .int .i64 h3])).put (some 33) (.agg #[.int .i64 f0, .int .i64 f1, .int .i64 f2, .int .i64 f3])).put (some 42) (.agg #[.int .i64 h0, .int .i64 h1, .int .i64 h2, .int .i64 h3])) wx) := by
        refine Lib.hid ?_
        intro wx hHeld hz
        rw [hG.out, hA]
        try simp only [Act.put, List.setIfInBounds_toArray, List.set_cons_zero, List.set_cons_succ]
        refine wpAnyH_ready (rs := [18, 19]) (by kernel_rfl) (by simp) ?_
        refine AllReadyH.cons rfl (fun K hK => ?_) ?_
        · try simp only [List.getElem_toArray, List.getElem_cons_zero, List.getElem_cons_succ]
          go_simp
          refine hK.out _ _ (S8_alloc _ hHeld) (fun hH => ?_)
          clear hK K
          try simp only [List.getElem_toArray, List.getElem_cons_zero, List.getElem_cons_succ, Act.put, List.setIfInBounds_toArray, List.set_cons_zero, List.set_cons_succ]
          have N := P4_10.out wx.heap.size _ hH (by simp; omega) (FourW.new _ _ _ _ _ rfl) hz
          rw [hG.out, hA] at N
          (try simp only [Act.put, List.setIfInBounds_toArray, List.set_cons_zero, List.set_cons_succ] at N)
          exact N
        refine AllReadyH.cons rfl (fun K hK => ?_) ?_
        · try simp only [List.getElem_toArray, List.getElem_cons_zero, List.getElem_cons_succ]
          go_simp
          refine hK.out _ _ (S8_alloc _ hHeld) (fun hH => ?_)
          clear hK K
          try simp only [List.getElem_toArray, List.getElem_cons_zero, List.getElem_cons_succ, Act.put, List.setIfInBounds_toArray, List.set_cons_zero, List.set_cons_succ]
          have N := P4_01.out wx.heap.size _ hH (by simp; omega) (FourW.new _ _ _ _ _ rfl) hz
          rw [hG.out, hA] at N
          (try simp only [Act.put, List.setIfInBounds_toArray, List.set_cons_zero, List.set_cons_succ] at N)
          exact N
        exact AllReadyH.nil
      have P3_11 : Hid (∀ (gf gg : Nat) (wx : World), (wx.cell? ⟨ge, 0, none⟩ = some (.int .i64 x0) ∧ wx.cell? ⟨ge, 1, none⟩ = some (.int .i64 x1) ∧ wx.cell? ⟨ge, 2, none⟩ = some (.int .i64 y0) ∧ wx.cell? ⟨ge, 3, none⟩ = some (.int .i64 y1) ∧ wx.cell? ⟨gq, 0, none⟩ = some (.int .i64 p0) ∧ wx.cell? ⟨gq, 1, none⟩ = some (.int .i64 p1) ∧ wx.cell? ⟨gx, 0, none⟩ = some (.int .i8 dx) ∧ wx.cell? ⟨gy, 0, none⟩ = some (.int .i8 dy) ∧ Below w.heap.size w wx) → ws.heap.size ≤ wx.heap.size → FourW wx gf (.int .i64 0) (.int .i64 0) (.int .i64 0) (.int .i64 0) → ws.heap.size ≤ gf → FourW wx gg (.int .i64 0) (.int .i64 0) (.int .i64 0) (.int .i64 0) → ws.heap.size ≤ gg → ¬ gf = gg → G 4 #[true, true, true, true, true, true, true, true, true, true, true, true, true, true, true, true, false, false, true, true, false, false] ((((((A.put (some 28) (.agg #[.int .i64 f0, .int .i64 f1])).put (some 32) (.agg #[.int .i64 f2, .int .i64 f3])).put (some 37) (.agg #[.int .i64 h0, .int .i64 h1])).put (some 33) (.agg #[.int .i64 f0, .int .i64 f1, .int .i64 f2, .int .i64 f3])).put (some 15) (.pointer (some ⟨gf, 0, none⟩))).put (some 16) (.pointer (some ⟨gg, 0, none⟩))) wx) := by
        refine Lib.hid ?_
        intro gf gg wx hHeld hz T0 hT0 T1 hT1 hn01
        rw [hG.out, hA]
        try simp only [Act.put, List.setIfInBounds_toArray, List.set_cons_zero, List.set_cons_succ]
        refine wpAnyH_ready (rs := [16]) (by kernel_rfl) (by simp) ?_
        refine AllReadyH.cons rfl (fun K hK => ?_) ?_
        · try simp only [List.getElem_toArray, List.getElem_cons_zero, List.getElem_cons_succ]
          go_simp
          refine (HNB.out _).mono ?_
          rintro e wn ⟨rfl, hb⟩
          go_wp2_with fail
          refine hK.out _ _ (S8_call hb hHeld) (fun hH => ?_)
          clear hK K
          try simp only [List.getElem_toArray, List.getElem_cons_zero, List.getElem_cons_succ, Act.put, List.setIfInBounds_toArray, List.set_cons_zero, List.set_cons_succ]
          refine wpAnyH_take (i := 17) (v := ?_) rfl (by kernel_rfl) (by kernel_rfl) (by kernel_rfl) (fun _ _ _ h => h) (Or.inl ⟨by rfl, ?_⟩) hH ?_
          rotate_left
          · intro w hSw
            (try dsimp only at hSw)
            (try simp only [List.getElem_toArray, List.getElem_cons_zero, List.getElem_cons_succ])
            go_simp
            all_goals with_reducible rfl
          try simp only [List.getElem_toArray, List.getElem_cons_zero, List.getElem_cons_succ, Act.put, List.setIfInBounds_toArray, List.set_cons_zero, List.set_cons_succ]
          have N := P4_11.out gf gg wn hH (Nat.le_trans hz hb.size) (T0.keep hb) hT0 (T1.keep hb) hT1 hn01
          rw [hG.out, hA] at N
          (try simp only [Act.put, List.setIfInBounds_toArray, List.set_cons_zero, List.set_cons_succ] at N)
          exact N
        exact AllReadyH.nil
      have P3_10 : Hid (∀ (gf : Nat) (wx : World), (wx.cell? ⟨ge, 0, none⟩ = some (.int .i64 x0) ∧ wx.cell? ⟨ge, 1, none⟩ = some (.int .i64 x1) ∧ wx.cell? ⟨ge, 2, none⟩ = some (.int .i64 y0) ∧ wx.cell? ⟨ge, 3, none⟩ = some (.int .i64 y1) ∧ wx.cell? ⟨gq, 0, none⟩ = some (.int .i64 p0) ∧ wx.cell? ⟨gq, 1, none⟩ = some (.int .i64 p1) ∧ wx.cell? ⟨gx, 0, none⟩ = some (.int .i8 dx) ∧ wx.cell? ⟨gy, 0, none⟩ = some (.int .i8 dy) ∧ Below w.heap.size w wx) → ws.heap.size ≤ wx.heap.size → FourW wx gf (.int .i64 0) (.int .i64 0) (.int .i64 0) (.int .i64 0) → ws.heap.size ≤ gf → G 5 #[true, true, true, true, true, true, true, true, true, true, true, true, true, true, true, true, false, false, true, false, false, false] (((((A.put (some 28) (.agg #[.int .i64 f0, .int .i64 f1])).put (some 32) (.agg #[.int .i64 f2, .int .i64 f3])).put (some 37) (.agg #[.int .i64 h0, .int .i64 h1])).put (some 33) (.agg #[.int .i64 f0, .int .i64 f1, .int .i64 f2, .int .i64 f3])).put (some 15) (.pointer (some ⟨gf, 0, none⟩))) wx) := by
        refine Lib.hid ?_
        intro gf wx hHeld hz T0 hT0
        rw [hG.out, hA]
        try simp only [Act.put, List.setIfInBounds_toArray, List.set_cons_zero, List.set_cons_succ]
        refine wpAnyH_ready (rs := [16, 19]) (by kernel_rfl) (by simp) ?_
        refine AllReadyH.cons rfl (fun K hK => ?_) ?_
        · try simp only [List.getElem_toArray, List.getElem_cons_zero, List.getElem_cons_succ]
          go_simp
          refine (HNB.out _).mono ?_
          rintro e wn ⟨rfl, hb⟩
          go_wp2_with fail
          refine hK.out _ _ (S8_call hb hHeld) (fun hH => ?_)
          clear hK K
          try simp only [List.getElem_toArray, List.getElem_cons_zero, List.getElem_cons_succ, Act.put, List.setIfInBounds_toArray, List.set_cons_zero, List.set_cons_succ]
          refine wpAnyH_take (i := 17) (v := ?_) rfl (by kernel_rfl) (by kernel_rfl) (by kernel_rfl) (fun _ _ _ h => h) (Or.inl ⟨by rfl, ?_⟩) hH ?_
          rotate_left
          · intro w hSw
            (try dsimp only at hSw)
            (try simp only [List.getElem_toArray, List.getElem_cons_zero, List.getElem_cons_succ])
            go_simp
            all_goals with_reducible rfl
          try simp only [List.getElem_toArray, List.getElem_cons_zero, List.getElem_cons_succ, Act.put, List.setIfInBounds_toArray, List.set_cons_zero, List.set_cons_succ]
          have N := P4_10.out gf wn hH (Nat.le_trans hz hb.size) (T0.keep hb) hT0
          rw [hG.out, hA] at N
          (try simp only [Act.put, List.setIfInBounds_toArray, List.set_cons_zero, List.set_cons_succ] at N)
          exact N
        refine AllReadyH.cons rfl (fun K hK => ?_) ?_
        · try simp only [List.getElem_toArray, List.getElem_cons_zero, List.getElem_cons_succ]
          go_simp
          refine hK.out _ _ (S8_alloc _ hHeld) (fun hH => ?_)
          clear hK K
          try simp only [List.getElem_toArray, List.getElem_cons_zero, List.getElem_cons_succ, Act.put, List.setIfInBounds_toArray, List.set_cons_zero, List.set_cons_succ]
          have N := P3_11.out gf wx.heap.size _ hH (by simp; omega) (T0.alloc _) hT0 (FourW.new _ _ _ _ _ rfl) hz (by have := T0.1.lt; omega)
          rw [hG.out, hA] at N
          (try simp only [Act.put, List.setIfInBounds_toArray, List.set_cons_zero, List.set_cons_succ] at N)
          exact N
        exact AllReadyH.nil
      have P3_01 : Hid (∀ (gg : Nat) (wx : World), (wx.cell? ⟨ge, 0, none⟩ = some (.int .i64 x0) ∧ wx.cell? ⟨ge, 1, none⟩ = some (.int .i64 x1) ∧ wx.cell? ⟨ge, 2, none⟩ = some (.int .i64 y0) ∧ wx.cell? ⟨ge, 3, none⟩ = some (.int .i64 y1) ∧ wx.cell? ⟨gq, 0, none⟩ = some (.int .i64 p0) ∧ wx.cell? ⟨gq, 1, none⟩ = some (.int .i64 p1) ∧ wx.cell? ⟨gx, 0, none⟩ = some (.int .i8 dx) ∧ wx.cell? ⟨gy, 0, none⟩ = some (.int .i8 dy) ∧ Below w.heap.size w wx) → ws.heap.size ≤ wx.heap.size → FourW wx gg (.int .i64 0) (.int .i64 0) (.int .i64 0) (.int .i64 0) → ws.heap.size ≤ gg → G 5 #[true, true, true, true, true, true, true, true, true, true, true, true, true, true, true, true, false, false, false, true, false, false] (((((A.put (some 28) (.agg #[.int .i64 f0, .int .i64 f1])).put (some 32) (.agg #[.int .i64 f2, .int .i64 f3])).put (some 37) (.agg #[.int .i64 h0, .int .i64 h1])).put (some 33) (.agg #[.int .i64 f0, .int .i64 f1, .int .i64 f2, .int .i64 f3])).put (some 16) (.pointer (some ⟨gg, 0, none⟩))) wx) := by
        refine Lib.hid ?_
        intro gg wx hHeld hz T1 hT1
        rw [hG.out, hA]
        try simp only [Act.put, List.setIfInBounds_toArray, List.set_cons_zero, List.set_cons_succ]
        refine wpAnyH_ready (rs := [16, 18]) (by kernel_rfl) (by simp) ?_
        refine AllReadyH.cons rfl (fun K hK => ?_) ?_
        · try simp only [List.getElem_toArray, List.getElem_cons_zero, List.getElem_cons_succ]
          go_simp
          refine (HNB.out _).mono ?_
          rintro e wn ⟨rfl, hb⟩
          go_wp2_with fail
          refine hK.out _ _ (S8_call hb hHeld) (fun hH => ?_)
          clear hK K
          try simp only [List.getElem_toArray, List.getElem_cons_zero, List.getElem_cons_succ, Act.put, List.setIfInBounds_toArray, List.set_cons_zero, List.set_cons_succ]
          refine wpAnyH_take (i := 17) (v := ?_) rfl (by kernel_rfl) (by kernel_rfl) (by kernel_rfl) (fun _ _ _ h => h) (Or.inl ⟨by rfl, ?_⟩) hH ?_
          rotate_left
          · intro w hSw
            (try dsimp only at hSw)
            (try simp only [List.getElem_toArray, List.getElem_cons_zero, List.getElem_cons_succ])
            go_simp
            all_goals with_reducible rfl
          try simp only [List.getElem_toArray, List.getElem_cons_zero, List.getElem_cons_succ, Act.put, List.setIfInBounds_toArray, List.set_cons_zero, List.set_cons_succ]
          have N := P4_01.out gg wn hH (Nat.le_trans hz hb.size) (T1.keep hb) hT1
          rw [hG.out, hA] at N
          (try simp only [Act.put, List.setIfInBounds_toArray, List.set_cons_zero, List.set_cons_succ] at N)
          exact N
        refine AllReadyH.cons rfl (fun K hK => ?_) ?_
        · try simp only [List.getElem_toArray, List.getElem_cons_zero, List.getElem_cons_succ]
          go_simp
          refine hK.out _ _ (S8_alloc _ hHeld) (fun hH => ?_)
          clear hK K
          try simp only [List.getElem_toArray, List.getElem_cons_zero, List.getElem_cons_succ, Act.put, List.setIfInBounds_toArray, List.set_cons_zero, List.set_cons_succ]
          have N := P3_11.out wx.heap.size gg _ hH (by simp; omega) (FourW.new _ _ _ _ _ rfl) hz (T1.alloc _) hT1 (by have := T1.1.lt; omega)
          rw [hG.out, hA] at N
          (try simp only [Act.put, List.setIfInBounds_toArray, List.set_cons_zero, List.set_cons_succ] at N)
          exact N
        exact AllReadyH.nil
      have P3_00 : Hid (∀ (wx : World), (wx.cell? ⟨ge, 0, none⟩ = some (.int .i64 x0) ∧ wx.cell? ⟨ge, 1, none⟩ = some (.int .i64 x1) ∧ wx.cell? ⟨ge, 2, none⟩ = some (.int .i64 y0) ∧ wx.cell? ⟨ge, 3, none⟩ = some (.int .i64 y1) ∧ wx.cell? ⟨gq, 0, none⟩ = some (.int .i64 p0) ∧ wx.cell? ⟨gq, 1, none⟩ = some (.int .i64 p1) ∧ wx.cell? ⟨gx, 0, none⟩ = some (.int .i8 dx) ∧ wx.cell? ⟨gy, 0, none⟩ = some (.int .i8 dy) ∧ Below w.heap.size w wx) → ws.heap.size ≤ wx.heap.size → G 6 #[true, true, true, true, true, true, true, true, true, true, true, true, true, true, true, true, false, false, false, false, false, false] ((((A.put (some 28) (.agg #[.int .i64 f0, .int .i64 f1])).put (some 32) (.agg #[.int .i64 f2, .int .i64 f3])).put (some 37) (.agg #[.int .i64 h0, .int .i64 h1])).put (some 33) (.agg #[.int .i64 f0, .int .i64 f1, .int .i64 f2, .int .i64 f3])) wx) := by
        refine Lib.hid ?_
        intro wx hHeld hz
        rw [hG.out, hA]
        try simp only [Act.put, List.setIfInBounds_toArray, List.set_cons_zero, List.set_cons_succ]
        refine wpAnyH_ready (rs := [16, 18, 19]) (by kernel_rfl) (by simp) ?_
        refine AllReadyH.cons rfl (fun K hK => ?_) ?_
        · try simp only [List.getElem_toArray, List.getElem_cons_zero, List.getElem_cons_succ]
          go_simp
          refine (HNB.out _).mono ?_
          rintro e wn ⟨rfl, hb⟩
          go_wp2_with fail
          refine hK.out _ _ (S8_call hb hHeld) (fun hH => ?_)
          clear hK K
          try simp only [List.getElem_toArray, List.getElem_cons_zero, List.getElem_cons_succ, Act.put, List.setIfInBounds_toArray, List.set_cons_zero, List.set_cons_succ]
          refine wpAnyH_take (i := 17) (v := ?_) rfl (by kernel_rfl) (by kernel_rfl) (by kernel_rfl) (fun _ _ _ h => h) (Or.inl ⟨by rfl, ?_⟩) hH ?_
          rotate_left
          · intro w hSw
            (try dsimp only at hSw)
            (try simp only [List.getElem_toArray, List.getElem_cons_zero, List.getElem_cons_succ])
            go_simp
            all_goals with_reducible rfl
          try simp only [List.getElem_toArray, List.getElem_cons_zero, List.getElem_cons_succ, Act.put, List.setIfInBounds_toArray, List.set_cons_zero, List.set_cons_succ]
          have N := P4_00.out wn hH (Nat.le_trans hz hb.size)
          rw [hG.out, hA] at N
          (try simp only [Act.put, List.setIfInBounds_toArray, List.set_cons_zero, List.set_cons_succ] at N)
          exact N
        refine AllReadyH.cons rfl (fun K hK => ?_) ?_
        · try simp only [List.getElem_toArray, List.getElem_cons_zero, List.getElem_cons_succ]
          go_simp
          refine hK.out _ _ (S8_alloc _ hHeld) (fun hH => ?_)
          clear hK K
          try simp only [List.getElem_toArray, List.getElem_cons_zero, List.getElem_cons_succ, Act.put, List.setIfInBounds_toArray, List.set_cons_zero, List.set_cons_succ]
          have N := P3_10.out wx.heap.size _ hH (by simp; omega) (FourW.new _ _ _ _ _ rfl) hz
          rw [hG.out, hA] at N
          (try simp only [Act.put, List.setIfInBounds_toArray, List.set_cons_zero, List.set_cons_succ] at N)
          exact N
        refine AllReadyH.cons rfl (fun K hK => ?_) ?_
        · try simp only [List.getElem_toArray, List.getElem_cons_zero, List.getElem_cons_succ]
          go_simp
          refine hK.out _ _ (S8_alloc _ hHeld) (fun hH => ?_)
          clear hK K
          try simp only [List.getElem_toArray, List.getElem_cons_zero, List.getElem_cons_succ, Act.put, List.setIfInBounds_toArray, List.set_cons_zero, List.set_cons_succ]
          have N := P3_01.out wx.heap.size _ hH (by simp; omega) (FourW.new _ _ _ _ _ rfl) hz
          rw [hG.out, hA] at N
          (try simp only [Act.put, List.setIfInBounds_toArray, List.set_cons_zero, List.set_cons_succ] at N)
          exact N
        exact AllReadyH.nil
      have P2_11 : Hid (∀ (gf gg : Nat) (wx : World), (wx.cell? ⟨ge, 0, none⟩ = some (.int .i64 x0) ∧ wx.cell? ⟨ge, 1, none⟩ = some (.int .i64 x1) ∧ wx.cell? ⟨ge, 2, none⟩ = some (.int .i64 y0) ∧ wx.cell? ⟨ge, 3, none⟩ = some (.int .i64 y1) ∧ wx.cell? ⟨gq, 0, none⟩ = some (.int .i64 p0) ∧ wx.cell? ⟨gq, 1, none⟩ = some (.int .i64 p1) ∧ wx.cell? ⟨gx, 0, none⟩ = some (.int .i8 dx) ∧ wx.cell? ⟨gy, 0, none⟩ = some (.int .i8 dy) ∧ Below w.heap.size w wx) → ws.heap.size ≤ wx.heap.size → FourW wx gf (.int .i64 0) (.int .i64 0) (.int .i64 0) (.int .i64 0) → ws.heap.size ≤ gf → FourW wx gg (.int .i64 0) (.int .i64 0) (.int .i64 0) (.int .i64 0) → ws.heap.size ≤ gg → ¬ gf = gg → G 5 #[true, true, true, true, true, true, true, true, true, true, true, true, false, true, true, true, false, false, true, true, false, false] (((((A.put (some 28) (.agg #[.int .i64 f0, .int .i64 f1])).put (some 32) (.agg #[.int .i64 f2, .int .i64 f3])).put (some 33) (.agg #[.int .i64 f0, .int .i64 f1, .int .i64 f2, .int .i64 f3])).put (some 15) (.pointer (some ⟨gf, 0, none⟩))).put (some 16) (.pointer (some ⟨gg, 0, none⟩))) wx) := by
        refine Lib.hid ?_
        intro gf gg wx hHeld hz T0 hT0 T1 hT1 hn01
        rw [hG.out, hA]
        try simp only [Act.put, List.setIfInBounds_toArray, List.set_cons_zero, List.set_cons_succ]
        refine wpAnyH_ready (rs := [12]) (by kernel_rfl) (by simp) ?_
        refine AllReadyH.cons rfl (fun K hK => ?_) ?_
        · try simp only [List.getElem_toArray, List.getElem_cons_zero, List.getElem_cons_succ]
          go_simp
          refine (HNA.out _).mono ?_
          rintro e wn ⟨rfl, hb⟩
          go_wp2_with fail
          refine hK.out _ _ (S8_call hb hHeld) (fun hH => ?_)
          clear hK K
          try simp only [List.getElem_toArray, List.getElem_cons_zero, List.getElem_cons_succ, Act.put, List.setIfInBounds_toArray, List.set_cons_zero, List.set_cons_succ]
          have N := P3_11.out gf gg wn hH (Nat.le_trans hz hb.size) (T0.keep hb) hT0 (T1.keep hb) hT1 hn01
          rw [hG.out, hA] at N
          (try simp only [Act.put, List.setIfInBounds_toArray, List.set_cons_zero, List.set_cons_succ] at N)
          exact N
        exact AllReadyH.nil
      have P2_10 : Hid (∀ (gf : Nat) (wx : World), (wx.cell? ⟨ge, 0, none⟩ = some (.int .i64 x0) ∧ wx.cell? ⟨ge, 1, none⟩ = some (.int .i64 x1) ∧ wx.cell? ⟨ge, 2, none⟩ = some (.int .i64 y0) ∧ wx.cell? ⟨ge, 3, none⟩ = some (.int .i64 y1) ∧ wx.cell? ⟨gq, 0, none⟩ = some (.int .i64 p0) ∧ wx.cell? ⟨gq, 1, none⟩ = some (.int .i64 p1) ∧ wx.cell? ⟨gx, 0, none⟩ = some (.int .i8 dx) ∧ wx.cell? ⟨gy, 0, none⟩ = some (.int .i8 dy) ∧ Below w.heap.size w wx) → ws.heap.size ≤ wx.heap.size → FourW wx gf (.int .i64 0) (.int .i64 0) (.int .i64 0) (.int .i64 0) → ws.heap.size ≤ gf → G 6 #[true, true, true, true, true, true, true, true, true, true, true, true, false, true, true, true, false, false, true, false, false, false] ((((A.put (some 28) (.agg #[.int .i64 f0, .int .i64 f1])).put (some 32) (.agg #[.int .i64 f2, .int .i64 f3])).put (some 33) (.agg #[.int .i64 f0, .int .i64 f1, .int .i64 f2, .int .i64 f3])).put (some 15) (.pointer (some ⟨gf, 0, none⟩))) wx) := by
        refine Lib.hid ?_
        intro gf wx hHeld hz T0 hT0
        rw [hG.out, hA]
        try simp only [Act.put, List.setIfInBounds_toArray, List.set_cons_zero, List.set_cons_succ]
        refine wpAnyH_ready (rs := [12, 19]) (by kernel_rfl) (by simp) ?_
        refine AllReadyH.cons rfl (fun K hK => ?_) ?_
        · try simp only [List.getElem_toArray, List.getElem_cons_zero, List.getElem_cons_succ]
          go_simp
          refine (HNA.out _).mono ?_
          rintro e wn ⟨rfl, hb⟩
          go_wp2_with fail
          refine hK.out _ _ (S8_call hb hHeld) (fun hH => ?_)
          clear hK K
          try simp only [List.getElem_toArray, List.getElem_cons_zero, List.getElem_cons_succ, Act.put, List.setIfInBounds_toArray, List.set_cons_zero, List.set_cons_succ]
          have N := P3_10.out gf wn hH (Nat.le_trans hz hb.size) (T0.keep hb) hT0
          rw [hG.out, hA] at N
          (try simp only [Act.put, List.setIfInBounds_toArray, List.set_cons_zero, List.set_cons_succ] at N)
          exact N
        refine AllReadyH.cons rfl (fun K hK => ?_) ?_
        · try simp only [List.getElem_toArray, List.getElem_cons_zero, List.getElem_cons_succ]
          go_simp
          refine hK.out _ _ (S8_alloc _ hHeld) (fun hH => ?_)
          clear hK K
          try simp only [List.getElem_toArray, List.getElem_cons_zero, List.getElem_cons_succ, Act.put, List.setIfInBounds_toArray, List.set_cons_zero, List.set_cons_succ]
          have N := P2_11.out gf wx.heap.size _ hH (by simp; omega) (T0.alloc _) hT0 (FourW.new _ _ _ _ _ rfl) hz (by have := T0.1.lt; omega)
          rw [hG.out, hA] at N
          (try simp only [Act.put, List.setIfInBounds_toArray, List.set_cons_zero, List.set_cons_succ] at N)
          exact N
        exact AllReadyH.nil
      have P2_01 : Hid (∀ (gg : Nat) (wx : World), (wx.cell? ⟨ge, 0, none⟩ = some (.int .i64 x0) ∧ wx.cell? ⟨ge, 1, none⟩ = some (.int .i64 x1) ∧ wx.cell? ⟨ge, 2, none⟩ = some (.int .i64 y0) ∧ wx.cell? ⟨ge, 3, none⟩ = some (.int .i64 y1) ∧ wx.cell? ⟨gq, 0, none⟩ = some (.int .i64 p0) ∧ wx.cell? ⟨gq, 1, none⟩ = some (.int .i64 p1) ∧ wx.cell? ⟨gx, 0, none⟩ = some (.int .i8 dx) ∧ wx.cell? ⟨gy, 0, none⟩ = some (.int .i8 dy) ∧ Below w.heap.size w wx) → ws.heap.size ≤ wx.heap.size → FourW wx gg (.int .i64 0) (.int .i64 0) (.int .i64 0) (.int .i64 0) → ws.heap.size ≤ gg → G 6 #[true, true, true, true, true, true, true, true, true, true, true, true, false, true, true, true, false, false, false, true, false, false] ((((A.put (some 28) (.agg #[.int .i64 f0, .int .i64 f1])).put (some 32) (.agg #[.int .i64 f2, .int .i64 f3])).put (some 33) (.agg #[.int .i64 f0, .int .i64 f1, .int .i64 f2, .int .i64 f3])).put (some 16) (.pointer (some ⟨gg, 0, none⟩))) wx) := by
        refine Lib.hid ?_
        intro gg wx hHeld hz T1 hT1
        rw [hG.out, hA]
        try simp only [Act.put, List.setIfInBounds_toArray, List.set_cons_zero, List.set_cons_succ]
        refine wpAnyH_ready (rs := [12, 18]) (by kernel_rfl) (by simp) ?_
        refine AllReadyH.cons rfl (fun K hK => ?_) ?_
        · try simp only [List.getElem_toArray, List.getElem_cons_zero, List.getElem_cons_succ]
          go_simp
          refine (HNA.out _).mono ?_
          rintro e wn ⟨rfl, hb⟩
          go_wp2_with fail
          refine hK.out _ _ (S8_call hb hHeld) (fun hH => ?_)
          clear hK K
          try simp only [List.getElem_toArray, List.getElem_cons_zero, List.getElem_cons_succ, Act.put, List.setIfInBounds_toArray, List.set_cons_zero, List.set_cons_succ]
          have N := P3_01.out gg wn hH (Nat.le_trans hz hb.size) (T1.keep hb) hT1
          rw [hG.out, hA] at N
          (try simp only [Act.put, List.setIfInBounds_toArray, List.set_cons_zero, List.set_cons_succ] at N)
          exact N
        refine AllReadyH.cons rfl (fun K hK => ?_) ?_
        · try simp only [List.getElem_toArray, List.getElem_cons_zero, List.getElem_cons_succ]
          go_simp
          refine hK.out _ _ (S8_alloc _ hHeld) (fun hH => ?_)
          clear hK K
          try simp only [List.getElem_toArray, List.getElem_cons_zero, List.getElem_cons_succ, Act.put, List.setIfInBounds_toArray, List.set_cons_zero, List.set_cons_succ]
          have N := P2_11.out wx.heap.size gg _ hH (by simp; omega) (FourW.new _ _ _ _ _ rfl) hz (T1.alloc _) hT1 (by have := T1.1.lt; omega)
          rw [hG.out, hA] at N
          (try simp only [Act.put, List.setIfInBounds_toArray, List.set_cons_zero, List.set_cons_succ] at N)
          exact N
        exact AllReadyH.nil
      have P2_00 : Hid (∀ (wx : World), (wx.cell? ⟨ge, 0, none⟩ = some (.int .i64 x0) ∧ wx.cell? ⟨ge, 1, none⟩ = some (.int .i64 x1) ∧ wx.cell? ⟨ge, 2, none⟩ = some (.int .i64 y0) ∧ wx.cell? ⟨ge, 3, none⟩ = some (.int .i64 y1) ∧ wx.cell? ⟨gq, 0, none⟩ = some (.int .i64 p0) ∧ wx.cell? ⟨gq, 1, none⟩ = some (.int .i64 p1) ∧ wx.cell? ⟨gx, 0, none⟩ = some (.int .i8 dx) ∧ wx.cell? ⟨gy, 0, none⟩ = some (.int .i8 dy) ∧ Below w.heap.size w wx) → ws.heap.size ≤ wx.heap.size → G 7 #[true, true, true, true, true, true, true, true, true, true, true, true, false, true, true, true, false, false, false, false, false, false] (((A.put (some 28) (.agg #[.int .i64 f0, .int .i64 f1])).put (some 32) (.agg #[.int .i64 f2, .int .i64 f3])).put (some 33) (.agg #[.int .i64 f0, .int .i64 f1, .int .i64 f2, .int .i64 f3])) wx) := by
        refine Lib.hid ?_
        intro wx hHeld hz
        rw [hG.out, hA]
        try simp only [Act.put, List.setIfInBounds_toArray, List.set_cons_zero, List.set_cons_succ]
        refine wpAnyH_ready (rs := [12, 18, 19]) (by kernel_rfl) (by simp) ?_
        refine AllReadyH.cons rfl (fun K hK => ?_) ?_
        · try simp only [List.getElem_toArray, List.getElem_cons_zero, List.getElem_cons_succ]
          go_simp
          refine (HNA.out _).mono ?_
          rintro e wn ⟨rfl, hb⟩
          go_wp2_with fail
          refine hK.out _ _ (S8_call hb hHeld) (fun hH => ?_)
          clear hK K
          try simp only [List.getElem_toArray, List.getElem_cons_zero, List.getElem_cons_succ, Act.put, List.setIfInBounds_toArray, List.set_cons_zero, List.set_cons_succ]
          have N := P3_00.out wn hH (Nat.le_trans hz hb.size)
          rw [hG.out, hA] at N
          (try simp only [Act.put, List.setIfInBounds_toArray, List.set_cons_zero, List.set_cons_succ] at N)
          exact N
        refine AllReadyH.cons rfl (fun K hK => ?_) ?_
        · try simp only [List.getElem_toArray, List.getElem_cons_zero, List.getElem_cons_succ]
          go_simp
          refine hK.out _ _ (S8_alloc _ hHeld) (fun hH => ?_)
          clear hK K
          try simp only [List.getElem_toArray, List.getElem_cons_zero, List.getElem_cons_succ, Act.put, List.setIfInBounds_toArray, List.set_cons_zero, List.set_cons_succ]
          have N := P2_10.out wx.heap.size _ hH (by simp; omega) (FourW.new _ _ _ _ _ rfl) hz
          rw [hG.out, hA] at N
          (try simp only [Act.put, List.setIfInBounds_toArray, List.set_cons_zero, List.set_cons_succ] at N)
          exact N
        refine AllReadyH.cons rfl (fun K hK => ?_) ?_
        · try simp only [List.getElem_toArray, List.getElem_cons_zero, List.getElem_cons_succ]
          go_simp
          refine hK.out _ _ (S8_alloc _ hHeld) (fun hH => ?_)
          clear hK K
          try simp only [List.getElem_toArray, List.getElem_cons_zero, List.getElem_cons_succ, Act.put, List.setIfInBounds_toArray, List.set_cons_zero, List.set_cons_succ]
          have N := P2_01.out wx.heap.size _ hH (by simp; omega) (FourW.new _ _ _ _ _ rfl) hz
          rw [hG.out, hA] at N
          (try simp only [Act.put, List.setIfInBounds_toArray, List.set_cons_zero, List.set_cons_succ] at N)
          exact N
        exact AllReadyH.nil
      have P1_11 : Hid (∀ (gf gg : Nat) (wx : World), (wx.cell? ⟨ge, 0, none⟩ = some (.int .i64 x0) ∧ wx.cell? ⟨ge, 1, none⟩ = some (.int .i64 x1) ∧ wx.cell? ⟨ge, 2, none⟩ = some (.int .i64 y0) ∧ wx.cell? ⟨ge, 3, none⟩ = some (.int .i64 y1) ∧ wx.cell? ⟨gq, 0, none⟩ = some (.int .i64 p0) ∧ wx.cell? ⟨gq, 1, none⟩ = some (.int .i64 p1) ∧ wx.cell? ⟨gx, 0, none⟩ = some (.int .i8 dx) ∧ wx.cell? ⟨gy, 0, none⟩ = some (.int .i8 dy) ∧ Below w.heap.size w wx) → ws.heap.size ≤ wx.heap.size → FourW wx gf (.int .i64 0) (.int .i64 0) (.int .i64 0) (.int .i64 0) → ws.heap.size ≤ gf → FourW wx gg (.int .i64 0) (.int .i64 0) (.int .i64 0) (.int .i64 0) → ws.heap.size ≤ gg → ¬ gf = gg → G 7 #[true, true, true, true, true, true, true, false, false, true, true, true, false, true, true, true, false, false, true, true, false, false] (((A.put (some 28) (.agg #[.int .i64 f0, .int .i64 f1])).put (some 15) (.pointer (some ⟨gf, 0, none⟩))).put (some 16) (.pointer (some ⟨gg, 0, none⟩))) wx) := by
        refine Lib.hid ?_
        intro gf gg wx hHeld hz T0 hT0 T1 hT1 hn01
        rw [hG.out, hA]
        try simp only [Act.put, List.setIfInBounds_toArray, List.set_cons_zero, List.set_cons_succ]
        refine wpAnyH_ready (rs := [7]) (by kernel_rfl) (by simp) ?_
        refine AllReadyH.cons rfl (fun K hK => ?_) ?_
        · try simp only [List.getElem_toArray, List.getElem_cons_zero, List.getElem_cons_succ]
          go_simp
          refine (HMB.out _ hHeld).mono ?_
          rintro e wn ⟨rfl, hb⟩
          go_wp2_with fail
          refine hK.out _ _ (S8_call hb hHeld) (fun hH => ?_)
          clear hK K
          try simp only [List.getElem_toArray, List.getElem_cons_zero, List.getElem_cons_succ, Act.put, List.setIfInBounds_toArray, List.set_cons_zero, List.set_cons_succ]
          refine wpAnyH_take (i := 8) (v := ?_) rfl (by kernel_rfl) (by kernel_rfl) (by kernel_rfl) (fun _ _ _ h => h) (Or.inl ⟨by rfl, ?_⟩) hH ?_
          rotate_left
          · intro w hSw
            (try dsimp only at hSw)
            (try simp only [List.getElem_toArray, List.getElem_cons_zero, List.getElem_cons_succ])
            go_simp
            all_goals with_reducible rfl
          try simp only [List.getElem_toArray, List.getElem_cons_zero, List.getElem_cons_succ, Act.put, List.setIfInBounds_toArray, List.set_cons_zero, List.set_cons_succ]
          have N := P2_11.out gf gg wn hH (Nat.le_trans hz hb.size) (T0.keep hb) hT0 (T1.keep hb) hT1 hn01
          rw [hG.out, hA] at N
          (try simp only [Act.put, List.setIfInBounds_toArray, List.set_cons_zero, List.set_cons_succ] at N)
          exact N
        exact AllReadyH.nil
      have P1_10 : Hid (∀ (gf : Nat) (wx : World), (wx.cell? ⟨ge, 0, none⟩ = some (.int .i64 x0) ∧ wx.cell? ⟨ge, 1, none⟩ = some (.int .i64 x1) ∧ wx.cell? ⟨ge, 2, none⟩ = some (.int .i64 y0) ∧ wx.cell? ⟨ge, 3, none⟩ = some (.int .i64 y1) ∧ wx.cell? ⟨gq, 0, none⟩ = some (.int .i64 p0) ∧ wx.cell? ⟨gq, 1, none⟩ = some (.int .i64 p1) ∧ wx.cell? ⟨gx, 0, none⟩ = some (.int .i8 dx) ∧ wx.cell? ⟨gy, 0, none⟩ = some (.int .i8 dy) ∧ Below w.heap.size w wx) → ws.heap.size ≤ wx.heap.size → FourW wx gf (.int .i64 0) (.int .i64 0) (.int .i64 0) (.int .i64 0) → ws.heap.size ≤ gf → G 8 #[true, true, true, true, true, true, true, false, false, true, true, true, false, true, true, true, false, false, true, false, false, false] ((A.put (some 28) (.agg #[.int .i64 f0, .int .i64 f1])).put (some 15) (.pointer (some ⟨gf, 0, none⟩))) wx) := by
        refine Lib.hid ?_
        intro gf wx hHeld hz T0 hT0
        rw [hG.out, hA]
        try simp only [Act.put, List.setIfInBounds_toArray, List.set_cons_zero, List.set_cons_succ]
        refine wpAnyH_ready (rs := [7, 19]) (by kernel_rfl) (by simp) ?_
        refine AllReadyH.cons rfl (fun K hK => ?_) ?_
        · try simp only [List.getElem_toArray, List.getElem_cons_zero, List.getElem_cons_succ]
          go_simp
          refine (HMB.out _ hHeld).mono ?_
          rintro e wn ⟨rfl, hb⟩
          go_wp2_with fail
          refine hK.out _ _ (S8_call hb hHeld) (fun hH => ?_)
          clear hK K
          try simp only [List.getElem_toArray, List.getElem_cons_zero, List.getElem_cons_succ, Act.put, List.setIfInBounds_toArray, List.set_cons_zero, List.set_cons_succ]
          refine wpAnyH_take (i := 8) (v := ?_) rfl (by kernel_rfl) (by kernel_rfl) (by kernel_rfl) (fun _ _ _ h => h) (Or.inl ⟨by rfl, ?_⟩) hH ?_
          rotate_left
          · intro w hSw
            (try dsimp only at hSw)
            (try simp only [List.getElem_toArray, List.getElem_cons_zero, List.getElem_cons_succ])
            go_simp
            all_goals with_reducible rfl
          try simp only [List.getElem_toArray, List.getElem_cons_zero, List.getElem_cons_succ, Act.put, List.setIfInBounds_toArray, List.set_cons_zero, List.set_cons_succ]
          have N := P2_10.out gf wn hH (Nat.le_trans hz hb.size) (T0.keep hb) hT0
          rw [hG.out, hA] at N
          (try simp only [Act.put, List.setIfInBounds_toArray, List.set_cons_zero, List.set_cons_succ] at N)
          exact N
        refine AllReadyH.cons rfl (fun K hK => ?_) ?_
        · try simp only [List.getElem_toArray, List.getElem_cons_zero, List.getElem_cons_succ]
          go_simp
          refine hK.out _ _ (S8_alloc _ hHeld) (fun hH => ?_)
          clear hK K
          try simp only [List.getElem_toArray, List.getElem_cons_zero, List.getElem_cons_succ, Act.put, List.setIfInBounds_toArray, List.set_cons_zero, List.set_cons_succ]
          have N := P1_11.out gf wx.heap.size _ hH (by simp; omega) (T0.alloc _) hT0 (FourW.new _ _ _ _ _ rfl) hz (by have := T0.1.lt; omega)
          rw [hG.out, hA] at N
          (try simp only [Act.put, List.setIfInBounds_toArray, List.set_cons_zero, List.set_cons_succ] at N)
          exact N
        exact AllReadyH.nil
      have P1_01 : Hid (∀ (gg : Nat) (wx : World), (wx.cell? ⟨ge, 0, none⟩ = some (.int .i64 x0) ∧ wx.cell? ⟨ge, 1, none⟩ = some (.int .i64 x1) ∧ wx.cell? ⟨ge, 2, none⟩ = some (.int .i64 y0) ∧ wx.cell? ⟨ge, 3, none⟩ = some (.int .i64 y1) ∧ wx.cell? ⟨gq, 0, none⟩ = some (.int .i64 p0) ∧ wx.cell? ⟨gq, 1, none⟩ = some (.int .i64 p1) ∧ wx.cell? ⟨gx, 0, none⟩ = some (.int .i8 dx) ∧ wx.cell? ⟨gy, 0, none⟩ = some (.int .i8 dy) ∧ Below w.heap.size w wx) → ws.heap.size ≤ wx.heap.size → FourW wx gg (.int .i64 0) (.int .i64 0) (.int .i64 0) (.int .i64 0) → ws.heap.size ≤ gg → G 8 #[true, true, true, true, true, true, true, false, false, true, true, true, false, true, true, true, false, false, false, true, false, false] ((A.put (some 28) (.agg #[.int .i64 f0, .int .i64 f1])).put (some 16) (.pointer (some ⟨gg, 0, none⟩))) wx) := by
        refine Lib.hid ?_
        intro gg wx hHeld hz T1 hT1
        rw [hG.out, hA]
        try simp only [Act.put, List.setIfInBounds_toArray, List.set_cons_zero, List.set_cons_succ]
        refine wpAnyH_ready (rs := [7, 18]) (by kernel_rfl) (by simp) ?_
        refine AllReadyH.cons rfl (fun K hK => ?_) ?_
        · try simp only [List.getElem_toArray, List.getElem_cons_zero, List.getElem_cons_succ]
          go_simp
          refine (HMB.out _ hHeld).mono ?_
          rintro e wn ⟨rfl, hb⟩
          go_wp2_with fail
          refine hK.out _ _ (S8_call hb hHeld) (fun hH => ?_)
          clear hK K
          try simp only [List.getElem_toArray, List.getElem_cons_zero, List.getElem_cons_succ, Act.put, List.setIfInBounds_toArray, List.set_cons_zero, List.set_cons_succ]
          refine wpAnyH_take (i := 8) (v := ?_) rfl (by kernel_rfl) (by kernel_rfl) (by kernel_rfl) (fun _ _ _ h => h) (Or.inl ⟨by rfl, ?_⟩) hH ?_
          rotate_left
          · intro w hSw
            (try dsimp only at hSw)
            (try simp only [List.getElem_toArray, List.getElem_cons_zero, List.getElem_cons_succ])
            go_simp
            all_goals with_reducible rfl
          try simp only [List.getElem_toArray, List.getElem_cons_zero, List.getElem_cons_succ, Act.put, List.setIfInBounds_toArray, List.set_cons_zero, List.set_cons_succ]
          have N := P2_01.out gg wn hH (Nat.le_trans hz hb.size) (T1.keep hb) hT1
          rw [hG.out, hA] at N
          (try simp only [Act.put, List.setIfInBounds_toArray, List.set_cons_zero, List.set_cons_succ] at N)
          exact N
        refine AllReadyH.cons rfl (fun K hK => ?_) ?_
        · try simp only [List.getElem_toArray, List.getElem_cons_zero, List.getElem_cons_succ]
          go_simp
          refine hK.out _ _ (S8_alloc _ hHeld) (fun hH => ?_)
          clear hK K
          try simp only [List.getElem_toArray, List.getElem_cons_zero, List.getElem_cons_succ, Act.put, List.setIfInBounds_toArray, List.set_cons_zero, List.set_cons_succ]
          have N := P1_11.out wx.heap.size gg _ hH (by simp; omega) (FourW.new _ _ _ _ _ rfl) hz (T1.alloc _) hT1 (by have := T1.1.lt; omega)
          rw [hG.out, hA] at N
          (try simp only [Act.put, List.setIfInBounds_toArray, List.set_cons_zero, List.set_cons_succ] at N)
          exact N
        exact AllReadyH.nil
      have P1_00 : Hid (∀ (wx : World), (wx.cell? ⟨ge, 0, none⟩ = some (.int .i64 x0) ∧ wx.cell? ⟨ge, 1, none⟩ = some (.int .i64 x1) ∧ wx.cell? ⟨ge, 2, none⟩ = some (.int .i64 y0) ∧ wx.cell? ⟨ge, 3, none⟩ = some (.int .i64 y1) ∧ wx.cell? ⟨gq, 0, none⟩ = some (.int .i64 p0) ∧ wx.cell? ⟨gq, 1, none⟩ = some (.int .i64 p1) ∧ wx.cell? ⟨gx, 0, none⟩ = some (.int .i8 dx) ∧ wx.cell? ⟨gy, 0, none⟩ = some (.int .i8 dy) ∧ Below w.heap.size w wx) → ws.heap.size ≤ wx.heap.size → G 9 #[true, true, true, true, true, true, true, false, false, true, true, true, false, true, true, true, false, false, false, false, false, false] (A.put (some 28) (.agg #[.int .i64 f0, .int .i64 f1])) wx) := by
        refine Lib.hid ?_
        intro wx hHeld hz
        rw [hG.out, hA]
        try simp only [Act.put, List.setIfInBounds_toArray, List.set_cons_zero, List.set_cons_succ]
        refine wpAnyH_ready (rs := [7, 18, 19]) (by kernel_rfl) (by simp) ?_
        refine AllReadyH.cons rfl (fun K hK => ?_) ?_
        · try simp only [List.getElem_toArray, List.getElem_cons_zero, List.getElem_cons_succ]
          go_simp
          refine (HMB.out _ hHeld).mono ?_
          rintro e wn ⟨rfl, hb⟩
          go_wp2_with fail
          refine hK.out _ _ (S8_call hb hHeld) (fun hH => ?_)
          clear hK K
          try simp only [List.getElem_toArray, List.getElem_cons_zero, List.getElem_cons_succ, Act.put, List.setIfInBounds_toArray, List.set_cons_zero, List.set_cons_succ]
          refine wpAnyH_take (i := 8) (v := ?_) rfl (by kernel_rfl) (by kernel_rfl) (by kernel_rfl) (fun _ _ _ h => h) (Or.inl ⟨by rfl, ?_⟩) hH ?_
          rotate_left
          · intro w hSw
            (try dsimp only at hSw)
            (try simp only [List.getElem_toArray, List.getElem_cons_zero, List.getElem_cons_succ])
            go_simp
            all_goals with_reducible rfl
          try simp only [List.getElem_toArray, List.getElem_cons_zero, List.getElem_cons_succ, Act.put, List.setIfInBounds_toArray, List.set_cons_zero, List.set_cons_succ]
          have N := P2_00.out wn hH (Nat.le_trans hz hb.size)
          rw [hG.out, hA] at N
          (try simp only [Act.put, List.setIfInBounds_toArray, List.set_cons_zero, List.set_cons_succ] at N)
          exact N
        refine AllReadyH.cons rfl (fun K hK => ?_) ?_
        · try simp only [List.getElem_toArray, List.getElem_cons_zero, List.getElem_cons_succ]
          go_simp
          refine hK.out _ _ (S8_alloc _ hHeld) (fun hH => ?_)
          clear hK K
          try simp only [List.getElem_toArray, List.getElem_cons_zero, List.getElem_cons_succ, Act.put, List.setIfInBounds_toArray, List.set_cons_zero, List.set_cons_succ]
          have N := P1_10.out wx.heap.size _ hH (by simp; omega) (FourW.new _ _ _ _ _ rfl) hz
          rw [hG.out, hA] at N
          (try simp only [Act.put, List.setIfInBounds_toArray, List.set_cons_zero, List.set_cons_succ] at N)
          exact N
        refine AllReadyH.cons rfl (fun K hK => ?_) ?_
        · try simp only [List.getElem_toArray, List.getElem_cons_zero, List.getElem_cons_succ]
          go_simp
          refine hK.out _ _ (S8_alloc _ hHeld) (fun hH => ?_)
          clear hK K
          try simp only [List.getElem_toArray, List.getElem_cons_zero, List.getElem_cons_succ, Act.put, List.setIfInBounds_toArray, List.set_cons_zero, List.set_cons_succ]
          have N := P1_01.out wx.heap.size _ hH (by simp; omega) (FourW.new _ _ _ _ _ rfl) hz
          rw [hG.out, hA] at N
          (try simp only [Act.put, List.setIfInBounds_toArray, List.set_cons_zero, List.set_cons_succ] at N)
          exact N
        exact AllReadyH.nil
      have P0_11 : Hid (∀ (gf gg : Nat) (wx : World), (wx.cell? ⟨ge, 0, none⟩ = some (.int .i64 x0) ∧ wx.cell? ⟨ge, 1, none⟩ = some (.int .i64 x1) ∧ wx.cell? ⟨ge, 2, none⟩ = some (.int .i64 y0) ∧ wx.cell? ⟨ge, 3, none⟩ = some (.int .i64 y1) ∧ wx.cell? ⟨gq, 0, none⟩ = some (.int .i64 p0) ∧ wx.cell? ⟨gq, 1, none⟩ = some (.int .i64 p1) ∧ wx.cell? ⟨gx, 0, none⟩ = some (.int .i8 dx) ∧ wx.cell? ⟨gy, 0, none⟩ = some (.int .i8 dy) ∧ Below w.heap.size w wx) → ws.heap.size ≤ wx.heap.size → FourW wx gf (.int .i64 0) (.int .i64 0) (.int .i64 0) (.int .i64 0) → ws.heap.size ≤ gf → FourW wx gg (.int .i64 0) (.int .i64 0) (.int .i64 0) (.int .i64 0) → ws.heap.size ≤ gg → ¬ gf = gg → G 8 #[true, true, true, false, true, true, true, false, false, true, true, true, false, true, true, true, false, false, true, true, false, false] ((A.put (some 15) (.pointer (some ⟨gf, 0, none⟩))).put (some 16) (.pointer (some ⟨gg, 0, none⟩))) wx) := by
        refine Lib.hid ?_
        intro gf gg wx hHeld hz T0 hT0 T1 hT1 hn01
        rw [hG.out, hA]
        try simp only [Act.put, List.setIfInBounds_toArray, List.set_cons_zero, List.set_cons_succ]
        refine wpAnyH_ready (rs := [3]) (by kernel_rfl) (by simp) ?_
        refine AllReadyH.cons rfl (fun K hK => ?_) ?_
        · try simp only [List.getElem_toArray, List.getElem_cons_zero, List.getElem_cons_succ]
          go_simp
          refine (HMA.out _ hHeld).mono ?_
          rintro e wn ⟨rfl, hb⟩
          go_wp2_with fail
          refine hK.out _ _ (S8_call hb hHeld) (fun hH => ?_)
          clear hK K
          try simp only [List.getElem_toArray, List.getElem_cons_zero, List.getElem_cons_succ, Act.put, List.setIfInBounds_toArray, List.set_cons_zero, List.set_cons_succ]
          have N := P1_11.out gf gg wn hH (Nat.le_trans hz hb.size) (T0.keep hb) hT0 (T1.keep hb) hT1 hn01
          rw [hG.out, hA] at N
          (try simp only [Act.put, List.setIfInBounds_toArray, List.set_cons_zero, List.set_cons_succ] at N)
          exact N
        exact AllReadyH.nil
      have P0_10 : Hid (∀ (gf : Nat) (wx : World), (wx.cell? ⟨ge, 0, none⟩ = some (.int .i64 x0) ∧ wx.cell? ⟨ge, 1, none⟩ = some (.int .i64 x1) ∧ wx.cell? ⟨ge, 2, none⟩ = some (.int .i64 y0) ∧ wx.cell? ⟨ge, 3, none⟩ = some (.int .i64 y1) ∧ wx.cell? ⟨gq, 0, none⟩ = some (.int .i64 p0) ∧ wx.cell? ⟨gq, 1, none⟩ = some (.int .i64 p1) ∧ wx.cell? ⟨gx, 0, none⟩ = some (.int .i8 dx) ∧ wx.cell? ⟨gy, 0, none⟩ = some (.int .i8 dy) ∧ Below w.heap.size w wx) → ws.heap.size ≤ wx.heap.size → FourW wx gf (.int .i64 0) (.int .i64 0) (.int .i64 0) (.int .i64 0) → ws.heap.size ≤ gf → G 9 #[true, true, true, false, true, true, true, false, false, true, true, true, false, true, true, true, false, false, true, false, false, false] (A.put (some 15) (.pointer (some ⟨gf, 0, none⟩))) wx) := by
        refine Lib.hid ?_
        intro gf wx hHeld hz T0 hT0
        rw [hG.out, hA]
        try simp only [Act.put, List.setIfInBounds_toArray, List.set_cons_zero, List.set_cons_succ]
        refine wpAnyH_ready (rs := [3, 19]) (by kernel_rfl) (by simp) ?_
        refine AllReadyH.cons rfl (fun K hK => ?_) ?_
        · try simp only [List.getElem_toArray, List.getElem_cons_zero, List.getElem_cons_succ]
          go_simp
          refine (HMA.out _ hHeld).mono ?_
          rintro e wn ⟨rfl, hb⟩
          go_wp2_with fail
          refine hK.out _ _ (S8_call hb hHeld) (fun hH => ?_)
          clear hK K
          try simp only [List.getElem_toArray, List.getElem_cons_zero, List.getElem_cons_succ, Act.put, List.setIfInBounds_toArray, List.set_cons_zero, List.set_cons_succ]
          have N := P1_10.out gf wn hH (Nat.le_trans hz hb.size) (T0.keep hb) hT0
          rw [hG.out, hA] at N
          (try simp only [Act.put, List.setIfInBounds_toArray, List.set_cons_zero, List.set_cons_succ] at N)
          exact N
        refine AllReadyH.cons rfl (fun K hK => ?_) ?_
        · try simp only [List.getElem_toArray, List.getElem_cons_zero, List.getElem_cons_succ]
          go_simp
          refine hK.out _ _ (S8_alloc _ hHeld) (fun hH => ?_)
          clear hK K
          try simp only [List.getElem_toArray, List.getElem_cons_zero, List.getElem_cons_succ, Act.put, List.setIfInBounds_toArray, List.set_cons_zero, List.set_cons_succ]
          have N := P0_11.out gf wx.heap.size _ hH (by simp; omega) (T0.alloc _) hT0 (FourW.new _ _ _ _ _ rfl) hz (by have := T0.1.lt; omega)
          rw [hG.out, hA] at N
          (try simp only [Act.put, List.setIfInBounds_toArray, List.set_cons_zero, List.set_cons_succ] at N)
          exact N
        exact AllReadyH.nil
      have P0_01 : Hid (∀ (gg : Nat) (wx : World), (wx.cell? ⟨ge, 0, none⟩ = some (.int .i64 x0) ∧ wx.cell? ⟨ge, 1, none⟩ = some (.int .i64 x1) ∧ wx.cell? ⟨ge, 2, none⟩ = some (.int .i64 y0) ∧ wx.cell? ⟨ge, 3, none⟩ = some (.int .i64 y1) ∧ wx.cell? ⟨gq, 0, none⟩ = some (.int .i64 p0) ∧ wx.cell? ⟨gq, 1, none⟩ = some (.int .i64 p1) ∧ wx.cell? ⟨gx, 0, none⟩ = some (.int .i8 dx) ∧ wx.cell? ⟨gy, 0, none⟩ = some (.int .i8 dy) ∧ Below w.heap.size w wx) → ws.heap.size ≤ wx.heap.size → FourW wx gg (.int .i64 0) (.int .i64 0) (.int .i64 0) (.int .i64 0) → ws.heap.size ≤ gg → G 9 #[true, true, true, false, true, true, true, false, false, true, true, true, false, true, true, true, false, false, false, true, false, false] (A.put (some 16) (.pointer (some ⟨gg, 0, none⟩))) wx) := by
        refine Lib.hid ?_
        intro gg wx hHeld hz T1 hT1
        rw [hG.out, hA]
        try simp only [Act.put, List.setIfInBounds_toArray, List.set_cons_zero, List.set_cons_succ]
        refine wpAnyH_ready (rs := [3, 18]) (by kernel_rfl) (by simp) ?_
        refine AllReadyH.cons rfl (fun K hK => ?_) ?_
        · try simp only [List.getElem_toArray, List.getElem_cons_zero, List.getElem_cons_succ]
          go_simp
          refine (HMA.out _ hHeld).mono ?_
          rintro e wn ⟨rfl, hb⟩
          go_wp2_with fail
          refine hK.out _ _ (S8_call hb hHeld) (fun hH => ?_)
          clear hK K
          try simp only [List.getElem_toArray, List.getElem_cons_zero, List.getElem_cons_succ, Act.put, List.setIfInBounds_toArray, List.set_cons_zero, List.set_cons_succ]
          have N := P1_01.out gg wn hH (Nat.le_trans hz hb.size) (T1.keep hb) hT1
          rw [hG.out, hA] at N
          (try simp only [Act.put, List.setIfInBounds_toArray, List.set_cons_zero, List.set_cons_succ] at N)
          exact N
        refine AllReadyH.cons rfl (fun K hK => ?_) ?_
        · try simp only [List.getElem_toArray, List.getElem_cons_zero, List.getElem_cons_succ]
          go_simp
          refine hK.out _ _ (S8_alloc _ hHeld) (fun hH => ?_)
          clear hK K
          try simp only [List.getElem_toArray, List.getElem_cons_zero, List.getElem_cons_succ, Act.put, List.setIfInBounds_toArray, List.set_cons_zero, List.set_cons_succ]
          have N := P0_11.out wx.heap.size gg _ hH (by simp; omega) (FourW.new _ _ _ _ _ rfl) hz (T1.alloc _) hT1 (by have := T1.1.lt; omega)
          rw [hG.out, hA] at N
          (try simp only [Act.put, List.setIfInBounds_toArray, List.set_cons_zero, List.set_cons_succ] at N)
          exact N
        exact AllReadyH.nil
      have P0_00 : Hid (∀ (wx : World), (wx.cell? ⟨ge, 0, none⟩ = some (.int .i64 x0) ∧ wx.cell? ⟨ge, 1, none⟩ = some (.int .i64 x1) ∧ wx.cell? ⟨ge, 2, none⟩ = some (.int .i64 y0) ∧ wx.cell? ⟨ge, 3, none⟩ = some (.int .i64 y1) ∧ wx.cell? ⟨gq, 0, none⟩ = some (.int .i64 p0) ∧ wx.cell? ⟨gq, 1, none⟩ = some (.int .i64 p1) ∧ wx.cell? ⟨gx, 0, none⟩ = some (.int .i8 dx) ∧ wx.cell? ⟨gy, 0, none⟩ = some (.int .i8 dy) ∧ Below w.heap.size w wx) → ws.heap.size ≤ wx.heap.size → G 10 #[true, true, true, false, true, true, true, false, false, true, true, true, false, true, true, true, false, false, false, false, false, false] A wx) := by
        refine Lib.hid ?_
        intro wx hHeld hz
        rw [hG.out, hA]
        try simp only [Act.put, List.setIfInBounds_toArray, List.set_cons_zero, List.set_cons_succ]
        refine wpAnyH_ready (rs := [3, 18, 19]) (by kernel_rfl) (by simp) ?_
        refine AllReadyH.cons rfl (fun K hK => ?_) ?_
        · try simp only [List.getElem_toArray, List.getElem_cons_zero, List.getElem_cons_succ]
          go_simp
          refine (HMA.out _ hHeld).mono ?_
          rintro e wn ⟨rfl, hb⟩
          go_wp2_with fail
          refine hK.out _ _ (S8_call hb hHeld) (fun hH => ?_)
          clear hK K
          try simp only [List.getElem_toArray, List.getElem_cons_zero, List.getElem_cons_succ, Act.put, List.setIfInBounds_toArray, List.set_cons_zero, List.set_cons_succ]
          have N := P1_00.out wn hH (Nat.le_trans hz hb.size)
          rw [hG.out, hA] at N
          (try simp only [Act.put, List.setIfInBounds_toArray, List.set_cons_zero, List.set_cons_succ] at N)
          exact N
        refine AllReadyH.cons rfl (fun K hK => ?_) ?_
        · try simp only [List.getElem_toArray, List.getElem_cons_zero, List.getElem_cons_succ]
          go_simp
          refine hK.out _ _ (S8_alloc _ hHeld) (fun hH => ?_)
          clear hK K
          try simp only [List.getElem_toArray, List.getElem_cons_zero, List.getElem_cons_succ, Act.put, List.setIfInBounds_toArray, List.set_cons_zero, List.set_cons_succ]
          have N := P0_10.out wx.heap.size _ hH (by simp; omega) (FourW.new _ _ _ _ _ rfl) hz
          rw [hG.out, hA] at N
          (try simp only [Act.put, List.setIfInBounds_toArray, List.set_cons_zero, List.set_cons_succ] at N)
          exact N
        refine AllReadyH.cons rfl (fun K hK => ?_) ?_
        · try simp only [List.getElem_toArray, List.getElem_cons_zero, List.getElem_cons_succ]
          go_simp
          refine hK.out _ _ (S8_alloc _ hHeld) (fun hH => ?_)
          clear hK K
          try simp only [List.getElem_toArray, List.getElem_cons_zero, List.getElem_cons_succ, Act.put, List.setIfInBounds_toArray, List.set_cons_zero, List.set_cons_succ]
          have N := P0_01.out wx.heap.size _ hH (by simp; omega) (FourW.new _ _ _ _ _ rfl) hz
          rw [hG.out, hA] at N
          (try simp only [Act.put, List.setIfInBounds_toArray, List.set_cons_zero, List.set_cons_succ] at N)
          exact N
        exact AllReadyH.nil
      exact P0_00.out _ (S8_drew hD2) (Nat.le_refl _)
    case rest =>
      obtain ⟨gf, gg, rfl, rfl, hF, hG, hS⟩ := hcut
      have hD3 : wc.drew.cell? ⟨gf, 0, none⟩ = some (.int .i64 f0) ∧ wc.drew.cell? ⟨gf, 1, none⟩ = some (.int .i64 f1) ∧ wc.drew.cell? ⟨gf, 2, none⟩ = some (.int .i64 f2) ∧ wc.drew.cell? ⟨gf, 3, none⟩ = some (.int .i64 f3) ∧ wc.drew.cell? ⟨gg, 0, none⟩ = some (.int .i64 h0) ∧ wc.drew.cell? ⟨gg, 1, none⟩ = some (.int .i64 h1) ∧ wc.drew.cell? ⟨gg, 2, none⟩ = some (.int .i64 h2) ∧ wc.drew.cell? ⟨gg, 3, none⟩ = some (.int .i64 h3) ∧ wc.drew.cell? ⟨gq, 0, none⟩ = some (.int .i64 p0) ∧ wc.drew.cell? ⟨gq, 1, none⟩ = some (.int .i64 p1) ∧ wc.drew.cell? ⟨gx, 0, none⟩ = some (.int .i8 dx) ∧ wc.drew.cell? ⟨gy, 0, none⟩ = some (.int .i8 dy) ∧ Below w.heap.size w wc.drew := ⟨hF.1, hF.2.1, hF.2.2.1, hF.2.2.2, hG.1, hG.2.1, hG.2.2.1, hG.2.2.2, hS.2.2.2.2.1, hS.2.2.2.2.2.1, hS.2.2.2.2.2.2.1, hS.2.2.2.2.2.2.2.1, hS.2.2.2.2.2.2.2.2.drew⟩
      replace HMP : Hid (∀ W : World, (W.cell? ⟨gf, 0, none⟩ = some (.int .i64 f0) ∧ W.cell? ⟨gf, 1, none⟩ = some (.int .i64 f1) ∧ W.cell? ⟨gf, 2, none⟩ = some (.int .i64 f2) ∧ W.cell? ⟨gf, 3, none⟩ = some (.int .i64 f3) ∧ W.cell? ⟨gg, 0, none⟩ = some (.int .i64 h0) ∧ W.cell? ⟨gg, 1, none⟩ = some (.int .i64 h1) ∧ W.cell? ⟨gg, 2, none⟩ = some (.int .i64 h2) ∧ W.cell? ⟨gg, 3, none⟩ = some (.int .i64 h3) ∧ W.cell? ⟨gq, 0, none⟩ = some (.int .i64 p0) ∧ W.cell? ⟨gq, 1, none⟩ = some (.int .i64 p1) ∧ W.cell? ⟨gx, 0, none⟩ = some (.int .i8 dx) ∧ W.cell? ⟨gy, 0, none⟩ = some (.int .i8 dy) ∧ Below w.heap.size w W) → Calls Try.prog 13 #[.agg #[.int .i64 p0, .int .i64 p1], .pointer (some ⟨gx, 0, none⟩), .pointer (some ⟨gy, 0, none⟩)] W fun e w' => e = .returned (.agg #[.int .i64 m0, .int .i64 m1]) ∧ Below W.heap.size W w') := Lib.hid fun W h => (HMP gx gy).out W h.2.2.2.2.2.2.2.2.2.2.1 h.2.2.2.2.2.2.2.2.2.2.2.1
      clear hD2 hF hG hS HMA HMB HNA HNB hKb hw
      go_wp2_with fail
      go_region_held3 (fun wx => wx.cell? ⟨gf, 0, none⟩ = some (.int .i64 f0) ∧ wx.cell? ⟨gf, 1, none⟩ = some (.int .i64 f1) ∧ wx.cell? ⟨gf, 2, none⟩ = some (.int .i64 f2) ∧ wx.cell? ⟨gf, 3, none⟩ = some (.int .i64 f3) ∧ wx.cell? ⟨gg, 0, none⟩ = some (.int .i64 h0) ∧ wx.cell? ⟨gg, 1, none⟩ = some (.int .i64 h1) ∧ wx.cell? ⟨gg, 2, none⟩ = some (.int .i64 h2) ∧ wx.cell? ⟨gg, 3, none⟩ = some (.int .i64 h3) ∧ wx.cell? ⟨gq, 0, none⟩ = some (.int .i64 p0) ∧ wx.cell? ⟨gq, 1, none⟩ = some (.int .i64 p1) ∧ wx.cell? ⟨gx, 0, none⟩ = some (.int .i8 dx) ∧ wx.cell? ⟨gy, 0, none⟩ = some (.int .i8 dy) ∧ Below w.heap.size w wx)
        (with_reducible assumption)
        (first
          | (go_at_call 13; (with_reducible refine (HMP.out _ (by with_reducible assumption)).mono ?_); rintro e wn ⟨rfl, hb⟩; have hS : wn.cell? ⟨gf, 0, none⟩ = some (.int .i64 f0) ∧ wn.cell? ⟨gf, 1, none⟩ = some (.int .i64 f1) ∧ wn.cell? ⟨gf, 2, none⟩ = some (.int .i64 f2) ∧ wn.cell? ⟨gf, 3, none⟩ = some (.int .i64 f3) ∧ wn.cell? ⟨gg, 0, none⟩ = some (.int .i64 h0) ∧ wn.cell? ⟨gg, 1, none⟩ = some (.int .i64 h1) ∧ wn.cell? ⟨gg, 2, none⟩ = some (.int .i64 h2) ∧ wn.cell? ⟨gg, 3, none⟩ = some (.int .i64 h3) ∧ wn.cell? ⟨gq, 0, none⟩ = some (.int .i64 p0) ∧ wn.cell? ⟨gq, 1, none⟩ = some (.int .i64 p1) ∧ wn.cell? ⟨gx, 0, none⟩ = some (.int .i8 dx) ∧ wn.cell? ⟨gy, 0, none⟩ = some (.int .i8 dy) ∧ Below w.heap.size w wn := S12_call hb (by with_reducible assumption))
          | (go_at_call 14; (with_reducible refine (HNP.out _).mono ?_); rintro e wn ⟨rfl, hb⟩; have hS : wn.cell? ⟨gf, 0, none⟩ = some (.int .i64 f0) ∧ wn.cell? ⟨gf, 1, none⟩ = some (.int .i64 f1) ∧ wn.cell? ⟨gf, 2, none⟩ = some (.int .i64 f2) ∧ wn.cell? ⟨gf, 3, none⟩ = some (.int .i64 f3) ∧ wn.cell? ⟨gg, 0, none⟩ = some (.int .i64 h0) ∧ wn.cell? ⟨gg, 1, none⟩ = some (.int .i64 h1) ∧ wn.cell? ⟨gg, 2, none⟩ = some (.int .i64 h2) ∧ wn.cell? ⟨gg, 3, none⟩ = some (.int .i64 h3) ∧ wn.cell? ⟨gq, 0, none⟩ = some (.int .i64 p0) ∧ wn.cell? ⟨gq, 1, none⟩ = some (.int .i64 p1) ∧ wn.cell? ⟨gx, 0, none⟩ = some (.int .i8 dx) ∧ wn.cell? ⟨gy, 0, none⟩ = some (.int .i8 dy) ∧ Below w.heap.size w wn := S12_call hb (by with_reducible assumption))
          | (go_at_call 8; (with_reducible refine (HQf.out _).mono ?_); rintro e wn ⟨rfl, hb⟩; have hS : wn.cell? ⟨gf, 0, none⟩ = some (.int .i64 f0) ∧ wn.cell? ⟨gf, 1, none⟩ = some (.int .i64 f1) ∧ wn.cell? ⟨gf, 2, none⟩ = some (.int .i64 f2) ∧ wn.cell? ⟨gf, 3, none⟩ = some (.int .i64 f3) ∧ wn.cell? ⟨gg, 0, none⟩ = some (.int .i64 h0) ∧ wn.cell? ⟨gg, 1, none⟩ = some (.int .i64 h1) ∧ wn.cell? ⟨gg, 2, none⟩ = some (.int .i64 h2) ∧ wn.cell? ⟨gg, 3, none⟩ = some (.int .i64 h3) ∧ wn.cell? ⟨gq, 0, none⟩ = some (.int .i64 p0) ∧ wn.cell? ⟨gq, 1, none⟩ = some (.int .i64 p1) ∧ wn.cell? ⟨gx, 0, none⟩ = some (.int .i8 dx) ∧ wn.cell? ⟨gy, 0, none⟩ = some (.int .i8 dy) ∧ Below w.heap.size w wn := S12_call hb (by with_reducible assumption))
          | (go_at_call 8; (with_reducible refine (HQg.out _).mono ?_); rintro e wn ⟨rfl, hb⟩; have hS : wn.cell? ⟨gf, 0, none⟩ = some (.int .i64 f0) ∧ wn.cell? ⟨gf, 1, none⟩ = some (.int .i64 f1) ∧ wn.cell? ⟨gf, 2, none⟩ = some (.int .i64 f2) ∧ wn.cell? ⟨gf, 3, none⟩ = some (.int .i64 f3) ∧ wn.cell? ⟨gg, 0, none⟩ = some (.int .i64 h0) ∧ wn.cell? ⟨gg, 1, none⟩ = some (.int .i64 h1) ∧ wn.cell? ⟨gg, 2, none⟩ = some (.int .i64 h2) ∧ wn.cell? ⟨gg, 3, none⟩ = some (.int .i64 h3) ∧ wn.cell? ⟨gq, 0, none⟩ = some (.int .i64 p0) ∧ wn.cell? ⟨gq, 1, none⟩ = some (.int .i64 p1) ∧ wn.cell? ⟨gx, 0, none⟩ = some (.int .i8 dx) ∧ wn.cell? ⟨gy, 0, none⟩ = some (.int .i8 dy) ∧ Below w.heap.size w wn := S12_call hb (by with_reducible assumption))
          | (go_at_call 15; (with_reducible refine (HLf.out _).mono ?_); rintro e wn ⟨rfl, hb⟩; have hS : wn.cell? ⟨gf, 0, none⟩ = some (.int .i64 f0) ∧ wn.cell? ⟨gf, 1, none⟩ = some (.int .i64 f1) ∧ wn.cell? ⟨gf, 2, none⟩ = some (.int .i64 f2) ∧ wn.cell? ⟨gf, 3, none⟩ = some (.int .i64 f3) ∧ wn.cell? ⟨gg, 0, none⟩ = some (.int .i64 h0) ∧ wn.cell? ⟨gg, 1, none⟩ = some (.int .i64 h1) ∧ wn.cell? ⟨gg, 2, none⟩ = some (.int .i64 h2) ∧ wn.cell? ⟨gg, 3, none⟩ = some (.int .i64 h3) ∧ wn.cell? ⟨gq, 0, none⟩ = some (.int .i64 p0) ∧ wn.cell? ⟨gq, 1, none⟩ = some (.int .i64 p1) ∧ wn.cell? ⟨gx, 0, none⟩ = some (.int .i8 dx) ∧ wn.cell? ⟨gy, 0, none⟩ = some (.int .i8 dy) ∧ Below w.heap.size w wn := S12_call hb (by with_reducible assumption))
          | (go_at_call 15; (with_reducible refine (HLg.out _).mono ?_); rintro e wn ⟨rfl, hb⟩; have hS : wn.cell? ⟨gf, 0, none⟩ = some (.int .i64 f0) ∧ wn.cell? ⟨gf, 1, none⟩ = some (.int .i64 f1) ∧ wn.cell? ⟨gf, 2, none⟩ = some (.int .i64 f2) ∧ wn.cell? ⟨gf, 3, none⟩ = some (.int .i64 f3) ∧ wn.cell? ⟨gg, 0, none⟩ = some (.int .i64 h0) ∧ wn.cell? ⟨gg, 1, none⟩ = some (.int .i64 h1) ∧ wn.cell? ⟨gg, 2, none⟩ = some (.int .i64 h2) ∧ wn.cell? ⟨gg, 3, none⟩ = some (.int .i64 h3) ∧ wn.cell? ⟨gq, 0, none⟩ = some (.int .i64 p0) ∧ wn.cell? ⟨gq, 1, none⟩ = some (.int .i64 p1) ∧ wn.cell? ⟨gx, 0, none⟩ = some (.int .i8 dx) ∧ wn.cell? ⟨gy, 0, none⟩ = some (.int .i8 dy) ∧ Below w.heap.size w wn := S12_call hb (by with_reducible assumption))
          | (go_at_call 16; (with_reducible refine (HSf.out _).mono ?_); rintro e wn ⟨rfl, hb⟩; have hS : wn.cell? ⟨gf, 0, none⟩ = some (.int .i64 f0) ∧ wn.cell? ⟨gf, 1, none⟩ = some (.int .i64 f1) ∧ wn.cell? ⟨gf, 2, none⟩ = some (.int .i64 f2) ∧ wn.cell? ⟨gf, 3, none⟩ = some (.int .i64 f3) ∧ wn.cell? ⟨gg, 0, none⟩ = some (.int .i64 h0) ∧ wn.cell? ⟨gg, 1, none⟩ = some (.int .i64 h1) ∧ wn.cell? ⟨gg, 2, none⟩ = some (.int .i64 h2) ∧ wn.cell? ⟨gg, 3, none⟩ = some (.int .i64 h3) ∧ wn.cell? ⟨gq, 0, none⟩ = some (.int .i64 p0) ∧ wn.cell? ⟨gq, 1, none⟩ = some (.int .i64 p1) ∧ wn.cell? ⟨gx, 0, none⟩ = some (.int .i8 dx) ∧ wn.cell? ⟨gy, 0, none⟩ = some (.int .i8 dy) ∧ Below w.heap.size w wn := S12_call hb (by with_reducible assumption))
          | (go_at_call 16; (with_reducible refine (HSg.out _).mono ?_); rintro e wn ⟨rfl, hb⟩; have hS : wn.cell? ⟨gf, 0, none⟩ = some (.int .i64 f0) ∧ wn.cell? ⟨gf, 1, none⟩ = some (.int .i64 f1) ∧ wn.cell? ⟨gf, 2, none⟩ = some (.int .i64 f2) ∧ wn.cell? ⟨gf, 3, none⟩ = some (.int .i64 f3) ∧ wn.cell? ⟨gg, 0, none⟩ = some (.int .i64 h0) ∧ wn.cell? ⟨gg, 1, none⟩ = some (.int .i64 h1) ∧ wn.cell? ⟨gg, 2, none⟩ = some (.int .i64 h2) ∧ wn.cell? ⟨gg, 3, none⟩ = some (.int .i64 h3) ∧ wn.cell? ⟨gq, 0, none⟩ = some (.int .i64 p0) ∧ wn.cell? ⟨gq, 1, none⟩ = some (.int .i64 p1) ∧ wn.cell? ⟨gx, 0, none⟩ = some (.int .i8 dx) ∧ wn.cell? ⟨gy, 0, none⟩ = some (.int .i8 dy) ∧ Below w.heap.size w wn := S12_call hb (by with_reducible assumption)))
      have BF := Lib.hid hS.2.2.2.2.2.2.2.2.2.2.2.2
      go_wp2_with fail
      go_ret
      exact ⟨rfl, BF.out⟩

end Go.Proofs.Ytdbmbppmgeabkaa
