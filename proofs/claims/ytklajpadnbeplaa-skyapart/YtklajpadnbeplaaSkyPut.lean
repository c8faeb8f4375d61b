/-
  Heights under a rectangle that is being laid, place by place; a skyline behind stores elsewhere (no claim is made here).
-/
import Derived.Test.YtklajpadnbeplaaSky5
namespace Go.Proofs.Ytklajpadnbeplaa
open Go.RowKit

theorem putL_zero (l : List Nat) (X v : Nat) : putL l X 0 v = l := list_of_hgt (by rw [putL_length]) (fun x hx => by rw [putL_length] at hx; rw [putL_at _ _ _ _ _ hx, if_neg (by omega)])
theorem putL_next (l : List Nat) (X k v : Nat) (h : X + k < l.length) : (putL l X k v).set (X + k) v = putL l X (k + 1) v := by
  refine list_of_hgt (by simp [putL_length]) (fun x hx => ?_)
  rw [List.length_set, putL_length] at hx
  rw [hgt_set _ _ _ _ (by rw [putL_length]; exact h), putL_at _ _ _ _ _ hx, putL_at _ _ _ _ _ hx]
  by_cases h1 : x = X + k
  · rw [if_pos h1, if_pos (by omega)]
  · rw [if_neg h1]
    by_cases h2 : X ≤ x ∧ x < X + k
    · rw [if_pos h2, if_pos (by omega)]
    · rw [if_neg h2, if_neg (by omega)]

theorem hgt_le {l : List Nat} {M : Nat} (h : ∀ y ∈ l, y ≤ M) (x : Nat) : hgt l x ≤ M := by
  by_cases hx : x < l.length
  · exact h _ (List.mem_of_getElem? (at_hgt hx))
  · rw [hgt_out (by omega)]; omega
theorem putL_le {l : List Nat} {M X W v : Nat} (h : ∀ y ∈ l, y ≤ M) (hv : v ≤ M) : ∀ y ∈ putL l X W v, y ≤ M := by
  intro y hy
  unfold putL at hy
  obtain ⟨x, _, rfl⟩ := List.mem_map.1 hy
  split
  · exact hv
  · exact hgt_le h x
theorem SkyS.but14 {R : World → (Nat → Prop) → Value → List Nat → Nat → Prop} (K : SkyOK R) {B H g : Nat} {w w' : World} {v : Value} {l : List Nat} {E : Nat → Prop} (h : SkyS R B w v l H E) (hb : But (fun q => q = g) w w') (hE : E g) : SkyS R B w' v l H E := by
  obtain ⟨ks, hR, hk⟩ := h
  exact ⟨ks, K.keep hR hb.size (fun q hq => hb.block q (K.lt hR q hq) (fun e => (hk q hq).2 (e ▸ hE))), hk⟩

end Go.Proofs.Ytklajpadnbeplaa
