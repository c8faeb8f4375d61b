/-
  A row of pieces that a law cuts piece by piece (no claim is made here).
-/
import Derived.Test.YtnejdngeeppphaaFlt6
import Derived.Test.YtnejdngeeppphaaAppNil
namespace Go.Proofs.Ytnejdngeeppphaa
open Go.RowKit

theorem srd_take7 {w : World} {A : Option Addr} {n cap m : Nat} {l : List Sg} (h : SRd w (.slice A n cap) l) (hm : m ≤ n) : SRd w (.slice A m cap) (l.take m) := by
  obtain ⟨A', cap', e, h1, h3⟩ := h
  simp only [Value.slice.injEq] at e
  obtain ⟨rfl, rfl, rfl⟩ := e
  have hl : (l.take m).length = m := by rw [List.length_take]; omega
  refine ⟨A, cap, by rw [hl], by rw [hl]; omega, fun i hi => ?_⟩
  rw [hl] at hi
  obtain ⟨a, ha, hlt, hs⟩ := h3 i (by omega)
  refine ⟨a, ha, hlt, ?_⟩
  rw [List.getElem_take]
  exact hs
theorem srd_news {w : World} {a : Addr} {n cap : Nat} {l : List Sg} (h : SRd w (.slice (some a) n cap) l) : ∀ j u, (scells l)[j]? = some u → w.cell? (a.add j) = some u := by
  intro j u hu
  obtain ⟨A', cap', e, _, h3⟩ := h
  simp only [Value.slice.injEq] at e
  obtain ⟨rfl, -, -⟩ := e
  have hj : j < (scells l).length := (List.getElem?_eq_some_iff.1 hu).1
  rw [scells_length] at hj
  have hi : j / 7 < l.length := Nat.div_lt_of_lt_mul (by rw [Nat.mul_comm]; exact hj)
  obtain ⟨b, hb, _, s0, s1, s2, s3, s4, s5, s6⟩ := h3 (j / 7) hi
  cases hb
  have hr : j % 7 < 7 := Nat.mod_lt _ (by omega)
  have ej : j / 7 * 7 + j % 7 = j := by omega
  rw [← ej, scells_at l _ _ hi hr] at hu
  rw [← ej]
  generalize j / 7 = i at *
  obtain h | h | h | h | h | h | h : j % 7 = 0 ∨ j % 7 = 1 ∨ j % 7 = 2 ∨ j % 7 = 3 ∨ j % 7 = 4 ∨ j % 7 = 5 ∨ j % 7 = 6 := by omega
  all_goals
    rw [h] at hu ⊢
    simp [scell] at hu
    subst hu
    assumption
theorem scells_one (l : List Sg) : ∀ u ∈ scells l, u.oneCell' = true := by
  intro u hu
  unfold scells at hu
  rw [List.mem_flatMap] at hu
  obtain ⟨s, _, hs⟩ := hu
  exact scell_one s u hs

/-- A row of pieces, one of which is being cut. -/
def KSt (wr : World) (base g m cap k : Nat) (l : List Sg) (Q : List Value) : Prop :=
  wr.ownsRow base 25 7 (.slice (some ⟨g, 0, none⟩) m cap) m (scells ((l.take k).map cutS) ++ (Q ++ scells (l.drop (k + 1))))
theorem set_mid {P Q R : List Value} {i : Nat} {x : Value} (h : i < Q.length) : (P ++ (Q ++ R)).set (P.length + i) x = P ++ (Q.set i x ++ R) := by
  rw [List.set_append_right _ _ (by omega), Nat.add_sub_cancel_left, List.set_append_left _ _ h]
theorem get_mid {P Q R : List Value} {i : Nat} (h : i < Q.length) : (P ++ (Q ++ R))[P.length + i]? = Q[i]? := by
  rw [List.getElem?_append_right (by omega), Nat.add_sub_cancel_left, List.getElem?_append_left h]
theorem pre_len (l : List Sg) (k : Nat) (h : k ≤ l.length) : (scells ((l.take k).map cutS)).length = k * 7 := by
  rw [scells_length, List.length_map, List.length_take]
  rw [Nat.min_eq_left h]
theorem KSt.cell {wr : World} {base g m cap k : Nat} {l : List Sg} {Q : List Value} (h : KSt wr base g m cap k l Q) (hm : l.length = m) (hk : k < m) (hq : Q.length = 7) (i : Nat) (hi : i < 7) {v : Value} (hv : Q[i]? = some v) : wr.cell? ⟨g, k * 7 + i, none⟩ = some v := by
  rw [World.ownsRow.cellAt h (k * 7 + i) (by omega), ← pre_len l k (by omega), get_mid (by omega)]
  exact hv
theorem KSt.set2 {wr : World} {base g m cap k : Nat} {l : List Sg} {Q : List Value} (h : KSt wr base g m cap k l Q) (hm : l.length = m) (hk : k < m) (hq : Q.length = 7) (i : Nat) (hi : i + 1 < 7) (x y : Value) :
    KSt ((wr.setCell ⟨g, k * 7 + i, none⟩ x).setCell ⟨g, k * 7 + (i + 1), none⟩ y).drew base g m cap k l ((Q.set i x).set (i + 1) y) := by
  have h1 := (World.ownsRow.stored h (k * 7 + i) x).1
  have e1 : (scells ((l.take k).map cutS) ++ (Q ++ scells (l.drop (k + 1)))).set (k * 7 + i) x = scells ((l.take k).map cutS) ++ (Q.set i x ++ scells (l.drop (k + 1))) := by rw [← pre_len l k (by omega)]; exact set_mid (by omega)
  rw [e1] at h1
  have h2 := (World.ownsRow.stored h1 (k * 7 + (i + 1)) y).1
  have e2 : (scells ((l.take k).map cutS) ++ (Q.set i x ++ scells (l.drop (k + 1)))).set (k * 7 + (i + 1)) y = scells ((l.take k).map cutS) ++ ((Q.set i x).set (i + 1) y ++ scells (l.drop (k + 1))) := by rw [← pre_len l k (by omega)]; exact set_mid (by simp; omega)
  rw [e2] at h2
  exact own_blocks h2 (fun _ _ => rfl)
theorem KSt.open {wr : World} {base g m cap k : Nat} {l : List Sg} {s : Sg} (h : SRow wr base (.slice (some ⟨g, 0, none⟩) m cap) ((l.take k).map cutS ++ l.drop k)) (hm : l.length = m) (hs : l[k]? = some s) : KSt wr base g m cap k l (scell s) := by
  obtain ⟨hk, rfl⟩ := List.getElem?_eq_some_iff.1 hs
  have e : scells ((l.take k).map cutS ++ l.drop k) = scells ((l.take k).map cutS) ++ (scell (l[k]) ++ scells (l.drop (k + 1))) := by
    rw [List.drop_eq_getElem_cons hk]
    unfold scells
    rw [List.flatMap_append, List.flatMap_cons]
  have hlen : ((l.take k).map cutS ++ l.drop k).length = m := by rw [List.length_append, List.length_map, List.length_take, List.length_drop]; omega
  have h1 := SRow.own h hlen
  rw [e] at h1
  exact h1
theorem KSt.close {wr : World} {base g m cap k : Nat} {l : List Sg} {s : Sg} (h : KSt wr base g m cap k l (scell (cutS s))) (hm : l.length = m) (hs : l[k]? = some s) : SRow wr base (.slice (some ⟨g, 0, none⟩) m cap) ((l.take (k + 1)).map cutS ++ l.drop (k + 1)) := by
  obtain ⟨hk, rfl⟩ := List.getElem?_eq_some_iff.1 hs
  have e : scells ((l.take (k + 1)).map cutS ++ l.drop (k + 1)) = scells ((l.take k).map cutS) ++ (scell (cutS (l[k])) ++ scells (l.drop (k + 1))) := by
    rw [List.take_succ_eq_append_getElem hk, List.map_append]
    unfold scells
    rw [List.flatMap_append, List.flatMap_append, List.append_assoc]
    simp only [List.map_cons, List.map_nil, List.flatMap_cons, List.flatMap_nil, List.append_nil]
  have hlen : ((l.take (k + 1)).map cutS ++ l.drop (k + 1)).length = m := by rw [List.length_append, List.length_map, List.length_take, List.length_drop]; omega
  unfold SRow
  rw [hlen, e]
  exact h

end Go.Proofs.Ytnejdngeeppphaa
