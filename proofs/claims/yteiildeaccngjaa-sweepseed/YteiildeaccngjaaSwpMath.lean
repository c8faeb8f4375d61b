/-
  The numbers of layer 13 (no claim is made here).
-/
import Derived.Test.YteiildeaccngjaaMnum
namespace Go.Proofs.Yteiildeaccngjaa

/-- What a texel's knowledge of an edge is worth: the square of its distance. -/
def sqK (es : List Ed) (p : Pt) (e : Int) : Int × Int := sqF (es.getD e.toNat edZ) p
def knS (st : List Int) (n : Nat) : Int := st.getD n (-1)
/-- P13.1: an edge is offered to the n-th texel. -/
def offerS (es : List Ed) (P : Nat → Pt) (st : List Int) (n : Nat) (e : Int) : List Int :=
  if 0 ≤ e ∧ (knS st n < 0 ∨ (sqK es (P n) e).1 * (sqK es (P n) (knS st n)).2 < (sqK es (P n) (knS st n)).1 * (sqK es (P n) e).2) then st.set n e else st
theorem offer_len (es : List Ed) (P : Nat → Pt) (st : List Int) (n : Nat) (e : Int) : (offerS es P st n e).length = st.length := by unfold offerS; split <;> simp
theorem kn_set {st : List Int} {n : Nat} {e : Int} (hn : n < st.length) (m : Nat) : knS (st.set n e) m = if m = n then e else knS st m := by
  unfold knS
  rw [List.getD_eq_getElem?_getD, List.getD_eq_getElem?_getD, List.getElem?_set]
  by_cases h : m = n
  · subst h; simp [hn]
  · rw [if_neg (fun e => h e.symm), if_neg h]
theorem offer_kn (es : List Ed) (P : Nat → Pt) {st : List Int} {n : Nat} (e : Int) (hn : n < st.length) (m : Nat) :
    knS (offerS es P st n e) m = if m = n ∧ 0 ≤ e ∧ (knS st n < 0 ∨ (sqK es (P n) e).1 * (sqK es (P n) (knS st n)).2 < (sqK es (P n) (knS st n)).1 * (sqK es (P n) e).2) then e else knS st m := by
  unfold offerS
  by_cases h : 0 ≤ e ∧ (knS st n < 0 ∨ (sqK es (P n) e).1 * (sqK es (P n) (knS st n)).2 < (sqK es (P n) (knS st n)).1 * (sqK es (P n) e).2)
  · rw [if_pos h, kn_set hn]
    by_cases hm : m = n
    · rw [if_pos hm, if_pos ⟨hm, h⟩]
    · rw [if_neg hm, if_neg (fun q => hm q.1)]
  · rw [if_neg h, if_neg (fun q => h q.2)]
/-- Knowing b is no worse than knowing a. -/
def NoW (es : List Ed) (p : Pt) (a b : Int) : Prop := a < 0 ∨ 0 ≤ b ∧ leF (sqK es p b) (sqK es p a)
theorem sqK_pos (es : List Ed) (p : Pt) (e : Int) : 0 ≤ (sqK es p e).1 ∧ 0 < (sqK es p e).2 := by
  unfold sqK sqF
  exact ⟨(square_raw8 _ _ _ _).2.1, (square_raw8 _ _ _ _).2.2.2.1⟩
theorem NoW.refl (es : List Ed) (p : Pt) (a : Int) : NoW es p a a := by
  by_cases h : a < 0
  · exact .inl h
  · exact .inr ⟨by omega, leF_refl _⟩
theorem NoW.trans {es : List Ed} {p : Pt} {a b c : Int} (h : NoW es p a b) (k : NoW es p b c) : NoW es p a c := by
  rcases h with h | ⟨h1, h2⟩
  · exact .inl h
  · rcases k with k | ⟨k1, k2⟩
    · omega
    · exact .inr ⟨k1, leF_trans (sqK_pos es p c).2 (sqK_pos es p b).2 (sqK_pos es p a).2 k2 h2⟩
theorem NoW.know {es : List Ed} {p : Pt} {a b : Int} (h : NoW es p a b) (ha : 0 ≤ a) : 0 ≤ b := by
  rcases h with h | h
  · omega
  · exact h.1
/-- What is offered makes nothing worse; and the texel then knows nothing worse than what was offered. -/
theorem offer_now (es : List Ed) (P : Nat → Pt) {st : List Int} {n : Nat} (e : Int) (hn : n < st.length) (m : Nat) : NoW es (P m) (knS st m) (knS (offerS es P st n e) m) := by
  rw [offer_kn es P e hn m]
  split
  · rename_i h
    obtain ⟨rfl, h1, h2⟩ := h
    rcases h2 with h2 | h2
    · exact .inl h2
    · exact .inr ⟨h1, by unfold leF; omega⟩
  · exact NoW.refl _ _ _
theorem offer_got (es : List Ed) (P : Nat → Pt) {st : List Int} {n : Nat} (e : Int) (hn : n < st.length) : NoW es (P n) e (knS (offerS es P st n e) n) := by
  rw [offer_kn es P e hn n]
  by_cases he : e < 0
  · exact .inl he
  · split
    · exact NoW.refl _ _ _
    · rename_i h
      by_cases hk : knS st n < 0
      · exact absurd ⟨rfl, by omega, .inl hk⟩ h
      · refine .inr ⟨by omega, ?_⟩
        unfold leF
        by_cases hl : (sqK es (P n) e).1 * (sqK es (P n) (knS st n)).2 < (sqK es (P n) (knS st n)).1 * (sqK es (P n) e).2
        · exact absurd ⟨rfl, by omega, .inr hl⟩ h
        · omega
theorem offer_in (es : List Ed) (P : Nat → Pt) {st : List Int} {n : Nat} {e M : Int} (hn : n < st.length) (he : -1 ≤ e ∧ e < M) (h : ∀ m, -1 ≤ knS st m ∧ knS st m < M) (m : Nat) : -1 ≤ knS (offerS es P st n e) m ∧ knS (offerS es P st n e) m < M := by
  rw [offer_kn es P e hn m]
  split
  · exact he
  · exact h m

/-- The place of a point among so many texels. -/
def plS (n from' : Int) (many : Nat) (p : Int) : Nat := (max 0 (min ((many : Int) - 1) ((n - 32 * from') / (32 * p)))).toNat
theorem plS_lt {n f p : Int} {m : Nat} (hm : 0 < m) : plS n f m p < m := by unfold plS; omega
/-- The three points of an edge. -/
def ptE (e : Ed) (j : Nat) : Pt := if j = 0 then e.a else if j = 1 then ⟨(e.a.x + e.b.x).tdiv 2, (e.a.y + e.b.y).tdiv 2⟩ else e.b
def cellE (x y p : Int) (u v : Nat) (e : Ed) (j : Nat) : Nat := plS (ptE e j).y y v p * u + plS (ptE e j).x x u p
theorem cellE_lt {x y p : Int} {u v : Nat} (hu : 0 < u) (hv : 0 < v) (e : Ed) (j : Nat) : cellE x y p u v e j < u * v := by
  unfold cellE
  have h1 := plS_lt (n := (ptE e j).y) (f := y) (p := p) hv
  have h2 := plS_lt (n := (ptE e j).x) (f := x) (p := p) hu
  have := Nat.mul_le_mul_right u (show plS (ptE e j).y y v p + 1 ≤ v by omega)
  rw [Nat.add_mul, Nat.mul_comm v u] at this
  omega
/-- The step to one of four neighbours. -/
def wx (d : Int) (j : Nat) : Int := if j = 1 then 0 else if j = 3 then d else -d
def wy (d : Int) (j : Nat) : Int := if j = 0 then 0 else -d
def nbr (u v : Nat) (d : Int) (n j : Nat) : Option Nat :=
  if 0 ≤ ((n % u : Nat) : Int) + wx d j ∧ 0 ≤ ((n / u : Nat) : Int) + wy d j ∧ ((n % u : Nat) : Int) + wx d j < u ∧ ((n / u : Nat) : Int) + wy d j < v then some ((((n / u : Nat) : Int) + wy d j).toNat * u + (((n % u : Nat) : Int) + wx d j).toNat) else none
theorem nbr_lt {u v : Nat} {d : Int} {n j m : Nat} (h : nbr u v d n j = some m) : m < u * v := by
  unfold nbr at h
  split at h
  · rename_i hc
    obtain ⟨h1, h2, h3, h4⟩ := hc
    simp only [Option.some.injEq] at h
    rw [← h]
    have := Nat.mul_le_mul_right u (show (((n / u : Nat) : Int) + wy d j).toNat + 1 ≤ v by omega)
    rw [Nat.add_mul, Nat.mul_comm v u] at this
    omega
  · cases h

section
variable (es : List Ed) (x y p : Int) (u v : Nat)
/-- The middle of the n-th texel. -/
def cenS (n : Nat) : Pt := midP x y p (n % u : Nat) (n / u : Nat)
/-- Step by step: j points of an edge; r edges; j neighbours of a texel; n texels of a pass. -/
def seed3 (st : List Int) (r : Nat) : Nat → List Int
  | 0 => st
  | j + 1 => offerS es (cenS x y p u) (seed3 st r j) (cellE x y p u v (es.getD r edZ) j) r
def seedTo : Nat → List Int
  | 0 => List.replicate (u * v) (-1)
  | r + 1 => seed3 es x y p u v (seedTo r) r 3
def near4 (d : Int) (st : List Int) (n : Nat) : Nat → List Int
  | 0 => st
  | j + 1 => match nbr u v d n j with
    | some m => offerS es (cenS x y p u) (near4 d st n j) n (knS (near4 d st n j) m)
    | none => near4 d st n j
def texP (d : Int) (n : Nat) : Nat := if d = 1 then n else u * v - 1 - n
def passTo (d : Int) (st : List Int) : Nat → List Int
  | 0 => st
  | n + 1 => near4 es x y p u v d (passTo d st n) (texP u v d n) 4
/-- P13.1. -/
def knownL : List Int := passTo es x y p u v (-1) (passTo es x y p u v 1 (seedTo es x y p u v es.length) (u * v)) (u * v)

theorem seed3_len (st : List Int) (r : Nat) : ∀ j, (seed3 es x y p u v st r j).length = st.length
  | 0 => rfl
  | j + 1 => by unfold seed3; rw [offer_len, seed3_len st r j]
theorem seedTo_len : ∀ r, (seedTo es x y p u v r).length = u * v
  | 0 => by simp [seedTo]
  | r + 1 => by unfold seedTo; rw [seed3_len, seedTo_len r]
theorem near4_len (d : Int) (st : List Int) (n : Nat) : ∀ j, (near4 es x y p u v d st n j).length = st.length
  | 0 => rfl
  | j + 1 => by
    unfold near4
    split
    · rw [offer_len, near4_len d st n j]
    · exact near4_len d st n j
theorem passTo_len (d : Int) (st : List Int) : ∀ n, (passTo es x y p u v d st n).length = st.length
  | 0 => rfl
  | n + 1 => by unfold passTo; rw [near4_len, passTo_len d st n]
theorem knownL_len : (knownL es x y p u v).length = u * v := by unfold knownL; rw [passTo_len, passTo_len, seedTo_len]

/-- Nothing is ever made worse. -/
theorem seed3_now (hu : 0 < u) (hv : 0 < v) (st : List Int) (hl : st.length = u * v) (r m : Nat) : ∀ j, NoW es (cenS x y p u m) (knS st m) (knS (seed3 es x y p u v st r j) m)
  | 0 => .refl _ _ _
  | j + 1 => by
    unfold seed3
    exact (seed3_now hu hv st hl r m j).trans (offer_now es (cenS x y p u) r (by rw [seed3_len, hl]; exact cellE_lt hu hv _ _) m)
theorem seedTo_now (hu : 0 < u) (hv : 0 < v) (r m : Nat) : ∀ k, NoW es (cenS x y p u m) (knS (seedTo es x y p u v r) m) (knS (seedTo es x y p u v (r + k)) m)
  | 0 => .refl _ _ _
  | k + 1 => by
    rw [← Nat.add_assoc]
    exact (seedTo_now hu hv r m k).trans (seed3_now es x y p u v hu hv _ (seedTo_len es x y p u v _) _ m 3)
theorem near4_now (d : Int) (st : List Int) (hl : st.length = u * v) (n m : Nat) (hn : n < u * v) (i : Nat) : ∀ k, NoW es (cenS x y p u m) (knS (near4 es x y p u v d st n i) m) (knS (near4 es x y p u v d st n (i + k)) m)
  | 0 => .refl _ _ _
  | k + 1 => by
    refine (near4_now d st hl n m hn i k).trans ?_
    rw [← Nat.add_assoc]
    rw [show near4 es x y p u v d st n (i + k + 1) = (match nbr u v d n (i + k) with
      | some m => offerS es (cenS x y p u) (near4 es x y p u v d st n (i + k)) n (knS (near4 es x y p u v d st n (i + k)) m)
      | none => near4 es x y p u v d st n (i + k)) from rfl]
    split
    · exact offer_now es (cenS x y p u) _ (by rw [near4_len, hl]; exact hn) m
    · exact .refl _ _ _
theorem texP_lt (d : Int) {k : Nat} (hk : k < u * v) : texP u v d k < u * v := by unfold texP; split <;> omega
theorem passTo_now (d : Int) (st : List Int) (hl : st.length = u * v) (m i : Nat) : ∀ k, i + k ≤ u * v → NoW es (cenS x y p u m) (knS (passTo es x y p u v d st i) m) (knS (passTo es x y p u v d st (i + k)) m)
  | 0, _ => .refl _ _ _
  | k + 1, h => by
    refine (passTo_now d st hl m i k (by omega)).trans ?_
    exact near4_now es x y p u v d _ (by rw [passTo_len, hl]) _ m (texP_lt u v d (k := i + k) (by omega)) 0 4
theorem seed_got (hu : 0 < u) (hv : 0 < v) (r j : Nat) (hj : j < 3) : NoW es (cenS x y p u (cellE x y p u v (es.getD r edZ) j)) r (knS (seedTo es x y p u v (r + 1)) (cellE x y p u v (es.getD r edZ) j)) := by
  have hL := seedTo_len es x y p u v r
  have h1 : NoW es (cenS x y p u (cellE x y p u v (es.getD r edZ) j)) r (knS (seed3 es x y p u v (seedTo es x y p u v r) r (j + 1)) (cellE x y p u v (es.getD r edZ) j)) := by
    unfold seed3
    exact offer_got es (cenS x y p u) r (by rw [seed3_len, hL]; exact cellE_lt hu hv _ _)
  refine h1.trans ?_
  show NoW _ _ _ (knS (seed3 es x y p u v (seedTo es x y p u v r) r 3) _)
  have step := fun i => offer_now es (cenS x y p u) (st := seed3 es x y p u v (seedTo es x y p u v r) r i) (n := cellE x y p u v (es.getD r edZ) i) r (by rw [seed3_len, hL]; exact cellE_lt hu hv _ _) (cellE x y p u v (es.getD r edZ) j)
  rcases (show j = 0 ∨ j = 1 ∨ j = 2 by omega) with rfl | rfl | rfl
  · exact (step 1).trans (step 2)
  · exact step 2
  · exact .refl _ _ _
/-- Only the texel at hand is changed. -/
theorem near4_oth (d : Int) (st : List Int) (hl : st.length = u * v) (n m : Nat) (hn : n < u * v) (hm : m ≠ n) : ∀ j, knS (near4 es x y p u v d st n j) m = knS st m
  | 0 => rfl
  | j + 1 => by
    rw [show near4 es x y p u v d st n (j + 1) = (match nbr u v d n j with
      | some m => offerS es (cenS x y p u) (near4 es x y p u v d st n j) n (knS (near4 es x y p u v d st n j) m)
      | none => near4 es x y p u v d st n j) from rfl]
    split
    · rw [offer_kn es (cenS x y p u) _ (by rw [near4_len, hl]; exact hn), if_neg (fun q => hm q.1)]
      exact near4_oth d st hl n m hn hm j
    · exact near4_oth d st hl n m hn hm j
theorem passTo_oth (d : Int) (st : List Int) (hl : st.length = u * v) (m i : Nat) : ∀ k, i + k ≤ u * v → (∀ q, i ≤ q → q < i + k → m ≠ texP u v d q) → knS (passTo es x y p u v d st (i + k)) m = knS (passTo es x y p u v d st i) m
  | 0, _, _ => rfl
  | k + 1, h, ho => by
    rw [← passTo_oth d st hl m i k (by omega) (fun q h1 h2 => ho q h1 (by omega))]
    exact near4_oth es x y p u v d _ (by rw [passTo_len, hl]) _ m (texP_lt u v d (k := i + k) (by omega)) (ho (i + k) (by omega) (by omega)) 4
/-- A texel knows nothing worse than a neighbour of the pass that came before it. -/
theorem pass_near (d : Int) (st : List Int) (hl : st.length = u * v) (k j m : Nat) (hk : k < u * v) (hj : j < 4) (hm : nbr u v d (texP u v d k) j = some m) (ho : ∀ q, k ≤ q → q < u * v → m ≠ texP u v d q) :
    NoW es (cenS x y p u (texP u v d k)) (knS (passTo es x y p u v d st (u * v)) m) (knS (passTo es x y p u v d st (u * v)) (texP u v d k)) := by
  have h1 := passTo_oth es x y p u v d st hl m k (u * v - k) (by omega) (fun q a b => ho q a (by omega))
  rw [show k + (u * v - k) = u * v by omega] at h1
  rw [h1]
  have hL : (passTo es x y p u v d st k).length = u * v := by rw [passTo_len, hl]
  have hn := texP_lt u v d hk
  have h2 : NoW es (cenS x y p u (texP u v d k)) (knS (passTo es x y p u v d st k) m) (knS (near4 es x y p u v d (passTo es x y p u v d st k) (texP u v d k) (j + 1)) (texP u v d k)) := by
    rw [show near4 es x y p u v d (passTo es x y p u v d st k) (texP u v d k) (j + 1) = (match nbr u v d (texP u v d k) j with
      | some m => offerS es (cenS x y p u) (near4 es x y p u v d (passTo es x y p u v d st k) (texP u v d k) j) (texP u v d k) (knS (near4 es x y p u v d (passTo es x y p u v d st k) (texP u v d k) j) m)
      | none => near4 es x y p u v d (passTo es x y p u v d st k) (texP u v d k) j) from rfl, hm]
    dsimp only
    rw [near4_oth es x y p u v d _ hL _ m hn (ho k (Nat.le_refl _) hk) j]
    exact offer_got es (cenS x y p u) _ (by rw [near4_len, hL]; exact hn)
  refine h2.trans ?_
  have h3 := near4_now es x y p u v d _ hL (texP u v d k) (texP u v d k) hn (j + 1) (4 - (j + 1))
  rw [show j + 1 + (4 - (j + 1)) = 4 by omega] at h3
  refine h3.trans ?_
  have h4 := passTo_now es x y p u v d st hl (texP u v d k) (k + 1) (u * v - (k + 1)) (by omega)
  rw [show k + 1 + (u * v - (k + 1)) = u * v by omega] at h4
  exact h4
end
theorem nbr_of {u v n j a b : Nat} {d : Int} (ha : ((n % u : Nat) : Int) + wx d j = (a : Nat)) (hb : ((n / u : Nat) : Int) + wy d j = (b : Nat)) (h1 : a < u) (h2 : b < v) : nbr u v d n j = some (b * u + a) := by
  unfold nbr
  rw [ha, hb, if_pos (by omega)]
  rfl
/-- The neighbours that the pass has just left: left or right, and below or above. -/
theorem nbr_left {u v n : Nat} (hn : n < u * v) (h : n % u ≠ u - 1) : nbr u v 1 (n + 1) 0 = some n := by
  have hu : 0 < u := by
    rcases Nat.eq_zero_or_pos u with h | h
    · subst h; simp at hn
    · exact h
  have hm := Nat.mod_lt n hu
  have e1 : (n + 1) % u = n % u + 1 := by
    rw [Nat.add_mod, Nat.mod_eq_of_lt (show 1 < u by omega), Nat.mod_eq_of_lt (show n % u + 1 < u by omega)]
  have hd := Nat.div_add_mod n u
  have e2 : (n + 1) / u = n / u := by
    rw [show n + 1 = u * (n / u) + (n % u + 1) by omega, Nat.mul_add_div hu, Nat.div_eq_of_lt (show n % u + 1 < u by omega)]; rfl
  have hv : n / u < v := Nat.div_lt_of_lt_mul hn
  have := nbr_of (u := u) (v := v) (n := n + 1) (j := 0) (a := n % u) (b := n / u) (d := 1) (by rw [e1, show wx 1 0 = -1 from rfl]; omega) (by rw [e2, show wy 1 0 = 0 from rfl]; omega) hm hv
  rw [this, Nat.mul_comm, hd]
theorem nbr_below {u v n : Nat} (hn : n + u < u * v) (hu : 0 < u) : nbr u v 1 (n + u) 1 = some n := by
  have hm := Nat.mod_lt n hu
  have e1 : (n + u) % u = n % u := by simp
  have e2 : (n + u) / u = n / u + 1 := Nat.add_div_right _ hu
  have hd := Nat.div_add_mod n u
  have hv : (n + u) / u < v := Nat.div_lt_of_lt_mul hn
  rw [e2] at hv
  have := nbr_of (u := u) (v := v) (n := n + u) (j := 1) (a := n % u) (b := n / u) (d := 1) (by rw [e1, show wx 1 1 = 0 from rfl]; omega) (by rw [e2, show wy 1 1 = -1 from rfl]; omega) hm (by omega)
  rw [this, Nat.mul_comm, hd]
theorem nbr_right {u v n : Nat} (hn : n < u * v) (h : n % u ≠ u - 1) : nbr u v (-1) n 0 = some (n + 1) := by
  have hu : 0 < u := by
    rcases Nat.eq_zero_or_pos u with h | h
    · subst h; simp at hn
    · exact h
  have hm := Nat.mod_lt n hu
  have hd := Nat.div_add_mod n u
  have hv : n / u < v := Nat.div_lt_of_lt_mul hn
  have := nbr_of (u := u) (v := v) (n := n) (j := 0) (a := n % u + 1) (b := n / u) (d := -1) (by rw [show wx (-1) 0 = 1 from rfl]; omega) (by rw [show wy (-1) 0 = 0 from rfl]; omega) (by omega) hv
  rw [this, ← Nat.add_assoc, Nat.mul_comm, hd]
theorem nbr_above {u v n : Nat} (hn : n + u < u * v) (hu : 0 < u) : nbr u v (-1) n 1 = some (n + u) := by
  have hm := Nat.mod_lt n hu
  have hd := Nat.div_add_mod n u
  have hv : (n + u) / u < v := Nat.div_lt_of_lt_mul hn
  rw [Nat.add_div_right _ hu] at hv
  have := nbr_of (u := u) (v := v) (n := n) (j := 1) (a := n % u) (b := n / u + 1) (d := -1) (by rw [show wx (-1) 1 = 0 from rfl]; omega) (by rw [show wy (-1) 1 = 1 from rfl]; omega) hm hv
  rw [this, Nat.add_mul, Nat.mul_comm]
  congr 1
  omega

section
variable (es : List Ed) (x y p : Int) (u v : Nat)
/-- After the first pass the last texel knows an edge if any texel knew one. -/
theorem pass1_last (hu : 0 < u) (st : List Int) (hl : st.length = u * v) : ∀ q n, n + q + 1 = u * v → 0 ≤ knS (passTo es x y p u v 1 st (u * v)) n → 0 ≤ knS (passTo es x y p u v 1 st (u * v)) (u * v - 1) := by
  intro q
  induction q using Nat.strongRecOn with
  | ind q ih =>
    intro n hn h
    rcases Nat.eq_zero_or_pos q with hq | hq
    · rw [show u * v - 1 = n by omega]; exact h
    · have hm := Nat.mod_lt n hu
      by_cases hr : n % u = u - 1
      · have hd := Nat.div_add_mod n u
        have hnu : n + u < u * v := by
          have h1 : n / u < v := Nat.div_lt_of_lt_mul (by omega)
          have h2 : n / u + 1 ≠ v := by
            intro e
            rw [← e, Nat.mul_add, Nat.mul_one] at hn
            omega
          have h3 := Nat.mul_le_mul_left u (show n / u + 2 ≤ v by omega)
          rw [Nat.mul_add] at h3
          omega
        have := pass_near es x y p u v 1 st hl (n + u) 1 n hnu (by decide) (by unfold texP; rw [if_pos rfl]; exact nbr_below hnu hu) (by intro q h1 _; unfold texP; rw [if_pos rfl]; omega)
        refine ih (q - u) (by omega) (n + u) (by omega) ?_
        have h2 := this.know h
        rwa [show texP u v 1 (n + u) = n + u by unfold texP; rw [if_pos rfl]] at h2
      · have := pass_near es x y p u v 1 st hl (n + 1) 0 n (by omega) (by decide) (by unfold texP; rw [if_pos rfl]; exact nbr_left (by omega) hr) (by intro q h1 _; unfold texP; rw [if_pos rfl]; omega)
        refine ih (q - 1) (by omega) (n + 1) (by omega) ?_
        have h2 := this.know h
        rwa [show texP u v 1 (n + 1) = n + 1 by unfold texP; rw [if_pos rfl]] at h2
theorem texP_back {u v n : Nat} (hn : n < u * v) : texP u v (-1) (u * v - 1 - n) = n := by unfold texP; rw [if_neg (by decide)]; omega
/-- After the second pass no right neighbour knows a nearer edge. -/
theorem pass2_right (st : List Int) (hl : st.length = u * v) {n : Nat} (hn : n < u * v) (hr : n % u ≠ u - 1) : NoW es (cenS x y p u n) (knS (passTo es x y p u v (-1) st (u * v)) (n + 1)) (knS (passTo es x y p u v (-1) st (u * v)) n) := by
  have h1 := nbr_right hn hr
  have := pass_near es x y p u v (-1) st hl (u * v - 1 - n) 0 (n + 1) (by omega) (by decide) (by rw [texP_back hn]; exact h1) (by intro q h1 h2; unfold texP; rw [if_neg (by decide)]; omega)
  rwa [texP_back hn] at this
theorem pass2_above (hu : 0 < u) (st : List Int) (hl : st.length = u * v) {n : Nat} (hn : n + u < u * v) : NoW es (cenS x y p u n) (knS (passTo es x y p u v (-1) st (u * v)) (n + u)) (knS (passTo es x y p u v (-1) st (u * v)) n) := by
  have h1 := nbr_above hn hu
  have h0 : n < u * v := by omega
  have := pass_near es x y p u v (-1) st hl (u * v - 1 - n) 1 (n + u) (by omega) (by decide) (by rw [texP_back h0]; exact h1) (by intro q h1 h2; unfold texP; rw [if_neg (by decide)]; omega)
  rwa [texP_back h0] at this
theorem pass2_all (hu : 0 < u) (st : List Int) (hl : st.length = u * v) (h : 0 ≤ knS st (u * v - 1)) : ∀ q n, n + q + 1 = u * v → 0 ≤ knS (passTo es x y p u v (-1) st (u * v)) n := by
  intro q
  induction q using Nat.strongRecOn with
  | ind q ih =>
    intro n hn
    rcases Nat.eq_zero_or_pos q with hq | hq
    · have := passTo_now es x y p u v (-1) st hl (u * v - 1) 0 (u * v) (by omega)
      rw [Nat.zero_add] at this
      rw [show n = u * v - 1 by omega]
      exact this.know h
    · have hm := Nat.mod_lt n hu
      by_cases hr : n % u = u - 1
      · have hd := Nat.div_add_mod n u
        have hnu : n + u < u * v := by
          have h1 : n / u < v := Nat.div_lt_of_lt_mul (by omega)
          have h2 : n / u + 1 ≠ v := by
            intro e
            rw [← e, Nat.mul_add, Nat.mul_one] at hn
            omega
          have h3 := Nat.mul_le_mul_left u (show n / u + 2 ≤ v by omega)
          rw [Nat.mul_add] at h3
          omega
        exact (pass2_above es x y p u v hu st hl hnu).know (ih (q - u) (by omega) (n + u) (by omega))
      · exact (pass2_right es x y p u v st hl (by omega) hr).know (ih (q - 1) (by omega) (n + 1) (by omega))
/-- With some edge all texels know one. -/
theorem knownL_all (hu : 0 < u) (hv : 0 < v) (he : 0 < es.length) {n : Nat} (hn : n < u * v) : 0 ≤ knS (knownL es x y p u v) n := by
  unfold knownL
  have hc : cellE x y p u v (es.getD 0 edZ) 0 < u * v := cellE_lt hu hv _ _
  refine pass2_all es x y p u v hu _ (by rw [passTo_len, seedTo_len]) ?_ (u * v - 1 - n) n (by omega)
  refine pass1_last es x y p u v hu _ (seedTo_len es x y p u v _) (u * v - 1 - cellE x y p u v (es.getD 0 edZ) 0) (cellE x y p u v (es.getD 0 edZ) 0) (by omega) ?_
  have h1 := passTo_now es x y p u v 1 (seedTo es x y p u v es.length) (seedTo_len es x y p u v _) (cellE x y p u v (es.getD 0 edZ) 0) 0 (u * v) (by omega)
  rw [Nat.zero_add] at h1
  refine h1.know ?_
  have h2 := seedTo_now es x y p u v hu hv 1 (cellE x y p u v (es.getD 0 edZ) 0) (es.length - 1)
  rw [show 1 + (es.length - 1) = es.length by omega] at h2
  refine h2.know ?_
  exact (seed_got es x y p u v hu hv 0 0 (by decide)).know (by decide)
/-- The texel of a point of an edge knows nothing worse than the edge. -/
theorem knownL_seed (hu : 0 < u) (hv : 0 < v) (r j : Nat) (hr : r < es.length) (hj : j < 3) : NoW es (cenS x y p u (cellE x y p u v (es.getD r edZ) j)) r (knS (knownL es x y p u v) (cellE x y p u v (es.getD r edZ) j)) := by
  have h0 := seed_got es x y p u v hu hv r j hj
  have h2 := seedTo_now es x y p u v hu hv (r + 1) (cellE x y p u v (es.getD r edZ) j) (es.length - (r + 1))
  rw [show r + 1 + (es.length - (r + 1)) = es.length by omega] at h2
  have h1 := passTo_now es x y p u v 1 (seedTo es x y p u v es.length) (seedTo_len es x y p u v _) (cellE x y p u v (es.getD r edZ) j) 0 (u * v) (by omega)
  have h3 := passTo_now es x y p u v (-1) (passTo es x y p u v 1 (seedTo es x y p u v es.length) (u * v)) (by rw [passTo_len, seedTo_len]) (cellE x y p u v (es.getD r edZ) j) 0 (u * v) (by omega)
  rw [Nat.zero_add] at h1 h3
  unfold knownL
  exact ((h0.trans h2).trans h1).trans h3
/-- What is known is an edge, or none. -/
def InK (M : Int) (st : List Int) : Prop := ∀ m, -1 ≤ knS st m ∧ knS st m < M
theorem seed3_in (hu : 0 < u) (hv : 0 < v) {M : Int} {st : List Int} (hl : st.length = u * v) (h : InK M st) {r : Nat} (hr : (r : Int) < M) : ∀ j, InK M (seed3 es x y p u v st r j)
  | 0 => h
  | j + 1 => by
    unfold seed3
    exact offer_in es (cenS x y p u) (by rw [seed3_len, hl]; exact cellE_lt hu hv _ _) ⟨by omega, hr⟩ (seed3_in hu hv hl h hr j)
theorem seedTo_in (hu : 0 < u) (hv : 0 < v) {M : Int} (hM : 0 ≤ M) : ∀ r : Nat, (r : Int) ≤ M → InK M (seedTo es x y p u v r)
  | 0, _ => by
    intro m
    unfold knS seedTo
    rw [List.getD_eq_getElem?_getD, List.getElem?_replicate]
    split <;> exact ⟨Int.le_refl _, by simp; omega⟩
  | r + 1, h => seed3_in es x y p u v hu hv (seedTo_len es x y p u v r) (seedTo_in hu hv hM r (by omega)) (by omega) 3
theorem near4_in (d : Int) {M : Int} {st : List Int} (hl : st.length = u * v) (h : InK M st) {n : Nat} (hn : n < u * v) : ∀ j, InK M (near4 es x y p u v d st n j)
  | 0 => h
  | j + 1 => by
    rw [show near4 es x y p u v d st n (j + 1) = (match nbr u v d n j with
      | some m => offerS es (cenS x y p u) (near4 es x y p u v d st n j) n (knS (near4 es x y p u v d st n j) m)
      | none => near4 es x y p u v d st n j) from rfl]
    split
    · exact offer_in es (cenS x y p u) (by rw [near4_len, hl]; exact hn) (near4_in d hl h hn j _) (near4_in d hl h hn j)
    · exact near4_in d hl h hn j
theorem passTo_in (d : Int) {M : Int} {st : List Int} (hl : st.length = u * v) (h : InK M st) : ∀ k, k ≤ u * v → InK M (passTo es x y p u v d st k)
  | 0, _ => h
  | k + 1, hk => near4_in es x y p u v d (by rw [passTo_len, hl]) (passTo_in d hl h k (by omega)) (texP_lt u v d (by omega)) 4
theorem knownL_in (hu : 0 < u) (hv : 0 < v) : InK es.length (knownL es x y p u v) := by
  unfold knownL
  exact passTo_in es x y p u v (-1) (by rw [passTo_len, seedTo_len]) (passTo_in es x y p u v 1 (seedTo_len es x y p u v _) (seedTo_in es x y p u v hu hv (by omega) es.length (Int.le_refl _)) _ (Nat.le_refl _)) _ (Nat.le_refl _)
end

/-- P13.2: a texel, by what it knows. -/
def swG (es : List Ed) (s : Int) (p : Pt) (e : Int) : Int := if 0 ≤ e then 128 + sgS es p * stepG s (e8 (sqK es p e)) else 1
def swN (es : List Ed) (s : Int) (p : Pt) (e : Int) : Nat := (swG es s p e).toNat
theorem swG_in (es : List Ed) (s : Int) (p : Pt) (e : Int) (hs : 1 ≤ s) : 1 ≤ swG es s p e ∧ swG es s p e ≤ 255 := by
  unfold swG
  split
  · have h1 := stepG_in s (e8 (sqK es p e)) hs (e8_nonneg _)
    have h2 := sgS_in es p
    generalize stepG s (e8 (sqK es p e)) = n at *
    obtain h | h | h : sgS es p = -1 ∨ sgS es p = 0 ∨ sgS es p = 1 := by omega
    all_goals rw [h]; omega
  · omega
theorem swN_is (es : List Ed) (s : Int) (p : Pt) (e : Int) (hs : 1 ≤ s) : ((swN es s p e : Nat) : Int) = swG es s p e := by
  have := swG_in es s p e hs
  unfold swN
  omega
def fldS (es : List Ed) (x y p s : Int) (u v : Nat) : List Nat := (List.range (u * v)).map fun j => swN es s (cenS x y p u j) (knS (knownL es x y p u v) j)
theorem fldS_length (es : List Ed) (x y p s : Int) (u v : Nat) : (fldS es x y p s u v).length = u * v := by simp [fldS]
theorem fldS_at (es : List Ed) (x y p s : Int) (u v j : Nat) (hj : j < u * v) : (fldS es x y p s u v)[j]? = some (swN es s (cenS x y p u j) (knS (knownL es x y p u v) j)) := by
  unfold fldS
  rw [List.getElem?_map, List.getElem?_range hj]
  rfl
/-- What is swept is never nearer than what is so, and of its sign. -/
theorem sw_over (es : List Ed) (s : Int) (p : Pt) (e : Int) (hs : 1 ≤ s) (he : 0 ≤ e ∧ e < es.length ∨ es = [] ∧ e < 0) :
    (128 < texG es s p → texG es s p ≤ swG es s p e) ∧ (texG es s p < 128 → swG es s p e ≤ texG es s p) := by
  rcases he with ⟨h0, h1⟩ | ⟨rfl, h⟩
  · have hne : es ≠ [] := by rintro rfl; simp at h1; omega
    unfold texG swG
    rw [if_neg hne, if_pos h0]
    have hE : eightS es p ≤ e8 (sqK es p e) := by
      rcases E8.is es p with ⟨h2, _⟩ | ⟨_, _, h2⟩
      · exact absurd h2 hne
      · refine h2 _ ?_
        rw [List.getD_eq_getElem?_getD, List.getElem?_eq_getElem (by omega)]
        exact List.getElem_mem _
    have hm := stepG_mono hs (eight_pos hne) hE
    have h3 := stepG_in s (eightS es p) hs (eight_pos hne)
    have h2 := sgS_in es p
    generalize stepG s (eightS es p) = n at *
    generalize stepG s (e8 (sqK es p e)) = m at *
    obtain h | h | h : sgS es p = -1 ∨ sgS es p = 0 ∨ sgS es p = 1 := by omega
    all_goals (rw [h]; refine ⟨fun _ => ?_, fun _ => ?_⟩ <;> omega)
  · unfold texG swG
    rw [if_pos rfl, if_neg (by omega)]
    exact ⟨fun _ => Int.le_refl _, fun _ => Int.le_refl _⟩
/-- Of one edge it is what is so. -/
theorem fldS_one (a : Ed) (x y p s : Int) (u v : Nat) (hu : 0 < u) (hv : 0 < v) : fldS [a] x y p s u v = fldN [a] x y p s u (u * v) := by
  unfold fldS fldN
  refine List.map_congr_left fun j hj => ?_
  have hj := List.mem_range.1 hj
  have h0 := knownL_all [a] x y p u v hu hv (by simp) hj
  have h1 := (knownL_in [a] x y p u v hu hv j).2
  have hk : knS (knownL [a] x y p u v) j = 0 := by simp at h1; omega
  rw [hk]
  unfold swN texN swG texG
  rw [if_pos (by omega), if_neg (by simp)]
  have : eightS [a] (cenS x y p u j) = e8 (sqK [a] (cenS x y p u j) 0) := by
    rcases E8.is [a] (cenS x y p u j) with ⟨h2, _⟩ | ⟨_, ⟨b, hb, h2⟩, _⟩
    · cases h2
    · rw [List.mem_singleton] at hb
      subst hb
      exact h2
  rw [← this]
  rfl

end Go.Proofs.Yteiildeaccngjaa
