/-
  The numbers of layer 10 (no claim is made here).
-/
import Derived.Test.YtlhngelifmjefaaDistMath
import Derived.Test.YtlhngelifmjefaaGridMath
namespace Go.Proofs.Ytlhngelifmjefaa

/-- A point of an edge lies on the way from (x, y) up to (x, z). -/
def MeetV (e : Ed) (x y z : Int) : Prop :=
  ∃ c t : Int, 0 < c ∧ 0 ≤ t ∧ t ≤ c ∧ c * e.a.x + t * (e.b.x - e.a.x) = c * x ∧ c * y ≤ c * e.a.y + t * (e.b.y - e.a.y) ∧ c * e.a.y + t * (e.b.y - e.a.y) ≤ c * z
/-- .. on the way from (x, y) to (z, y). -/
def MeetH (e : Ed) (x z y : Int) : Prop :=
  ∃ c t : Int, 0 < c ∧ 0 ≤ t ∧ t ≤ c ∧ c * e.a.y + t * (e.b.y - e.a.y) = c * y ∧ c * x ≤ c * e.a.x + t * (e.b.x - e.a.x) ∧ c * e.a.x + t * (e.b.x - e.a.x) ≤ c * z

theorem sq_le_of {a b : Int} (hb : 0 ≤ b) (h : a * a ≤ b * b) : a ≤ b := by
  rcases Int.lt_or_le b a with g | g
  · have := Int.mul_le_mul (show b + 1 ≤ a by omega) (show b + 1 ≤ a by omega) (by omega) (by omega)
    have e : (b + 1) * (b + 1) = b * b + 2 * b + 1 := by grind
    omega
  · exact g
theorem near_one {n d c m E : Int} (hd : 0 < d) (hm : 0 ≤ m) (h1 : E * E * d ≤ 64 * n) (h2 : c * c * n ≤ d * (m * m)) : E * c ≤ 8 * m := by
  refine sq_le_of (by omega) (Int.le_of_mul_le_mul_left (a := d) ?_ hd)
  have a1 := Int.mul_le_mul_of_nonneg_left h1 (sqNN c)
  have a2 : d * (E * c * (E * c)) = c * c * (E * E * d) := by grind
  have a3 : d * (8 * m * (8 * m)) = 64 * (d * (m * m)) := by grind
  have a4 : c * c * (64 * n) = 64 * (c * c * n) := by grind
  omega
/-- Both ends of a way that meets an edge are no farther from it, together, than the way is long. -/
theorem meetV_sum {e : Ed} {x y z : Int} (h : MeetV e x y z) (f1 : (sqF e ⟨x, y⟩).1 * 64 < (sqF e ⟨x, y⟩).2 * 18446744073709551616) (f2 : (sqF e ⟨x, z⟩).1 * 64 < (sqF e ⟨x, z⟩).2 * 18446744073709551616) : e8 (sqF e ⟨x, y⟩) + e8 (sqF e ⟨x, z⟩) ≤ 8 * (z - y) := by
  obtain ⟨c, t, hc, h0, h1, hx, hy, hz⟩ := h
  obtain ⟨p0, p1, _⟩ := e8_spec (sq_pos e ⟨x, y⟩).1 (sq_pos e ⟨x, y⟩).2 f1
  obtain ⟨q0, q1, _⟩ := e8_spec (sq_pos e ⟨x, z⟩).1 (sq_pos e ⟨x, z⟩).2 f2
  have k1 := sq_least (e.b.x - e.a.x) (e.b.y - e.a.y) (x - e.a.x) (y - e.a.y) c t hc h0 h1
  have k2 := sq_least (e.b.x - e.a.x) (e.b.y - e.a.y) (x - e.a.x) (z - e.a.y) c t hc h0 h1
  have d1 := (sq_pos e ⟨x, y⟩).2
  have d2 := (sq_pos e ⟨x, z⟩).2
  unfold sqF at *
  simp only [] at *
  generalize e.b.x - e.a.x = u0 at *
  generalize e.b.y - e.a.y = u1 at *
  generalize squareV u0 u1 (x - e.a.x) (y - e.a.y) = f at *
  generalize squareV u0 u1 (x - e.a.x) (z - e.a.y) = g at *
  generalize e8 f = E at *
  generalize e8 g = G at *
  have z1 : c * (x - e.a.x) - t * u0 = 0 := by rw [Int.mul_sub]; omega
  have z2 : c * (y - e.a.y) - t * u1 = -(c * e.a.y + t * u1 - c * y) := by rw [Int.mul_sub]; omega
  have z3 : c * (z - e.a.y) - t * u1 = c * z - (c * e.a.y + t * u1) := by rw [Int.mul_sub]; omega
  rw [z1, z2] at k1
  rw [z1, z3] at k2
  obtain ⟨m1, hm1⟩ : ∃ m, c * e.a.y + t * u1 - c * y = m := ⟨_, rfl⟩
  obtain ⟨m2, hm2⟩ : ∃ m, c * z - (c * e.a.y + t * u1) = m := ⟨_, rfl⟩
  rw [hm1] at k1
  rw [hm2] at k2
  have r1 := near_one d1 (by omega) p1 (show c * c * f.1 ≤ f.2 * (m1 * m1) by rw [Int.neg_mul_neg] at k1; simpa using k1)
  have r2 := near_one d2 (by omega) q1 (show c * c * g.1 ≤ g.2 * (m2 * m2) by simpa using k2)
  have r3 : (E + G) * c ≤ 8 * (z - y) * c := by
    have e1 : (E + G) * c = E * c + G * c := Int.add_mul _ _ _
    have e2 : 8 * (z - y) * c = 8 * (c * z - c * y) := by grind
    omega
  exact Int.le_of_mul_le_mul_right r3 hc
theorem meetH_sum {e : Ed} {x z y : Int} (h : MeetH e x z y) (f1 : (sqF e ⟨x, y⟩).1 * 64 < (sqF e ⟨x, y⟩).2 * 18446744073709551616) (f2 : (sqF e ⟨z, y⟩).1 * 64 < (sqF e ⟨z, y⟩).2 * 18446744073709551616) : e8 (sqF e ⟨x, y⟩) + e8 (sqF e ⟨z, y⟩) ≤ 8 * (z - x) := by
  obtain ⟨c, t, hc, h0, h1, hx, hy, hz⟩ := h
  obtain ⟨p0, p1, _⟩ := e8_spec (sq_pos e ⟨x, y⟩).1 (sq_pos e ⟨x, y⟩).2 f1
  obtain ⟨q0, q1, _⟩ := e8_spec (sq_pos e ⟨z, y⟩).1 (sq_pos e ⟨z, y⟩).2 f2
  have k1 := sq_least (e.b.x - e.a.x) (e.b.y - e.a.y) (x - e.a.x) (y - e.a.y) c t hc h0 h1
  have k2 := sq_least (e.b.x - e.a.x) (e.b.y - e.a.y) (z - e.a.x) (y - e.a.y) c t hc h0 h1
  have d1 := (sq_pos e ⟨x, y⟩).2
  have d2 := (sq_pos e ⟨z, y⟩).2
  unfold sqF at *
  simp only [] at *
  generalize e.b.x - e.a.x = u0 at *
  generalize e.b.y - e.a.y = u1 at *
  generalize squareV u0 u1 (x - e.a.x) (y - e.a.y) = f at *
  generalize squareV u0 u1 (z - e.a.x) (y - e.a.y) = g at *
  generalize e8 f = E at *
  generalize e8 g = G at *
  have z1 : c * (y - e.a.y) - t * u1 = 0 := by rw [Int.mul_sub]; omega
  have z2 : c * (x - e.a.x) - t * u0 = -(c * e.a.x + t * u0 - c * x) := by rw [Int.mul_sub]; omega
  have z3 : c * (z - e.a.x) - t * u0 = c * z - (c * e.a.x + t * u0) := by rw [Int.mul_sub]; omega
  rw [z1, z2] at k1
  rw [z1, z3] at k2
  obtain ⟨m1, hm1⟩ : ∃ m, c * e.a.x + t * u0 - c * x = m := ⟨_, rfl⟩
  obtain ⟨m2, hm2⟩ : ∃ m, c * z - (c * e.a.x + t * u0) = m := ⟨_, rfl⟩
  rw [hm1] at k1
  rw [hm2] at k2
  have r1 := near_one d1 (by omega) p1 (show c * c * f.1 ≤ f.2 * (m1 * m1) by rw [Int.neg_mul_neg] at k1; simpa using k1)
  have r2 := near_one d2 (by omega) q1 (show c * c * g.1 ≤ g.2 * (m2 * m2) by simpa using k2)
  have r3 : (E + G) * c ≤ 8 * (z - x) * c := by
    have e1 : (E + G) * c = E * c + G * c := Int.add_mul _ _ _
    have e2 : 8 * (z - x) * c = 8 * (c * z - c * x) := by grind
    omega
  exact Int.le_of_mul_le_mul_right r3 hc

theorem MeetV.back {e : Ed} {x y z : Int} (h : MeetV (backE e) x y z) : MeetV e x y z := by
  obtain ⟨c, t, hc, h0, h1, hx, hy, hz⟩ := h
  unfold backE at *
  simp only [] at *
  refine ⟨c, c - t, hc, by omega, by omega, ?_, ?_, ?_⟩
  all_goals rw [Int.sub_mul]
  all_goals have e1 : t * (e.a.x - e.b.x) = -(t * (e.b.x - e.a.x)) := by grind
  all_goals have e2 : t * (e.a.y - e.b.y) = -(t * (e.b.y - e.a.y)) := by grind
  all_goals have e3 : c * (e.b.x - e.a.x) = c * e.b.x - c * e.a.x := Int.mul_sub _ _ _
  all_goals have e4 : c * (e.b.y - e.a.y) = c * e.b.y - c * e.a.y := Int.mul_sub _ _ _
  all_goals omega

/-- What of a point counts for a way up, to the right of it. -/
def phi (x y z : Int) (v : Pt) : Int := if x < v.x ∧ y < v.y ∧ v.y ≤ z then 1 else 0

/-- A row that rises: between two heights of an edge that is left of the way at one and not at the other it meets the way. -/
theorem meet_of {e : Ed} {x y z h k : Int} (hV : e.a.y < e.b.y) (h1 : y ≤ h) (h2 : h ≤ k) (h3 : k ≤ z) (a1 : e.a.y ≤ h) (a2 : k ≤ e.b.y)
    (hh : (0 < crE e ⟨x, h⟩ ∧ crE e ⟨x, k⟩ ≤ 0) ∨ (crE e ⟨x, h⟩ ≤ 0 ∧ 0 < crE e ⟨x, k⟩)) : MeetV e x y z := by
  unfold crE at hh
  simp only [] at hh
  obtain ⟨u, hu⟩ : ∃ u, e.b.x - e.a.x = u := ⟨_, rfl⟩
  obtain ⟨v, hv⟩ : ∃ v, e.b.y - e.a.y = v := ⟨_, rfl⟩
  obtain ⟨d, hd⟩ : ∃ d, x - e.a.x = d := ⟨_, rfl⟩
  unfold MeetV
  rw [hu, hv, hd] at hh
  rw [hu, hv]
  have hv0 : 0 < v := by omega
  rcases Int.lt_trichotomy u 0 with g | g | g
  · -- it falls to the left
    have m1 := Int.mul_le_mul_of_nonneg_left h2 (show 0 ≤ -u by omega)
    rcases hh with ⟨p, q⟩ | ⟨p, q⟩
    · refine ⟨-u, -d, by omega, ?_, ?_, ?_, ?_, ?_⟩
      · have n1 := Int.mul_le_mul_of_nonneg_left (show 0 ≤ h - e.a.y by omega) (show 0 ≤ -u by omega)
        rcases Int.lt_or_le 0 d with w | w
        · have n2 := Int.mul_pos hv0 w
          grind
        · omega
      · rcases Int.lt_or_le (-u) (-d) with w | w
        · have n2 := Int.mul_lt_mul_of_pos_left w hv0
          have n3 := Int.mul_le_mul_of_nonneg_left (show k - e.a.y ≤ v by omega) (show 0 ≤ -u by omega)
          grind
        · exact w
      · grind
      · have := Int.mul_le_mul_of_nonneg_left h1 (show 0 ≤ -u by omega)
        grind
      · have := Int.mul_le_mul_of_nonneg_left h3 (show 0 ≤ -u by omega)
        grind
    · exfalso
      grind
  · exfalso
    rw [g] at hh
    simp only [Int.zero_mul] at hh
    omega
  · have m1 := Int.mul_le_mul_of_nonneg_left h2 (show 0 ≤ u by omega)
    rcases hh with ⟨p, q⟩ | ⟨p, q⟩
    · exfalso
      grind
    · refine ⟨u, d, by omega, ?_, ?_, ?_, ?_, ?_⟩
      · have n1 := Int.mul_le_mul_of_nonneg_left (show 0 ≤ h - e.a.y by omega) (show 0 ≤ u by omega)
        rcases Int.lt_or_le d 0 with w | w
        · have n2 := Int.mul_pos hv0 (show 0 < -d by omega)
          grind
        · omega
      · rcases Int.lt_or_le u d with w | w
        · have n2 := Int.mul_lt_mul_of_pos_left w hv0
          have n3 := Int.mul_le_mul_of_nonneg_left (show k - e.a.y ≤ v by omega) (show 0 ≤ u by omega)
          grind
        · exact w
      · grind
      · have := Int.mul_le_mul_of_nonneg_left h1 (show 0 ≤ u by omega)
        grind
      · have := Int.mul_le_mul_of_nonneg_left h3 (show 0 ≤ u by omega)
        grind

theorem upE_is (e : Ed) (x h : Int) : upE e ⟨x, h⟩ = if e.a.y ≤ h ∧ h < e.b.y ∧ 0 < crE e ⟨x, h⟩ then 1 else 0 := rfl
theorem downE_up {e : Ed} {p : Pt} (h : e.a.y ≤ e.b.y) : downE e p = 0 := by unfold downE; rw [if_neg (by omega)]
theorem cr_first (e : Ed) (x : Int) : crE e ⟨x, e.a.y⟩ = (e.b.y - e.a.y) * (e.a.x - x) := by unfold crE; grind
theorem cr_last (e : Ed) (x : Int) : crE e ⟨x, e.b.y⟩ = (e.b.y - e.a.y) * (e.b.x - x) := by unfold crE; grind
/-- An edge that does not meet the way counts for its two ends as what of its own ends counts. -/
theorem num_vert_up {e : Ed} {x y z : Int} (hyz : y ≤ z) (hup : e.a.y ≤ e.b.y) (hm : ¬ MeetV e x y z) : numE e ⟨x, y⟩ - numE e ⟨x, z⟩ = phi x y z e.b - phi x y z e.a := by
  unfold numE
  rw [downE_up hup, downE_up hup, upE_is, upE_is]
  unfold phi
  by_cases hV : e.a.y < e.b.y
  · by_cases o1 : e.a.y ≤ z ∧ y < e.b.y
    · -- the heights of the edge that are in the way
      obtain ⟨h, hh⟩ : ∃ h, max e.a.y y = h := ⟨_, rfl⟩
      obtain ⟨k, hk⟩ : ∃ k, min e.b.y z = k := ⟨_, rfl⟩
      have hhk : h ≤ k := by omega
      have key : (0 < crE e ⟨x, h⟩ ↔ 0 < crE e ⟨x, k⟩) := by
        constructor
        · intro g
          rcases Int.lt_or_le 0 (crE e ⟨x, k⟩) with w | w
          · exact w
          · exact absurd (meet_of hV (by omega) hhk (by omega) (by omega) (by omega) (.inl ⟨g, w⟩)) hm
        · intro g
          rcases Int.lt_or_le 0 (crE e ⟨x, h⟩) with w | w
          · exact w
          · exact absurd (meet_of hV (by omega) hhk (by omega) (by omega) (by omega) (.inr ⟨w, g⟩)) hm
      have A : (if e.a.y ≤ y ∧ y < e.b.y ∧ 0 < crE e ⟨x, y⟩ then (1 : Int) else 0) + (if x < e.a.x ∧ y < e.a.y ∧ e.a.y ≤ z then 1 else 0) = if 0 < crE e ⟨x, h⟩ then 1 else 0 := by
        by_cases g : e.a.y ≤ y
        · obtain rfl : h = y := by omega
          rw [if_neg (show ¬ (x < e.a.x ∧ h < e.a.y ∧ e.a.y ≤ z) by omega)]
          by_cases w : 0 < crE e ⟨x, h⟩
          · rw [if_pos ⟨g, o1.2, w⟩, if_pos w]; rfl
          · rw [if_neg (fun q => w q.2.2), if_neg w]; rfl
        · obtain rfl : h = e.a.y := by omega
          rw [if_neg (show ¬ (e.a.y ≤ y ∧ y < e.b.y ∧ 0 < crE e ⟨x, y⟩) from fun q => g q.1), cr_first]
          by_cases w : x < e.a.x
          · rw [if_pos ⟨w, by omega, o1.1⟩, if_pos (Int.mul_pos (by omega) (by omega))]; rfl
          · rw [if_neg (fun q => w q.1), if_neg (by
              have := Int.mul_nonneg (show 0 ≤ e.b.y - e.a.y by omega) (show 0 ≤ x - e.a.x by omega)
              grind)]; rfl
      have B : (if e.a.y ≤ z ∧ z < e.b.y ∧ 0 < crE e ⟨x, z⟩ then (1 : Int) else 0) + (if x < e.b.x ∧ y < e.b.y ∧ e.b.y ≤ z then 1 else 0) = if 0 < crE e ⟨x, k⟩ then 1 else 0 := by
        by_cases g : z < e.b.y
        · obtain rfl : k = z := by omega
          rw [if_neg (show ¬ (x < e.b.x ∧ y < e.b.y ∧ e.b.y ≤ k) by omega)]
          by_cases w : 0 < crE e ⟨x, k⟩
          · rw [if_pos ⟨o1.1, g, w⟩, if_pos w]; rfl
          · rw [if_neg (fun q => w q.2.2), if_neg w]; rfl
        · obtain rfl : k = e.b.y := by omega
          rw [if_neg (show ¬ (e.a.y ≤ z ∧ z < e.b.y ∧ 0 < crE e ⟨x, z⟩) from fun q => g q.2.1), cr_last]
          by_cases w : x < e.b.x
          · rw [if_pos ⟨w, o1.2, by omega⟩, if_pos (Int.mul_pos (by omega) (by omega))]; rfl
          · rw [if_neg (fun q => w q.1), if_neg (by
              have := Int.mul_nonneg (show 0 ≤ e.b.y - e.a.y by omega) (show 0 ≤ x - e.b.x by omega)
              grind)]; rfl
      have C : (if 0 < crE e ⟨x, h⟩ then (1 : Int) else 0) = if 0 < crE e ⟨x, k⟩ then 1 else 0 := by
        by_cases w : 0 < crE e ⟨x, h⟩
        · rw [if_pos w, if_pos (key.1 w)]
        · rw [if_neg w, if_neg (fun q => w (key.2 q))]
      omega
    · rw [if_neg (by omega), if_neg (by omega), if_neg (by omega), if_neg (by omega)]
      rfl
  · rw [if_neg (by omega), if_neg (by omega)]
    by_cases w : y < e.a.y ∧ e.a.y ≤ z
    · -- a level edge
      have key : (x < e.a.x ↔ x < e.b.x) := by
        have hy : e.b.y - e.a.y = 0 := by omega
        have m0 : ∀ c : Int, 0 < c → c * y ≤ c * e.a.y ∧ c * e.a.y ≤ c * z := fun c hc => ⟨Int.mul_le_mul_of_nonneg_left (by omega) (by omega), Int.mul_le_mul_of_nonneg_left w.2 (by omega)⟩
        constructor
        · intro g
          rcases Int.lt_or_le x e.b.x with q | q
          · exact q
          · refine absurd ⟨e.a.x - e.b.x, e.a.x - x, by omega, by omega, by omega, by grind, ?_, ?_⟩ hm
            · rw [hy, Int.mul_zero, Int.add_zero]; exact (m0 _ (by omega)).1
            · rw [hy, Int.mul_zero, Int.add_zero]; exact (m0 _ (by omega)).2
        · intro g
          rcases Int.lt_or_le x e.a.x with q | q
          · exact q
          · refine absurd ⟨e.b.x - e.a.x, x - e.a.x, by omega, by omega, by omega, by grind, ?_, ?_⟩ hm
            · rw [hy, Int.mul_zero, Int.add_zero]; exact (m0 _ (by omega)).1
            · rw [hy, Int.mul_zero, Int.add_zero]; exact (m0 _ (by omega)).2
      by_cases q : x < e.a.x
      · rw [if_pos ⟨key.1 q, by omega, by omega⟩, if_pos ⟨q, w.1, w.2⟩]; rfl
      · rw [if_neg (fun g => q (key.2 g.1)), if_neg (fun g => q g.1)]; rfl
    · rw [if_neg (by omega), if_neg (by omega)]; rfl
theorem num_vert {e : Ed} {x y z : Int} (hyz : y ≤ z) (hm : ¬ MeetV e x y z) : numE e ⟨x, y⟩ - numE e ⟨x, z⟩ = phi x y z e.b - phi x y z e.a := by
  rcases Int.le_total e.a.y e.b.y with h | h
  · exact num_vert_up hyz h hm
  · have k := num_vert_up (e := backE e) hyz h (fun g => hm g.back)
    rw [num_back, num_back] at k
    have k' : -numE e ⟨x, y⟩ - -numE e ⟨x, z⟩ = phi x y z e.a - phi x y z e.b := k
    omega
theorem Way.vert : ∀ {q q' : Pt} {l : List Ed} {x y z : Int}, Way q l q' → y ≤ z → (∀ e ∈ l, ¬ MeetV e x y z) → numS l ⟨x, y⟩ - numS l ⟨x, z⟩ = phi x y z q' - phi x y z q
  | q, q', [], x, y, z, h, _, _ => by
    cases (show q = q' from h)
    have h1 : numS [] (⟨x, y⟩ : Pt) = 0 := rfl
    have h2 : numS [] (⟨x, z⟩ : Pt) = 0 := rfl
    omega
  | q, q', e :: l, x, y, z, ⟨h1, _, h3⟩, hyz, hm => by
    have k := num_vert hyz (hm e List.mem_cons_self)
    have k2 := h3.vert hyz (fun d hd => hm d (List.mem_cons_of_mem _ hd))
    rw [numS_cons, numS_cons]
    rw [h1] at k
    omega
theorem flat_vert : ∀ (ls : List (List Ed)) {x y z : Int}, (∀ l ∈ ls, ∃ q, Way q l q) → y ≤ z → (∀ e ∈ ls.flatten, ¬ MeetV e x y z) → numS ls.flatten ⟨x, y⟩ = numS ls.flatten ⟨x, z⟩
  | [], x, y, z, _, _, _ => rfl
  | l :: ls, x, y, z, hw, hyz, hm => by
    rw [List.flatten_cons, numS_append, numS_append]
    obtain ⟨q, hq⟩ := hw l List.mem_cons_self
    have k := hq.vert hyz (fun e he => hm e (by rw [List.flatten_cons]; exact List.mem_append_left _ he))
    have k2 := flat_vert ls (fun m hm => hw m (List.mem_cons_of_mem _ hm)) hyz (fun e he => hm e (by rw [List.flatten_cons]; exact List.mem_append_right _ he))
    omega

/-- Of two places side by side an edge counts the same, or it lies between. -/
theorem num_hor_up {e : Ed} {x z y : Int} (hup : e.a.y ≤ e.b.y) (hm : ¬ MeetH e x z y) (hxz : x ≤ z) : numE e ⟨x, y⟩ = numE e ⟨z, y⟩ := by
  unfold numE
  rw [downE_up hup, downE_up hup, upE_is, upE_is]
  by_cases o : e.a.y ≤ y ∧ y < e.b.y
  · have c1 : crE e ⟨x, y⟩ = (e.b.y - e.a.y) * e.a.x + (y - e.a.y) * (e.b.x - e.a.x) - (e.b.y - e.a.y) * x := by unfold crE; grind
    have c2 : crE e ⟨z, y⟩ = (e.b.y - e.a.y) * e.a.x + (y - e.a.y) * (e.b.x - e.a.x) - (e.b.y - e.a.y) * z := by unfold crE; grind
    have m1 := Int.mul_le_mul_of_nonneg_left hxz (show 0 ≤ e.b.y - e.a.y by omega)
    have key : (0 < crE e ⟨x, y⟩ ↔ 0 < crE e ⟨z, y⟩) := by
      constructor
      · intro g
        rcases Int.lt_or_le 0 (crE e ⟨z, y⟩) with w | w
        · exact w
        · exact absurd ⟨e.b.y - e.a.y, y - e.a.y, by omega, by omega, by omega, by grind, by omega, by omega⟩ hm
      · intro g
        omega
    by_cases w : 0 < crE e ⟨x, y⟩
    · rw [if_pos ⟨o.1, o.2, w⟩, if_pos ⟨o.1, o.2, key.1 w⟩]
    · rw [if_neg (fun q => w q.2.2), if_neg (fun q => w (key.2 q.2.2))]
  · rw [if_neg (fun q => o ⟨q.1, q.2.1⟩), if_neg (fun q => o ⟨q.1, q.2.1⟩)]
theorem MeetH.back {e : Ed} {x z y : Int} (h : MeetH (backE e) x z y) : MeetH e x z y := by
  obtain ⟨c, t, hc, h0, h1, hx, hy, hz⟩ := h
  unfold backE at *
  simp only [] at *
  refine ⟨c, c - t, hc, by omega, by omega, ?_, ?_, ?_⟩
  all_goals rw [Int.sub_mul]
  all_goals have e1 : t * (e.a.x - e.b.x) = -(t * (e.b.x - e.a.x)) := by grind
  all_goals have e2 : t * (e.a.y - e.b.y) = -(t * (e.b.y - e.a.y)) := by grind
  all_goals have e3 : c * (e.b.x - e.a.x) = c * e.b.x - c * e.a.x := Int.mul_sub _ _ _
  all_goals have e4 : c * (e.b.y - e.a.y) = c * e.b.y - c * e.a.y := Int.mul_sub _ _ _
  all_goals omega
theorem num_hor {e : Ed} {x z y : Int} (hm : ¬ MeetH e x z y) (hxz : x ≤ z) : numE e ⟨x, y⟩ = numE e ⟨z, y⟩ := by
  rcases Int.le_total e.a.y e.b.y with h | h
  · exact num_hor_up h hm hxz
  · have k := num_hor_up (e := backE e) h (fun g => hm g.back) hxz
    rw [num_back, num_back] at k
    omega
theorem numS_hor : ∀ {l : List Ed} {x z y : Int}, (∀ e ∈ l, ¬ MeetH e x z y) → x ≤ z → numS l ⟨x, y⟩ = numS l ⟨z, y⟩
  | [], _, _, _, _, _ => rfl
  | e :: l, x, z, y, h, hxz => by
    rw [numS_cons, numS_cons, num_hor (h e List.mem_cons_self) hxz, numS_hor (fun d hd => h d (List.mem_cons_of_mem _ hd)) hxz]

/-- Places on two sides of closed edges are no farther from them, together, than from each other. -/
theorem two_sides {ls : List (List Ed)} (hw : ∀ l ∈ ls, ∃ q, Way q l q) {x y d E G : Int} (hd : 0 ≤ d) {p q : Pt} (hp : p = ⟨x, y⟩) (hq : q = ⟨x + d, y⟩ ∨ q = ⟨x, y + d⟩) (fp : Fit ls.flatten p) (fq : Fit ls.flatten q) (hn : numS ls.flatten p ≠ numS ls.flatten q) (h1 : E8 ls.flatten p E) (h2 : E8 ls.flatten q G) : E + G ≤ 8 * d := by
  have key : ∃ e ∈ ls.flatten, e8 (sqF e p) + e8 (sqF e q) ≤ 8 * d := by
    subst hp
    rcases hq with rfl | rfl
    · by_cases h : ∃ e ∈ ls.flatten, MeetH e x (x + d) y
      · obtain ⟨e, he, hm⟩ := h
        have := meetH_sum hm (fp e he) (fq e he)
        exact ⟨e, he, by omega⟩
      · exact absurd (numS_hor (fun e he hm => h ⟨e, he, hm⟩) (by omega)) hn
    · by_cases h : ∃ e ∈ ls.flatten, MeetV e x y (y + d)
      · obtain ⟨e, he, hm⟩ := h
        have := meetV_sum hm (fp e he) (fq e he)
        exact ⟨e, he, by omega⟩
      · exact absurd (flat_vert ls hw (by omega) (fun e he hm => h ⟨e, he, hm⟩)) hn
  obtain ⟨e, he, h⟩ := key
  rcases h1 with ⟨h0, _⟩ | ⟨_, _, h1⟩
  · rw [h0] at he; cases he
  · rcases h2 with ⟨h0, _⟩ | ⟨_, _, h2⟩
    · rw [h0] at he; cases he
    · have := h1 e he
      have := h2 e he
      omega

/-- P10.1: a texel, by the place of its middle. -/
def texG (es : List Ed) (s : Int) (p : Pt) : Int := if es = [] then 1 else 128 + sgS es p * stepG s (eightS es p)
theorem sgS_in (es : List Ed) (p : Pt) : -1 ≤ sgS es p ∧ sgS es p ≤ 1 := by unfold sgS; split <;> (try split) <;> omega
theorem eight_pos {es : List Ed} {p : Pt} (h : es ≠ []) : 0 ≤ eightS es p := by
  rcases E8.is es p with ⟨h0, _⟩ | ⟨h0, _⟩
  · exact absurd h0 h
  · exact h0
theorem texG_in (es : List Ed) (s : Int) (p : Pt) (hs : 1 ≤ s) : 1 ≤ texG es s p ∧ texG es s p ≤ 255 := by
  unfold texG
  by_cases h : es = []
  · rw [if_pos h]; omega
  · rw [if_neg h]
    have h1 := stepG_in s (eightS es p) hs (eight_pos h)
    have h2 := sgS_in es p
    generalize stepG s (eightS es p) = n at *
    obtain h | h | h : sgS es p = -1 ∨ sgS es p = 0 ∨ sgS es p = 1 := by omega
    all_goals rw [h]; omega
/-- P10.1, by P7.2: what is in holds no less than the middle, what is out no more. -/
theorem texG_sign (es : List Ed) (s : Int) (p : Pt) (hs : 1 ≤ s) : ((numS es p ≠ 0 ∨ onS es p = true) → 128 ≤ texG es s p) ∧ (¬ (numS es p ≠ 0 ∨ onS es p = true) → texG es s p ≤ 128) := by
  unfold texG
  by_cases h : es = []
  · subst h
    rw [if_pos rfl]
    refine ⟨fun h => ?_, fun _ => by omega⟩
    rcases h with h | h
    · exact absurd rfl h
    · cases h
  · rw [if_neg h]
    have h1 := stepG_in s (eightS es p) hs (eight_pos h)
    generalize stepG s (eightS es p) = n at *
    unfold sgS
    by_cases h2 : onS es p = true
    · rw [if_pos h2]
      exact ⟨fun _ => by omega, fun _ => by omega⟩
    · rw [if_neg h2]
      by_cases h3 : numS es p = 0
      · rw [if_pos h3]
        exact ⟨fun q => by rcases q with q | q <;> contradiction, fun _ => by omega⟩
      · rw [if_neg h3]
        exact ⟨fun _ => by omega, fun q => absurd (.inl h3) q⟩
theorem stepG_up (s e : Int) (hs : 1 ≤ s) : stepG s e ≤ e * 127 / (256 * s) := by
  unfold stepG
  split
  · exact Int.le_refl _
  · exact Int.le_ediv_of_mul_le (by omega) (by omega)
/-- How much two texels may differ. -/
theorem step_near (s g x y : Int) (hs : 1 ≤ s) (hg : 1 ≤ g) (hx : 0 ≤ x) (h : x - y ≤ 256 * g + 1) : stepG s x - stepG s y ≤ 127 * g / s + 2 := by
  have hq : 0 ≤ 127 * g / s := Int.ediv_nonneg (by omega) (by omega)
  by_cases hb : y < 256 * s
  · have h1 := stepG_up s x hs
    have e1 : stepG s y = y * 127 / (256 * s) := if_pos hb
    have a1 := Int.lt_ediv_add_one_mul_self (y * 127) (show 0 < 256 * s by omega)
    have a2 := Int.lt_ediv_add_one_mul_self (127 * g) (show 0 < s by omega)
    rw [e1]
    have key : x * 127 / (256 * s) < y * 127 / (256 * s) + 127 * g / s + 3 := by
      rw [Int.ediv_lt_iff_lt_mul (by omega)]
      generalize y * 127 / (256 * s) = a at *
      generalize 127 * g / s = b at *
      have e2 : (a + b + 3) * (256 * s) = (a + 1) * (256 * s) + 256 * ((b + 1) * s) + 256 * s := by grind
      rw [e2]
      omega
    omega
  · have e1 : stepG s y = 127 := if_neg hb
    have := (stepG_in s x hs hx).2
    omega
theorem step_both (s g x y : Int) (hs : 1 ≤ s) (h : x + y ≤ 256 * g) : stepG s x + stepG s y ≤ 127 * g / s + 1 := by
  have h1 := stepG_up s x hs
  have h2 := stepG_up s y hs
  have a1 := Int.ediv_mul_le (x * 127) (show 256 * s ≠ 0 by omega)
  have a2 := Int.ediv_mul_le (y * 127) (show 256 * s ≠ 0 by omega)
  have a3 := Int.lt_ediv_add_one_mul_self (127 * g) (show 0 < s by omega)
  generalize x * 127 / (256 * s) = a at *
  generalize y * 127 / (256 * s) = b at *
  generalize 127 * g / s = c at *
  have key : (a + b) * (256 * s) < (c + 1) * (256 * s) := by
    have e1 : (a + b) * (256 * s) = a * (256 * s) + b * (256 * s) := Int.add_mul _ _ _
    have e2 : (c + 1) * (256 * s) = 256 * ((c + 1) * s) := by grind
    omega
  have := Int.lt_of_mul_lt_mul_right key (show 0 ≤ 256 * s by omega)
  omega

/-- P10.1: texels side by side, a pitch apart. -/
theorem tex_smooth {ls : List (List Ed)} (hw : ∀ l ∈ ls, ∃ q, Way q l q) {x y g s : Int} (hg : 1 ≤ g) (hs : 1 ≤ s) {p q : Pt} (hp : p = ⟨x, y⟩) (hq : q = ⟨x + 32 * g, y⟩ ∨ q = ⟨x, y + 32 * g⟩) (fp : Fit ls.flatten p) (fq : Fit ls.flatten q) :
    texG ls.flatten s p - texG ls.flatten s q ≤ 127 * g / s + 4 ∧ texG ls.flatten s q - texG ls.flatten s p ≤ 127 * g / s + 4 := by
  have hb : 0 ≤ 127 * g / s := Int.ediv_nonneg (by omega) (by omega)
  unfold texG
  by_cases h : ls.flatten = []
  · rw [if_pos h, if_pos h]; omega
  · rw [if_neg h, if_neg h]
    have E1 := E8.is ls.flatten p
    have E2 := E8.is ls.flatten q
    have n1 := eight_pos (p := p) h
    have n2 := eight_pos (p := q) h
    have hsq : 64 * ((p.x - q.x) * (p.x - q.x) + (p.y - q.y) * (p.y - q.y)) < (256 * g + 1) * (256 * g + 1) ∧ 64 * ((q.x - p.x) * (q.x - p.x) + (q.y - p.y) * (q.y - p.y)) < (256 * g + 1) * (256 * g + 1) := by
      subst hp
      rcases hq with rfl | rfl
      all_goals simp only []
      all_goals constructor <;> grind
    have D1 := E8.step fp fq E1 E2 (show 0 ≤ 256 * g by omega) hsq.1
    have D2 := E8.step fq fp E2 E1 (show 0 ≤ 256 * g by omega) hsq.2
    have S1 := step_near s g _ _ hs hg n1 D1
    have S2 := step_near s g _ _ hs hg n2 D2
    have T1 := stepG_in s _ hs n1
    have T2 := stepG_in s _ hs n2
    -- a place on an edge has no distance
    have Z : ∀ r : Pt, Fit ls.flatten r → onS ls.flatten r = true → eightS ls.flatten r = 0 := by
      intro r fr hr
      unfold onS at hr
      rw [List.any_eq_true] at hr
      obtain ⟨e, he, hon⟩ := hr
      have hon' : onE e r := of_decide_eq_true hon
      have z := (on_square e r).2 hon'
      rcases E8.is ls.flatten r with ⟨h0, _⟩ | ⟨h0, _, h1⟩
      · exact absurd h0 h
      · have k := h1 e he
        obtain ⟨k0, k1, _⟩ := e8_spec (sq_pos e r).1 (sq_pos e r).2 (fr e he)
        have z' : (sqF e r).1 = 0 := z
        rw [z'] at k1
        have k2 : e8 (sqF e r) ≤ 0 := by
          rcases Int.lt_or_le 0 (e8 (sqF e r)) with w | w
          · have := Int.mul_pos (Int.mul_pos w w) (sq_pos e r).2
            omega
          · exact w
        omega
    have z0 : stepG s 0 = 0 := by unfold stepG; rw [if_pos (by omega)]; simp
    unfold sgS
    by_cases o1 : onS ls.flatten p = true
    · rw [if_pos o1]
      have := Z p fp o1
      rw [this, z0] at S2
      by_cases o2 : onS ls.flatten q = true
      · rw [if_pos o2]; omega
      · rw [if_neg o2]
        split <;> omega
    · rw [if_neg o1]
      by_cases o2 : onS ls.flatten q = true
      · rw [if_pos o2]
        have := Z q fq o2
        rw [this, z0] at S1
        split <;> omega
      · rw [if_neg o2]
        by_cases m1 : numS ls.flatten p = 0
        · rw [if_pos m1]
          by_cases m2 : numS ls.flatten q = 0
          · rw [if_pos m2]; omega
          · rw [if_neg m2]
            have := step_both s g (eightS ls.flatten p) (eightS ls.flatten q) hs (by have := two_sides hw (show 0 ≤ 32 * g by omega) hp hq fp fq (by rw [m1]; exact fun q => m2 q.symm) E1 E2; omega)
            omega
        · rw [if_neg m1]
          by_cases m2 : numS ls.flatten q = 0
          · rw [if_pos m2]
            have := step_both s g (eightS ls.flatten p) (eightS ls.flatten q) hs (by have := two_sides hw (show 0 ≤ 32 * g by omega) hp hq fp fq (by rw [m2]; exact m1) E1 E2; omega)
            omega
          · rw [if_neg m2]; omega

/-- All moved by the same. -/
def moveP (D p : Pt) : Pt := ⟨p.x + D.x, p.y + D.y⟩
def moveE (D : Pt) (e : Ed) : Ed := ⟨moveP D e.a, moveP D e.b⟩
theorem cr_mv (D : Pt) (e : Ed) (p : Pt) : crE (moveE D e) (moveP D p) = crE e p := by
  unfold crE moveE moveP
  simp only []
  congr 2 <;> omega
theorem num_mv (D : Pt) (e : Ed) (p : Pt) : numE (moveE D e) (moveP D p) = numE e p := by
  unfold numE upE downE
  rw [cr_mv]
  unfold moveE moveP
  simp only []
  congr 1
  · by_cases h : e.a.y ≤ p.y ∧ p.y < e.b.y ∧ 0 < crE e p
    · rw [if_pos h, if_pos (by omega)]
    · rw [if_neg h, if_neg (by omega)]
  · by_cases h : e.b.y ≤ p.y ∧ p.y < e.a.y ∧ crE e p < 0
    · rw [if_pos h, if_pos (by omega)]
    · rw [if_neg h, if_neg (by omega)]
theorem numS_mv (D : Pt) : ∀ (l : List Ed) (p : Pt), numS (l.map (moveE D)) (moveP D p) = numS l p
  | [], _ => rfl
  | e :: l, p => by rw [List.map_cons, numS_cons, numS_cons, num_mv, numS_mv D l p]
theorem on_mv (D : Pt) (e : Ed) (p : Pt) : onE (moveE D e) (moveP D p) ↔ onE e p := by
  unfold onE
  rw [cr_mv]
  unfold moveE moveP
  simp only []
  omega
theorem onS_mv (D : Pt) (l : List Ed) (p : Pt) : onS (l.map (moveE D)) (moveP D p) = onS l p := by
  unfold onS
  rw [List.any_map]
  congr 1
  funext e
  show decide (onE (moveE D e) (moveP D p)) = decide (onE e p)
  exact decide_eq_decide.2 (on_mv D e p)
theorem sq_mv (D : Pt) (e : Ed) (p : Pt) : sqF (moveE D e) (moveP D p) = sqF e p := by
  unfold sqF moveE moveP
  simp only []
  congr 1 <;> omega
theorem E8.mv {D : Pt} {l : List Ed} {p : Pt} {d : Int} (h : E8 l p d) : E8 (l.map (moveE D)) (moveP D p) d := by
  rcases h with ⟨rfl, rfl⟩ | ⟨h0, ⟨e, he, rfl⟩, h2⟩
  · exact .inl ⟨rfl, rfl⟩
  · refine .inr ⟨h0, ⟨moveE D e, List.mem_map.2 ⟨e, he, rfl⟩, by rw [sq_mv]⟩, fun f hf => ?_⟩
    obtain ⟨g, hg, rfl⟩ := List.mem_map.1 hf
    rw [sq_mv]
    exact h2 g hg
theorem eight_mv (D : Pt) (l : List Ed) (p : Pt) : eightS (l.map (moveE D)) (moveP D p) = eightS l p := E8.unique (E8.is _ _) (E8.is l p).mv
theorem tex_mv (D : Pt) (l : List Ed) (s : Int) (p : Pt) : texG (l.map (moveE D)) s (moveP D p) = texG l s p := by
  unfold texG sgS
  rw [numS_mv, onS_mv, eight_mv]
  by_cases h : l = []
  · subst h; rfl
  · rw [if_neg h, if_neg (by simpa using h)]

/-- The other way round. -/
theorem sq_back (e : Ed) (p : Pt) : sqF (backE e) p = sqF e p := by
  have h := squareV_back (e.b.x - e.a.x) (e.b.y - e.a.y) (p.x - e.a.x) (p.y - e.a.y)
  unfold sqF backE
  simp only []
  rw [← h]
  congr 1 <;> omega
theorem E8.back {l : List Ed} {p : Pt} {d : Int} (h : E8 l p d) : E8 (l.map backE).reverse p d := by
  rcases h with ⟨rfl, rfl⟩ | ⟨h0, ⟨e, he, rfl⟩, h2⟩
  · exact .inl ⟨rfl, rfl⟩
  · refine .inr ⟨h0, ⟨backE e, List.mem_reverse.2 (List.mem_map.2 ⟨e, he, rfl⟩), by rw [sq_back]⟩, fun f hf => ?_⟩
    obtain ⟨g, hg, rfl⟩ := List.mem_map.1 (List.mem_reverse.1 hf)
    rw [sq_back]
    exact h2 g hg
theorem tex_back (l : List Ed) (s : Int) (p : Pt) : texG (l.map backE).reverse s p = texG l s p := by
  unfold texG sgS
  rw [numS_back, onS_back, E8.unique (E8.is _ _) (E8.is l p).back]
  by_cases h : l = []
  · subst h; rfl
  · rw [if_neg h, if_neg (by simpa using h)]
    have k : (if -numS l p = 0 then (-1 : Int) else 1) = if numS l p = 0 then -1 else 1 := by
      by_cases k : numS l p = 0
      · rw [if_pos k, if_pos (by omega)]
      · rw [if_neg k, if_neg (by omega)]
    rw [k]

/-- P10.1, P10.2: a texel's byte; the first bytes of a field of so many columns, row by row. -/
def texN (es : List Ed) (s : Int) (p : Pt) : Nat := (texG es s p).toNat
theorem texN_is (es : List Ed) (s : Int) (p : Pt) (hs : 1 ≤ s) : ((texN es s p : Nat) : Int) = texG es s p := by
  have := texG_in es s p hs
  unfold texN
  omega
theorem texN_lt (es : List Ed) (s : Int) (p : Pt) (hs : 1 ≤ s) : texN es s p < 256 := by
  have := texG_in es s p hs
  unfold texN
  omega
def midP (x y p : Int) (i k : Int) : Pt := ⟨midG x p i, midG y p k⟩
def fldN (es : List Ed) (x y p s : Int) (u m : Nat) : List Nat := (List.range m).map fun j => texN es s (midP x y p (j % u : Nat) (j / u : Nat))
theorem fldN_length (es : List Ed) (x y p s : Int) (u m : Nat) : (fldN es x y p s u m).length = m := by simp [fldN]
theorem fldN_succ (es : List Ed) (x y p s : Int) (u m : Nat) : fldN es x y p s u (m + 1) = fldN es x y p s u m ++ [texN es s (midP x y p (m % u : Nat) (m / u : Nat))] := by simp [fldN, List.range_succ]
theorem fldN_next (es : List Ed) (x y p s : Int) (u k c : Nat) (hc : c < u) : fldN es x y p s u (k * u + (c + 1)) = fldN es x y p s u (k * u + c) ++ [texN es s (midP x y p c k)] := by
  rw [show k * u + (c + 1) = k * u + c + 1 by omega, fldN_succ, show (k * u + c) % u = c by rw [Nat.mul_comm, Nat.mul_add_mod]; exact Nat.mod_eq_of_lt hc, show (k * u + c) / u = k by rw [Nat.mul_comm, Nat.mul_add_div (by omega), Nat.div_eq_of_lt hc]; rfl]
theorem fldN_lt (es : List Ed) (x y p s : Int) (u m : Nat) (hs : 1 ≤ s) : ∀ b ∈ fldN es x y p s u m, b < 256 := by
  intro b hb
  obtain ⟨j, _, rfl⟩ := List.mem_map.1 hb
  exact texN_lt es s _ hs
theorem fldN_at (es : List Ed) (x y p s : Int) (u m j : Nat) (hj : j < m) : (fldN es x y p s u m)[j]? = some (texN es s (midP x y p (j % u : Nat) (j / u : Nat))) := by
  unfold fldN
  rw [List.getElem?_map, List.getElem?_range hj]
  rfl
/-- A row of a field. -/
def rowN (es : List Ed) (x y p s : Int) (u k : Nat) : List Nat := (List.range u).map fun (i : Nat) => texN es s (midP x y p i k)
theorem fldN_row (es : List Ed) (x y p s : Int) (u k : Nat) : fldN es x y p s u (k * u + u) = fldN es x y p s u (k * u) ++ rowN es x y p s u k := by
  have h : ∀ c, c ≤ u → fldN es x y p s u (k * u + c) = fldN es x y p s u (k * u) ++ (List.range c).map fun (i : Nat) => texN es s (midP x y p i k) := by
    intro c
    induction c with
    | zero => intro _; simp
    | succ c ih =>
      intro hc
      rw [fldN_next es x y p s u k c (by omega), ih (by omega), List.range_succ, List.map_append, List.append_assoc]
      rfl
  exact h u (Nat.le_refl _)
theorem fldN_cut (es : List Ed) (x y p s : Int) (u v k : Nat) (hk : k < v) : ((fldN es x y p s u (u * v)).drop (k * u)).take u = rowN es x y p s u k := by
  have h1 : k * u + u ≤ u * v := by
    have := Nat.mul_le_mul_right u (show k + 1 ≤ v by omega)
    rw [Nat.add_mul, Nat.mul_comm v u] at this
    omega
  apply List.ext_getElem?
  intro i
  by_cases hi : i < u
  · rw [List.getElem?_take_of_lt hi, List.getElem?_drop, fldN_at _ _ _ _ _ _ _ _ (by omega)]
    unfold rowN
    rw [List.getElem?_map, List.getElem?_range hi, show (k * u + i) % u = i by rw [Nat.mul_comm, Nat.mul_add_mod]; exact Nat.mod_eq_of_lt hi, show (k * u + i) / u = k by rw [Nat.mul_comm, Nat.mul_add_div (by omega), Nat.div_eq_of_lt hi]; rfl]
    rfl
  · rw [List.getElem?_eq_none (by simp; omega), List.getElem?_eq_none (by unfold rowN; simp; omega)]
theorem fldN_back (l : List Ed) (x y p s : Int) (u m : Nat) : fldN (l.map backE).reverse x y p s u m = fldN l x y p s u m := by
  unfold fldN texN
  simp only [tex_back]
theorem fldN_mv (l : List Ed) (x y p s X Y : Int) (u m : Nat) : fldN (l.map (moveE ⟨32 * X, 32 * Y⟩)) (x + X) (y + Y) p s u m = fldN l x y p s u m := by
  unfold fldN texN
  refine List.map_congr_left (fun j _ => ?_)
  have e : midP (x + X) (y + Y) p (j % u : Nat) (j / u : Nat) = moveP ⟨32 * X, 32 * Y⟩ (midP x y p (j % u : Nat) (j / u : Nat)) := by
    unfold midP moveP midG
    simp only []
    congr 1 <;> omega
  rw [e, tex_mv]

end Go.Proofs.Ytlhngelifmjefaa
