/-
  DistMath GridMath SdfMath CornMath MsdfMath in one text (no claim is made here).
-/
import Derived.Test.YteiildeaccngjaaMth
import Derived.IntWalk
namespace Go.Proofs.Yteiildeaccngjaa

/-- The square of a distance, before it is in its least form. -/
def rawV (u0 u1 v0 v1 : Int) : Int × Int :=
  if u0 * v0 + u1 * v1 ≤ 0 then (v0 * v0 + v1 * v1, 1)
  else if u0 * u0 + u1 * u1 ≤ u0 * v0 + u1 * v1 then ((v0 - u0) * (v0 - u0) + (v1 - u1) * (v1 - u1), 1)
  else ((u0 * v1 - u1 * v0) * (u0 * v1 - u1 * v0), u0 * u0 + u1 * u1)

theorem raw_least (u0 u1 v0 v1 c t : Int) (hc : 0 < c) (h0 : 0 ≤ t) (h1 : t ≤ c) :
    c * c * (rawV u0 u1 v0 v1).1 ≤ (rawV u0 u1 v0 v1).2 * ((c * v0 - t * u0) * (c * v0 - t * u0) + (c * v1 - t * u1) * (c * v1 - t * u1)) := by
  unfold rawV
  split
  · rename_i hf
    simp only []
    have k1 : 0 ≤ c * t * -(u0 * v0 + u1 * v1) := Int.mul_nonneg (Int.mul_nonneg (by omega) h0) (by omega)
    have k2 : 0 ≤ t * t * (u0 * u0 + u1 * u1) := Int.mul_nonneg (Int.mul_nonneg h0 h0) (Int.add_nonneg (sqNN _) (sqNN _))
    grind
  · split
    · rename_i hf hs
      simp only []
      have hS : 0 ≤ u0 * u0 + u1 * u1 := Int.add_nonneg (sqNN _) (sqNN _)
      have k1 : 0 ≤ c * (u0 * v0 + u1 * v1 - (u0 * u0 + u1 * u1)) := Int.mul_nonneg (by omega) (by omega)
      have k2 : 0 ≤ (c - t) * (u0 * u0 + u1 * u1) := Int.mul_nonneg (by omega) hS
      have k3 : 0 ≤ (c - t) * (2 * (c * (u0 * v0 + u1 * v1 - (u0 * u0 + u1 * u1))) + (c - t) * (u0 * u0 + u1 * u1)) := Int.mul_nonneg (by omega) (by omega)
      grind
    · simp only []
      have k := sqNN (c * (u0 * v0 + u1 * v1) - t * (u0 * u0 + u1 * u1))
      grind
theorem raw_foot (u0 u1 v0 v1 : Int) : ∃ c t, 0 < c ∧ 0 ≤ t ∧ t ≤ c ∧
    c * c * (rawV u0 u1 v0 v1).1 = (rawV u0 u1 v0 v1).2 * ((c * v0 - t * u0) * (c * v0 - t * u0) + (c * v1 - t * u1) * (c * v1 - t * u1)) := by
  unfold rawV
  split
  · refine ⟨1, 0, by omega, by omega, by omega, ?_⟩
    simp
  · split
    · refine ⟨1, 1, by omega, by omega, by omega, ?_⟩
      simp
    · rename_i hf hs
      refine ⟨u0 * u0 + u1 * u1, u0 * v0 + u1 * v1, by omega, by omega, by omega, ?_⟩
      simp only []
      grind

theorem frI_is {n d : Int} (hn : 0 ≤ n) (hd : 0 < d) : (frI n d).1 * d = (frI n d).2 * n ∧ 0 ≤ (frI n d).1 ∧ (frI n d).1 ≤ n ∧ 0 < (frI n d).2 ∧ (frI n d).2 ≤ d := by
  obtain ⟨a, rfl⟩ := Int.eq_ofNat_of_zero_le hn
  obtain ⟨b, rfl⟩ := Int.eq_ofNat_of_zero_le (Int.le_of_lt hd)
  have hb : 0 < b := by omega
  have hg : 0 < Nat.gcd a b := Nat.gcd_pos_of_pos_right a hb
  obtain ⟨x, hx⟩ := Nat.gcd_dvd_left a b
  obtain ⟨y, hy⟩ := Nat.gcd_dvd_right a b
  unfold frI
  simp only [Int.toNat_natCast]
  generalize Nat.gcd a b = g at *
  have e1 : a / g = x := by rw [hx]; exact Nat.mul_div_cancel_left x hg
  have e2 : b / g = y := by rw [hy]; exact Nat.mul_div_cancel_left y hg
  rw [e1, e2]
  have hy0 : 0 < y := by
    rcases Nat.eq_zero_or_pos y with h | h
    · rw [h, Nat.mul_zero] at hy; omega
    · exact h
  have l1 : x ≤ g * x := Nat.le_mul_of_pos_left x hg
  have l2 : y ≤ g * y := Nat.le_mul_of_pos_left y hg
  refine ⟨?_, by omega, by omega, by omega, by omega⟩
  have : x * b = y * a := by rw [hx, hy]; grind
  exact_mod_cast this

/-- The square of a point's distance from an edge, in its least form. -/
def sqF (e : Ed) (p : Pt) : Int × Int := squareV (e.b.x - e.a.x) (e.b.y - e.a.y) (p.x - e.a.x) (p.y - e.a.y)
def rawE (e : Ed) (p : Pt) : Int × Int := rawV (e.b.x - e.a.x) (e.b.y - e.a.y) (p.x - e.a.x) (p.y - e.a.y)
theorem raw_pos (u0 u1 v0 v1 : Int) : 0 ≤ (rawV u0 u1 v0 v1).1 ∧ 0 < (rawV u0 u1 v0 v1).2 := by
  unfold rawV
  split
  · exact ⟨Int.add_nonneg (sqNN _) (sqNN _), by simp⟩
  · split
    · exact ⟨Int.add_nonneg (sqNN _) (sqNN _), by simp⟩
    · exact ⟨sqNN _, by simp only []; omega⟩
theorem square_raw8 (u0 u1 v0 v1 : Int) : (squareV u0 u1 v0 v1).1 * (rawV u0 u1 v0 v1).2 = (squareV u0 u1 v0 v1).2 * (rawV u0 u1 v0 v1).1 ∧ 0 ≤ (squareV u0 u1 v0 v1).1 ∧ (squareV u0 u1 v0 v1).1 ≤ (rawV u0 u1 v0 v1).1 ∧ 0 < (squareV u0 u1 v0 v1).2 ∧ (squareV u0 u1 v0 v1).2 ≤ (rawV u0 u1 v0 v1).2 := by
  have hp := raw_pos u0 u1 v0 v1
  unfold squareV rawV at *
  split
  · rename_i h
    rw [if_pos h] at hp
    exact ⟨Int.mul_comm _ _, hp.1, Int.le_refl _, hp.2, Int.le_refl _⟩
  · rename_i h
    rw [if_neg h] at hp
    split
    · rename_i h2
      rw [if_pos h2] at hp
      exact ⟨Int.mul_comm _ _, hp.1, Int.le_refl _, hp.2, Int.le_refl _⟩
    · rename_i h2
      rw [if_neg h2] at hp
      unfold lineV
      rw [if_neg (by rintro ⟨rfl, rfl⟩; simp at h)]
      exact frI_is hp.1 hp.2
theorem sq_pos (e : Ed) (p : Pt) : 0 ≤ (sqF e p).1 ∧ 0 < (sqF e p).2 := ⟨(square_raw8 _ _ _ _).2.1, (square_raw8 _ _ _ _).2.2.2.1⟩

theorem sq_least (u0 u1 v0 v1 c t : Int) (hc : 0 < c) (h0 : 0 ≤ t) (h1 : t ≤ c) :
    c * c * (squareV u0 u1 v0 v1).1 ≤ (squareV u0 u1 v0 v1).2 * ((c * v0 - t * u0) * (c * v0 - t * u0) + (c * v1 - t * u1) * (c * v1 - t * u1)) := by
  have h := raw_least u0 u1 v0 v1 c t hc h0 h1
  obtain ⟨k, _, _, k2, _⟩ := square_raw8 u0 u1 v0 v1
  have hd := (raw_pos u0 u1 v0 v1).2
  generalize (squareV u0 u1 v0 v1).1 = a at *
  generalize (squareV u0 u1 v0 v1).2 = b at *
  generalize (rawV u0 u1 v0 v1).1 = n at *
  generalize (rawV u0 u1 v0 v1).2 = d at *
  generalize ((c * v0 - t * u0) * (c * v0 - t * u0) + (c * v1 - t * u1) * (c * v1 - t * u1)) = X at *
  have h2 := Int.mul_le_mul_of_nonneg_left h (Int.le_of_lt k2)
  refine Int.le_of_mul_le_mul_left (a := d) ?_ hd
  have e1 : d * (c * c * a) = b * (c * c * n) := by grind
  have e2 : d * (b * X) = b * (d * X) := by grind
  rw [e1, e2]
  exact h2
theorem sq_foot (u0 u1 v0 v1 : Int) : ∃ c t, 0 < c ∧ 0 ≤ t ∧ t ≤ c ∧
    c * c * (squareV u0 u1 v0 v1).1 = (squareV u0 u1 v0 v1).2 * ((c * v0 - t * u0) * (c * v0 - t * u0) + (c * v1 - t * u1) * (c * v1 - t * u1)) := by
  obtain ⟨c, t, hc, h0, h1, h⟩ := raw_foot u0 u1 v0 v1
  obtain ⟨k, _, _, k2, _⟩ := square_raw8 u0 u1 v0 v1
  have hd := (raw_pos u0 u1 v0 v1).2
  refine ⟨c, t, hc, h0, h1, ?_⟩
  generalize (squareV u0 u1 v0 v1).1 = a at *
  generalize (squareV u0 u1 v0 v1).2 = b at *
  generalize (rawV u0 u1 v0 v1).1 = n at *
  generalize (rawV u0 u1 v0 v1).2 = d at *
  generalize ((c * v0 - t * u0) * (c * v0 - t * u0) + (c * v1 - t * u1) * (c * v1 - t * u1)) = X at *
  refine Int.eq_of_mul_eq_mul_left (a := d) (by omega) ?_
  grind

theorem sq_lt_of {a b : Int} (hb : 0 ≤ b) (h : a * a < b * b) : a < b := by
  rcases Int.lt_or_le a b with h1 | h1
  · exact h1
  · have := Int.mul_le_mul h1 h1 hb (by omega)
    omega
/-- Who goes a way changes the distance by no more than that. -/
theorem step_one (u0 u1 v0 v1 d0 d1 x y W : Int) (hy : 0 ≤ y) (hW : 0 ≤ W)
    (h1 : 64 * (squareV u0 u1 v0 v1).1 < (squareV u0 u1 v0 v1).2 * ((y + 1) * (y + 1))) (h2 : 64 * (d0 * d0 + d1 * d1) < (W + 1) * (W + 1))
    (h3 : x * x * (squareV u0 u1 (v0 + d0) (v1 + d1)).2 ≤ 64 * (squareV u0 u1 (v0 + d0) (v1 + d1)).1) : x < y + W + 2 := by
  obtain ⟨c, t, hc, ht0, ht1, hf⟩ := sq_foot u0 u1 v0 v1
  have hl := sq_least u0 u1 (v0 + d0) (v1 + d1) c t hc ht0 ht1
  have k1 := (square_raw8 u0 u1 v0 v1).2.2.2.1
  have k2 := (square_raw8 u0 u1 (v0 + d0) (v1 + d1)).2.2.2.1
  rw [show c * (v0 + d0) - t * u0 = (c * v0 - t * u0) + c * d0 by grind, show c * (v1 + d1) - t * u1 = (c * v1 - t * u1) + c * d1 by grind] at hl
  generalize (squareV u0 u1 v0 v1).1 = n at *
  generalize (squareV u0 u1 v0 v1).2 = m at *
  generalize (squareV u0 u1 (v0 + d0) (v1 + d1)).1 = n' at *
  generalize (squareV u0 u1 (v0 + d0) (v1 + d1)).2 = m' at *
  generalize c * v0 - t * u0 = z0 at *
  generalize c * v1 - t * u1 = z1 at *
  have hcc : 0 < c * c := Int.mul_pos hc hc
  have a1 : 64 * (z0 * z0 + z1 * z1) < (c * (y + 1)) * (c * (y + 1)) := by
    refine Int.lt_of_mul_lt_mul_left (a := m) ?_ (Int.le_of_lt k1)
    have := Int.mul_lt_mul_of_pos_left h1 hcc
    grind
  have a2 : 64 * ((c * d0) * (c * d0) + (c * d1) * (c * d1)) < (c * (W + 1)) * (c * (W + 1)) := by
    have := Int.mul_lt_mul_of_pos_left h2 hcc
    grind
  have hP : 0 < c * (y + 1) := Int.mul_pos hc (by omega)
  have hQ : 0 < c * (W + 1) := Int.mul_pos hc (by omega)
  have hsum : c * (y + W + 2) = c * (y + 1) + c * (W + 1) := by grind
  generalize c * d0 = e0 at *
  generalize c * d1 = e1 at *
  generalize c * (y + 1) = P at *
  generalize c * (W + 1) = Q at *
  have a3 : (64 * (z0 * e0 + z1 * e1)) * (64 * (z0 * e0 + z1 * e1)) < (P * Q) * (P * Q) := by
    have b1 := sqNN (z0 * e1 - z1 * e0)
    have n1 : 0 ≤ 64 * (z0 * z0 + z1 * z1) := Int.mul_nonneg (by omega) (Int.add_nonneg (sqNN _) (sqNN _))
    have n2 : 0 ≤ 64 * (e0 * e0 + e1 * e1) := Int.mul_nonneg (by omega) (Int.add_nonneg (sqNN _) (sqNN _))
    have b2 : (64 * (z0 * z0 + z1 * z1)) * (64 * (e0 * e0 + e1 * e1)) < (P * P) * (Q * Q) := by
      have c1 := Int.mul_le_mul_of_nonneg_right (Int.le_of_lt a1) n2
      have c2 := Int.mul_lt_mul_of_pos_left a2 (Int.mul_pos hP hP)
      omega
    grind
  have a4 : 64 * (z0 * e0 + z1 * e1) < P * Q := sq_lt_of (Int.mul_nonneg (Int.le_of_lt hP) (Int.le_of_lt hQ)) a3
  have a5 : 64 * ((z0 + e0) * (z0 + e0) + (z1 + e1) * (z1 + e1)) < (P + Q) * (P + Q) := by grind
  have a6 : (c * x) * (c * x) < (P + Q) * (P + Q) := by
    refine Int.lt_of_mul_lt_mul_left (a := m') ?_ (Int.le_of_lt k2)
    have b1 := Int.mul_le_mul_of_nonneg_left h3 (Int.le_of_lt hcc)
    have b2 := Int.mul_lt_mul_of_pos_left a5 k2
    grind
  have a7 := sq_lt_of (show 0 ≤ P + Q by omega) a6
  rw [← hsum] at a7
  exact Int.lt_of_mul_lt_mul_left a7 (Int.le_of_lt hc)

/-- Eight times a root, rounded down. -/
def e8 (f : Int × Int) : Int := (isqrt (f.1.toNat * 64 / f.2.toNat) : Nat)
theorem e8_spec {f : Int × Int} (h0 : 0 ≤ f.1) (h1 : 0 < f.2) (hb : f.1 * 64 < f.2 * 18446744073709551616) : 0 ≤ e8 f ∧ e8 f * e8 f * f.2 ≤ 64 * f.1 ∧ 64 * f.1 < f.2 * ((e8 f + 1) * (e8 f + 1)) := by
  obtain ⟨a, b⟩ := f
  simp only [] at h0 h1 hb
  obtain ⟨a, rfl⟩ := Int.eq_ofNat_of_zero_le h0
  obtain ⟨b, rfl⟩ := Int.eq_ofNat_of_zero_le (Int.le_of_lt h1)
  have hb0 : 0 < b := by omega
  have hq : a * 64 / b < 18446744073709551616 := by
    rw [Nat.div_lt_iff_lt_mul hb0]
    omega
  obtain ⟨k1, k2⟩ := isqrt_spec _ hq
  unfold e8
  simp only [Int.toNat_natCast]
  have d1 := Nat.div_mul_le_self (a * 64) b
  have d2 := Nat.lt_mul_div_succ (a * 64) hb0
  generalize a * 64 / b = q at *
  generalize isqrt q = r at *
  have m1 := Nat.mul_le_mul_right b k1
  have m2 := Nat.mul_le_mul_left b (show q + 1 ≤ (r + 1) * (r + 1) by omega)
  refine ⟨by omega, ?_, ?_⟩
  · have : r * r * b ≤ 64 * a := by omega
    exact_mod_cast this
  · have : 64 * a < b * ((r + 1) * (r + 1)) := by omega
    exact_mod_cast this
theorem e8_unique {n d x y : Int} (hd : 0 < d) (hy : 0 ≤ y) (h1 : x * x * d ≤ 64 * n) (h2 : 64 * n < d * ((y + 1) * (y + 1))) : x ≤ y := by
  have h3 : x * x < (y + 1) * (y + 1) := by
    refine Int.lt_of_mul_lt_mul_left (a := d) ?_ (Int.le_of_lt hd)
    rw [Int.mul_comm d (x * x)]
    omega
  have := sq_lt_of (show 0 ≤ y + 1 by omega) h3
  omega

/-- The order of fractions. -/
def leF (f g : Int × Int) : Prop := f.1 * g.2 ≤ g.1 * f.2
def ltF (f g : Int × Int) : Prop := f.1 * g.2 < g.1 * f.2
theorem leF_trans {f g h : Int × Int} (hf : 0 < f.2) (hg : 0 < g.2) (hh : 0 < h.2) (h1 : leF f g) (h2 : leF g h) : leF f h := by
  unfold leF at *
  refine Int.le_of_mul_le_mul_left (a := g.2) ?_ hg
  have a1 := Int.mul_le_mul_of_nonneg_left h1 (Int.le_of_lt hh)
  have a2 := Int.mul_le_mul_of_nonneg_left h2 (Int.le_of_lt hf)
  have e1 : g.2 * (f.1 * h.2) = h.2 * (f.1 * g.2) := by grind
  have e2 : g.2 * (h.1 * f.2) = f.2 * (h.1 * g.2) := by grind
  have e3 : h.2 * (g.1 * f.2) = f.2 * (g.1 * h.2) := by grind
  omega
theorem ltF_leF {f g h : Int × Int} (hf : 0 < f.2) (hg : 0 < g.2) (hh : 0 < h.2) (h1 : ltF f g) (h2 : leF g h) : ltF f h := by
  unfold leF ltF at *
  refine Int.lt_of_mul_lt_mul_left (a := g.2) ?_ (Int.le_of_lt hg)
  have a1 := Int.mul_lt_mul_of_pos_left h1 hh
  have a2 := Int.mul_le_mul_of_nonneg_left h2 (Int.le_of_lt hf)
  have e1 : g.2 * (f.1 * h.2) = h.2 * (f.1 * g.2) := by grind
  have e2 : g.2 * (h.1 * f.2) = f.2 * (h.1 * g.2) := by grind
  have e3 : h.2 * (g.1 * f.2) = f.2 * (g.1 * h.2) := by grind
  omega
theorem leF_refl (f : Int × Int) : leF f f := by unfold leF; exact Int.le_refl _
theorem ltF_le {f g : Int × Int} (h : ltF f g) : leF f g := Int.le_of_lt h
theorem not_ltF {f g : Int × Int} (h : ¬ ltF f g) : leF g f := by unfold ltF at h; unfold leF; omega
theorem not_leF {f g : Int × Int} (h : ltF f g) (h' : leF g f) : False := by unfold ltF at h; unfold leF at h'; omega
theorem e8_mono {f g : Int × Int} (hf : 0 ≤ f.1) (hf2 : 0 < f.2) (hg : 0 ≤ g.1) (hg2 : 0 < g.2) (bf : f.1 * 64 < f.2 * 18446744073709551616) (bg : g.1 * 64 < g.2 * 18446744073709551616) (h : leF f g) : e8 f ≤ e8 g := by
  obtain ⟨x0, x1, x2⟩ := e8_spec hf hf2 bf
  obtain ⟨y0, y1, y2⟩ := e8_spec hg hg2 bg
  unfold leF at h
  generalize e8 f = x at *
  generalize e8 g = y at *
  have h3 : x * x < (y + 1) * (y + 1) := by
    refine Int.lt_of_mul_lt_mul_left (a := f.2 * g.2) ?_ (Int.le_of_lt (Int.mul_pos hf2 hg2))
    have a1 := Int.mul_le_mul_of_nonneg_left x1 (Int.le_of_lt hg2)
    have a2 := Int.mul_lt_mul_of_pos_left y2 hf2
    have e1 : f.2 * g.2 * (x * x) = g.2 * (x * x * f.2) := by grind
    have e2 : f.2 * g.2 * ((y + 1) * (y + 1)) = f.2 * (g.2 * ((y + 1) * (y + 1))) := by grind
    have e3 : g.2 * (64 * f.1) = 64 * (f.1 * g.2) := by grind
    have e4 : f.2 * (64 * g.1) = 64 * (g.1 * f.2) := by grind
    omega
  have := sq_lt_of (show 0 ≤ y + 1 by omega) h3
  omega

/-- P8.1: the least of some edges, and the first that has it. -/
def Best (es : List Ed) (p : Pt) (T : Nat → Bool) (f : Int × Int) (k : Int) : Prop :=
  (k = -1 ∧ f = (0, 0) ∧ ∀ i, i < es.length → T i = false) ∨
  ∃ (j : Nat) (e : Ed), k = j ∧ es[j]? = some e ∧ T j = true ∧ f = sqF e p ∧ ∀ i d, es[i]? = some d → T i = true → leF f (sqF d p) ∧ (i < j → ltF f (sqF d p))
theorem Best.nil (p : Pt) (T : Nat → Bool) : Best [] p T (0, 0) (-1) := .inl ⟨rfl, rfl, fun _ h => absurd h (Nat.not_lt_zero _)⟩
theorem take_at {es : List Ed} {r i : Nat} {d : Ed} (h : (es.take r)[i]? = some d) : i < r ∧ es[i]? = some d := by
  rw [List.getElem?_take] at h
  split at h
  · exact ⟨by assumption, h⟩
  · cases h
theorem at_take {es : List Ed} {r i : Nat} {d : Ed} (hi : i < r) (h : es[i]? = some d) : (es.take r)[i]? = some d := by
  rw [List.getElem?_take, if_pos hi]; exact h
theorem Best.skip {es : List Ed} {p : Pt} {T : Nat → Bool} {f : Int × Int} {k : Int} {r : Nat} (h : Best (es.take r) p T f k) (hT : T r = false) : Best (es.take (r + 1)) p T f k := by
  rcases h with ⟨h1, h2, h3⟩ | ⟨j, e, h1, h2, h3, h4, h5⟩
  · refine .inl ⟨h1, h2, fun i hi => ?_⟩
    rw [List.length_take] at h3 hi
    by_cases hir : i = r
    · rw [hir]; exact hT
    · exact h3 i (by omega)
  · obtain ⟨a1, a2⟩ := take_at h2
    refine .inr ⟨j, e, h1, at_take (by omega) a2, h3, h4, fun i d hd hTi => ?_⟩
    obtain ⟨b1, b2⟩ := take_at hd
    have : i ≠ r := by rintro rfl; rw [hT] at hTi; cases hTi
    exact h5 i d (at_take (by omega) b2) hTi
theorem Best.new {es : List Ed} {p : Pt} {T : Nat → Bool} {f : Int × Int} {r : Nat} {e : Ed} (h : Best (es.take r) p T f (-1)) (he : es[r]? = some e) (hT : T r = true) : Best (es.take (r + 1)) p T (sqF e p) r := by
  rcases h with ⟨_, _, h3⟩ | ⟨j, _, h1, _⟩
  · refine .inr ⟨r, e, rfl, at_take (by omega) he, hT, rfl, fun i d hd hTi => ?_⟩
    obtain ⟨b1, b2⟩ := take_at hd
    have hir : i = r := by
      by_cases hir : i = r
      · exact hir
      · have hl := (List.getElem?_eq_some_iff.1 b2).1
        have := h3 i (by rw [List.length_take]; omega)
        rw [this] at hTi; cases hTi
    subst hir
    rw [he] at b2
    cases b2
    exact ⟨leF_refl _, fun h => absurd h (Nat.lt_irrefl _)⟩
  · omega
theorem Best.less {es : List Ed} {p : Pt} {T : Nat → Bool} {f : Int × Int} {k : Int} {r : Nat} {e : Ed} (h : Best (es.take r) p T f k) (hk : k ≠ -1) (he : es[r]? = some e) (hT : T r = true) (hl : ltF (sqF e p) f) : Best (es.take (r + 1)) p T (sqF e p) r := by
  rcases h with ⟨h1, _⟩ | ⟨j, e0, h1, h2, h3, h4, h5⟩
  · exact absurd h1 hk
  · refine .inr ⟨r, e, rfl, at_take (by omega) he, hT, rfl, fun i d hd hTi => ?_⟩
    obtain ⟨b1, b2⟩ := take_at hd
    by_cases hir : i = r
    · subst hir
      rw [he] at b2
      cases b2
      exact ⟨leF_refl _, fun h => absurd h (Nat.lt_irrefl _)⟩
    · have k1 := (h5 i d (at_take (by omega) b2) hTi).1
      have hf : 0 < f.2 := by rw [h4]; exact (sq_pos e0 p).2
      have k2 := ltF_leF (sq_pos e p).2 hf (sq_pos d p).2 hl k1
      exact ⟨ltF_le k2, fun _ => k2⟩
theorem Best.keep {es : List Ed} {p : Pt} {T : Nat → Bool} {f : Int × Int} {k : Int} {r : Nat} {e : Ed} (h : Best (es.take r) p T f k) (hk : k ≠ -1) (he : es[r]? = some e) (hl : ¬ ltF (sqF e p) f) : Best (es.take (r + 1)) p T f k := by
  rcases h with ⟨h1, _⟩ | ⟨j, e0, h1, h2, h3, h4, h5⟩
  · exact absurd h1 hk
  · obtain ⟨a1, a2⟩ := take_at h2
    refine .inr ⟨j, e0, h1, at_take (by omega) a2, h3, h4, fun i d hd hTi => ?_⟩
    obtain ⟨b1, b2⟩ := take_at hd
    by_cases hir : i = r
    · subst hir
      rw [he] at b2
      cases b2
      exact ⟨not_ltF hl, fun h => by omega⟩
    · exact h5 i d (at_take (by omega) b2) hTi
theorem Best.unique {es : List Ed} {p : Pt} {T : Nat → Bool} {f g : Int × Int} {k l : Int} (h : Best es p T f k) (h' : Best es p T g l) : f = g ∧ k = l := by
  rcases h with ⟨h1, h2, h3⟩ | ⟨j, e, h1, h2, h3, h4, h5⟩
  · rcases h' with ⟨g1, g2, _⟩ | ⟨j', e', g1, g2, g3, g4, g5⟩
    · exact ⟨h2.trans g2.symm, h1.trans g1.symm⟩
    · have := h3 j' (List.getElem?_eq_some_iff.1 g2).1
      rw [this] at g3; cases g3
  · rcases h' with ⟨g1, g2, g3⟩ | ⟨j', e', g1, g2, g3, g4, g5⟩
    · have := g3 j (List.getElem?_eq_some_iff.1 h2).1
      rw [this] at h3; cases h3
    · have k1 := h5 j' e' g2 g3
      have k2 := g5 j e h2 h3
      rw [← g4] at k1
      rw [← h4] at k2
      have hj : j = j' := by
        rcases Nat.lt_trichotomy j j' with h | h | h
        · exact (not_leF (k2.2 h) k1.1).elim
        · exact h
        · exact (not_leF (k1.2 h) k2.1).elim
      subst hj
      rw [h2] at g2
      cases g2
      exact ⟨h4.trans g4.symm, h1.trans g1.symm⟩
/-- Of all edges. -/
abbrev Near (es : List Ed) (p : Pt) (f : Int × Int) (k : Int) : Prop := Best es p (fun _ => true) f k
theorem Near.none {es : List Ed} {p : Pt} {f : Int × Int} {k : Int} (h : Near es p f k) : k < 0 ↔ es = [] := by
  rcases h with ⟨h1, h2, h3⟩ | ⟨j, e, h1, h2, h3, h4, h5⟩
  · refine ⟨fun _ => ?_, fun _ => by omega⟩
    cases es with
    | nil => rfl
    | cons d l => have := h3 0 (by simp); cases this
  · refine ⟨fun h => by omega, fun h => ?_⟩
    subst h
    cases h2
theorem Near.some {es : List Ed} {p : Pt} {f : Int × Int} {k : Int} (h : Near es p f k) (hk : 0 ≤ k) : ∃ (j : Nat) (e : Ed), k = j ∧ es[j]? = Option.some e ∧ f = sqF e p ∧ ∀ i d, es[i]? = Option.some d → leF f (sqF d p) ∧ (i < j → ltF f (sqF d p)) := by
  rcases h with ⟨h1, _⟩ | ⟨j, e, h1, h2, h3, h4, h5⟩
  · omega
  · exact ⟨j, e, h1, h2, h4, fun i d hd => h5 i d hd rfl⟩

/-- P8.2: eight times the distance: the least of all edges'. -/
def E8 (es : List Ed) (p : Pt) (d : Int) : Prop := (es = [] ∧ d = -1) ∨ (0 ≤ d ∧ (∃ e ∈ es, d = e8 (sqF e p)) ∧ ∀ e ∈ es, d ≤ e8 (sqF e p))
/-- What is far away by so little that eight times it is small. -/
def Fit (es : List Ed) (p : Pt) : Prop := ∀ e ∈ es, (sqF e p).1 * 64 < (sqF e p).2 * 18446744073709551616
theorem e8_nonneg (f : Int × Int) : 0 ≤ e8 f := by unfold e8; omega
theorem Near.eight {es : List Ed} {p : Pt} {f : Int × Int} {k : Int} (hfit : Fit es p) (h : Near es p f k) : E8 es p (if k < 0 then -1 else e8 f) := by
  by_cases hk : k < 0
  · rw [if_pos hk]; exact .inl ⟨h.none.1 hk, rfl⟩
  · rw [if_neg hk]
    obtain ⟨j, e, h1, h2, h3, h4⟩ := h.some (by omega)
    have he := List.mem_of_getElem? h2
    refine .inr ⟨e8_nonneg _, ⟨e, he, by rw [h3]⟩, fun d hd => ?_⟩
    obtain ⟨i, hi⟩ := List.getElem?_of_mem hd
    have k1 := (h4 i d hi).1
    rw [h3] at k1 ⊢
    exact e8_mono (sq_pos e p).1 (sq_pos e p).2 (sq_pos d p).1 (sq_pos d p).2 (hfit e he) (hfit d hd) k1
theorem E8.unique {es : List Ed} {p : Pt} {x y : Int} (h : E8 es p x) (h' : E8 es p y) : x = y := by
  rcases h with ⟨rfl, rfl⟩ | ⟨h1, ⟨e, he, rfl⟩, h3⟩
  · rcases h' with ⟨_, rfl⟩ | ⟨_, ⟨e, he, _⟩, _⟩
    · rfl
    · cases he
  · rcases h' with ⟨rfl, _⟩ | ⟨g1, ⟨d, hd, rfl⟩, g3⟩
    · cases he
    · have := h3 d hd
      have := g3 e he
      omega
theorem E8.more {a b : List Ed} {p : Pt} {i j k : Int} (hi : E8 a p i) (hj : E8 b p j) (hk : E8 (a ++ b) p k) : (i < 0 ∨ j < 0 → k = max i j) ∧ (0 ≤ i → 0 ≤ j → k = min i j) := by
  rcases hi with ⟨rfl, rfl⟩ | ⟨i0, ⟨e, he, hie⟩, ia⟩
  · have := E8.unique (by simpa using hk) hj
    rcases hj with ⟨_, h⟩ | ⟨h, _⟩ <;> omega
  · rcases hj with ⟨rfl, rfl⟩ | ⟨j0, ⟨d, hd, hjd⟩, ja⟩
    · have := E8.unique (show E8 a p k by simpa using hk) (.inr ⟨i0, ⟨e, he, hie⟩, ia⟩)
      omega
    · refine ⟨fun h => by omega, fun _ _ => ?_⟩
      refine E8.unique hk (.inr ⟨by omega, ?_, fun x hx => ?_⟩)
      · by_cases hij : i ≤ j
        · exact ⟨e, List.mem_append_left _ he, by rw [Int.min_eq_left hij]; exact hie⟩
        · exact ⟨d, List.mem_append_right _ hd, by rw [Int.min_eq_right (by omega)]; exact hjd⟩
      · rcases List.mem_append.1 hx with h | h
        · have := ia x h; omega
        · have := ja x h; omega
theorem E8.step {es : List Ed} {a b : Pt} {x y W : Int} (fa : Fit es a) (fb : Fit es b) (hx : E8 es a x) (hy : E8 es b y) (hW : 0 ≤ W) (h2 : 64 * ((a.x - b.x) * (a.x - b.x) + (a.y - b.y) * (a.y - b.y)) < (W + 1) * (W + 1)) : x - y ≤ W + 1 := by
  rcases hy with ⟨rfl, rfl⟩ | ⟨y0, ⟨e, he, rfl⟩, ya⟩
  · rcases hx with ⟨_, rfl⟩ | ⟨_, ⟨e, he, _⟩, _⟩
    · omega
    · cases he
  · rcases hx with ⟨rfl, _⟩ | ⟨x0, _, xa⟩
    · cases he
    · have hle := xa e he
      obtain ⟨p0, p1, p2⟩ := e8_spec (sq_pos e a).1 (sq_pos e a).2 (fa e he)
      obtain ⟨q0, q1, q2⟩ := e8_spec (sq_pos e b).1 (sq_pos e b).2 (fb e he)
      have key : e8 (sqF e a) < e8 (sqF e b) + W + 2 := by
        refine step_one (e.b.x - e.a.x) (e.b.y - e.a.y) (b.x - e.a.x) (b.y - e.a.y) (a.x - b.x) (a.y - b.y) _ _ _ q0 hW q2 h2 ?_
        rw [show b.x - e.a.x + (a.x - b.x) = a.x - e.a.x by omega, show b.y - e.a.y + (a.y - b.y) = a.y - e.a.y by omega]
        exact p1
      omega

theorem absB {a : Int} {M : Nat} (h : a.natAbs ≤ M) : a * a ≤ M * M := by
  have h1 := mulB h h
  have h2 : ((a * a).natAbs : Int) ≤ ((M * M : Nat) : Int) := by omega
  have h3 := sqNN a
  rw [Int.natCast_mul] at h2
  omega
theorem raw_small {U0 U1 V0 V1 : Int} (u0 : U0.natAbs ≤ 16384) (u1 : U1.natAbs ≤ 16384) (v0 : V0.natAbs ≤ 40960) (v1 : V1.natAbs ≤ 40960) : (rawV U0 U1 V0 V1).1 ≤ 1801439850948198400 ∧ (rawV U0 U1 V0 V1).2 ≤ 536870912 := by
  unfold rawV
  split
  · have a1 := absB v0
    have a2 := absB v1
    simp only []
    omega
  · split
    · have a1 := absB (show (V0 - U0).natAbs ≤ 57344 by omega)
      have a2 := absB (show (V1 - U1).natAbs ≤ 57344 by omega)
      simp only []
      omega
    · have a1 := mulB u0 v1
      have a2 := mulB u1 v0
      have a3 : (U0 * V1 - U1 * V0).natAbs ≤ 1342177280 := by
        generalize U0 * V1 = x at *
        generalize U1 * V0 = y at *
        omega
      have a4 := absB a3
      have a5 := absB u0
      have a6 := absB u1
      simp only []
      generalize (U0 * V1 - U1 * V0) * (U0 * V1 - U1 * V0) = z at *
      generalize U0 * U0 = x at *
      generalize U1 * U1 = y at *
      omega
/-- Eight times the distance, as a number. -/
def eightS (es : List Ed) (p : Pt) : Int :=
  match es with
  | [] => -1
  | e :: l => (l.map fun d => e8 (sqF d p)).foldl min (e8 (sqF e p))
theorem foldl_min : ∀ (l : List Int) (a : Int), l.foldl min a ≤ a ∧ (∀ x ∈ l, l.foldl min a ≤ x) ∧ (l.foldl min a = a ∨ l.foldl min a ∈ l)
  | [], a => ⟨Int.le_refl _, ⟨fun x hx => absurd hx (by simp), Or.inl rfl⟩⟩
  | b :: l, a => by
    obtain ⟨h1, h2, h3⟩ := foldl_min l (min a b)
    rw [List.foldl_cons]
    refine ⟨by omega, fun x hx => ?_, ?_⟩
    · rcases List.mem_cons.1 hx with rfl | hx
      · omega
      · exact h2 x hx
    · rcases h3 with h | h
      · by_cases hab : a ≤ b
        · left; rw [h]; omega
        · right; rw [h, Int.min_eq_right (by omega)]; exact List.mem_cons_self
      · right; exact List.mem_cons_of_mem _ h
theorem E8.is (es : List Ed) (p : Pt) : E8 es p (eightS es p) := by
  cases es with
  | nil => exact .inl ⟨rfl, rfl⟩
  | cons e l =>
    have hdef : eightS (e :: l) p = (l.map fun d => e8 (sqF d p)).foldl min (e8 (sqF e p)) := rfl
    rw [hdef]
    clear hdef
    obtain ⟨h1, h2, h3⟩ := foldl_min (l.map fun d => e8 (sqF d p)) (e8 (sqF e p))
    generalize (l.map fun d => e8 (sqF d p)).foldl min (e8 (sqF e p)) = m at *
    have hex : ∃ d ∈ e :: l, m = e8 (sqF d p) := by
      rcases h3 with h | h
      · exact ⟨e, List.mem_cons_self, h⟩
      · obtain ⟨d, hd, rfl⟩ := List.mem_map.1 h
        exact ⟨d, List.mem_cons_of_mem _ hd, rfl⟩
    refine .inr ⟨?_, hex, fun d hd => ?_⟩
    · obtain ⟨d, _, rfl⟩ := hex
      exact e8_nonneg _
    · rcases List.mem_cons.1 hd with rfl | hd
      · exact h1
      · exact h2 _ (List.mem_map.2 ⟨d, hd, rfl⟩)
/-- Bounds: edges within 8192, a point within 32768. -/
theorem sq_small (e : Ed) (p : Pt) (h : (e.a.x.natAbs ≤ 8192 ∧ e.a.y.natAbs ≤ 8192) ∧ (e.b.x.natAbs ≤ 8192 ∧ e.b.y.natAbs ≤ 8192)) (hp : p.x.natAbs ≤ 32768 ∧ p.y.natAbs ≤ 32768) :
    (0 ≤ (sqF e p).1 ∧ (sqF e p).1 ≤ 1801439850948198400) ∧ (0 < (sqF e p).2 ∧ (sqF e p).2 ≤ 536870912) ∧ (sqF e p).1 ≤ (sqF e p).2 * 3355443200 := by
  obtain ⟨k1, k2, k3, k4, k5⟩ := square_raw8 (e.b.x - e.a.x) (e.b.y - e.a.y) (p.x - e.a.x) (p.y - e.a.y)
  have hl := sq_least (e.b.x - e.a.x) (e.b.y - e.a.y) (p.x - e.a.x) (p.y - e.a.y) 1 0 (by omega) (by omega) (by omega)
  unfold sqF
  have u0 : (e.b.x - e.a.x).natAbs ≤ 16384 := by omega
  have u1 : (e.b.y - e.a.y).natAbs ≤ 16384 := by omega
  have v0 : (p.x - e.a.x).natAbs ≤ 40960 := by omega
  have v1 : (p.y - e.a.y).natAbs ≤ 40960 := by omega
  generalize e.b.x - e.a.x = U0 at *
  generalize e.b.y - e.a.y = U1 at *
  generalize p.x - e.a.x = V0 at *
  generalize p.y - e.a.y = V1 at *
  have b1 := raw_small u0 u1 v0 v1
  have a1 := absB v0
  have a2 := absB v1
  have b2 : (squareV U0 U1 V0 V1).2 * (V0 * V0 + V1 * V1) ≤ (squareV U0 U1 V0 V1).2 * 3355443200 := Int.mul_le_mul_of_nonneg_left (by omega) (by omega)
  simp only [Int.one_mul, Int.zero_mul, Int.sub_zero] at hl
  omega
theorem Near.on {es : List Ed} {p : Pt} {f : Int × Int} {k : Int} (h : Near es p f k) : onS es p = true ↔ 0 ≤ k ∧ f.1 = 0 := by
  unfold onS
  rw [List.any_eq_true]
  constructor
  · rintro ⟨e, he, ho⟩
    have ho := of_decide_eq_true ho
    rw [← on_square] at ho
    have hk : 0 ≤ k := by
      rcases Int.lt_or_le k 0 with h0 | h0
      · rw [h.none.1 h0] at he; cases he
      · exact h0
    refine ⟨hk, ?_⟩
    obtain ⟨j, d, h1, h2, h3, h4⟩ := h.some hk
    obtain ⟨i, hi⟩ := List.getElem?_of_mem he
    have k1 := (h4 i e hi).1
    have k2 : (sqF e p).1 = 0 := ho
    unfold leF at k1
    rw [k2, Int.zero_mul] at k1
    have k3 := sq_pos d p
    have k4 := (sq_pos e p).2
    rw [h3] at k1 ⊢
    rcases Int.lt_or_le 0 (sqF d p).1 with h0 | h0
    · have := Int.mul_pos h0 k4; omega
    · omega
  · rintro ⟨hk, hf⟩
    obtain ⟨j, d, h1, h2, h3, h4⟩ := h.some hk
    refine ⟨d, List.mem_of_getElem? h2, decide_eq_true ?_⟩
    rw [← on_square]
    rw [h3] at hf
    exact hf
def sgS (es : List Ed) (p : Pt) : Int := if onS es p = true then 0 else if numS es p = 0 then -1 else 1

end Go.Proofs.Yteiildeaccngjaa

namespace Go.Proofs.Yteiildeaccngjaa

/-- P9.1: what is wrong of a grid. -/
def checkG (x y p u v s : Int) : Int :=
  if u < 1 ∨ v < 1 ∨ 24 < u ∨ 24 < v then 6
  else if 255 < x ∨ 255 < y ∨ x < -255 ∨ y < -255 ∨ p < 1 ∨ 16 < p ∨ s < 1 ∨ 64 < s then 4 else 0
/-- The middle of a texel, in one direction. -/
def midG (x p i : Int) : Int := x * 32 + i * p * 32 + p * 16
/-- P9.3. -/
def stepG (s e : Int) : Int := if e < 256 * s then e * 127 / (256 * s) else 127
theorem stepG_in (s e : Int) (hs : 1 ≤ s) (he : 0 ≤ e) : 0 ≤ stepG s e ∧ stepG s e ≤ 127 := by
  unfold stepG
  split
  · exact ⟨Int.ediv_nonneg (by omega) (by omega), Int.ediv_le_of_le_mul (by omega) (by omega)⟩
  · omega
theorem stepG_le (s e : Int) (hs : 1 ≤ s) (he : 0 ≤ e) : stepG s e ≤ stepG s (e + 1) := by
  by_cases h : e + 1 < 256 * s
  · unfold stepG
    rw [if_pos (by omega), if_pos h]
    exact Int.ediv_le_ediv (by omega) (by omega)
  · have := (stepG_in s e hs he).2
    rw [show stepG s (e + 1) = 127 by unfold stepG; rw [if_neg h]]
    exact this

end Go.Proofs.Yteiildeaccngjaa

namespace Go.Proofs.Yteiildeaccngjaa

/-- A point of an edge lies on the way from (x, y) up to (x, z). -/
def MeetV (e : Ed) (x y z : Int) : Prop :=
  ∃ c t : Int, 0 < c ∧ 0 ≤ t ∧ t ≤ c ∧ c * e.a.x + t * (e.b.x - e.a.x) = c * x ∧ c * y ≤ c * e.a.y + t * (e.b.y - e.a.y) ∧ c * e.a.y + t * (e.b.y - e.a.y) ≤ c * z
/-- .. on the way from (x, y) to (z, y). -/
def MeetH (e : Ed) (x z y : Int) : Prop :=
  ∃ c t : Int, 0 < c ∧ 0 ≤ t ∧ t ≤ c ∧ c * e.a.y + t * (e.b.y - e.a.y) = c * y ∧ c * x ≤ c * e.a.x + t * (e.b.x - e.a.x) ∧ c * e.a.x + t * (e.b.x - e.a.x) ≤ c * z

theorem sq_le_of {a b : Int} (hb : 0 ≤ b) (h : a * a ≤ b * b) : a ≤ b := by
  rcases Int.lt_or_le b a with g | g
  · have := Int.mul_le_mul (show b + 1 ≤ a by omega) (show b + 1 ≤ a by omega) (by omega) (by omega)
    have e : (b + 1) * (b + 1) = b * b + 2 * b + 1 := by grind
    omega
  · exact g
theorem near_one {n d c m E : Int} (hd : 0 < d) (hm : 0 ≤ m) (h1 : E * E * d ≤ 64 * n) (h2 : c * c * n ≤ d * (m * m)) : E * c ≤ 8 * m := by
  refine sq_le_of (by omega) (Int.le_of_mul_le_mul_left (a := d) ?_ hd)
  have a1 := Int.mul_le_mul_of_nonneg_left h1 (sqNN c)
  have a2 : d * (E * c * (E * c)) = c * c * (E * E * d) := by grind
  have a3 : d * (8 * m * (8 * m)) = 64 * (d * (m * m)) := by grind
  have a4 : c * c * (64 * n) = 64 * (c * c * n) := by grind
  omega
/-- Both ends of a way that meets an edge are no farther from it, together, than the way is long. -/
theorem meetV_sum {e : Ed} {x y z : Int} (h : MeetV e x y z) (f1 : (sqF e ⟨x, y⟩).1 * 64 < (sqF e ⟨x, y⟩).2 * 18446744073709551616) (f2 : (sqF e ⟨x, z⟩).1 * 64 < (sqF e ⟨x, z⟩).2 * 18446744073709551616) : e8 (sqF e ⟨x, y⟩) + e8 (sqF e ⟨x, z⟩) ≤ 8 * (z - y) := by
  obtain ⟨c, t, hc, h0, h1, hx, hy, hz⟩ := h
  obtain ⟨p0, p1, _⟩ := e8_spec (sq_pos e ⟨x, y⟩).1 (sq_pos e ⟨x, y⟩).2 f1
  obtain ⟨q0, q1, _⟩ := e8_spec (sq_pos e ⟨x, z⟩).1 (sq_pos e ⟨x, z⟩).2 f2
  have k1 := sq_least (e.b.x - e.a.x) (e.b.y - e.a.y) (x - e.a.x) (y - e.a.y) c t hc h0 h1
  have k2 := sq_least (e.b.x - e.a.x) (e.b.y - e.a.y) (x - e.a.x) (z - e.a.y) c t hc h0 h1
  have d1 := (sq_pos e ⟨x, y⟩).2
  have d2 := (sq_pos e ⟨x, z⟩).2
  unfold sqF at *
  simp only [] at *
  generalize e.b.x - e.a.x = u0 at *
  generalize e.b.y - e.a.y = u1 at *
  generalize squareV u0 u1 (x - e.a.x) (y - e.a.y) = f at *
  generalize squareV u0 u1 (x - e.a.x) (z - e.a.y) = g at *
  generalize e8 f = E at *
  generalize e8 g = G at *
  have z1 : c * (x - e.a.x) - t * u0 = 0 := by rw [Int.mul_sub]; omega
  have z2 : c * (y - e.a.y) - t * u1 = -(c * e.a.y + t * u1 - c * y) := by rw [Int.mul_sub]; omega
  have z3 : c * (z - e.a.y) - t * u1 = c * z - (c * e.a.y + t * u1) := by rw [Int.mul_sub]; omega
  rw [z1, z2] at k1
  rw [z1, z3] at k2
  obtain ⟨m1, hm1⟩ : ∃ m, c * e.a.y + t * u1 - c * y = m := ⟨_, rfl⟩
  obtain ⟨m2, hm2⟩ : ∃ m, c * z - (c * e.a.y + t * u1) = m := ⟨_, rfl⟩
  rw [hm1] at k1
  rw [hm2] at k2
  have r1 := near_one d1 (by omega) p1 (show c * c * f.1 ≤ f.2 * (m1 * m1) by rw [Int.neg_mul_neg] at k1; simpa using k1)
  have r2 := near_one d2 (by omega) q1 (show c * c * g.1 ≤ g.2 * (m2 * m2) by simpa using k2)
  have r3 : (E + G) * c ≤ 8 * (z - y) * c := by
    have e1 : (E + G) * c = E * c + G * c := Int.add_mul _ _ _
    have e2 : 8 * (z - y) * c = 8 * (c * z - c * y) := by grind
    omega
  exact Int.le_of_mul_le_mul_right r3 hc
theorem meetH_sum {e : Ed} {x z y : Int} (h : MeetH e x z y) (f1 : (sqF e ⟨x, y⟩).1 * 64 < (sqF e ⟨x, y⟩).2 * 18446744073709551616) (f2 : (sqF e ⟨z, y⟩).1 * 64 < (sqF e ⟨z, y⟩).2 * 18446744073709551616) : e8 (sqF e ⟨x, y⟩) + e8 (sqF e ⟨z, y⟩) ≤ 8 * (z - x) := by
  obtain ⟨c, t, hc, h0, h1, hx, hy, hz⟩ := h
  obtain ⟨p0, p1, _⟩ := e8_spec (sq_pos e ⟨x, y⟩).1 (sq_pos e ⟨x, y⟩).2 f1
  obtain ⟨q0, q1, _⟩ := e8_spec (sq_pos e ⟨z, y⟩).1 (sq_pos e ⟨z, y⟩).2 f2
  have k1 := sq_least (e.b.x - e.a.x) (e.b.y - e.a.y) (x - e.a.x) (y - e.a.y) c t hc h0 h1
  have k2 := sq_least (e.b.x - e.a.x) (e.b.y - e.a.y) (z - e.a.x) (y - e.a.y) c t hc h0 h1
  have d1 := (sq_pos e ⟨x, y⟩).2
  have d2 := (sq_pos e ⟨z, y⟩).2
  unfold sqF at *
  simp only [] at *
  generalize e.b.x - e.a.x = u0 at *
  generalize e.b.y - e.a.y = u1 at *
  generalize squareV u0 u1 (x - e.a.x) (y - e.a.y) = f at *
  generalize squareV u0 u1 (z - e.a.x) (y - e.a.y) = g at *
  generalize e8 f = E at *
  generalize e8 g = G at *
  have z1 : c * (y - e.a.y) - t * u1 = 0 := by rw [Int.mul_sub]; omega
  have z2 : c * (x - e.a.x) - t * u0 = -(c * e.a.x + t * u0 - c * x) := by rw [Int.mul_sub]; omega
  have z3 : c * (z - e.a.x) - t * u0 = c * z - (c * e.a.x + t * u0) := by rw [Int.mul_sub]; omega
  rw [z1, z2] at k1
  rw [z1, z3] at k2
  obtain ⟨m1, hm1⟩ : ∃ m, c * e.a.x + t * u0 - c * x = m := ⟨_, rfl⟩
  obtain ⟨m2, hm2⟩ : ∃ m, c * z - (c * e.a.x + t * u0) = m := ⟨_, rfl⟩
  rw [hm1] at k1
  rw [hm2] at k2
  have r1 := near_one d1 (by omega) p1 (show c * c * f.1 ≤ f.2 * (m1 * m1) by rw [Int.neg_mul_neg] at k1; simpa using k1)
  have r2 := near_one d2 (by omega) q1 (show c * c * g.1 ≤ g.2 * (m2 * m2) by simpa using k2)
  have r3 : (E + G) * c ≤ 8 * (z - x) * c := by
    have e1 : (E + G) * c = E * c + G * c := Int.add_mul _ _ _
    have e2 : 8 * (z - x) * c = 8 * (c * z - c * x) := by grind
    omega
  exact Int.le_of_mul_le_mul_right r3 hc

theorem MeetV.back {e : Ed} {x y z : Int} (h : MeetV (backE e) x y z) : MeetV e x y z := by
  obtain ⟨c, t, hc, h0, h1, hx, hy, hz⟩ := h
  unfold backE at *
  simp only [] at *
  refine ⟨c, c - t, hc, by omega, by omega, ?_, ?_, ?_⟩
  all_goals rw [Int.sub_mul]
  all_goals have e1 : t * (e.a.x - e.b.x) = -(t * (e.b.x - e.a.x)) := by grind
  all_goals have e2 : t * (e.a.y - e.b.y) = -(t * (e.b.y - e.a.y)) := by grind
  all_goals have e3 : c * (e.b.x - e.a.x) = c * e.b.x - c * e.a.x := Int.mul_sub _ _ _
  all_goals have e4 : c * (e.b.y - e.a.y) = c * e.b.y - c * e.a.y := Int.mul_sub _ _ _
  all_goals omega

/-- What of a point counts for a way up, to the right of it. -/
def phi (x y z : Int) (v : Pt) : Int := if x < v.x ∧ y < v.y ∧ v.y ≤ z then 1 else 0

/-- A row that rises: between two heights of an edge that is left of the way at one and not at the other it meets the way. -/
theorem meet_of {e : Ed} {x y z h k : Int} (hV : e.a.y < e.b.y) (h1 : y ≤ h) (h2 : h ≤ k) (h3 : k ≤ z) (a1 : e.a.y ≤ h) (a2 : k ≤ e.b.y)
    (hh : (0 < crE e ⟨x, h⟩ ∧ crE e ⟨x, k⟩ ≤ 0) ∨ (crE e ⟨x, h⟩ ≤ 0 ∧ 0 < crE e ⟨x, k⟩)) : MeetV e x y z := by
  unfold crE at hh
  simp only [] at hh
  obtain ⟨u, hu⟩ : ∃ u, e.b.x - e.a.x = u := ⟨_, rfl⟩
  obtain ⟨v, hv⟩ : ∃ v, e.b.y - e.a.y = v := ⟨_, rfl⟩
  obtain ⟨d, hd⟩ : ∃ d, x - e.a.x = d := ⟨_, rfl⟩
  unfold MeetV
  rw [hu, hv, hd] at hh
  rw [hu, hv]
  have hv0 : 0 < v := by omega
  rcases Int.lt_trichotomy u 0 with g | g | g
  · -- it falls to the left
    have m1 := Int.mul_le_mul_of_nonneg_left h2 (show 0 ≤ -u by omega)
    rcases hh with ⟨p, q⟩ | ⟨p, q⟩
    · refine ⟨-u, -d, by omega, ?_, ?_, ?_, ?_, ?_⟩
      · have n1 := Int.mul_le_mul_of_nonneg_left (show 0 ≤ h - e.a.y by omega) (show 0 ≤ -u by omega)
        rcases Int.lt_or_le 0 d with w | w
        · have n2 := Int.mul_pos hv0 w
          grind
        · omega
      · rcases Int.lt_or_le (-u) (-d) with w | w
        · have n2 := Int.mul_lt_mul_of_pos_left w hv0
          have n3 := Int.mul_le_mul_of_nonneg_left (show k - e.a.y ≤ v by omega) (show 0 ≤ -u by omega)
          grind
        · exact w
      · grind
      · have := Int.mul_le_mul_of_nonneg_left h1 (show 0 ≤ -u by omega)
        grind
      · have := Int.mul_le_mul_of_nonneg_left h3 (show 0 ≤ -u by omega)
        grind
    · exfalso
      grind
  · exfalso
    rw [g] at hh
    simp only [Int.zero_mul] at hh
    omega
  · have m1 := Int.mul_le_mul_of_nonneg_left h2 (show 0 ≤ u by omega)
    rcases hh with ⟨p, q⟩ | ⟨p, q⟩
    · exfalso
      grind
    · refine ⟨u, d, by omega, ?_, ?_, ?_, ?_, ?_⟩
      · have n1 := Int.mul_le_mul_of_nonneg_left (show 0 ≤ h - e.a.y by omega) (show 0 ≤ u by omega)
        rcases Int.lt_or_le d 0 with w | w
        · have n2 := Int.mul_pos hv0 (show 0 < -d by omega)
          grind
        · omega
      · rcases Int.lt_or_le u d with w | w
        · have n2 := Int.mul_lt_mul_of_pos_left w hv0
          have n3 := Int.mul_le_mul_of_nonneg_left (show k - e.a.y ≤ v by omega) (show 0 ≤ u by omega)
          grind
        · exact w
      · grind
      · have := Int.mul_le_mul_of_nonneg_left h1 (show 0 ≤ u by omega)
        grind
      · have := Int.mul_le_mul_of_nonneg_left h3 (show 0 ≤ u by omega)
        grind

theorem upE_is (e : Ed) (x h : Int) : upE e ⟨x, h⟩ = if e.a.y ≤ h ∧ h < e.b.y ∧ 0 < crE e ⟨x, h⟩ then 1 else 0 := rfl
theorem downE_up {e : Ed} {p : Pt} (h : e.a.y ≤ e.b.y) : downE e p = 0 := by unfold downE; rw [if_neg (by omega)]
theorem cr_first (e : Ed) (x : Int) : crE e ⟨x, e.a.y⟩ = (e.b.y - e.a.y) * (e.a.x - x) := by unfold crE; grind
theorem cr_last (e : Ed) (x : Int) : crE e ⟨x, e.b.y⟩ = (e.b.y - e.a.y) * (e.b.x - x) := by unfold crE; grind
/-- An edge that does not meet the way counts for its two ends as what of its own ends counts. -/
theorem num_vert_up {e : Ed} {x y z : Int} (hyz : y ≤ z) (hup : e.a.y ≤ e.b.y) (hm : ¬ MeetV e x y z) : numE e ⟨x, y⟩ - numE e ⟨x, z⟩ = phi x y z e.b - phi x y z e.a := by
  unfold numE
  rw [downE_up hup, downE_up hup, upE_is, upE_is]
  unfold phi
  by_cases hV : e.a.y < e.b.y
  · by_cases o1 : e.a.y ≤ z ∧ y < e.b.y
    · -- the heights of the edge that are in the way
      obtain ⟨h, hh⟩ : ∃ h, max e.a.y y = h := ⟨_, rfl⟩
      obtain ⟨k, hk⟩ : ∃ k, min e.b.y z = k := ⟨_, rfl⟩
      have hhk : h ≤ k := by omega
      have key : (0 < crE e ⟨x, h⟩ ↔ 0 < crE e ⟨x, k⟩) := by
        constructor
        · intro g
          rcases Int.lt_or_le 0 (crE e ⟨x, k⟩) with w | w
          · exact w
          · exact absurd (meet_of hV (by omega) hhk (by omega) (by omega) (by omega) (.inl ⟨g, w⟩)) hm
        · intro g
          rcases Int.lt_or_le 0 (crE e ⟨x, h⟩) with w | w
          · exact w
          · exact absurd (meet_of hV (by omega) hhk (by omega) (by omega) (by omega) (.inr ⟨w, g⟩)) hm
      have A : (if e.a.y ≤ y ∧ y < e.b.y ∧ 0 < crE e ⟨x, y⟩ then (1 : Int) else 0) + (if x < e.a.x ∧ y < e.a.y ∧ e.a.y ≤ z then 1 else 0) = if 0 < crE e ⟨x, h⟩ then 1 else 0 := by
        by_cases g : e.a.y ≤ y
        · obtain rfl : h = y := by omega
          rw [if_neg (show ¬ (x < e.a.x ∧ h < e.a.y ∧ e.a.y ≤ z) by omega)]
          by_cases w : 0 < crE e ⟨x, h⟩
          · rw [if_pos ⟨g, o1.2, w⟩, if_pos w]; rfl
          · rw [if_neg (fun q => w q.2.2), if_neg w]; rfl
        · obtain rfl : h = e.a.y := by omega
          rw [if_neg (show ¬ (e.a.y ≤ y ∧ y < e.b.y ∧ 0 < crE e ⟨x, y⟩) from fun q => g q.1), cr_first]
          by_cases w : x < e.a.x
          · rw [if_pos ⟨w, by omega, o1.1⟩, if_pos (Int.mul_pos (by omega) (by omega))]; rfl
          · rw [if_neg (fun q => w q.1), if_neg (by
              have := Int.mul_nonneg (show 0 ≤ e.b.y - e.a.y by omega) (show 0 ≤ x - e.a.x by omega)
              grind)]; rfl
      have B : (if e.a.y ≤ z ∧ z < e.b.y ∧ 0 < crE e ⟨x, z⟩ then (1 : Int) else 0) + (if x < e.b.x ∧ y < e.b.y ∧ e.b.y ≤ z then 1 else 0) = if 0 < crE e ⟨x, k⟩ then 1 else 0 := by
        by_cases g : z < e.b.y
        · obtain rfl : k = z := by omega
          rw [if_neg (show ¬ (x < e.b.x ∧ y < e.b.y ∧ e.b.y ≤ k) by omega)]
          by_cases w : 0 < crE e ⟨x, k⟩
          · rw [if_pos ⟨o1.1, g, w⟩, if_pos w]; rfl
          · rw [if_neg (fun q => w q.2.2), if_neg w]; rfl
        · obtain rfl : k = e.b.y := by omega
          rw [if_neg (show ¬ (e.a.y ≤ z ∧ z < e.b.y ∧ 0 < crE e ⟨x, z⟩) from fun q => g q.2.1), cr_last]
          by_cases w : x < e.b.x
          · rw [if_pos ⟨w, o1.2, by omega⟩, if_pos (Int.mul_pos (by omega) (by omega))]; rfl
          · rw [if_neg (fun q => w q.1), if_neg (by
              have := Int.mul_nonneg (show 0 ≤ e.b.y - e.a.y by omega) (show 0 ≤ x - e.b.x by omega)
              grind)]; rfl
      have C : (if 0 < crE e ⟨x, h⟩ then (1 : Int) else 0) = if 0 < crE e ⟨x, k⟩ then 1 else 0 := by
        by_cases w : 0 < crE e ⟨x, h⟩
        · rw [if_pos w, if_pos (key.1 w)]
        · rw [if_neg w, if_neg (fun q => w (key.2 q))]
      omega
    · rw [if_neg (by omega), if_neg (by omega), if_neg (by omega), if_neg (by omega)]
      rfl
  · rw [if_neg (by omega), if_neg (by omega)]
    by_cases w : y < e.a.y ∧ e.a.y ≤ z
    · -- a level edge
      have key : (x < e.a.x ↔ x < e.b.x) := by
        have hy : e.b.y - e.a.y = 0 := by omega
        have m0 : ∀ c : Int, 0 < c → c * y ≤ c * e.a.y ∧ c * e.a.y ≤ c * z := fun c hc => ⟨Int.mul_le_mul_of_nonneg_left (by omega) (by omega), Int.mul_le_mul_of_nonneg_left w.2 (by omega)⟩
        constructor
        · intro g
          rcases Int.lt_or_le x e.b.x with q | q
          · exact q
          · refine absurd ⟨e.a.x - e.b.x, e.a.x - x, by omega, by omega, by omega, by grind, ?_, ?_⟩ hm
            · rw [hy, Int.mul_zero, Int.add_zero]; exact (m0 _ (by omega)).1
            · rw [hy, Int.mul_zero, Int.add_zero]; exact (m0 _ (by omega)).2
        · intro g
          rcases Int.lt_or_le x e.a.x with q | q
          · exact q
          · refine absurd ⟨e.b.x - e.a.x, x - e.a.x, by omega, by omega, by omega, by grind, ?_, ?_⟩ hm
            · rw [hy, Int.mul_zero, Int.add_zero]; exact (m0 _ (by omega)).1
            · rw [hy, Int.mul_zero, Int.add_zero]; exact (m0 _ (by omega)).2
      by_cases q : x < e.a.x
      · rw [if_pos ⟨key.1 q, by omega, by omega⟩, if_pos ⟨q, w.1, w.2⟩]; rfl
      · rw [if_neg (fun g => q (key.2 g.1)), if_neg (fun g => q g.1)]; rfl
    · rw [if_neg (by omega), if_neg (by omega)]; rfl
theorem num_vert {e : Ed} {x y z : Int} (hyz : y ≤ z) (hm : ¬ MeetV e x y z) : numE e ⟨x, y⟩ - numE e ⟨x, z⟩ = phi x y z e.b - phi x y z e.a := by
  rcases Int.le_total e.a.y e.b.y with h | h
  · exact num_vert_up hyz h hm
  · have k := num_vert_up (e := backE e) hyz h (fun g => hm g.back)
    rw [num_back, num_back] at k
    have k' : -numE e ⟨x, y⟩ - -numE e ⟨x, z⟩ = phi x y z e.a - phi x y z e.b := k
    omega
theorem Way.vert : ∀ {q q' : Pt} {l : List Ed} {x y z : Int}, Way q l q' → y ≤ z → (∀ e ∈ l, ¬ MeetV e x y z) → numS l ⟨x, y⟩ - numS l ⟨x, z⟩ = phi x y z q' - phi x y z q
  | q, q', [], x, y, z, h, _, _ => by
    cases (show q = q' from h)
    have h1 : numS [] (⟨x, y⟩ : Pt) = 0 := rfl
    have h2 : numS [] (⟨x, z⟩ : Pt) = 0 := rfl
    omega
  | q, q', e :: l, x, y, z, ⟨h1, _, h3⟩, hyz, hm => by
    have k := num_vert hyz (hm e List.mem_cons_self)
    have k2 := h3.vert hyz (fun d hd => hm d (List.mem_cons_of_mem _ hd))
    rw [numS_cons, numS_cons]
    rw [h1] at k
    omega
theorem flat_vert : ∀ (ls : List (List Ed)) {x y z : Int}, (∀ l ∈ ls, ∃ q, Way q l q) → y ≤ z → (∀ e ∈ ls.flatten, ¬ MeetV e x y z) → numS ls.flatten ⟨x, y⟩ = numS ls.flatten ⟨x, z⟩
  | [], x, y, z, _, _, _ => rfl
  | l :: ls, x, y, z, hw, hyz, hm => by
    rw [List.flatten_cons, numS_append, numS_append]
    obtain ⟨q, hq⟩ := hw l List.mem_cons_self
    have k := hq.vert hyz (fun e he => hm e (by rw [List.flatten_cons]; exact List.mem_append_left _ he))
    have k2 := flat_vert ls (fun m hm => hw m (List.mem_cons_of_mem _ hm)) hyz (fun e he => hm e (by rw [List.flatten_cons]; exact List.mem_append_right _ he))
    omega

/-- Of two places side by side an edge counts the same, or it lies between. -/
theorem num_hor_up {e : Ed} {x z y : Int} (hup : e.a.y ≤ e.b.y) (hm : ¬ MeetH e x z y) (hxz : x ≤ z) : numE e ⟨x, y⟩ = numE e ⟨z, y⟩ := by
  unfold numE
  rw [downE_up hup, downE_up hup, upE_is, upE_is]
  by_cases o : e.a.y ≤ y ∧ y < e.b.y
  · have c1 : crE e ⟨x, y⟩ = (e.b.y - e.a.y) * e.a.x + (y - e.a.y) * (e.b.x - e.a.x) - (e.b.y - e.a.y) * x := by unfold crE; grind
    have c2 : crE e ⟨z, y⟩ = (e.b.y - e.a.y) * e.a.x + (y - e.a.y) * (e.b.x - e.a.x) - (e.b.y - e.a.y) * z := by unfold crE; grind
    have m1 := Int.mul_le_mul_of_nonneg_left hxz (show 0 ≤ e.b.y - e.a.y by omega)
    have key : (0 < crE e ⟨x, y⟩ ↔ 0 < crE e ⟨z, y⟩) := by
      constructor
      · intro g
        rcases Int.lt_or_le 0 (crE e ⟨z, y⟩) with w | w
        · exact w
        · exact absurd ⟨e.b.y - e.a.y, y - e.a.y, by omega, by omega, by omega, by grind, by omega, by omega⟩ hm
      · intro g
        omega
    by_cases w : 0 < crE e ⟨x, y⟩
    · rw [if_pos ⟨o.1, o.2, w⟩, if_pos ⟨o.1, o.2, key.1 w⟩]
    · rw [if_neg (fun q => w q.2.2), if_neg (fun q => w (key.2 q.2.2))]
  · rw [if_neg (fun q => o ⟨q.1, q.2.1⟩), if_neg (fun q => o ⟨q.1, q.2.1⟩)]
theorem MeetH.back {e : Ed} {x z y : Int} (h : MeetH (backE e) x z y) : MeetH e x z y := by
  obtain ⟨c, t, hc, h0, h1, hx, hy, hz⟩ := h
  unfold backE at *
  simp only [] at *
  refine ⟨c, c - t, hc, by omega, by omega, ?_, ?_, ?_⟩
  all_goals rw [Int.sub_mul]
  all_goals have e1 : t * (e.a.x - e.b.x) = -(t * (e.b.x - e.a.x)) := by grind
  all_goals have e2 : t * (e.a.y - e.b.y) = -(t * (e.b.y - e.a.y)) := by grind
  all_goals have e3 : c * (e.b.x - e.a.x) = c * e.b.x - c * e.a.x := Int.mul_sub _ _ _
  all_goals have e4 : c * (e.b.y - e.a.y) = c * e.b.y - c * e.a.y := Int.mul_sub _ _ _
  all_goals omega
theorem num_hor {e : Ed} {x z y : Int} (hm : ¬ MeetH e x z y) (hxz : x ≤ z) : numE e ⟨x, y⟩ = numE e ⟨z, y⟩ := by
  rcases Int.le_total e.a.y e.b.y with h | h
  · exact num_hor_up h hm hxz
  · have k := num_hor_up (e := backE e) h (fun g => hm g.back) hxz
    rw [num_back, num_back] at k
    omega
theorem numS_hor : ∀ {l : List Ed} {x z y : Int}, (∀ e ∈ l, ¬ MeetH e x z y) → x ≤ z → numS l ⟨x, y⟩ = numS l ⟨z, y⟩
  | [], _, _, _, _, _ => rfl
  | e :: l, x, z, y, h, hxz => by
    rw [numS_cons, numS_cons, num_hor (h e List.mem_cons_self) hxz, numS_hor (fun d hd => h d (List.mem_cons_of_mem _ hd)) hxz]

/-- Places on two sides of closed edges are no farther from them, together, than from each other. -/
theorem two_sides {ls : List (List Ed)} (hw : ∀ l ∈ ls, ∃ q, Way q l q) {x y d E G : Int} (hd : 0 ≤ d) {p q : Pt} (hp : p = ⟨x, y⟩) (hq : q = ⟨x + d, y⟩ ∨ q = ⟨x, y + d⟩) (fp : Fit ls.flatten p) (fq : Fit ls.flatten q) (hn : numS ls.flatten p ≠ numS ls.flatten q) (h1 : E8 ls.flatten p E) (h2 : E8 ls.flatten q G) : E + G ≤ 8 * d := by
  have key : ∃ e ∈ ls.flatten, e8 (sqF e p) + e8 (sqF e q) ≤ 8 * d := by
    subst hp
    rcases hq with rfl | rfl
    · by_cases h : ∃ e ∈ ls.flatten, MeetH e x (x + d) y
      · obtain ⟨e, he, hm⟩ := h
        have := meetH_sum hm (fp e he) (fq e he)
        exact ⟨e, he, by omega⟩
      · exact absurd (numS_hor (fun e he hm => h ⟨e, he, hm⟩) (by omega)) hn
    · by_cases h : ∃ e ∈ ls.flatten, MeetV e x y (y + d)
      · obtain ⟨e, he, hm⟩ := h
        have := meetV_sum hm (fp e he) (fq e he)
        exact ⟨e, he, by omega⟩
      · exact absurd (flat_vert ls hw (by omega) (fun e he hm => h ⟨e, he, hm⟩)) hn
  obtain ⟨e, he, h⟩ := key
  rcases h1 with ⟨h0, _⟩ | ⟨_, _, h1⟩
  · rw [h0] at he; cases he
  · rcases h2 with ⟨h0, _⟩ | ⟨_, _, h2⟩
    · rw [h0] at he; cases he
    · have := h1 e he
      have := h2 e he
      omega

/-- P10.1: a texel, by the place of its middle. -/
def texG (es : List Ed) (s : Int) (p : Pt) : Int := if es = [] then 1 else 128 + sgS es p * stepG s (eightS es p)
theorem sgS_in (es : List Ed) (p : Pt) : -1 ≤ sgS es p ∧ sgS es p ≤ 1 := by unfold sgS; split <;> (try split) <;> omega
theorem eight_pos {es : List Ed} {p : Pt} (h : es ≠ []) : 0 ≤ eightS es p := by
  rcases E8.is es p with ⟨h0, _⟩ | ⟨h0, _⟩
  · exact absurd h0 h
  · exact h0
theorem texG_in (es : List Ed) (s : Int) (p : Pt) (hs : 1 ≤ s) : 1 ≤ texG es s p ∧ texG es s p ≤ 255 := by
  unfold texG
  by_cases h : es = []
  · rw [if_pos h]; omega
  · rw [if_neg h]
    have h1 := stepG_in s (eightS es p) hs (eight_pos h)
    have h2 := sgS_in es p
    generalize stepG s (eightS es p) = n at *
    obtain h | h | h : sgS es p = -1 ∨ sgS es p = 0 ∨ sgS es p = 1 := by omega
    all_goals rw [h]; omega
/-- P10.1, by P7.2: what is in holds no less than the middle, what is out no more. -/
theorem texG_sign (es : List Ed) (s : Int) (p : Pt) (hs : 1 ≤ s) : ((numS es p ≠ 0 ∨ onS es p = true) → 128 ≤ texG es s p) ∧ (¬ (numS es p ≠ 0 ∨ onS es p = true) → texG es s p ≤ 128) := by
  unfold texG
  by_cases h : es = []
  · subst h
    rw [if_pos rfl]
    refine ⟨fun h => ?_, fun _ => by omega⟩
    rcases h with h | h
    · exact absurd rfl h
    · cases h
  · rw [if_neg h]
    have h1 := stepG_in s (eightS es p) hs (eight_pos h)
    generalize stepG s (eightS es p) = n at *
    unfold sgS
    by_cases h2 : onS es p = true
    · rw [if_pos h2]
      exact ⟨fun _ => by omega, fun _ => by omega⟩
    · rw [if_neg h2]
      by_cases h3 : numS es p = 0
      · rw [if_pos h3]
        exact ⟨fun q => by rcases q with q | q <;> contradiction, fun _ => by omega⟩
      · rw [if_neg h3]
        exact ⟨fun _ => by omega, fun q => absurd (.inl h3) q⟩
theorem stepG_up (s e : Int) (hs : 1 ≤ s) : stepG s e ≤ e * 127 / (256 * s) := by
  unfold stepG
  split
  · exact Int.le_refl _
  · exact Int.le_ediv_of_mul_le (by omega) (by omega)
/-- How much two texels may differ. -/
theorem step_near (s g x y : Int) (hs : 1 ≤ s) (hg : 1 ≤ g) (hx : 0 ≤ x) (h : x - y ≤ 256 * g + 1) : stepG s x - stepG s y ≤ 127 * g / s + 2 := by
  have hq : 0 ≤ 127 * g / s := Int.ediv_nonneg (by omega) (by omega)
  by_cases hb : y < 256 * s
  · have h1 := stepG_up s x hs
    have e1 : stepG s y = y * 127 / (256 * s) := if_pos hb
    have a1 := Int.lt_ediv_add_one_mul_self (y * 127) (show 0 < 256 * s by omega)
    have a2 := Int.lt_ediv_add_one_mul_self (127 * g) (show 0 < s by omega)
    rw [e1]
    have key : x * 127 / (256 * s) < y * 127 / (256 * s) + 127 * g / s + 3 := by
      rw [Int.ediv_lt_iff_lt_mul (by omega)]
      generalize y * 127 / (256 * s) = a at *
      generalize 127 * g / s = b at *
      have e2 : (a + b + 3) * (256 * s) = (a + 1) * (256 * s) + 256 * ((b + 1) * s) + 256 * s := by grind
      rw [e2]
      omega
    omega
  · have e1 : stepG s y = 127 := if_neg hb
    have := (stepG_in s x hs hx).2
    omega
theorem step_both (s g x y : Int) (hs : 1 ≤ s) (h : x + y ≤ 256 * g) : stepG s x + stepG s y ≤ 127 * g / s + 1 := by
  have h1 := stepG_up s x hs
  have h2 := stepG_up s y hs
  have a1 := Int.ediv_mul_le (x * 127) (show 256 * s ≠ 0 by omega)
  have a2 := Int.ediv_mul_le (y * 127) (show 256 * s ≠ 0 by omega)
  have a3 := Int.lt_ediv_add_one_mul_self (127 * g) (show 0 < s by omega)
  generalize x * 127 / (256 * s) = a at *
  generalize y * 127 / (256 * s) = b at *
  generalize 127 * g / s = c at *
  have key : (a + b) * (256 * s) < (c + 1) * (256 * s) := by
    have e1 : (a + b) * (256 * s) = a * (256 * s) + b * (256 * s) := Int.add_mul _ _ _
    have e2 : (c + 1) * (256 * s) = 256 * ((c + 1) * s) := by grind
    omega
  have := Int.lt_of_mul_lt_mul_right key (show 0 ≤ 256 * s by omega)
  omega

/-- P10.1: texels side by side, a pitch apart. -/
theorem tex_smooth {ls : List (List Ed)} (hw : ∀ l ∈ ls, ∃ q, Way q l q) {x y g s : Int} (hg : 1 ≤ g) (hs : 1 ≤ s) {p q : Pt} (hp : p = ⟨x, y⟩) (hq : q = ⟨x + 32 * g, y⟩ ∨ q = ⟨x, y + 32 * g⟩) (fp : Fit ls.flatten p) (fq : Fit ls.flatten q) :
    texG ls.flatten s p - texG ls.flatten s q ≤ 127 * g / s + 4 ∧ texG ls.flatten s q - texG ls.flatten s p ≤ 127 * g / s + 4 := by
  have hb : 0 ≤ 127 * g / s := Int.ediv_nonneg (by omega) (by omega)
  unfold texG
  by_cases h : ls.flatten = []
  · rw [if_pos h, if_pos h]; omega
  · rw [if_neg h, if_neg h]
    have E1 := E8.is ls.flatten p
    have E2 := E8.is ls.flatten q
    have n1 := eight_pos (p := p) h
    have n2 := eight_pos (p := q) h
    have hsq : 64 * ((p.x - q.x) * (p.x - q.x) + (p.y - q.y) * (p.y - q.y)) < (256 * g + 1) * (256 * g + 1) ∧ 64 * ((q.x - p.x) * (q.x - p.x) + (q.y - p.y) * (q.y - p.y)) < (256 * g + 1) * (256 * g + 1) := by
      subst hp
      rcases hq with rfl | rfl
      all_goals simp only []
      all_goals constructor <;> grind
    have D1 := E8.step fp fq E1 E2 (show 0 ≤ 256 * g by omega) hsq.1
    have D2 := E8.step fq fp E2 E1 (show 0 ≤ 256 * g by omega) hsq.2
    have S1 := step_near s g _ _ hs hg n1 D1
    have S2 := step_near s g _ _ hs hg n2 D2
    have T1 := stepG_in s _ hs n1
    have T2 := stepG_in s _ hs n2
    -- a place on an edge has no distance
    have Z : ∀ r : Pt, Fit ls.flatten r → onS ls.flatten r = true → eightS ls.flatten r = 0 := by
      intro r fr hr
      unfold onS at hr
      rw [List.any_eq_true] at hr
      obtain ⟨e, he, hon⟩ := hr
      have hon' : onE e r := of_decide_eq_true hon
      have z := (on_square e r).2 hon'
      rcases E8.is ls.flatten r with ⟨h0, _⟩ | ⟨h0, _, h1⟩
      · exact absurd h0 h
      · have k := h1 e he
        obtain ⟨k0, k1, _⟩ := e8_spec (sq_pos e r).1 (sq_pos e r).2 (fr e he)
        have z' : (sqF e r).1 = 0 := z
        rw [z'] at k1
        have k2 : e8 (sqF e r) ≤ 0 := by
          rcases Int.lt_or_le 0 (e8 (sqF e r)) with w | w
          · have := Int.mul_pos (Int.mul_pos w w) (sq_pos e r).2
            omega
          · exact w
        omega
    have z0 : stepG s 0 = 0 := by unfold stepG; rw [if_pos (by omega)]; simp
    unfold sgS
    by_cases o1 : onS ls.flatten p = true
    · rw [if_pos o1]
      have := Z p fp o1
      rw [this, z0] at S2
      by_cases o2 : onS ls.flatten q = true
      · rw [if_pos o2]; omega
      · rw [if_neg o2]
        split <;> omega
    · rw [if_neg o1]
      by_cases o2 : onS ls.flatten q = true
      · rw [if_pos o2]
        have := Z q fq o2
        rw [this, z0] at S1
        split <;> omega
      · rw [if_neg o2]
        by_cases m1 : numS ls.flatten p = 0
        · rw [if_pos m1]
          by_cases m2 : numS ls.flatten q = 0
          · rw [if_pos m2]; omega
          · rw [if_neg m2]
            have := step_both s g (eightS ls.flatten p) (eightS ls.flatten q) hs (by have := two_sides hw (show 0 ≤ 32 * g by omega) hp hq fp fq (by rw [m1]; exact fun q => m2 q.symm) E1 E2; omega)
            omega
        · rw [if_neg m1]
          by_cases m2 : numS ls.flatten q = 0
          · rw [if_pos m2]
            have := step_both s g (eightS ls.flatten p) (eightS ls.flatten q) hs (by have := two_sides hw (show 0 ≤ 32 * g by omega) hp hq fp fq (by rw [m2]; exact m1) E1 E2; omega)
            omega
          · rw [if_neg m2]; omega

/-- All moved by the same. -/
def moveP (D p : Pt) : Pt := ⟨p.x + D.x, p.y + D.y⟩
def moveE (D : Pt) (e : Ed) : Ed := ⟨moveP D e.a, moveP D e.b⟩
theorem cr_mv (D : Pt) (e : Ed) (p : Pt) : crE (moveE D e) (moveP D p) = crE e p := by
  unfold crE moveE moveP
  simp only []
  congr 2 <;> omega
theorem num_mv (D : Pt) (e : Ed) (p : Pt) : numE (moveE D e) (moveP D p) = numE e p := by
  unfold numE upE downE
  rw [cr_mv]
  unfold moveE moveP
  simp only []
  congr 1
  · by_cases h : e.a.y ≤ p.y ∧ p.y < e.b.y ∧ 0 < crE e p
    · rw [if_pos h, if_pos (by omega)]
    · rw [if_neg h, if_neg (by omega)]
  · by_cases h : e.b.y ≤ p.y ∧ p.y < e.a.y ∧ crE e p < 0
    · rw [if_pos h, if_pos (by omega)]
    · rw [if_neg h, if_neg (by omega)]
theorem numS_mv (D : Pt) : ∀ (l : List Ed) (p : Pt), numS (l.map (moveE D)) (moveP D p) = numS l p
  | [], _ => rfl
  | e :: l, p => by rw [List.map_cons, numS_cons, numS_cons, num_mv, numS_mv D l p]
theorem on_mv (D : Pt) (e : Ed) (p : Pt) : onE (moveE D e) (moveP D p) ↔ onE e p := by
  unfold onE
  rw [cr_mv]
  unfold moveE moveP
  simp only []
  omega
theorem onS_mv (D : Pt) (l : List Ed) (p : Pt) : onS (l.map (moveE D)) (moveP D p) = onS l p := by
  unfold onS
  rw [List.any_map]
  congr 1
  funext e
  show decide (onE (moveE D e) (moveP D p)) = decide (onE e p)
  exact decide_eq_decide.2 (on_mv D e p)
theorem sq_mv (D : Pt) (e : Ed) (p : Pt) : sqF (moveE D e) (moveP D p) = sqF e p := by
  unfold sqF moveE moveP
  simp only []
  congr 1 <;> omega
theorem E8.mv {D : Pt} {l : List Ed} {p : Pt} {d : Int} (h : E8 l p d) : E8 (l.map (moveE D)) (moveP D p) d := by
  rcases h with ⟨rfl, rfl⟩ | ⟨h0, ⟨e, he, rfl⟩, h2⟩
  · exact .inl ⟨rfl, rfl⟩
  · refine .inr ⟨h0, ⟨moveE D e, List.mem_map.2 ⟨e, he, rfl⟩, by rw [sq_mv]⟩, fun f hf => ?_⟩
    obtain ⟨g, hg, rfl⟩ := List.mem_map.1 hf
    rw [sq_mv]
    exact h2 g hg
theorem eight_mv (D : Pt) (l : List Ed) (p : Pt) : eightS (l.map (moveE D)) (moveP D p) = eightS l p := E8.unique (E8.is _ _) (E8.is l p).mv
theorem tex_mv (D : Pt) (l : List Ed) (s : Int) (p : Pt) : texG (l.map (moveE D)) s (moveP D p) = texG l s p := by
  unfold texG sgS
  rw [numS_mv, onS_mv, eight_mv]
  by_cases h : l = []
  · subst h; rfl
  · rw [if_neg h, if_neg (by simpa using h)]

/-- The other way round. -/
theorem sq_back (e : Ed) (p : Pt) : sqF (backE e) p = sqF e p := by
  have h := squareV_back (e.b.x - e.a.x) (e.b.y - e.a.y) (p.x - e.a.x) (p.y - e.a.y)
  unfold sqF backE
  simp only []
  rw [← h]
  congr 1 <;> omega
theorem E8.back {l : List Ed} {p : Pt} {d : Int} (h : E8 l p d) : E8 (l.map backE).reverse p d := by
  rcases h with ⟨rfl, rfl⟩ | ⟨h0, ⟨e, he, rfl⟩, h2⟩
  · exact .inl ⟨rfl, rfl⟩
  · refine .inr ⟨h0, ⟨backE e, List.mem_reverse.2 (List.mem_map.2 ⟨e, he, rfl⟩), by rw [sq_back]⟩, fun f hf => ?_⟩
    obtain ⟨g, hg, rfl⟩ := List.mem_map.1 (List.mem_reverse.1 hf)
    rw [sq_back]
    exact h2 g hg
theorem tex_back (l : List Ed) (s : Int) (p : Pt) : texG (l.map backE).reverse s p = texG l s p := by
  unfold texG sgS
  rw [numS_back, onS_back, E8.unique (E8.is _ _) (E8.is l p).back]
  by_cases h : l = []
  · subst h; rfl
  · rw [if_neg h, if_neg (by simpa using h)]
    have k : (if -numS l p = 0 then (-1 : Int) else 1) = if numS l p = 0 then -1 else 1 := by
      by_cases k : numS l p = 0
      · rw [if_pos k, if_pos (by omega)]
      · rw [if_neg k, if_neg (by omega)]
    rw [k]

/-- P10.1, P10.2: a texel's byte; the first bytes of a field of so many columns, row by row. -/
def texN (es : List Ed) (s : Int) (p : Pt) : Nat := (texG es s p).toNat
theorem texN_is (es : List Ed) (s : Int) (p : Pt) (hs : 1 ≤ s) : ((texN es s p : Nat) : Int) = texG es s p := by
  have := texG_in es s p hs
  unfold texN
  omega
theorem texN_lt (es : List Ed) (s : Int) (p : Pt) (hs : 1 ≤ s) : texN es s p < 256 := by
  have := texG_in es s p hs
  unfold texN
  omega
def midP (x y p : Int) (i k : Int) : Pt := ⟨midG x p i, midG y p k⟩
def fldN (es : List Ed) (x y p s : Int) (u m : Nat) : List Nat := (List.range m).map fun j => texN es s (midP x y p (j % u : Nat) (j / u : Nat))
theorem fldN_length (es : List Ed) (x y p s : Int) (u m : Nat) : (fldN es x y p s u m).length = m := by simp [fldN]
theorem fldN_succ (es : List Ed) (x y p s : Int) (u m : Nat) : fldN es x y p s u (m + 1) = fldN es x y p s u m ++ [texN es s (midP x y p (m % u : Nat) (m / u : Nat))] := by simp [fldN, List.range_succ]
theorem fldN_next (es : List Ed) (x y p s : Int) (u k c : Nat) (hc : c < u) : fldN es x y p s u (k * u + (c + 1)) = fldN es x y p s u (k * u + c) ++ [texN es s (midP x y p c k)] := by
  rw [show k * u + (c + 1) = k * u + c + 1 by omega, fldN_succ, show (k * u + c) % u = c by rw [Nat.mul_comm, Nat.mul_add_mod]; exact Nat.mod_eq_of_lt hc, show (k * u + c) / u = k by rw [Nat.mul_comm, Nat.mul_add_div (by omega), Nat.div_eq_of_lt hc]; rfl]
theorem fldN_lt (es : List Ed) (x y p s : Int) (u m : Nat) (hs : 1 ≤ s) : ∀ b ∈ fldN es x y p s u m, b < 256 := by
  intro b hb
  obtain ⟨j, _, rfl⟩ := List.mem_map.1 hb
  exact texN_lt es s _ hs
theorem fldN_at (es : List Ed) (x y p s : Int) (u m j : Nat) (hj : j < m) : (fldN es x y p s u m)[j]? = some (texN es s (midP x y p (j % u : Nat) (j / u : Nat))) := by
  unfold fldN
  rw [List.getElem?_map, List.getElem?_range hj]
  rfl
/-- A row of a field. -/
def rowN (es : List Ed) (x y p s : Int) (u k : Nat) : List Nat := (List.range u).map fun (i : Nat) => texN es s (midP x y p i k)
theorem fldN_row (es : List Ed) (x y p s : Int) (u k : Nat) : fldN es x y p s u (k * u + u) = fldN es x y p s u (k * u) ++ rowN es x y p s u k := by
  have h : ∀ c, c ≤ u → fldN es x y p s u (k * u + c) = fldN es x y p s u (k * u) ++ (List.range c).map fun (i : Nat) => texN es s (midP x y p i k) := by
    intro c
    induction c with
    | zero => intro _; simp
    | succ c ih =>
      intro hc
      rw [fldN_next es x y p s u k c (by omega), ih (by omega), List.range_succ, List.map_append, List.append_assoc]
      rfl
  exact h u (Nat.le_refl _)
theorem fldN_cut (es : List Ed) (x y p s : Int) (u v k : Nat) (hk : k < v) : ((fldN es x y p s u (u * v)).drop (k * u)).take u = rowN es x y p s u k := by
  have h1 : k * u + u ≤ u * v := by
    have := Nat.mul_le_mul_right u (show k + 1 ≤ v by omega)
    rw [Nat.add_mul, Nat.mul_comm v u] at this
    omega
  apply List.ext_getElem?
  intro i
  by_cases hi : i < u
  · rw [List.getElem?_take_of_lt hi, List.getElem?_drop, fldN_at _ _ _ _ _ _ _ _ (by omega)]
    unfold rowN
    rw [List.getElem?_map, List.getElem?_range hi, show (k * u + i) % u = i by rw [Nat.mul_comm, Nat.mul_add_mod]; exact Nat.mod_eq_of_lt hi, show (k * u + i) / u = k by rw [Nat.mul_comm, Nat.mul_add_div (by omega), Nat.div_eq_of_lt hi]; rfl]
    rfl
  · rw [List.getElem?_eq_none (by simp; omega), List.getElem?_eq_none (by unfold rowN; simp; omega)]
theorem fldN_back (l : List Ed) (x y p s : Int) (u m : Nat) : fldN (l.map backE).reverse x y p s u m = fldN l x y p s u m := by
  unfold fldN texN
  simp only [tex_back]
theorem fldN_mv (l : List Ed) (x y p s X Y : Int) (u m : Nat) : fldN (l.map (moveE ⟨32 * X, 32 * Y⟩)) (x + X) (y + Y) p s u m = fldN l x y p s u m := by
  unfold fldN texN
  refine List.map_congr_left (fun j _ => ?_)
  have e : midP (x + X) (y + Y) p (j % u : Nat) (j / u : Nat) = moveP ⟨32 * X, 32 * Y⟩ (midP x y p (j % u : Nat) (j / u : Nat)) := by
    unfold midP moveP midG
    simp only []
    congr 1 <;> omega
  rw [e, tex_mv]

end Go.Proofs.Yteiildeaccngjaa

namespace Go.Proofs.Yteiildeaccngjaa

/-- P11.1: the Cross and the Dot of two edges' vectors, and what a corner is. -/
def crC (a b : Ed) : Int := (a.b.x - a.a.x) * (b.b.y - b.a.y) - (a.b.y - a.a.y) * (b.b.x - b.a.x)
def dtC (a b : Ed) : Int := (a.b.x - a.a.x) * (b.b.x - b.a.x) + (a.b.y - a.a.y) * (b.b.y - b.a.y)
def isC (a b : Ed) : Bool := decide (dtC a b ≤ 0) || decide (dtC a b < 2 * crC a b) || decide (dtC a b < -2 * crC a b)
/-- .. also the other way round. -/
theorem isC_back (a b : Ed) : isC (backE b) (backE a) = isC a b := by
  have h1 : crC (backE b) (backE a) = -crC a b := by unfold crC backE; simp only []; grind
  have h2 : dtC (backE b) (backE a) = dtC a b := by unfold dtC backE; simp only []; grind
  unfold isC
  rw [h1, h2]
  rw [Bool.eq_iff_iff]
  simp only [Bool.or_eq_true, decide_eq_true_eq]
  omega

def ed0 : Ed := ⟨⟨0, 0⟩, ⟨0, 0⟩⟩
/-- Is there a corner between the k-th edge and the one ahead of it? -/
def atC (es : List Ed) (k : Nat) : Bool := isC (es.getD (if k = 0 then es.length - 1 else k - 1) ed0) (es.getD k ed0)
/-- The corners of which the edge is among the first r. -/
def cornersTo (es : List Ed) (r : Nat) : List Nat := (List.range r).filter (atC es)
def cornersL (es : List Ed) : List Nat := cornersTo es es.length
theorem cornersTo_succ (es : List Ed) (r : Nat) : cornersTo es (r + 1) = if atC es r = true then cornersTo es r ++ [r] else cornersTo es r := by
  unfold cornersTo
  rw [List.range_succ, List.filter_append]
  by_cases h : atC es r = true
  · rw [if_pos h]; simp [h]
  · rw [if_neg h]; simp [h]
theorem cornersTo_len (es : List Ed) (r : Nat) : (cornersTo es r).length ≤ r := by
  have := List.length_filter_le (atC es) (List.range r)
  rw [List.length_range] at this
  exact this
theorem mem_corners {es : List Ed} {k : Nat} : k ∈ cornersL es ↔ k < es.length ∧ atC es k = true := by
  unfold cornersL cornersTo
  rw [List.mem_filter, List.mem_range]
theorem corners_sorted (es : List Ed) : (cornersL es).Pairwise (· < ·) := List.Pairwise.filter _ List.pairwise_lt_range

/-- P11.2: the piece of an edge: that of the last corner that is not behind it, of the first r; else the last one. -/
def pieceTo (cs : List Nat) (k : Nat) : Nat → Nat
  | 0 => cs.length - 1
  | r + 1 => if cs.getD r 0 ≤ k then r else pieceTo cs k r
def pieceC (cs : List Nat) (k : Nat) : Nat := pieceTo cs k cs.length
def colP (m i : Nat) : Nat := if i = m - 1 ∧ m % 3 = 1 then 6 else if i % 3 = 0 then 5 else if i % 3 = 1 then 6 else 3
def oneC (n f k : Nat) : Nat := if n ≤ 2 * (if k < f then k + n - f else k - f) then 6 else 5
def colC (n : Nat) (cs : List Nat) (k : Nat) : Nat := if cs.length = 0 then 7 else if cs.length = 1 then oneC n (cs.getD 0 0) k else colP cs.length (pieceC cs k)
def coloursL (es : List Ed) : List Nat := (List.range es.length).map (colC es.length (cornersL es))
theorem coloursL_length (es : List Ed) : (coloursL es).length = es.length := by simp [coloursL]
theorem coloursL_at (es : List Ed) (k : Nat) (hk : k < es.length) : (coloursL es)[k]? = some (colC es.length (cornersL es) k) := by
  unfold coloursL
  rw [List.getElem?_map, List.getElem?_range hk]
  rfl

theorem pieceTo_none {cs : List Nat} {k r : Nat} (h : ∀ i, i < r → k < cs.getD i 0) : pieceTo cs k r = cs.length - 1 := by
  induction r with
  | zero => rfl
  | succ r ih =>
    have := h r (by omega)
    unfold pieceTo
    rw [if_neg (by omega)]
    exact ih fun i hi => h i (by omega)
theorem pieceTo_some {cs : List Nat} {k r j : Nat} (hj : j < r) (h1 : cs.getD j 0 ≤ k) (h2 : ∀ i, j < i → i < r → k < cs.getD i 0) : pieceTo cs k r = j := by
  induction r with
  | zero => omega
  | succ r ih =>
    unfold pieceTo
    by_cases e : j = r
    · subst e; rw [if_pos h1]
    · have := h2 r (by omega) (by omega)
      rw [if_neg (by omega)]
      exact ih (by omega) fun i a b => h2 i a (by omega)
theorem pieceTo_lt {cs : List Nat} {k r : Nat} (hr : r ≤ cs.length) (h0 : 0 < cs.length) : pieceTo cs k r < cs.length := by
  induction r with
  | zero => unfold pieceTo; omega
  | succ r ih =>
    unfold pieceTo
    split
    · omega
    · exact ih (by omega)
theorem pieceC_lt {cs : List Nat} {k : Nat} (h0 : 0 < cs.length) : pieceC cs k < cs.length := pieceTo_lt (Nat.le_refl _) h0

theorem sorted_lt {cs : List Nat} (h : cs.Pairwise (· < ·)) {i j : Nat} (hij : i < j) (hj : j < cs.length) : cs.getD i 0 < cs.getD j 0 := by
  have := List.pairwise_iff_getElem.1 h i j (by omega) hj hij
  simp only [List.getD_eq_getElem?_getD, List.getElem?_eq_getElem (show i < cs.length by omega), List.getElem?_eq_getElem hj, Option.getD_some]
  exact this
/-- The edges of a corner and behind it, up to the next corner. -/
theorem pieceC_at {cs : List Nat} (h : cs.Pairwise (· < ·)) {j k : Nat} (hj : j < cs.length) (h1 : cs.getD j 0 ≤ k) (h2 : j + 1 < cs.length → k < cs.getD (j + 1) 0) : pieceC cs k = j := by
  refine pieceTo_some hj h1 fun i a b => ?_
  have h3 := h2 (by omega)
  by_cases e : i = j + 1
  · subst e; exact h3
  · have := sorted_lt h (show j + 1 < i by omega) b
    omega
/-- The edges ahead of the first corner. -/
theorem pieceC_ahead {cs : List Nat} (h : cs.Pairwise (· < ·)) {k : Nat} (h1 : k < cs.getD 0 0) : pieceC cs k = cs.length - 1 := by
  refine pieceTo_none fun i hi => ?_
  by_cases e : i = 0
  · subst e; exact h1
  · have := sorted_lt h (show 0 < i by omega) hi
    omega

theorem corner_at {es : List Ed} {k : Nat} (hk : k ∈ cornersL es) : ∃ j, j < (cornersL es).length ∧ (cornersL es).getD j 0 = k := by
  obtain ⟨j, hj, e⟩ := List.mem_iff_getElem.1 hk
  exact ⟨j, hj, by rw [List.getD_eq_getElem?_getD, List.getElem?_eq_getElem hj]; exact e⟩
theorem at_corner {es : List Ed} {j : Nat} (hj : j < (cornersL es).length) : (cornersL es).getD j 0 ∈ cornersL es := by
  rw [List.getD_eq_getElem?_getD, List.getElem?_eq_getElem hj]
  exact List.getElem_mem _
theorem corner_lt {es : List Ed} {j : Nat} (hj : j < (cornersL es).length) : (cornersL es).getD j 0 < es.length := (mem_corners.1 (at_corner hj)).1

/-- The piece of the edge ahead of a corner. -/
theorem piece_before {es : List Ed} {j : Nat} (hj : j < (cornersL es).length) (hn : 1 < es.length) :
    pieceC (cornersL es) (if (cornersL es).getD j 0 = 0 then es.length - 1 else (cornersL es).getD j 0 - 1) = if j = 0 then (cornersL es).length - 1 else j - 1 := by
  have hs := corners_sorted es
  by_cases h0 : (cornersL es).getD j 0 = 0
  · have j0 : j = 0 := by
      rcases Nat.eq_zero_or_pos j with e | e
      · exact e
      · have := sorted_lt hs e hj; omega
    subst j0
    rw [if_pos h0, if_pos rfl]
    refine pieceC_at hs (by omega) ?_ (fun h => absurd h (by omega))
    have := corner_lt (es := es) (show (cornersL es).length - 1 < (cornersL es).length by omega)
    omega
  · rw [if_neg h0]
    by_cases j0 : j = 0
    · subst j0
      rw [if_pos rfl]
      exact pieceC_ahead hs (by omega)
    · rw [if_neg j0]
      have := sorted_lt hs (show j - 1 < j by omega) hj
      refine pieceC_at hs (by omega) (by omega) (fun _ => ?_)
      rw [show j - 1 + 1 = j by omega]
      omega
theorem colP_in (m i : Nat) : colP m i = 5 ∨ colP m i = 6 ∨ colP m i = 3 := by
  unfold colP
  split
  · omega
  · split
    · omega
    · split <;> omega
theorem colP_ne {m i : Nat} (hm : 2 ≤ m) (hi : i < m) : colP m i ≠ colP m (if i = 0 then m - 1 else i - 1) := by
  unfold colP
  by_cases h0 : i = 0
  · subst h0
    rw [if_pos rfl]
    (repeat' split) <;> omega
  · rw [if_neg h0]
    (repeat' split) <;> omega
theorem oneC_in (n f k : Nat) : oneC n f k = 6 ∨ oneC n f k = 5 := by unfold oneC; (repeat' split) <;> omega
theorem colC_in (n : Nat) (cs : List Nat) (k : Nat) (h : cs.length ≠ 0) : colC n cs k = 3 ∨ colC n cs k = 5 ∨ colC n cs k = 6 := by
  unfold colC
  rw [if_neg h]
  split
  · have := oneC_in n (cs.getD 0 0) k; omega
  · have := colP_in cs.length (pieceC cs k); omega
/-- P11.2: two edges with a corner between have different ones of three colours. -/
theorem colours_apart {es : List Ed} {k : Nat} (hk : k ∈ cornersL es) (hn : 1 < es.length) : colC es.length (cornersL es) k ≠ colC es.length (cornersL es) (if k = 0 then es.length - 1 else k - 1) := by
  obtain ⟨j, hj, rfl⟩ := corner_at hk
  have hl := corner_lt hj
  have hs := corners_sorted es
  unfold colC
  have h0 : ¬(cornersL es).length = 0 := by omega
  simp only [if_neg h0]
  by_cases h1 : (cornersL es).length = 1
  · simp only [if_pos h1]
    obtain rfl : j = 0 := by omega
    unfold oneC
    (repeat' split) <;> omega
  · simp only [if_neg h1]
    rw [piece_before hj hn, pieceC_at hs hj (Nat.le_refl _) (fun h => sorted_lt hs (by omega) h)]
    exact colP_ne (by omega) hj
/-- .. and without a corner between they have the same, where there is not just one. -/
theorem colours_same {es : List Ed} {k : Nat} (hk : k ∉ cornersL es) (hn : k < es.length) (h1 : (cornersL es).length ≠ 1) : colC es.length (cornersL es) k = colC es.length (cornersL es) (if k = 0 then es.length - 1 else k - 1) := by
  unfold colC
  by_cases h0 : (cornersL es).length = 0
  · simp only [if_pos h0]
  · simp only [if_neg h0, if_neg h1]
    congr 1
    have hs := corners_sorted es
    have hne : ∀ i, i < (cornersL es).length → (cornersL es).getD i 0 ≠ k := fun i hi e => hk (e ▸ at_corner hi)
    by_cases hk0 : k = 0
    · subst hk0
      rw [if_pos rfl]
      have := hne 0 (by omega)
      rw [pieceC_ahead hs (by omega)]
      refine (pieceC_at hs (by omega) ?_ (fun h => absurd h (by omega))).symm
      have := corner_lt (es := es) (show (cornersL es).length - 1 < (cornersL es).length by omega)
      omega
    · rw [if_neg hk0]
      unfold pieceC
      have : ∀ r, r ≤ (cornersL es).length → pieceTo (cornersL es) k r = pieceTo (cornersL es) (k - 1) r := by
        intro r
        induction r with
        | zero => intro _; rfl
        | succ r ih =>
          intro hr
          have h2 := hne r (by omega)
          unfold pieceTo
          by_cases h3 : (cornersL es).getD r 0 ≤ k
          · rw [if_pos h3, if_pos (by omega)]
          · rw [if_neg h3, if_neg (by omega)]
            exact ih (by omega)
      exact this _ (Nat.le_refl _)
theorem white_iff (es : List Ed) (k : Nat) : colC es.length (cornersL es) k = 7 ↔ (cornersL es).length = 0 := by
  constructor
  · intro h
    by_cases h0 : (cornersL es).length = 0
    · exact h0
    · have := colC_in es.length (cornersL es) k h0
      omega
  · intro h
    unfold colC
    rw [if_pos h]

end Go.Proofs.Yteiildeaccngjaa

namespace Go.Proofs.Yteiildeaccngjaa

/-- The square of a point's distance from an edge's line, in its least form; on which side it is. -/
def lnF (e : Ed) (p : Pt) : Int × Int := lineV (e.b.x - e.a.x) (e.b.y - e.a.y) (p.x - e.a.x) (p.y - e.a.y)
def sdE (e : Ed) (p : Pt) : Int := sideV (e.b.x - e.a.x) (e.b.y - e.a.y) (p.x - e.a.x) (p.y - e.a.y)
theorem sdE_in (e : Ed) (p : Pt) : -1 ≤ sdE e p ∧ sdE e p ≤ 1 := by unfold sdE sideV; split <;> (try split) <;> omega

def rawL (u0 u1 v0 v1 : Int) : Int × Int := if u0 = 0 ∧ u1 = 0 then (v0 * v0 + v1 * v1, 1) else ((u0 * v1 - u1 * v0) * (u0 * v1 - u1 * v0), u0 * u0 + u1 * u1)
theorem uu_pos {u0 u1 : Int} (h : ¬(u0 = 0 ∧ u1 = 0)) : 0 < u0 * u0 + u1 * u1 := by
  have a := sqNN u0
  have b := sqNN u1
  by_cases h0 : u0 = 0
  · have h1 : u1 ≠ 0 := fun e => h ⟨h0, e⟩
    have : 0 < u1 * u1 := by rcases Int.lt_or_lt_of_ne h1 with k | k; exact Int.mul_pos_of_neg_of_neg k k; exact Int.mul_pos k k
    omega
  · have : 0 < u0 * u0 := by rcases Int.lt_or_lt_of_ne h0 with k | k; exact Int.mul_pos_of_neg_of_neg k k; exact Int.mul_pos k k
    omega
theorem rawL_pos (u0 u1 v0 v1 : Int) : 0 ≤ (rawL u0 u1 v0 v1).1 ∧ 0 < (rawL u0 u1 v0 v1).2 := by
  unfold rawL
  split
  · exact ⟨Int.add_nonneg (sqNN _) (sqNN _), by simp⟩
  · rename_i h
    exact ⟨sqNN _, uu_pos h⟩
theorem line_raw8 (u0 u1 v0 v1 : Int) : (lineV u0 u1 v0 v1).1 * (rawL u0 u1 v0 v1).2 = (lineV u0 u1 v0 v1).2 * (rawL u0 u1 v0 v1).1 ∧ 0 ≤ (lineV u0 u1 v0 v1).1 ∧ (lineV u0 u1 v0 v1).1 ≤ (rawL u0 u1 v0 v1).1 ∧ 0 < (lineV u0 u1 v0 v1).2 ∧ (lineV u0 u1 v0 v1).2 ≤ (rawL u0 u1 v0 v1).2 := by
  have hp := rawL_pos u0 u1 v0 v1
  unfold lineV rawL at *
  split
  · rename_i h
    rw [if_pos h] at hp
    exact ⟨Int.mul_comm _ _, hp.1, Int.le_refl _, hp.2, Int.le_refl _⟩
  · rename_i h
    rw [if_neg h] at hp
    exact frI_is hp.1 hp.2
/-- A fraction's least form, and another's. -/
theorem le_of_raw {a b A B c d C D : Int} (hb : 0 < b) (hB : 0 < B) (hd : 0 < d) (hD : 0 < D) (h1 : a * B = b * A) (h2 : c * D = d * C) (h : A * D ≤ C * B) : a * d ≤ c * b := by
  have m := Int.mul_le_mul_of_nonneg_left h (Int.le_of_lt (Int.mul_pos hb hd))
  have e1 : b * d * (A * D) = a * d * (B * D) := by
    have : b * d * (A * D) = (b * A) * (d * D) := by grind
    rw [this, ← h1]; grind
  have e2 : b * d * (C * B) = c * b * (B * D) := by
    have : b * d * (C * B) = (d * C) * (b * B) := by grind
    rw [this, ← h2]; grind
  rw [e1, e2] at m
  exact Int.le_of_mul_le_mul_right m (Int.mul_pos hB hD)
theorem raw_line_le (u0 u1 v0 v1 : Int) : (rawL u0 u1 v0 v1).1 * (rawV u0 u1 v0 v1).2 ≤ (rawV u0 u1 v0 v1).1 * (rawL u0 u1 v0 v1).2 := by
  unfold rawL rawV
  by_cases hu : u0 = 0 ∧ u1 = 0
  · obtain ⟨rfl, rfl⟩ := hu
    simp
  · rw [if_neg hu]
    split
    · have h : (v0 * v0 + v1 * v1) * (u0 * u0 + u1 * u1) = (u0 * v1 - u1 * v0) * (u0 * v1 - u1 * v0) + (u0 * v0 + u1 * v1) * (u0 * v0 + u1 * v1) := by grind
      have := sqNN (u0 * v0 + u1 * v1)
      simp only []
      omega
    · split
      · have h : ((v0 - u0) * (v0 - u0) + (v1 - u1) * (v1 - u1)) * (u0 * u0 + u1 * u1) = (u0 * v1 - u1 * v0) * (u0 * v1 - u1 * v0) + (u0 * (v0 - u0) + u1 * (v1 - u1)) * (u0 * (v0 - u0) + u1 * (v1 - u1)) := by grind
        have := sqNN (u0 * (v0 - u0) + u1 * (v1 - u1))
        simp only []
        omega
      · exact Int.le_refl _
/-- An edge's line is no farther than the edge. -/
theorem ln_le_sq (e : Ed) (p : Pt) : leF (lnF e p) (sqF e p) := by
  unfold leF lnF sqF
  obtain ⟨a1, a2, a3, a4, a5⟩ := line_raw8 (e.b.x - e.a.x) (e.b.y - e.a.y) (p.x - e.a.x) (p.y - e.a.y)
  obtain ⟨b1, b2, b3, b4, b5⟩ := square_raw8 (e.b.x - e.a.x) (e.b.y - e.a.y) (p.x - e.a.x) (p.y - e.a.y)
  exact le_of_raw a4 (rawL_pos _ _ _ _).2 b4 (raw_pos _ _ _ _).2 a1 b1 (raw_line_le _ _ _ _)
theorem ln_pos (e : Ed) (p : Pt) : 0 ≤ (lnF e p).1 ∧ 0 < (lnF e p).2 := ⟨(line_raw8 _ _ _ _).2.1, (line_raw8 _ _ _ _).2.2.2.1⟩
theorem ln_small (e : Ed) (p : Pt) (h : (e.a.x.natAbs ≤ 8192 ∧ e.a.y.natAbs ≤ 8192) ∧ (e.b.x.natAbs ≤ 8192 ∧ e.b.y.natAbs ≤ 8192)) (hp : p.x.natAbs ≤ 32768 ∧ p.y.natAbs ≤ 32768) :
    (0 ≤ (lnF e p).1 ∧ (lnF e p).1 ≤ 1801439850948198400) ∧ (0 < (lnF e p).2 ∧ (lnF e p).2 ≤ 536870912) ∧ (lnF e p).1 ≤ (lnF e p).2 * 3355443200 := by
  obtain ⟨k1, k2, k3, k4, k5⟩ := line_raw8 (e.b.x - e.a.x) (e.b.y - e.a.y) (p.x - e.a.x) (p.y - e.a.y)
  have hL := ln_le_sq e p
  have hs := sq_small e p h hp
  unfold leF at hL
  change 0 ≤ (lnF e p).1 at k2
  change (lnF e p).1 ≤ _ at k3
  change 0 < (lnF e p).2 at k4
  change (lnF e p).2 ≤ _ at k5
  have hR : (rawL (e.b.x - e.a.x) (e.b.y - e.a.y) (p.x - e.a.x) (p.y - e.a.y)).1 ≤ 1801439850948198400 ∧ (rawL (e.b.x - e.a.x) (e.b.y - e.a.y) (p.x - e.a.x) (p.y - e.a.y)).2 ≤ 536870912 := by
    obtain ⟨⟨x1, x2⟩, x3, x4⟩ := h
    obtain ⟨y1, y2⟩ := hp
    have u0 : (e.b.x - e.a.x).natAbs ≤ 16384 := by omega
    have u1 : (e.b.y - e.a.y).natAbs ≤ 16384 := by omega
    have v0 : (p.x - e.a.x).natAbs ≤ 40960 := by omega
    have v1 : (p.y - e.a.y).natAbs ≤ 40960 := by omega
    generalize e.b.x - e.a.x = a at *
    generalize e.b.y - e.a.y = b at *
    generalize p.x - e.a.x = c at *
    generalize p.y - e.a.y = d at *
    have m1 := mulB u0 v1
    have m2 := mulB u1 v0
    have m3 := mulB u0 u0
    have m4 := mulB u1 u1
    have m5 := mulB v0 v0
    have m6 := mulB v1 v1
    unfold rawL
    split
    · simp only []
      omega
    · have hx : (a * d - b * c).natAbs ≤ 1342177280 := by omega
      have m7 := mulB hx hx
      simp only []
      omega
  refine ⟨⟨k2, by omega⟩, ⟨k4, by omega⟩, ?_⟩
  have q := hs.2.2
  have q0 := hs.2.1.1
  have m := Int.mul_le_mul_of_nonneg_right q (Int.le_of_lt k4)
  have m' : (lnF e p).1 * (sqF e p).2 ≤ (lnF e p).2 * 3355443200 * (sqF e p).2 := by
    have : (sqF e p).2 * 3355443200 * (lnF e p).2 = (lnF e p).2 * 3355443200 * (sqF e p).2 := by grind
    omega
  exact Int.le_of_mul_le_mul_right m' q0
theorem e8_ln_small (e : Ed) (p : Pt) (h : (e.a.x.natAbs ≤ 8192 ∧ e.a.y.natAbs ≤ 8192) ∧ (e.b.x.natAbs ≤ 8192 ∧ e.b.y.natAbs ≤ 8192)) (hp : p.x.natAbs ≤ 32768 ∧ p.y.natAbs ≤ 32768) : 0 ≤ e8 (lnF e p) ∧ e8 (lnF e p) ≤ 1000000 := by
  obtain ⟨l1, l2, l3⟩ := ln_small e p h hp
  obtain ⟨a0, a1, _⟩ := e8_spec l1.1 l2.1 (by omega)
  refine ⟨a0, ?_⟩
  rcases Int.lt_or_le 1000000 (e8 (lnF e p)) with k | k
  · exfalso
    have m : (1000001 : Int) * 1000001 ≤ e8 (lnF e p) * e8 (lnF e p) := Int.mul_le_mul (by omega) (by omega) (by omega) (by omega)
    have m2 := Int.mul_le_mul_of_nonneg_right m (Int.le_of_lt l2.1)
    omega
  · exact k
theorem stepG_mono {s x y : Int} (hs : 1 ≤ s) (hx : 0 ≤ x) (h : x ≤ y) : stepG s x ≤ stepG s y := by
  by_cases hy : y < 256 * s
  · unfold stepG
    rw [if_pos (by omega), if_pos hy]
    exact Int.ediv_le_ediv (by omega) (by omega)
  · have := (stepG_in s x hs hx).2
    rw [show stepG s y = 127 by unfold stepG; rw [if_neg hy]]
    exact this
/-- P12.1: a colour's texel is no farther from the middle than its nearest edge is. -/
theorem near_line {e : Ed} {p : Pt} {s : Int} (hs : 1 ≤ s) (h : (e.a.x.natAbs ≤ 8192 ∧ e.a.y.natAbs ≤ 8192) ∧ (e.b.x.natAbs ≤ 8192 ∧ e.b.y.natAbs ≤ 8192)) (hp : p.x.natAbs ≤ 32768 ∧ p.y.natAbs ≤ 32768) :
    sdE e p * stepG s (e8 (lnF e p)) ≤ stepG s (e8 (sqF e p)) ∧ -(sdE e p * stepG s (e8 (lnF e p))) ≤ stepG s (e8 (sqF e p)) := by
  have l := ln_small e p h hp
  have q := sq_small e p h hp
  have hm := e8_mono l.1.1 l.2.1.1 q.1.1 q.2.1.1 (by omega) (by omega) (ln_le_sq e p)
  have m := stepG_mono (s := s) hs (e8_nonneg _) hm
  have n := (stepG_in s _ hs (e8_nonneg (lnF e p))).1
  have hd := sdE_in e p
  generalize stepG s (e8 (lnF e p)) = X at *
  obtain h | h | h : sdE e p = -1 ∨ sdE e p = 0 ∨ sdE e p = 1 := by omega
  all_goals rw [h]; omega

/-- Does an edge belong to a colour? -/
def inC (l : List Nat) (c n : Nat) : Bool := decide (n < l.length) && (l.getD n 0).testBit c
def edZ : Ed := ⟨⟨0, 0⟩, ⟨0, 0⟩⟩
/-- The first of the nearest, of the first r: so the law goes. -/
def bestI (es : List Ed) (p : Pt) (T : Nat → Bool) : Nat → Int
  | 0 => -1
  | r + 1 => if T r = true ∧ (bestI es p T r < 0 ∨ (sqF (es.getD r edZ) p).1 * (sqF (es.getD (bestI es p T r).toNat edZ) p).2 < (sqF (es.getD (bestI es p T r).toNat edZ) p).1 * (sqF (es.getD r edZ) p).2) then r else bestI es p T r
def bestF (es : List Ed) (p : Pt) (k : Int) : Int × Int := if k < 0 then (0, 0) else sqF (es.getD k.toNat edZ) p
theorem bestI_in (es : List Ed) (p : Pt) (T : Nat → Bool) : ∀ r, -1 ≤ bestI es p T r ∧ bestI es p T r < r
  | 0 => by unfold bestI; omega
  | r + 1 => by
    have := bestI_in es p T r
    unfold bestI
    split <;> omega
theorem bestI_is (es : List Ed) (p : Pt) (T : Nat → Bool) : ∀ r, r ≤ es.length → Best (es.take r) p T (bestF es p (bestI es p T r)) (bestI es p T r)
  | 0, _ => by
    unfold bestI bestF
    exact Best.nil p T
  | r + 1, hr => by
    have ih := bestI_is es p T r (by omega)
    have hin := bestI_in es p T r
    obtain ⟨e, he⟩ : ∃ e, es[r]? = some e := ⟨_, List.getElem?_eq_getElem (by omega)⟩
    have hge : es.getD r edZ = e := by rw [List.getD_eq_getElem?_getD, he]; rfl
    have hF : bestF es p (r : Int) = sqF e p := by unfold bestF; rw [if_neg (by omega), Int.toNat_natCast, hge]
    unfold bestI
    by_cases hT : T r = true
    · by_cases hk : bestI es p T r < 0
      · rw [if_pos ⟨hT, .inl hk⟩, hF]
        have h1 : bestI es p T r = -1 := by omega
        rw [h1] at ih
        exact Best.new ih he hT
      · by_cases hl : (sqF (es.getD r edZ) p).1 * (sqF (es.getD (bestI es p T r).toNat edZ) p).2 < (sqF (es.getD (bestI es p T r).toNat edZ) p).1 * (sqF (es.getD r edZ) p).2
        · rw [if_pos ⟨hT, .inr hl⟩, hF]
          rw [hge] at hl
          exact Best.less ih (by omega) he hT (by unfold ltF bestF; rw [if_neg hk]; exact hl)
        · rw [if_neg (by rintro ⟨_, h | h⟩; exact hk h; exact hl h)]
          rw [hge] at hl
          exact Best.keep ih (by omega) he (by unfold ltF bestF; rw [if_neg hk]; exact hl)
    · rw [if_neg (by rintro ⟨h, _⟩; exact hT h)]
      exact Best.skip ih (by simpa using hT)
/-- What is nearest is that. -/
theorem Best.at {es : List Ed} {p : Pt} {T : Nat → Bool} {f : Int × Int} {k : Int} (h : Best es p T f k) : k = bestI es p T es.length ∧ f = bestF es p k := by
  have h2 := bestI_is es p T es.length (Nat.le_refl _)
  rw [List.take_length] at h2
  obtain ⟨e1, e2⟩ := h.unique h2
  exact ⟨e2, by rw [e1, e2]⟩

/-- P12.1. -/
def chG (es : List Ed) (l : List Nat) (s : Int) (p : Pt) (c : Nat) : Int :=
  if (∀ x ∈ l, x = 7) ∨ bestI es p (inC l c) es.length < 0 then texG es s p
  else 128 + sdE (es.getD (bestI es p (inC l c) es.length).toNat edZ) p * stepG s (e8 (lnF (es.getD (bestI es p (inC l c) es.length).toNat edZ) p))
theorem chG_in (es : List Ed) (l : List Nat) (s : Int) (p : Pt) (c : Nat) (hs : 1 ≤ s) : 1 ≤ chG es l s p c ∧ chG es l s p c ≤ 255 := by
  unfold chG
  split
  · exact texG_in es s p hs
  · generalize es.getD (bestI es p (inC l c) es.length).toNat edZ = E
    have n := stepG_in s _ hs (e8_nonneg (lnF E p))
    have hd := sdE_in E p
    generalize stepG s (e8 (lnF E p)) = X at *
    obtain h | h | h : sdE E p = -1 ∨ sdE E p = 0 ∨ sdE E p = 1 := by omega
    all_goals rw [h]; omega
def chN (es : List Ed) (l : List Nat) (s : Int) (p : Pt) (c : Nat) : Nat := (chG es l s p c).toNat
theorem chN_is (es : List Ed) (l : List Nat) (s : Int) (p : Pt) (c : Nat) (hs : 1 ≤ s) : ((chN es l s p c : Nat) : Int) = chG es l s p c := by
  have := chG_in es l s p c hs
  unfold chN
  omega
/-- Where all are white, the colours are the distances. -/
theorem chN_white (es : List Ed) (l : List Nat) (s : Int) (p : Pt) (c : Nat) (h : ∀ x ∈ l, x = 7) : chN es l s p c = texN es s p := by
  unfold chN chG texN
  rw [if_pos (.inl h)]
theorem chN_none (es : List Ed) (l : List Nat) (s : Int) (p : Pt) (c : Nat) (h : bestI es p (inC l c) es.length < 0) : chN es l s p c = texN es s p := by
  unfold chN chG texN
  rw [if_pos (.inr h)]
theorem chG_some {es : List Ed} {l : List Nat} {s : Int} {p : Pt} {c j : Nat} {E : Ed} (hw : ¬∀ x ∈ l, x = 7) (h : bestI es p (inC l c) es.length = (j : Int)) (hE : es[j]? = some E) : chG es l s p c = 128 + sdE E p * stepG s (e8 (lnF E p)) := by
  unfold chG
  rw [if_neg (by rintro (k | k); exact hw k; omega), h, Int.toNat_natCast, show es.getD j edZ = E by rw [List.getD_eq_getElem?_getD, hE]; rfl]
theorem seven_bit : ∀ d : Fin 3, (7 : Nat).testBit (d : Nat) = true := by decide
/-- P12.1: a colour's texel is no farther from the middle than the nearest edge of the colour is, whatever the colours. -/
theorem near_all {es : List Ed} {l : List Nat} {s : Int} {p : Pt} {d : Nat} {f : Int × Int} {k : Int} (hs : 1 ≤ s) (hd : d < 3) (hfit : Fit es p) (hin : ∀ e ∈ es, (e.a.x.natAbs ≤ 8192 ∧ e.a.y.natAbs ≤ 8192) ∧ (e.b.x.natAbs ≤ 8192 ∧ e.b.y.natAbs ≤ 8192)) (hp : p.x.natAbs ≤ 32768 ∧ p.y.natAbs ≤ 32768) (hlen : l.length = es.length) (h : Best es p (inC l d) f k) (hk : 0 ≤ k) :
    chG es l s p d - 128 ≤ stepG s (e8 f) ∧ -(chG es l s p d - 128) ≤ stepG s (e8 f) := by
  by_cases hw : ∀ x ∈ l, x = 7
  · have hall : ∀ i, i < es.length → inC l d i = true := fun i hi => by
      unfold inC
      rw [decide_eq_true (by omega), Bool.true_and, List.getD_eq_getElem?_getD, List.getElem?_eq_getElem (show i < l.length by omega), Option.getD_some, hw _ (List.getElem_mem _)]
      exact seven_bit ⟨d, hd⟩
    have hN : Near es p f k := by
      rcases h with ⟨h1, _⟩ | ⟨j, e, h1, h2, h3, h4, h5⟩
      · omega
      · exact .inr ⟨j, e, h1, h2, rfl, h4, fun i d' hd' _ => h5 i d' hd' (hall i (List.getElem?_eq_some_iff.1 hd').1)⟩
    have hE := hN.eight hfit
    rw [if_neg (by omega)] at hE
    have hu := E8.unique hE (E8.is es p)
    have hne : es ≠ [] := fun e => by have := hN.none.2 e; omega
    unfold chG
    rw [if_pos (.inl hw)]
    unfold texG
    rw [if_neg hne, ← hu]
    have hsg := sgS_in es p
    have hst := (stepG_in s _ hs (e8_nonneg f)).1
    generalize stepG s (e8 f) = X at *
    obtain h | h | h : sgS es p = -1 ∨ sgS es p = 0 ∨ sgS es p = 1 := by omega
    all_goals rw [h]; omega
  · have hb := h.at.1
    rcases h with ⟨h1, _⟩ | ⟨j, e, h1, h2, h3, h4, h5⟩
    · omega
    · rw [h1] at hb
      rw [chG_some hw hb.symm h2, h4]
      have := near_line (p := p) hs (hin e (List.mem_of_getElem? h2)) hp
      omega
/-- P12.2: a colour's field, of so many texels. -/
def fldC (es : List Ed) (l : List Nat) (x y p s : Int) (u c m : Nat) : List Nat := (List.range m).map fun j => chN es l s (midP x y p (j % u : Nat) (j / u : Nat)) c
theorem fldC_length (es : List Ed) (l : List Nat) (x y p s : Int) (u c m : Nat) : (fldC es l x y p s u c m).length = m := by simp [fldC]
theorem fldC_at (es : List Ed) (l : List Nat) (x y p s : Int) (u c m j : Nat) (hj : j < m) : (fldC es l x y p s u c m)[j]? = some (chN es l s (midP x y p (j % u : Nat) (j / u : Nat)) c) := by
  unfold fldC
  rw [List.getElem?_map, List.getElem?_range hj]
  rfl
theorem fldC_white (es : List Ed) (l : List Nat) (x y p s : Int) (u c m : Nat) (h : ∀ x ∈ l, x = 7) : fldC es l x y p s u c m = fldN es x y p s u m := by
  unfold fldC fldN
  exact List.map_congr_left fun j _ => chN_white es l s _ c h
/-- P12.3. -/
def medN (a b c : Nat) : Nat := max (min a b) (min (max a b) c)
theorem medN_same (a : Nat) : medN a a a = a := by unfold medN; omega
theorem medN_mid (a b c : Nat) : medN a b c = a ∧ (b ≤ a ∧ a ≤ c ∨ c ≤ a ∧ a ≤ b) ∨ medN a b c = b ∧ (a ≤ b ∧ b ≤ c ∨ c ≤ b ∧ b ≤ a) ∨ medN a b c = c ∧ (a ≤ c ∧ c ≤ b ∨ b ≤ c ∧ c ≤ a) := by unfold medN; omega
def medL (a b c : List Nat) : List Nat := (List.range a.length).map fun j => medN (a.getD j 0) (b.getD j 0) (c.getD j 0)
theorem medL_same (a : List Nat) : medL a a a = a := by
  unfold medL
  refine List.ext_getElem (by simp) (fun j h1 h2 => ?_)
  simp only [List.getElem_map, List.getElem_range, medN_same, List.getD_eq_getElem?_getD, List.getElem?_eq_getElem h2, Option.getD_some]

end Go.Proofs.Yteiildeaccngjaa
