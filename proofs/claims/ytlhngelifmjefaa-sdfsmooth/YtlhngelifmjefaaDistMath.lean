/-
  The numbers of layer 8 (no claim is made here).
-/
import Derived.Test.YtlhngelifmjefaaMth
namespace Go.Proofs.Ytlhngelifmjefaa

/-- The square of a distance, before it is in its least form. -/
def rawV (u0 u1 v0 v1 : Int) : Int × Int :=
  if u0 * v0 + u1 * v1 ≤ 0 then (v0 * v0 + v1 * v1, 1)
  else if u0 * u0 + u1 * u1 ≤ u0 * v0 + u1 * v1 then ((v0 - u0) * (v0 - u0) + (v1 - u1) * (v1 - u1), 1)
  else ((u0 * v1 - u1 * v0) * (u0 * v1 - u1 * v0), u0 * u0 + u1 * u1)

theorem raw_least (u0 u1 v0 v1 c t : Int) (hc : 0 < c) (h0 : 0 ≤ t) (h1 : t ≤ c) :
    c * c * (rawV u0 u1 v0 v1).1 ≤ (rawV u0 u1 v0 v1).2 * ((c * v0 - t * u0) * (c * v0 - t * u0) + (c * v1 - t * u1) * (c * v1 - t * u1)) := by
  unfold rawV
  split
  · rename_i hf
    simp only []
    have k1 : 0 ≤ c * t * -(u0 * v0 + u1 * v1) := Int.mul_nonneg (Int.mul_nonneg (by omega) h0) (by omega)
    have k2 : 0 ≤ t * t * (u0 * u0 + u1 * u1) := Int.mul_nonneg (Int.mul_nonneg h0 h0) (Int.add_nonneg (sqNN _) (sqNN _))
    grind
  · split
    · rename_i hf hs
      simp only []
      have hS : 0 ≤ u0 * u0 + u1 * u1 := Int.add_nonneg (sqNN _) (sqNN _)
      have k1 : 0 ≤ c * (u0 * v0 + u1 * v1 - (u0 * u0 + u1 * u1)) := Int.mul_nonneg (by omega) (by omega)
      have k2 : 0 ≤ (c - t) * (u0 * u0 + u1 * u1) := Int.mul_nonneg (by omega) hS
      have k3 : 0 ≤ (c - t) * (2 * (c * (u0 * v0 + u1 * v1 - (u0 * u0 + u1 * u1))) + (c - t) * (u0 * u0 + u1 * u1)) := Int.mul_nonneg (by omega) (by omega)
      grind
    · simp only []
      have k := sqNN (c * (u0 * v0 + u1 * v1) - t * (u0 * u0 + u1 * u1))
      grind
theorem raw_foot (u0 u1 v0 v1 : Int) : ∃ c t, 0 < c ∧ 0 ≤ t ∧ t ≤ c ∧
    c * c * (rawV u0 u1 v0 v1).1 = (rawV u0 u1 v0 v1).2 * ((c * v0 - t * u0) * (c * v0 - t * u0) + (c * v1 - t * u1) * (c * v1 - t * u1)) := by
  unfold rawV
  split
  · refine ⟨1, 0, by omega, by omega, by omega, ?_⟩
    simp
  · split
    · refine ⟨1, 1, by omega, by omega, by omega, ?_⟩
      simp
    · rename_i hf hs
      refine ⟨u0 * u0 + u1 * u1, u0 * v0 + u1 * v1, by omega, by omega, by omega, ?_⟩
      simp only []
      grind

theorem frI_is {n d : Int} (hn : 0 ≤ n) (hd : 0 < d) : (frI n d).1 * d = (frI n d).2 * n ∧ 0 ≤ (frI n d).1 ∧ (frI n d).1 ≤ n ∧ 0 < (frI n d).2 ∧ (frI n d).2 ≤ d := by
  obtain ⟨a, rfl⟩ := Int.eq_ofNat_of_zero_le hn
  obtain ⟨b, rfl⟩ := Int.eq_ofNat_of_zero_le (Int.le_of_lt hd)
  have hb : 0 < b := by omega
  have hg : 0 < Nat.gcd a b := Nat.gcd_pos_of_pos_right a hb
  obtain ⟨x, hx⟩ := Nat.gcd_dvd_left a b
  obtain ⟨y, hy⟩ := Nat.gcd_dvd_right a b
  unfold frI
  simp only [Int.toNat_natCast]
  generalize Nat.gcd a b = g at *
  have e1 : a / g = x := by rw [hx]; exact Nat.mul_div_cancel_left x hg
  have e2 : b / g = y := by rw [hy]; exact Nat.mul_div_cancel_left y hg
  rw [e1, e2]
  have hy0 : 0 < y := by
    rcases Nat.eq_zero_or_pos y with h | h
    · rw [h, Nat.mul_zero] at hy; omega
    · exact h
  have l1 : x ≤ g * x := Nat.le_mul_of_pos_left x hg
  have l2 : y ≤ g * y := Nat.le_mul_of_pos_left y hg
  refine ⟨?_, by omega, by omega, by omega, by omega⟩
  have : x * b = y * a := by rw [hx, hy]; grind
  exact_mod_cast this

/-- The square of a point's distance from an edge, in its least form. -/
def sqF (e : Ed) (p : Pt) : Int × Int := squareV (e.b.x - e.a.x) (e.b.y - e.a.y) (p.x - e.a.x) (p.y - e.a.y)
def rawE (e : Ed) (p : Pt) : Int × Int := rawV (e.b.x - e.a.x) (e.b.y - e.a.y) (p.x - e.a.x) (p.y - e.a.y)
theorem raw_pos (u0 u1 v0 v1 : Int) : 0 ≤ (rawV u0 u1 v0 v1).1 ∧ 0 < (rawV u0 u1 v0 v1).2 := by
  unfold rawV
  split
  · exact ⟨Int.add_nonneg (sqNN _) (sqNN _), by simp⟩
  · split
    · exact ⟨Int.add_nonneg (sqNN _) (sqNN _), by simp⟩
    · exact ⟨sqNN _, by simp only []; omega⟩
theorem square_raw8 (u0 u1 v0 v1 : Int) : (squareV u0 u1 v0 v1).1 * (rawV u0 u1 v0 v1).2 = (squareV u0 u1 v0 v1).2 * (rawV u0 u1 v0 v1).1 ∧ 0 ≤ (squareV u0 u1 v0 v1).1 ∧ (squareV u0 u1 v0 v1).1 ≤ (rawV u0 u1 v0 v1).1 ∧ 0 < (squareV u0 u1 v0 v1).2 ∧ (squareV u0 u1 v0 v1).2 ≤ (rawV u0 u1 v0 v1).2 := by
  have hp := raw_pos u0 u1 v0 v1
  unfold squareV rawV at *
  split
  · rename_i h
    rw [if_pos h] at hp
    exact ⟨Int.mul_comm _ _, hp.1, Int.le_refl _, hp.2, Int.le_refl _⟩
  · rename_i h
    rw [if_neg h] at hp
    split
    · rename_i h2
      rw [if_pos h2] at hp
      exact ⟨Int.mul_comm _ _, hp.1, Int.le_refl _, hp.2, Int.le_refl _⟩
    · rename_i h2
      rw [if_neg h2] at hp
      unfold lineV
      rw [if_neg (by rintro ⟨rfl, rfl⟩; simp at h)]
      exact frI_is hp.1 hp.2
theorem sq_pos (e : Ed) (p : Pt) : 0 ≤ (sqF e p).1 ∧ 0 < (sqF e p).2 := ⟨(square_raw8 _ _ _ _).2.1, (square_raw8 _ _ _ _).2.2.2.1⟩

theorem sq_least (u0 u1 v0 v1 c t : Int) (hc : 0 < c) (h0 : 0 ≤ t) (h1 : t ≤ c) :
    c * c * (squareV u0 u1 v0 v1).1 ≤ (squareV u0 u1 v0 v1).2 * ((c * v0 - t * u0) * (c * v0 - t * u0) + (c * v1 - t * u1) * (c * v1 - t * u1)) := by
  have h := raw_least u0 u1 v0 v1 c t hc h0 h1
  obtain ⟨k, _, _, k2, _⟩ := square_raw8 u0 u1 v0 v1
  have hd := (raw_pos u0 u1 v0 v1).2
  generalize (squareV u0 u1 v0 v1).1 = a at *
  generalize (squareV u0 u1 v0 v1).2 = b at *
  generalize (rawV u0 u1 v0 v1).1 = n at *
  generalize (rawV u0 u1 v0 v1).2 = d at *
  generalize ((c * v0 - t * u0) * (c * v0 - t * u0) + (c * v1 - t * u1) * (c * v1 - t * u1)) = X at *
  have h2 := Int.mul_le_mul_of_nonneg_left h (Int.le_of_lt k2)
  refine Int.le_of_mul_le_mul_left (a := d) ?_ hd
  have e1 : d * (c * c * a) = b * (c * c * n) := by grind
  have e2 : d * (b * X) = b * (d * X) := by grind
  rw [e1, e2]
  exact h2
theorem sq_foot (u0 u1 v0 v1 : Int) : ∃ c t, 0 < c ∧ 0 ≤ t ∧ t ≤ c ∧
    c * c * (squareV u0 u1 v0 v1).1 = (squareV u0 u1 v0 v1).2 * ((c * v0 - t * u0) * (c * v0 - t * u0) + (c * v1 - t * u1) * (c * v1 - t * u1)) := by
  obtain ⟨c, t, hc, h0, h1, h⟩ := raw_foot u0 u1 v0 v1
  obtain ⟨k, _, _, k2, _⟩ := square_raw8 u0 u1 v0 v1
  have hd := (raw_pos u0 u1 v0 v1).2
  refine ⟨c, t, hc, h0, h1, ?_⟩
  generalize (squareV u0 u1 v0 v1).1 = a at *
  generalize (squareV u0 u1 v0 v1).2 = b at *
  generalize (rawV u0 u1 v0 v1).1 = n at *
  generalize (rawV u0 u1 v0 v1).2 = d at *
  generalize ((c * v0 - t * u0) * (c * v0 - t * u0) + (c * v1 - t * u1) * (c * v1 - t * u1)) = X at *
  refine Int.eq_of_mul_eq_mul_left (a := d) (by omega) ?_
  grind

theorem sq_lt_of {a b : Int} (hb : 0 ≤ b) (h : a * a < b * b) : a < b := by
  rcases Int.lt_or_le a b with h1 | h1
  · exact h1
  · have := Int.mul_le_mul h1 h1 hb (by omega)
    omega
/-- Who goes a way changes the distance by no more than that. -/
theorem step_one (u0 u1 v0 v1 d0 d1 x y W : Int) (hy : 0 ≤ y) (hW : 0 ≤ W)
    (h1 : 64 * (squareV u0 u1 v0 v1).1 < (squareV u0 u1 v0 v1).2 * ((y + 1) * (y + 1))) (h2 : 64 * (d0 * d0 + d1 * d1) < (W + 1) * (W + 1))
    (h3 : x * x * (squareV u0 u1 (v0 + d0) (v1 + d1)).2 ≤ 64 * (squareV u0 u1 (v0 + d0) (v1 + d1)).1) : x < y + W + 2 := by
  obtain ⟨c, t, hc, ht0, ht1, hf⟩ := sq_foot u0 u1 v0 v1
  have hl := sq_least u0 u1 (v0 + d0) (v1 + d1) c t hc ht0 ht1
  have k1 := (square_raw8 u0 u1 v0 v1).2.2.2.1
  have k2 := (square_raw8 u0 u1 (v0 + d0) (v1 + d1)).2.2.2.1
  rw [show c * (v0 + d0) - t * u0 = (c * v0 - t * u0) + c * d0 by grind, show c * (v1 + d1) - t * u1 = (c * v1 - t * u1) + c * d1 by grind] at hl
  generalize (squareV u0 u1 v0 v1).1 = n at *
  generalize (squareV u0 u1 v0 v1).2 = m at *
  generalize (squareV u0 u1 (v0 + d0) (v1 + d1)).1 = n' at *
  generalize (squareV u0 u1 (v0 + d0) (v1 + d1)).2 = m' at *
  generalize c * v0 - t * u0 = z0 at *
  generalize c * v1 - t * u1 = z1 at *
  have hcc : 0 < c * c := Int.mul_pos hc hc
  have a1 : 64 * (z0 * z0 + z1 * z1) < (c * (y + 1)) * (c * (y + 1)) := by
    refine Int.lt_of_mul_lt_mul_left (a := m) ?_ (Int.le_of_lt k1)
    have := Int.mul_lt_mul_of_pos_left h1 hcc
    grind
  have a2 : 64 * ((c * d0) * (c * d0) + (c * d1) * (c * d1)) < (c * (W + 1)) * (c * (W + 1)) := by
    have := Int.mul_lt_mul_of_pos_left h2 hcc
    grind
  have hP : 0 < c * (y + 1) := Int.mul_pos hc (by omega)
  have hQ : 0 < c * (W + 1) := Int.mul_pos hc (by omega)
  have hsum : c * (y + W + 2) = c * (y + 1) + c * (W + 1) := by grind
  generalize c * d0 = e0 at *
  generalize c * d1 = e1 at *
  generalize c * (y + 1) = P at *
  generalize c * (W + 1) = Q at *
  have a3 : (64 * (z0 * e0 + z1 * e1)) * (64 * (z0 * e0 + z1 * e1)) < (P * Q) * (P * Q) := by
    have b1 := sqNN (z0 * e1 - z1 * e0)
    have n1 : 0 ≤ 64 * (z0 * z0 + z1 * z1) := Int.mul_nonneg (by omega) (Int.add_nonneg (sqNN _) (sqNN _))
    have n2 : 0 ≤ 64 * (e0 * e0 + e1 * e1) := Int.mul_nonneg (by omega) (Int.add_nonneg (sqNN _) (sqNN _))
    have b2 : (64 * (z0 * z0 + z1 * z1)) * (64 * (e0 * e0 + e1 * e1)) < (P * P) * (Q * Q) := by
      have c1 := Int.mul_le_mul_of_nonneg_right (Int.le_of_lt a1) n2
      have c2 := Int.mul_lt_mul_of_pos_left a2 (Int.mul_pos hP hP)
      omega
    grind
  have a4 : 64 * (z0 * e0 + z1 * e1) < P * Q := sq_lt_of (Int.mul_nonneg (Int.le_of_lt hP) (Int.le_of_lt hQ)) a3
  have a5 : 64 * ((z0 + e0) * (z0 + e0) + (z1 + e1) * (z1 + e1)) < (P + Q) * (P + Q) := by grind
  have a6 : (c * x) * (c * x) < (P + Q) * (P + Q) := by
    refine Int.lt_of_mul_lt_mul_left (a := m') ?_ (Int.le_of_lt k2)
    have b1 := Int.mul_le_mul_of_nonneg_left h3 (Int.le_of_lt hcc)
    have b2 := Int.mul_lt_mul_of_pos_left a5 k2
    grind
  have a7 := sq_lt_of (show 0 ≤ P + Q by omega) a6
  rw [← hsum] at a7
  exact Int.lt_of_mul_lt_mul_left a7 (Int.le_of_lt hc)

/-- Eight times a root, rounded down. -/
def e8 (f : Int × Int) : Int := (isqrt (f.1.toNat * 64 / f.2.toNat) : Nat)
theorem e8_spec {f : Int × Int} (h0 : 0 ≤ f.1) (h1 : 0 < f.2) (hb : f.1 * 64 < f.2 * 18446744073709551616) : 0 ≤ e8 f ∧ e8 f * e8 f * f.2 ≤ 64 * f.1 ∧ 64 * f.1 < f.2 * ((e8 f + 1) * (e8 f + 1)) := by
  obtain ⟨a, b⟩ := f
  simp only [] at h0 h1 hb
  obtain ⟨a, rfl⟩ := Int.eq_ofNat_of_zero_le h0
  obtain ⟨b, rfl⟩ := Int.eq_ofNat_of_zero_le (Int.le_of_lt h1)
  have hb0 : 0 < b := by omega
  have hq : a * 64 / b < 18446744073709551616 := by
    rw [Nat.div_lt_iff_lt_mul hb0]
    omega
  obtain ⟨k1, k2⟩ := isqrt_spec _ hq
  unfold e8
  simp only [Int.toNat_natCast]
  have d1 := Nat.div_mul_le_self (a * 64) b
  have d2 := Nat.lt_mul_div_succ (a * 64) hb0
  generalize a * 64 / b = q at *
  generalize isqrt q = r at *
  have m1 := Nat.mul_le_mul_right b k1
  have m2 := Nat.mul_le_mul_left b (show q + 1 ≤ (r + 1) * (r + 1) by omega)
  refine ⟨by omega, ?_, ?_⟩
  · have : r * r * b ≤ 64 * a := by omega
    exact_mod_cast this
  · have : 64 * a < b * ((r + 1) * (r + 1)) := by omega
    exact_mod_cast this
theorem e8_unique {n d x y : Int} (hd : 0 < d) (hy : 0 ≤ y) (h1 : x * x * d ≤ 64 * n) (h2 : 64 * n < d * ((y + 1) * (y + 1))) : x ≤ y := by
  have h3 : x * x < (y + 1) * (y + 1) := by
    refine Int.lt_of_mul_lt_mul_left (a := d) ?_ (Int.le_of_lt hd)
    rw [Int.mul_comm d (x * x)]
    omega
  have := sq_lt_of (show 0 ≤ y + 1 by omega) h3
  omega

/-- The order of fractions. -/
def leF (f g : Int × Int) : Prop := f.1 * g.2 ≤ g.1 * f.2
def ltF (f g : Int × Int) : Prop := f.1 * g.2 < g.1 * f.2
theorem leF_trans {f g h : Int × Int} (hf : 0 < f.2) (hg : 0 < g.2) (hh : 0 < h.2) (h1 : leF f g) (h2 : leF g h) : leF f h := by
  unfold leF at *
  refine Int.le_of_mul_le_mul_left (a := g.2) ?_ hg
  have a1 := Int.mul_le_mul_of_nonneg_left h1 (Int.le_of_lt hh)
  have a2 := Int.mul_le_mul_of_nonneg_left h2 (Int.le_of_lt hf)
  have e1 : g.2 * (f.1 * h.2) = h.2 * (f.1 * g.2) := by grind
  have e2 : g.2 * (h.1 * f.2) = f.2 * (h.1 * g.2) := by grind
  have e3 : h.2 * (g.1 * f.2) = f.2 * (g.1 * h.2) := by grind
  omega
theorem ltF_leF {f g h : Int × Int} (hf : 0 < f.2) (hg : 0 < g.2) (hh : 0 < h.2) (h1 : ltF f g) (h2 : leF g h) : ltF f h := by
  unfold leF ltF at *
  refine Int.lt_of_mul_lt_mul_left (a := g.2) ?_ (Int.le_of_lt hg)
  have a1 := Int.mul_lt_mul_of_pos_left h1 hh
  have a2 := Int.mul_le_mul_of_nonneg_left h2 (Int.le_of_lt hf)
  have e1 : g.2 * (f.1 * h.2) = h.2 * (f.1 * g.2) := by grind
  have e2 : g.2 * (h.1 * f.2) = f.2 * (h.1 * g.2) := by grind
  have e3 : h.2 * (g.1 * f.2) = f.2 * (g.1 * h.2) := by grind
  omega
theorem leF_refl (f : Int × Int) : leF f f := by unfold leF; exact Int.le_refl _
theorem ltF_le {f g : Int × Int} (h : ltF f g) : leF f g := Int.le_of_lt h
theorem not_ltF {f g : Int × Int} (h : ¬ ltF f g) : leF g f := by unfold ltF at h; unfold leF; omega
theorem not_leF {f g : Int × Int} (h : ltF f g) (h' : leF g f) : False := by unfold ltF at h; unfold leF at h'; omega
theorem e8_mono {f g : Int × Int} (hf : 0 ≤ f.1) (hf2 : 0 < f.2) (hg : 0 ≤ g.1) (hg2 : 0 < g.2) (bf : f.1 * 64 < f.2 * 18446744073709551616) (bg : g.1 * 64 < g.2 * 18446744073709551616) (h : leF f g) : e8 f ≤ e8 g := by
  obtain ⟨x0, x1, x2⟩ := e8_spec hf hf2 bf
  obtain ⟨y0, y1, y2⟩ := e8_spec hg hg2 bg
  unfold leF at h
  generalize e8 f = x at *
  generalize e8 g = y at *
  have h3 : x * x < (y + 1) * (y + 1) := by
    refine Int.lt_of_mul_lt_mul_left (a := f.2 * g.2) ?_ (Int.le_of_lt (Int.mul_pos hf2 hg2))
    have a1 := Int.mul_le_mul_of_nonneg_left x1 (Int.le_of_lt hg2)
    have a2 := Int.mul_lt_mul_of_pos_left y2 hf2
    have e1 : f.2 * g.2 * (x * x) = g.2 * (x * x * f.2) := by grind
    have e2 : f.2 * g.2 * ((y + 1) * (y + 1)) = f.2 * (g.2 * ((y + 1) * (y + 1))) := by grind
    have e3 : g.2 * (64 * f.1) = 64 * (f.1 * g.2) := by grind
    have e4 : f.2 * (64 * g.1) = 64 * (g.1 * f.2) := by grind
    omega
  have := sq_lt_of (show 0 ≤ y + 1 by omega) h3
  omega

/-- P8.1: the least of some edges, and the first that has it. -/
def Best (es : List Ed) (p : Pt) (T : Nat → Bool) (f : Int × Int) (k : Int) : Prop :=
  (k = -1 ∧ f = (0, 0) ∧ ∀ i, i < es.length → T i = false) ∨
  ∃ (j : Nat) (e : Ed), k = j ∧ es[j]? = some e ∧ T j = true ∧ f = sqF e p ∧ ∀ i d, es[i]? = some d → T i = true → leF f (sqF d p) ∧ (i < j → ltF f (sqF d p))
theorem Best.nil (p : Pt) (T : Nat → Bool) : Best [] p T (0, 0) (-1) := .inl ⟨rfl, rfl, fun _ h => absurd h (Nat.not_lt_zero _)⟩
theorem take_at {es : List Ed} {r i : Nat} {d : Ed} (h : (es.take r)[i]? = some d) : i < r ∧ es[i]? = some d := by
  rw [List.getElem?_take] at h
  split at h
  · exact ⟨by assumption, h⟩
  · cases h
theorem at_take {es : List Ed} {r i : Nat} {d : Ed} (hi : i < r) (h : es[i]? = some d) : (es.take r)[i]? = some d := by
  rw [List.getElem?_take, if_pos hi]; exact h
theorem Best.skip {es : List Ed} {p : Pt} {T : Nat → Bool} {f : Int × Int} {k : Int} {r : Nat} (h : Best (es.take r) p T f k) (hT : T r = false) : Best (es.take (r + 1)) p T f k := by
  rcases h with ⟨h1, h2, h3⟩ | ⟨j, e, h1, h2, h3, h4, h5⟩
  · refine .inl ⟨h1, h2, fun i hi => ?_⟩
    rw [List.length_take] at h3 hi
    by_cases hir : i = r
    · rw [hir]; exact hT
    · exact h3 i (by omega)
  · obtain ⟨a1, a2⟩ := take_at h2
    refine .inr ⟨j, e, h1, at_take (by omega) a2, h3, h4, fun i d hd hTi => ?_⟩
    obtain ⟨b1, b2⟩ := take_at hd
    have : i ≠ r := by rintro rfl; rw [hT] at hTi; cases hTi
    exact h5 i d (at_take (by omega) b2) hTi
theorem Best.new {es : List Ed} {p : Pt} {T : Nat → Bool} {f : Int × Int} {r : Nat} {e : Ed} (h : Best (es.take r) p T f (-1)) (he : es[r]? = some e) (hT : T r = true) : Best (es.take (r + 1)) p T (sqF e p) r := by
  rcases h with ⟨_, _, h3⟩ | ⟨j, _, h1, _⟩
  · refine .inr ⟨r, e, rfl, at_take (by omega) he, hT, rfl, fun i d hd hTi => ?_⟩
    obtain ⟨b1, b2⟩ := take_at hd
    have hir : i = r := by
      by_cases hir : i = r
      · exact hir
      · have hl := (List.getElem?_eq_some_iff.1 b2).1
        have := h3 i (by rw [List.length_take]; omega)
        rw [this] at hTi; cases hTi
    subst hir
    rw [he] at b2
    cases b2
    exact ⟨leF_refl _, fun h => absurd h (Nat.lt_irrefl _)⟩
  · omega
theorem Best.less {es : List Ed} {p : Pt} {T : Nat → Bool} {f : Int × Int} {k : Int} {r : Nat} {e : Ed} (h : Best (es.take r) p T f k) (hk : k ≠ -1) (he : es[r]? = some e) (hT : T r = true) (hl : ltF (sqF e p) f) : Best (es.take (r + 1)) p T (sqF e p) r := by
  rcases h with ⟨h1, _⟩ | ⟨j, e0, h1, h2, h3, h4, h5⟩
  · exact absurd h1 hk
  · refine .inr ⟨r, e, rfl, at_take (by omega) he, hT, rfl, fun i d hd hTi => ?_⟩
    obtain ⟨b1, b2⟩ := take_at hd
    by_cases hir : i = r
    · subst hir
      rw [he] at b2
      cases b2
      exact ⟨leF_refl _, fun h => absurd h (Nat.lt_irrefl _)⟩
    · have k1 := (h5 i d (at_take (by omega) b2) hTi).1
      have hf : 0 < f.2 := by rw [h4]; exact (sq_pos e0 p).2
      have k2 := ltF_leF (sq_pos e p).2 hf (sq_pos d p).2 hl k1
      exact ⟨ltF_le k2, fun _ => k2⟩
theorem Best.keep {es : List Ed} {p : Pt} {T : Nat → Bool} {f : Int × Int} {k : Int} {r : Nat} {e : Ed} (h : Best (es.take r) p T f k) (hk : k ≠ -1) (he : es[r]? = some e) (hl : ¬ ltF (sqF e p) f) : Best (es.take (r + 1)) p T f k := by
  rcases h with ⟨h1, _⟩ | ⟨j, e0, h1, h2, h3, h4, h5⟩
  · exact absurd h1 hk
  · obtain ⟨a1, a2⟩ := take_at h2
    refine .inr ⟨j, e0, h1, at_take (by omega) a2, h3, h4, fun i d hd hTi => ?_⟩
    obtain ⟨b1, b2⟩ := take_at hd
    by_cases hir : i = r
    · subst hir
      rw [he] at b2
      cases b2
      exact ⟨not_ltF hl, fun h => by omega⟩
    · exact h5 i d (at_take (by omega) b2) hTi
theorem Best.unique {es : List Ed} {p : Pt} {T : Nat → Bool} {f g : Int × Int} {k l : Int} (h : Best es p T f k) (h' : Best es p T g l) : f = g ∧ k = l := by
  rcases h with ⟨h1, h2, h3⟩ | ⟨j, e, h1, h2, h3, h4, h5⟩
  · rcases h' with ⟨g1, g2, _⟩ | ⟨j', e', g1, g2, g3, g4, g5⟩
    · exact ⟨h2.trans g2.symm, h1.trans g1.symm⟩
    · have := h3 j' (List.getElem?_eq_some_iff.1 g2).1
      rw [this] at g3; cases g3
  · rcases h' with ⟨g1, g2, g3⟩ | ⟨j', e', g1, g2, g3, g4, g5⟩
    · have := g3 j (List.getElem?_eq_some_iff.1 h2).1
      rw [this] at h3; cases h3
    · have k1 := h5 j' e' g2 g3
      have k2 := g5 j e h2 h3
      rw [← g4] at k1
      rw [← h4] at k2
      have hj : j = j' := by
        rcases Nat.lt_trichotomy j j' with h | h | h
        · exact (not_leF (k2.2 h) k1.1).elim
        · exact h
        · exact (not_leF (k1.2 h) k2.1).elim
      subst hj
      rw [h2] at g2
      cases g2
      exact ⟨h4.trans g4.symm, h1.trans g1.symm⟩
/-- Of all edges. -/
abbrev Near (es : List Ed) (p : Pt) (f : Int × Int) (k : Int) : Prop := Best es p (fun _ => true) f k
theorem Near.none {es : List Ed} {p : Pt} {f : Int × Int} {k : Int} (h : Near es p f k) : k < 0 ↔ es = [] := by
  rcases h with ⟨h1, h2, h3⟩ | ⟨j, e, h1, h2, h3, h4, h5⟩
  · refine ⟨fun _ => ?_, fun _ => by omega⟩
    cases es with
    | nil => rfl
    | cons d l => have := h3 0 (by simp); cases this
  · refine ⟨fun h => by omega, fun h => ?_⟩
    subst h
    cases h2
theorem Near.some {es : List Ed} {p : Pt} {f : Int × Int} {k : Int} (h : Near es p f k) (hk : 0 ≤ k) : ∃ (j : Nat) (e : Ed), k = j ∧ es[j]? = Option.some e ∧ f = sqF e p ∧ ∀ i d, es[i]? = Option.some d → leF f (sqF d p) ∧ (i < j → ltF f (sqF d p)) := by
  rcases h with ⟨h1, _⟩ | ⟨j, e, h1, h2, h3, h4, h5⟩
  · omega
  · exact ⟨j, e, h1, h2, h4, fun i d hd => h5 i d hd rfl⟩

/-- P8.2: eight times the distance: the least of all edges'. -/
def E8 (es : List Ed) (p : Pt) (d : Int) : Prop := (es = [] ∧ d = -1) ∨ (0 ≤ d ∧ (∃ e ∈ es, d = e8 (sqF e p)) ∧ ∀ e ∈ es, d ≤ e8 (sqF e p))
/-- What is far away by so little that eight times it is small. -/
def Fit (es : List Ed) (p : Pt) : Prop := ∀ e ∈ es, (sqF e p).1 * 64 < (sqF e p).2 * 18446744073709551616
theorem e8_nonneg (f : Int × Int) : 0 ≤ e8 f := by unfold e8; omega
theorem Near.eight {es : List Ed} {p : Pt} {f : Int × Int} {k : Int} (hfit : Fit es p) (h : Near es p f k) : E8 es p (if k < 0 then -1 else e8 f) := by
  by_cases hk : k < 0
  · rw [if_pos hk]; exact .inl ⟨h.none.1 hk, rfl⟩
  · rw [if_neg hk]
    obtain ⟨j, e, h1, h2, h3, h4⟩ := h.some (by omega)
    have he := List.mem_of_getElem? h2
    refine .inr ⟨e8_nonneg _, ⟨e, he, by rw [h3]⟩, fun d hd => ?_⟩
    obtain ⟨i, hi⟩ := List.getElem?_of_mem hd
    have k1 := (h4 i d hi).1
    rw [h3] at k1 ⊢
    exact e8_mono (sq_pos e p).1 (sq_pos e p).2 (sq_pos d p).1 (sq_pos d p).2 (hfit e he) (hfit d hd) k1
theorem E8.unique {es : List Ed} {p : Pt} {x y : Int} (h : E8 es p x) (h' : E8 es p y) : x = y := by
  rcases h with ⟨rfl, rfl⟩ | ⟨h1, ⟨e, he, rfl⟩, h3⟩
  · rcases h' with ⟨_, rfl⟩ | ⟨_, ⟨e, he, _⟩, _⟩
    · rfl
    · cases he
  · rcases h' with ⟨rfl, _⟩ | ⟨g1, ⟨d, hd, rfl⟩, g3⟩
    · cases he
    · have := h3 d hd
      have := g3 e he
      omega
theorem E8.more {a b : List Ed} {p : Pt} {i j k : Int} (hi : E8 a p i) (hj : E8 b p j) (hk : E8 (a ++ b) p k) : (i < 0 ∨ j < 0 → k = max i j) ∧ (0 ≤ i → 0 ≤ j → k = min i j) := by
  rcases hi with ⟨rfl, rfl⟩ | ⟨i0, ⟨e, he, hie⟩, ia⟩
  · have := E8.unique (by simpa using hk) hj
    rcases hj with ⟨_, h⟩ | ⟨h, _⟩ <;> omega
  · rcases hj with ⟨rfl, rfl⟩ | ⟨j0, ⟨d, hd, hjd⟩, ja⟩
    · have := E8.unique (show E8 a p k by simpa using hk) (.inr ⟨i0, ⟨e, he, hie⟩, ia⟩)
      omega
    · refine ⟨fun h => by omega, fun _ _ => ?_⟩
      refine E8.unique hk (.inr ⟨by omega, ?_, fun x hx => ?_⟩)
      · by_cases hij : i ≤ j
        · exact ⟨e, List.mem_append_left _ he, by rw [Int.min_eq_left hij]; exact hie⟩
        · exact ⟨d, List.mem_append_right _ hd, by rw [Int.min_eq_right (by omega)]; exact hjd⟩
      · rcases List.mem_append.1 hx with h | h
        · have := ia x h; omega
        · have := ja x h; omega
theorem E8.step {es : List Ed} {a b : Pt} {x y W : Int} (fa : Fit es a) (fb : Fit es b) (hx : E8 es a x) (hy : E8 es b y) (hW : 0 ≤ W) (h2 : 64 * ((a.x - b.x) * (a.x - b.x) + (a.y - b.y) * (a.y - b.y)) < (W + 1) * (W + 1)) : x - y ≤ W + 1 := by
  rcases hy with ⟨rfl, rfl⟩ | ⟨y0, ⟨e, he, rfl⟩, ya⟩
  · rcases hx with ⟨_, rfl⟩ | ⟨_, ⟨e, he, _⟩, _⟩
    · omega
    · cases he
  · rcases hx with ⟨rfl, _⟩ | ⟨x0, _, xa⟩
    · cases he
    · have hle := xa e he
      obtain ⟨p0, p1, p2⟩ := e8_spec (sq_pos e a).1 (sq_pos e a).2 (fa e he)
      obtain ⟨q0, q1, q2⟩ := e8_spec (sq_pos e b).1 (sq_pos e b).2 (fb e he)
      have key : e8 (sqF e a) < e8 (sqF e b) + W + 2 := by
        refine step_one (e.b.x - e.a.x) (e.b.y - e.a.y) (b.x - e.a.x) (b.y - e.a.y) (a.x - b.x) (a.y - b.y) _ _ _ q0 hW q2 h2 ?_
        rw [show b.x - e.a.x + (a.x - b.x) = a.x - e.a.x by omega, show b.y - e.a.y + (a.y - b.y) = a.y - e.a.y by omega]
        exact p1
      omega

theorem absB {a : Int} {M : Nat} (h : a.natAbs ≤ M) : a * a ≤ M * M := by
  have h1 := mulB h h
  have h2 : ((a * a).natAbs : Int) ≤ ((M * M : Nat) : Int) := by omega
  have h3 := sqNN a
  rw [Int.natCast_mul] at h2
  omega
theorem raw_small {U0 U1 V0 V1 : Int} (u0 : U0.natAbs ≤ 16384) (u1 : U1.natAbs ≤ 16384) (v0 : V0.natAbs ≤ 40960) (v1 : V1.natAbs ≤ 40960) : (rawV U0 U1 V0 V1).1 ≤ 1801439850948198400 ∧ (rawV U0 U1 V0 V1).2 ≤ 536870912 := by
  unfold rawV
  split
  · have a1 := absB v0
    have a2 := absB v1
    simp only []
    omega
  · split
    · have a1 := absB (show (V0 - U0).natAbs ≤ 57344 by omega)
      have a2 := absB (show (V1 - U1).natAbs ≤ 57344 by omega)
      simp only []
      omega
    · have a1 := mulB u0 v1
      have a2 := mulB u1 v0
      have a3 : (U0 * V1 - U1 * V0).natAbs ≤ 1342177280 := by
        generalize U0 * V1 = x at *
        generalize U1 * V0 = y at *
        omega
      have a4 := absB a3
      have a5 := absB u0
      have a6 := absB u1
      simp only []
      generalize (U0 * V1 - U1 * V0) * (U0 * V1 - U1 * V0) = z at *
      generalize U0 * U0 = x at *
      generalize U1 * U1 = y at *
      omega
/-- Eight times the distance, as a number. -/
def eightS (es : List Ed) (p : Pt) : Int :=
  match es with
  | [] => -1
  | e :: l => (l.map fun d => e8 (sqF d p)).foldl min (e8 (sqF e p))
theorem foldl_min : ∀ (l : List Int) (a : Int), l.foldl min a ≤ a ∧ (∀ x ∈ l, l.foldl min a ≤ x) ∧ (l.foldl min a = a ∨ l.foldl min a ∈ l)
  | [], a => ⟨Int.le_refl _, ⟨fun x hx => absurd hx (by simp), Or.inl rfl⟩⟩
  | b :: l, a => by
    obtain ⟨h1, h2, h3⟩ := foldl_min l (min a b)
    rw [List.foldl_cons]
    refine ⟨by omega, fun x hx => ?_, ?_⟩
    · rcases List.mem_cons.1 hx with rfl | hx
      · omega
      · exact h2 x hx
    · rcases h3 with h | h
      · by_cases hab : a ≤ b
        · left; rw [h]; omega
        · right; rw [h, Int.min_eq_right (by omega)]; exact List.mem_cons_self
      · right; exact List.mem_cons_of_mem _ h
theorem E8.is (es : List Ed) (p : Pt) : E8 es p (eightS es p) := by
  cases es with
  | nil => exact .inl ⟨rfl, rfl⟩
  | cons e l =>
    have hdef : eightS (e :: l) p = (l.map fun d => e8 (sqF d p)).foldl min (e8 (sqF e p)) := rfl
    rw [hdef]
    clear hdef
    obtain ⟨h1, h2, h3⟩ := foldl_min (l.map fun d => e8 (sqF d p)) (e8 (sqF e p))
    generalize (l.map fun d => e8 (sqF d p)).foldl min (e8 (sqF e p)) = m at *
    have hex : ∃ d ∈ e :: l, m = e8 (sqF d p) := by
      rcases h3 with h | h
      · exact ⟨e, List.mem_cons_self, h⟩
      · obtain ⟨d, hd, rfl⟩ := List.mem_map.1 h
        exact ⟨d, List.mem_cons_of_mem _ hd, rfl⟩
    refine .inr ⟨?_, hex, fun d hd => ?_⟩
    · obtain ⟨d, _, rfl⟩ := hex
      exact e8_nonneg _
    · rcases List.mem_cons.1 hd with rfl | hd
      · exact h1
      · exact h2 _ (List.mem_map.2 ⟨d, hd, rfl⟩)
/-- Bounds: edges within 8192, a point within 32768. -/
theorem sq_small (e : Ed) (p : Pt) (h : (e.a.x.natAbs ≤ 8192 ∧ e.a.y.natAbs ≤ 8192) ∧ (e.b.x.natAbs ≤ 8192 ∧ e.b.y.natAbs ≤ 8192)) (hp : p.x.natAbs ≤ 32768 ∧ p.y.natAbs ≤ 32768) :
    (0 ≤ (sqF e p).1 ∧ (sqF e p).1 ≤ 1801439850948198400) ∧ (0 < (sqF e p).2 ∧ (sqF e p).2 ≤ 536870912) ∧ (sqF e p).1 ≤ (sqF e p).2 * 3355443200 := by
  obtain ⟨k1, k2, k3, k4, k5⟩ := square_raw8 (e.b.x - e.a.x) (e.b.y - e.a.y) (p.x - e.a.x) (p.y - e.a.y)
  have hl := sq_least (e.b.x - e.a.x) (e.b.y - e.a.y) (p.x - e.a.x) (p.y - e.a.y) 1 0 (by omega) (by omega) (by omega)
  unfold sqF
  have u0 : (e.b.x - e.a.x).natAbs ≤ 16384 := by omega
  have u1 : (e.b.y - e.a.y).natAbs ≤ 16384 := by omega
  have v0 : (p.x - e.a.x).natAbs ≤ 40960 := by omega
  have v1 : (p.y - e.a.y).natAbs ≤ 40960 := by omega
  generalize e.b.x - e.a.x = U0 at *
  generalize e.b.y - e.a.y = U1 at *
  generalize p.x - e.a.x = V0 at *
  generalize p.y - e.a.y = V1 at *
  have b1 := raw_small u0 u1 v0 v1
  have a1 := absB v0
  have a2 := absB v1
  have b2 : (squareV U0 U1 V0 V1).2 * (V0 * V0 + V1 * V1) ≤ (squareV U0 U1 V0 V1).2 * 3355443200 := Int.mul_le_mul_of_nonneg_left (by omega) (by omega)
  simp only [Int.one_mul, Int.zero_mul, Int.sub_zero] at hl
  omega
theorem Near.on {es : List Ed} {p : Pt} {f : Int × Int} {k : Int} (h : Near es p f k) : onS es p = true ↔ 0 ≤ k ∧ f.1 = 0 := by
  unfold onS
  rw [List.any_eq_true]
  constructor
  · rintro ⟨e, he, ho⟩
    have ho := of_decide_eq_true ho
    rw [← on_square] at ho
    have hk : 0 ≤ k := by
      rcases Int.lt_or_le k 0 with h0 | h0
      · rw [h.none.1 h0] at he; cases he
      · exact h0
    refine ⟨hk, ?_⟩
    obtain ⟨j, d, h1, h2, h3, h4⟩ := h.some hk
    obtain ⟨i, hi⟩ := List.getElem?_of_mem he
    have k1 := (h4 i e hi).1
    have k2 : (sqF e p).1 = 0 := ho
    unfold leF at k1
    rw [k2, Int.zero_mul] at k1
    have k3 := sq_pos d p
    have k4 := (sq_pos e p).2
    rw [h3] at k1 ⊢
    rcases Int.lt_or_le 0 (sqF d p).1 with h0 | h0
    · have := Int.mul_pos h0 k4; omega
    · omega
  · rintro ⟨hk, hf⟩
    obtain ⟨j, d, h1, h2, h3, h4⟩ := h.some hk
    refine ⟨d, List.mem_of_getElem? h2, decide_eq_true ?_⟩
    rw [← on_square]
    rw [h3] at hf
    exact hf
def sgS (es : List Ed) (p : Pt) : Int := if onS es p = true then 0 else if numS es p = 0 then -1 else 1

end Go.Proofs.Ytlhngelifmjefaa
