/-
  Winding numbers, as the document's layer 7 says: lists of numbers, without a program (no claim is made here).
-/
import Derived.Test.YtglmgenifjaakaaFlatMath
import Derived.Test.YtglmgenifjaakaaPlaneMath
import Derived.Test.YtglmgenifjaakaaZeroMath
namespace Go.Proofs.Ytglmgenifjaakaa

/-- On which side of an edge a point is. -/
def crE (e : Ed) (p : Pt) : Int := (e.b.x - e.a.x) * (p.y - e.a.y) - (e.b.y - e.a.y) * (p.x - e.a.x)
/-- P7.1, of one edge; of edges. -/
def upE (e : Ed) (p : Pt) : Int := if e.a.y ≤ p.y ∧ p.y < e.b.y ∧ 0 < crE e p then 1 else 0
def downE (e : Ed) (p : Pt) : Int := if e.b.y ≤ p.y ∧ p.y < e.a.y ∧ crE e p < 0 then 1 else 0
def numE (e : Ed) (p : Pt) : Int := upE e p - downE e p
def numS (es : List Ed) (p : Pt) : Int := (es.map fun e => numE e p).sum
/-- P7.2: on an edge; in; the area. -/
def onE (e : Ed) (p : Pt) : Prop := crE e p = 0 ∧ min e.a.x e.b.x ≤ p.x ∧ p.x ≤ max e.a.x e.b.x ∧ min e.a.y e.b.y ≤ p.y ∧ p.y ≤ max e.a.y e.b.y
instance (e : Ed) (p : Pt) : Decidable (onE e p) := by unfold onE; exact inferInstance
def onS (es : List Ed) (p : Pt) : Bool := es.any fun e => decide (onE e p)
def arE (e : Ed) : Int := e.a.x * e.b.y - e.a.y * e.b.x
def arS (es : List Ed) : Int := (es.map arE).sum

theorem numS_append (l m : List Ed) (p : Pt) : numS (l ++ m) p = numS l p + numS m p := by simp [numS]
theorem onS_append (l m : List Ed) (p : Pt) : onS (l ++ m) p = (onS l p || onS m p) := by simp [onS]
theorem arS_append (l m : List Ed) : arS (l ++ m) = arS l + arS m := by simp [arS]
theorem numS_cons (e : Ed) (l : List Ed) (p : Pt) : numS (e :: l) p = numE e p + numS l p := by simp [numS]
theorem arS_cons (e : Ed) (l : List Ed) : arS (e :: l) = arE e + arS l := by simp [arS]
theorem numE_in (e : Ed) (p : Pt) : -1 ≤ numE e p ∧ numE e p ≤ 1 := by unfold numE upE downE; split <;> split <;> omega
theorem numS_in : ∀ (l : List Ed) (p : Pt), -(l.length : Int) ≤ numS l p ∧ numS l p ≤ l.length
  | [], p => by simp [numS]
  | e :: l, p => by
    have h1 := numE_in e p
    have h2 := numS_in l p
    rw [numS_cons, List.length_cons]
    omega

/-- The other way round. -/
def backE (e : Ed) : Ed := ⟨e.b, e.a⟩
theorem cr_back (e : Ed) (p : Pt) : crE (backE e) p = -crE e p := by
  unfold crE backE
  simp only []
  have e1 : p.y - e.b.y = (p.y - e.a.y) - (e.b.y - e.a.y) := by omega
  have e2 : p.x - e.b.x = (p.x - e.a.x) - (e.b.x - e.a.x) := by omega
  have e3 : e.a.x - e.b.x = -(e.b.x - e.a.x) := by omega
  have e4 : e.a.y - e.b.y = -(e.b.y - e.a.y) := by omega
  rw [e1, e2, e3, e4]
  generalize e.b.x - e.a.x = u0
  generalize e.b.y - e.a.y = u1
  generalize p.x - e.a.x = v0
  generalize p.y - e.a.y = v1
  rw [Int.neg_mul, Int.neg_mul, Int.mul_sub, Int.mul_sub, Int.mul_comm u1 u0]
  omega
theorem num_back (e : Ed) (p : Pt) : numE (backE e) p = -numE e p := by
  have h := cr_back e p
  have h1 : upE (backE e) p = downE e p := by
    unfold upE downE
    rw [h]
    have : (0 < -crE e p) ↔ (crE e p < 0) := by omega
    simp only [this]
    rfl
  have h2 : downE (backE e) p = upE e p := by
    unfold upE downE
    rw [h]
    have : (-crE e p < 0) ↔ (0 < crE e p) := by omega
    simp only [this]
    rfl
  unfold numE
  rw [h1, h2]
  omega
theorem on_back (e : Ed) (p : Pt) : onE (backE e) p ↔ onE e p := by
  unfold onE
  rw [cr_back]
  unfold backE
  simp only []
  rw [Int.min_comm e.b.x, Int.min_comm e.b.y, Int.max_comm e.b.x, Int.max_comm e.b.y]
  constructor <;> rintro ⟨h1, h2⟩ <;> exact ⟨by omega, h2⟩
theorem ar_back (e : Ed) : arE (backE e) = -arE e := by
  unfold arE backE
  simp only []
  rw [Int.mul_comm e.b.x, Int.mul_comm e.b.y]
  omega
theorem numS_back : ∀ (l : List Ed) (p : Pt), numS (l.map backE).reverse p = -numS l p
  | [], p => rfl
  | e :: l, p => by
    have h := numS_back l p
    rw [List.map_cons, List.reverse_cons, numS_append, h, numS_cons, numS_cons, num_back]
    have : numS [] p = 0 := rfl
    omega
theorem onS_back (l : List Ed) (p : Pt) : onS (l.map backE).reverse p = onS l p := by
  unfold onS
  rw [List.any_reverse, List.any_map]
  congr 1
  funext e
  show decide (onE (backE e) p) = decide (onE e p)
  simp only [on_back]
theorem arS_back : ∀ (l : List Ed), arS (l.map backE).reverse = -arS l
  | [] => rfl
  | e :: l => by
    have h := arS_back l
    rw [List.map_cons, List.reverse_cons, arS_append, h, arS_cons, arS_cons, ar_back]
    have : arS [] = 0 := rfl
    omega

/-- What is out of the place of closed edges. -/
theorem cr_split (e : Ed) (p : Pt) : crE e p = (p.y - e.a.y) * (e.b.x - p.x) + (e.b.y - p.y) * (e.a.x - p.x) := by
  unfold crE
  have e1 : e.b.x - e.a.x = (e.b.x - p.x) - (e.a.x - p.x) := by omega
  have e2 : e.b.y - e.a.y = (p.y - e.a.y) + (e.b.y - p.y) := by omega
  have e3 : p.x - e.a.x = -(e.a.x - p.x) := by omega
  rw [e1, e2, e3]
  generalize e.b.x - p.x = B
  generalize e.a.x - p.x = A
  generalize p.y - e.a.y = s
  generalize e.b.y - p.y = t
  rw [Int.mul_neg, Int.sub_mul, Int.add_mul, Int.mul_comm B s, Int.mul_comm A s]
  omega
def overB (p q : Pt) : Int := if p.y < q.y then 1 else 0
theorem num_left {e : Ed} {p : Pt} (h1 : p.x < e.a.x) (h2 : p.x < e.b.x) : numE e p = overB p e.b - overB p e.a := by
  unfold numE upE downE overB
  by_cases c1 : p.y < e.a.y
  · by_cases c2 : p.y < e.b.y
    · rw [if_neg (by omega), if_neg (by omega), if_pos c2, if_pos c1]
      rfl
    · have hc : crE e p < 0 := by
        rw [cr_split]
        have a1 : 0 < (e.a.y - p.y) * (e.b.x - p.x) := Int.mul_pos (by omega) (by omega)
        have a2 : 0 ≤ (p.y - e.b.y) * (e.a.x - p.x) := Int.mul_nonneg (by omega) (by omega)
        have e1 : (p.y - e.a.y) * (e.b.x - p.x) = -((e.a.y - p.y) * (e.b.x - p.x)) := by rw [← Int.neg_mul]; congr 1; omega
        have e2 : (e.b.y - p.y) * (e.a.x - p.x) = -((p.y - e.b.y) * (e.a.x - p.x)) := by rw [← Int.neg_mul]; congr 1; omega
        rw [e1, e2]
        omega
      rw [if_neg (by omega), if_pos ⟨by omega, c1, hc⟩, if_neg c2, if_pos c1]
  · by_cases c2 : p.y < e.b.y
    · have hc : 0 < crE e p := by
        rw [cr_split]
        have a1 : 0 ≤ (p.y - e.a.y) * (e.b.x - p.x) := Int.mul_nonneg (by omega) (by omega)
        have a2 : 0 < (e.b.y - p.y) * (e.a.x - p.x) := Int.mul_pos (by omega) (by omega)
        omega
      rw [if_pos ⟨by omega, c2, hc⟩, if_neg (by omega), if_pos c2, if_neg c1]
    · rw [if_neg (by omega), if_neg (by omega), if_neg c2, if_neg c1]
theorem num_right {e : Ed} {p : Pt} (h1 : e.a.x < p.x) (h2 : e.b.x < p.x) : numE e p = 0 := by
  unfold numE upE downE
  have k1 : ¬ (e.a.y ≤ p.y ∧ p.y < e.b.y ∧ 0 < crE e p) := by
    rintro ⟨c1, c2, c3⟩
    rw [cr_split] at c3
    have a1 : 0 ≤ (p.y - e.a.y) * (p.x - e.b.x) := Int.mul_nonneg (by omega) (by omega)
    have a2 : 0 ≤ (e.b.y - p.y) * (p.x - e.a.x) := Int.mul_nonneg (by omega) (by omega)
    have e1 : (p.y - e.a.y) * (e.b.x - p.x) = -((p.y - e.a.y) * (p.x - e.b.x)) := by rw [← Int.mul_neg]; congr 1; omega
    have e2 : (e.b.y - p.y) * (e.a.x - p.x) = -((e.b.y - p.y) * (p.x - e.a.x)) := by rw [← Int.mul_neg]; congr 1; omega
    rw [e1, e2] at c3
    omega
  have k2 : ¬ (e.b.y ≤ p.y ∧ p.y < e.a.y ∧ crE e p < 0) := by
    rintro ⟨c1, c2, c3⟩
    rw [cr_split] at c3
    have a1 : 0 ≤ (e.a.y - p.y) * (p.x - e.b.x) := Int.mul_nonneg (by omega) (by omega)
    have a2 : 0 ≤ (p.y - e.b.y) * (p.x - e.a.x) := Int.mul_nonneg (by omega) (by omega)
    have e1 : (p.y - e.a.y) * (e.b.x - p.x) = (e.a.y - p.y) * (p.x - e.b.x) := by rw [← Int.neg_mul_neg]; congr 1 <;> omega
    have e2 : (e.b.y - p.y) * (e.a.x - p.x) = (p.y - e.b.y) * (p.x - e.a.x) := by rw [← Int.neg_mul_neg]; congr 1 <;> omega
    rw [e1, e2] at c3
    omega
  rw [if_neg k1, if_neg k2]
  rfl
theorem num_level {e : Ed} {p : Pt} (h : (p.y < e.a.y ∧ p.y < e.b.y) ∨ (e.a.y ≤ p.y ∧ e.b.y ≤ p.y)) : numE e p = 0 := by
  unfold numE upE downE
  rw [if_neg (by omega), if_neg (by omega)]
  rfl
theorem Way.left : ∀ {q q' p : Pt} {l : List Ed}, Way q l q' → (∀ e ∈ l, p.x < e.a.x ∧ p.x < e.b.x) → numS l p = overB p q' - overB p q
  | q, q', p, [], h, _ => by
    cases (show q = q' from h)
    have : numS [] p = 0 := rfl
    omega
  | q, q', p, e :: l, ⟨h1, _, h3⟩, hp => by
    have k := hp e List.mem_cons_self
    rw [numS_cons, num_left k.1 k.2, h3.left (fun d hd => hp d (List.mem_cons_of_mem _ hd)), h1]
    omega
theorem numS_zero : ∀ {l : List Ed} {p : Pt}, (∀ e ∈ l, numE e p = 0) → numS l p = 0
  | [], p, _ => rfl
  | e :: l, p, h => by rw [numS_cons, h e List.mem_cons_self, numS_zero (fun d hd => h d (List.mem_cons_of_mem _ hd))]; rfl
theorem numS_flat : ∀ (ls : List (List Ed)) (p : Pt), (∀ l ∈ ls, numS l p = 0) → numS ls.flatten p = 0
  | [], p, _ => rfl
  | l :: ls, p, h => by
    rw [List.flatten_cons, numS_append, h l List.mem_cons_self, numS_flat ls p (fun m hm => h m (List.mem_cons_of_mem _ hm))]
    rfl
/-- P7.1: closed edges do not go round what is out of their place. -/
theorem out_zero (ls : List (List Ed)) (hw : ∀ l ∈ ls, ∃ q, Way q l q) (lo hi p : Pt) (hb : ∀ e ∈ ls.flatten, (lo.x ≤ e.a.x ∧ e.a.x ≤ hi.x ∧ lo.y ≤ e.a.y ∧ e.a.y ≤ hi.y) ∧ lo.x ≤ e.b.x ∧ e.b.x ≤ hi.x ∧ lo.y ≤ e.b.y ∧ e.b.y ≤ hi.y)
    (hp : ¬ (lo.x ≤ p.x ∧ p.x ≤ hi.x ∧ lo.y ≤ p.y ∧ p.y ≤ hi.y)) : numS ls.flatten p = 0 ∧ onS ls.flatten p = false := by
  constructor
  · by_cases c1 : p.x < lo.x
    · refine numS_flat ls p (fun l hl => ?_)
      obtain ⟨q, hq⟩ := hw l hl
      rw [hq.left (fun e he => by have := hb e (List.mem_flatten.2 ⟨l, hl, he⟩); omega)]
      omega
    · refine numS_zero (fun e he => ?_)
      have k := hb e he
      by_cases c2 : hi.x < p.x
      · exact num_right (by omega) (by omega)
      · exact num_level (by omega)
  · rw [Bool.eq_false_iff]
    intro h
    unfold onS at h
    rw [List.any_eq_true] at h
    obtain ⟨e, he, h⟩ := h
    have k := hb e he
    have h' : onE e p := of_decide_eq_true h
    obtain ⟨_, h1, h2, h3, h4⟩ := h'
    omega

/-- P7.2: the distance is 0 just on the edge. -/
theorem frI_zero {n d : Int} (hn : 0 ≤ n) (hd : 0 < d) : (frI n d).1 = 0 ↔ n = 0 := by
  unfold frI
  simp only []
  constructor
  · intro h
    have h0 : n.toNat / Nat.gcd n.toNat d.toNat = 0 := by omega
    have hg : 0 < Nat.gcd n.toNat d.toNat := Nat.gcd_pos_of_pos_right _ (by omega)
    rcases Nat.div_eq_zero_iff.1 h0 with h1 | h1
    · omega
    · by_cases hn0 : n.toNat = 0
      · omega
      · have := Nat.gcd_le_left d.toNat (Nat.pos_of_ne_zero hn0)
        omega
  · rintro rfl
    simp
theorem sum_sq {a b : Int} (h : a * a + b * b = 0) : a = 0 ∧ b = 0 := by
  have h1 := sqNN a
  have h2 := sqNN b
  exact ⟨sq0 (by omega), sq0 (by omega)⟩
/-- A number between 0 and another one. -/
def btw (u v : Int) : Prop := (0 ≤ v ∧ v ≤ u) ∨ (u ≤ v ∧ v ≤ 0)
theorem btw_of {u v S f : Int} (hS : 0 < S) (h : v * S = u * f) (h0 : 0 ≤ f) (h1 : f ≤ S) : btw u v := by
  rcases Int.le_total 0 u with hu | hu
  · left
    have a1 : 0 ≤ v * S := by rw [h]; exact Int.mul_nonneg hu h0
    have a2 : v * S ≤ u * S := by rw [h]; exact Int.mul_le_mul_of_nonneg_left h1 hu
    exact ⟨Int.le_of_mul_le_mul_right (by omega : (0 : Int) * S ≤ v * S) hS, Int.le_of_mul_le_mul_right a2 hS⟩
  · right
    have a1 : 0 ≤ (-v) * S := by rw [Int.neg_mul, h, ← Int.neg_mul]; exact Int.mul_nonneg (by omega) h0
    have a2 : (-v) * S ≤ (-u) * S := by rw [Int.neg_mul, h, ← Int.neg_mul]; exact Int.mul_le_mul_of_nonneg_left h1 (by omega)
    have b1 := Int.le_of_mul_le_mul_right (by omega : (0 : Int) * S ≤ (-v) * S) hS
    have b2 := Int.le_of_mul_le_mul_right a2 hS
    omega
theorem square_zero (u0 u1 v0 v1 : Int) : (squareV u0 u1 v0 v1).1 = 0 ↔ u0 * v1 - u1 * v0 = 0 ∧ btw u0 v0 ∧ btw u1 v1 := by
  have sgn : ∀ {u v : Int}, btw u v → 0 ≤ u * v ∧ 0 ≤ u * (u - v) ∧ (u * v = 0 → v = 0) ∧ (u * (u - v) = 0 → v = u) := fun h => same_sign (fun _ => by unfold btw at h; omega) (fun _ => by unfold btw at h; omega)
  have self : ∀ u : Int, btw u u := fun u => by unfold btw; omega
  have zero : ∀ u : Int, btw u 0 := fun u => by unfold btw; omega
  unfold squareV
  by_cases c1 : u0 * v0 + u1 * v1 ≤ 0
  · rw [if_pos c1]
    simp only []
    constructor
    · intro h
      obtain ⟨rfl, rfl⟩ := sum_sq h
      exact ⟨by simp, zero _, zero _⟩
    · rintro ⟨_, h0, h1⟩
      obtain ⟨a0, _, a1, _⟩ := sgn h0
      obtain ⟨b0, _, b1, _⟩ := sgn h1
      rw [a1 (by omega), b1 (by omega)]
      rfl
  · rw [if_neg c1]
    by_cases c2 : u0 * u0 + u1 * u1 ≤ u0 * v0 + u1 * v1
    · rw [if_pos c2]
      simp only []
      constructor
      · intro h
        obtain ⟨h0, h1⟩ := sum_sq h
        obtain rfl : v0 = u0 := by omega
        obtain rfl : v1 = u1 := by omega
        exact ⟨by rw [Int.mul_comm]; omega, self _, self _⟩
      · rintro ⟨_, h0, h1⟩
        obtain ⟨_, a0, _, a1⟩ := sgn h0
        obtain ⟨_, b0, _, b1⟩ := sgn h1
        rw [Int.mul_sub] at a0 a1 b0 b1
        rw [a1 (by omega), b1 (by omega)]
        simp
    · rw [if_neg c2]
      have hu : ¬ (u0 = 0 ∧ u1 = 0) := by rintro ⟨rfl, rfl⟩; simp at c1
      have hS := long_pos hu
      unfold lineV
      rw [if_neg hu, frI_zero (sqNN _) hS]
      constructor
      · intro h
        have hc := sq0 h
        have k1 : u0 * v1 = u1 * v0 := by omega
        refine ⟨hc, btw_of (f := u0 * v0 + u1 * v1) hS ?_ (by omega) (by omega), btw_of (f := u0 * v0 + u1 * v1) hS ?_ (by omega) (by omega)⟩
        · show v0 * (u0 * u0 + u1 * u1) = u0 * (u0 * v0 + u1 * v1)
          rw [Int.mul_add, Int.mul_add, Int.mul_left_comm u0 u1 v1, k1, Int.mul_left_comm v0 u0 u0, Int.mul_comm v0 u0, Int.mul_left_comm v0 u1 u1, Int.mul_comm v0 u1]
        · show v1 * (u0 * u0 + u1 * u1) = u1 * (u0 * v0 + u1 * v1)
          rw [Int.mul_add, Int.mul_add, Int.mul_left_comm u1 u0 v0, ← k1, Int.mul_left_comm v1 u0 u0, Int.mul_comm v1 u0, Int.mul_left_comm v1 u1 u1, Int.mul_comm v1 u1]
      · rintro ⟨h, _⟩
        rw [h]
        rfl
theorem on_square (e : Ed) (p : Pt) : (squareV (e.b.x - e.a.x) (e.b.y - e.a.y) (p.x - e.a.x) (p.y - e.a.y)).1 = 0 ↔ onE e p := by
  rw [square_zero]
  unfold onE crE btw
  constructor
  · rintro ⟨h, h0, h1⟩
    exact ⟨h, by omega, by omega, by omega, by omega⟩
  · rintro ⟨h, h0, h1, h2, h3⟩
    exact ⟨h, by omega, by omega⟩

/-- A rectangle. -/
def rectS (p : Pt) (m n : Int) : List Ed := [⟨p, ⟨p.x + m, p.y⟩⟩, ⟨⟨p.x + m, p.y⟩, ⟨p.x + m, p.y + n⟩⟩, ⟨⟨p.x + m, p.y + n⟩, ⟨p.x, p.y + n⟩⟩, ⟨⟨p.x, p.y + n⟩, p⟩]
theorem rect_area (p : Pt) (m n : Int) : arS (rectS p m n) = 2 * m * n := by
  obtain ⟨x, y⟩ := p
  simp only [rectS, arS, arE, List.map_cons, List.map_nil, List.sum_cons, List.sum_nil, Int.mul_add, Int.add_mul]
  have h1 := Int.mul_comm x y
  have h2 := Int.mul_comm m y
  have h3 := Int.mul_comm m n
  have h4 := Int.mul_comm n x
  have h5 : 2 * m * n = m * n + m * n := by rw [Int.mul_assoc]; omega
  omega
theorem up_right (x y n : Int) (hn : 0 < n) (z : Pt) : numE ⟨⟨x, y⟩, ⟨x, y + n⟩⟩ z = if y ≤ z.y ∧ z.y < y + n ∧ z.x < x then 1 else 0 := by
  have hc : crE ⟨⟨x, y⟩, ⟨x, y + n⟩⟩ z = n * (x - z.x) := by
    unfold crE
    simp only []
    rw [show x - x = 0 by omega, Int.zero_mul, show y + n - y = n by omega, show x - z.x = -(z.x - x) by omega, Int.mul_neg]
    omega
  unfold numE upE downE
  rw [hc]
  simp only []
  rw [if_neg (show ¬ (y + n ≤ z.y ∧ z.y < y ∧ n * (x - z.x) < 0) by omega)]
  by_cases c : z.x < x
  · have : 0 < n * (x - z.x) := Int.mul_pos hn (by omega)
    by_cases d : y ≤ z.y ∧ z.y < y + n
    · rw [if_pos ⟨d.1, d.2, this⟩, if_pos ⟨d.1, d.2, c⟩]; rfl
    · rw [if_neg (fun h => d ⟨h.1, h.2.1⟩), if_neg (fun h => d ⟨h.1, h.2.1⟩)]; rfl
  · have : ¬ 0 < n * (x - z.x) := by
      have := Int.mul_nonneg (show 0 ≤ n by omega) (show 0 ≤ z.x - x by omega)
      rw [show x - z.x = -(z.x - x) by omega, Int.mul_neg]
      omega
    rw [if_neg (fun h => this h.2.2), if_neg (fun h => c h.2.2)]; rfl
theorem rect_num (p : Pt) (m n : Int) (hm : 0 < m) (hn : 0 < n) (z : Pt) : numS (rectS p m n) z = if p.x ≤ z.x ∧ z.x < p.x + m ∧ p.y ≤ z.y ∧ z.y < p.y + n then 1 else 0 := by
  obtain ⟨x, y⟩ := p
  unfold rectS
  rw [numS_cons, numS_cons, numS_cons, numS_cons]
  have z0 : numS [] z = 0 := rfl
  have z1 : numE ⟨⟨x, y⟩, ⟨x + m, y⟩⟩ z = 0 := num_level (by simp only []; omega)
  have z2 : numE ⟨⟨x + m, y + n⟩, ⟨x, y + n⟩⟩ z = 0 := num_level (by simp only []; omega)
  have z3 := up_right (x + m) y n hn z
  have z4 : numE ⟨⟨x, y + n⟩, ⟨x, y⟩⟩ z = -numE ⟨⟨x, y⟩, ⟨x, y + n⟩⟩ z := num_back ⟨⟨x, y⟩, ⟨x, y + n⟩⟩ z
  rw [up_right x y n hn z] at z4
  simp only [] at *
  rw [z0, z1, z2, z3, z4]
  split <;> split <;> split <;> omega
theorem rect_on (p : Pt) (m n : Int) (hm : 0 < m) (hn : 0 < n) (z : Pt) : onS (rectS p m n) z = true ↔ (p.x ≤ z.x ∧ z.x ≤ p.x + m ∧ p.y ≤ z.y ∧ z.y ≤ p.y + n) ∧ ¬ (p.x < z.x ∧ z.x < p.x + m ∧ p.y < z.y ∧ z.y < p.y + n) := by
  obtain ⟨x, y⟩ := p
  have lev : ∀ (x0 x1 y0 : Int), x0 ≠ x1 → (onE ⟨⟨x0, y0⟩, ⟨x1, y0⟩⟩ z ↔ z.y = y0 ∧ min x0 x1 ≤ z.x ∧ z.x ≤ max x0 x1) := by
    intro x0 x1 y0 hne
    unfold onE crE
    simp only []
    constructor
    · rintro ⟨_, h1, h2, h3, h4⟩
      exact ⟨by omega, h1, h2⟩
    · rintro ⟨rfl, h1, h2⟩
      exact ⟨by rw [Int.sub_self, Int.mul_zero, Int.zero_mul]; rfl, h1, h2, by omega, by omega⟩
  have upr : ∀ (x0 y0 y1 : Int), y0 ≠ y1 → (onE ⟨⟨x0, y0⟩, ⟨x0, y1⟩⟩ z ↔ z.x = x0 ∧ min y0 y1 ≤ z.y ∧ z.y ≤ max y0 y1) := by
    intro x0 y0 y1 hne
    unfold onE crE
    simp only []
    constructor
    · rintro ⟨_, h1, h2, h3, h4⟩
      exact ⟨by omega, h3, h4⟩
    · rintro ⟨rfl, h1, h2⟩
      exact ⟨by rw [Int.sub_self, Int.mul_zero, Int.zero_mul]; rfl, by omega, by omega, h1, h2⟩
  unfold onS rectS
  simp only [List.any_cons, List.any_nil, Bool.or_false, Bool.or_eq_true, decide_eq_true_eq]
  rw [lev x (x + m) y (by omega), upr (x + m) y (y + n) (by omega), lev (x + m) x (y + n) (by omega), upr x (y + n) y (by omega)]
  omega

end Go.Proofs.Ytglmgenifjaakaa
