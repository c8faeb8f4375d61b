/-
  The numbers of layer 14 (no claim is made here).
-/
import Derived.Test.YtklajpadnbeplaaBlk
namespace Go.Proofs.Ytklajpadnbeplaa

/-- A height. -/
def hgt (l : List Nat) (x : Nat) : Nat := l.getD x 0
/-- The greatest height of w places from x on. -/
def overL (l : List Nat) (x : Nat) : Nat → Nat
  | 0 => 0
  | w + 1 => max (overL l x w) (hgt l (x + w))
theorem hgt_le_over {l : List Nat} {x : Nat} : ∀ {w k : Nat}, x ≤ k → k < x + w → hgt l k ≤ overL l x w
  | 0, k, h1, h2 => by omega
  | w + 1, k, h1, h2 => by
    unfold overL
    by_cases h : k = x + w
    · subst h; omega
    · have := hgt_le_over (l := l) h1 (show k < x + w by omega)
      omega
theorem over_le {l : List Nat} {x M : Nat} : ∀ {w : Nat}, (∀ k, x ≤ k → k < x + w → hgt l k ≤ M) → overL l x w ≤ M
  | 0, _ => Nat.zero_le _
  | w + 1, h => by
    unfold overL
    have h1 := over_le (l := l) (x := x) (M := M) (w := w) (fun k a b => h k a (by omega))
    have h2 := h (x + w) (by omega) (by omega)
    omega
theorem hgt_out {l : List Nat} {x : Nat} (h : l.length ≤ x) : hgt l x = 0 := by unfold hgt; rw [List.getD_eq_getElem?_getD, List.getElem?_eq_none h]; rfl
theorem hgt_at {l : List Nat} {x y : Nat} (h : l[x]? = some y) : hgt l x = y := by unfold hgt; rw [List.getD_eq_getElem?_getD, h]; rfl
theorem at_hgt {l : List Nat} {x : Nat} (h : x < l.length) : l[x]? = some (hgt l x) := by unfold hgt; rw [List.getD_eq_getElem?_getD, List.getElem?_eq_getElem h]; rfl
/-- Beyond the page there is nothing. -/
theorem over_cut (l : List Nat) (x : Nat) : ∀ w, l.length ≤ x + w → ∀ k, overL l x (w + k) = overL l x w
  | w, h, 0 => rfl
  | w, h, k + 1 => by
    rw [← Nat.add_assoc, show overL l x (w + k + 1) = max (overL l x (w + k)) (hgt l (x + (w + k))) from rfl, over_cut l x w h k, hgt_out (by omega)]
    omega

/-- Does a step begin there? -/
def isStep (l : List Nat) (x : Nat) : Bool := decide (x = 0) || decide (hgt l (x - 1) ≠ hgt l x)
/-- The steps of the first n places. -/
def stepsTo (l : List Nat) : Nat → List (Nat × Nat)
  | 0 => []
  | n + 1 => if isStep l n = true then stepsTo l n ++ [(n, hgt l n)] else stepsTo l n
def stepsL (l : List Nat) : List (Nat × Nat) := stepsTo l l.length
theorem stepsTo_len (l : List Nat) : ∀ n, (stepsTo l n).length ≤ n
  | 0 => Nat.le_refl _
  | n + 1 => by
    have := stepsTo_len l n
    unfold stepsTo
    split
    · rw [List.length_append]; simp; omega
    · omega
theorem mem_stepsTo {l : List Nat} {p : Nat × Nat} : ∀ {n : Nat}, p ∈ stepsTo l n ↔ p.1 < n ∧ isStep l p.1 = true ∧ p.2 = hgt l p.1
  | 0 => by simp [stepsTo]
  | n + 1 => by
    have ih := mem_stepsTo (l := l) (p := p) (n := n)
    unfold stepsTo
    split
    · rename_i h
      rw [List.mem_append, ih, List.mem_singleton]
      constructor
      · rintro (⟨a, b, c⟩ | rfl)
        · exact ⟨by omega, b, c⟩
        · exact ⟨by simp, h, rfl⟩
      · rintro ⟨a, b, c⟩
        by_cases e : p.1 = n
        · exact .inr (by obtain ⟨p1, p2⟩ := p; simp only [] at e c; subst e; rw [c])
        · exact .inl ⟨by omega, b, c⟩
    · rename_i h
      rw [ih]
      constructor
      · rintro ⟨a, b, c⟩; exact ⟨by omega, b, c⟩
      · rintro ⟨a, b, c⟩
        refine ⟨?_, b, c⟩
        by_cases e : p.1 = n
        · exfalso; rw [e] at b; exact h b
        · omega
/-- Each place has its step's beginning before it, and between is one height. -/
theorem step_before (l : List Nat) : ∀ x, ∃ p, p ≤ x ∧ isStep l p = true ∧ ∀ k, p ≤ k → k ≤ x → hgt l k = hgt l x
  | 0 => ⟨0, Nat.le_refl _, rfl, fun k h1 h2 => by rw [show k = 0 by omega]⟩
  | x + 1 => by
    by_cases h : hgt l x = hgt l (x + 1)
    · obtain ⟨p, h1, h2, h3⟩ := step_before l x
      refine ⟨p, by omega, h2, fun k a b => ?_⟩
      by_cases e : k = x + 1
      · rw [e]
      · rw [h3 k a (by omega), h]
    · refine ⟨x + 1, Nat.le_refl _, ?_, fun k a b => by rw [show k = x + 1 by omega]⟩
      unfold isStep
      simp [h]

/-- P14.2, step by step. -/
def fitB (l : List Nat) (H w h : Nat) (b : Option (Nat × Nat)) (p : Nat × Nat) : Option (Nat × Nat) :=
  if p.1 + w ≤ l.length ∧ overL l p.1 w + h ≤ H ∧ (b.all fun q => decide (overL l p.1 w < q.2)) = true then some (p.1, overL l p.1 w) else b
def fitS (l : List Nat) (H w h : Nat) (ps : List (Nat × Nat)) : Option (Nat × Nat) := ps.foldl (fitB l H w h) none
/-- P14.2. -/
def fitL (l : List Nat) (H : Nat) (w h : Int) : Option (Nat × Nat) := if w < 1 ∨ h < 1 then none else fitS l H w.toNat h.toNat (stepsL l)
theorem fitS_next (l : List Nat) (H w h : Nat) (ps : List (Nat × Nat)) (p : Nat × Nat) : fitS l H w h (ps ++ [p]) = fitB l H w h (fitS l H w h ps) p := by unfold fitS; rw [List.foldl_append]; rfl
theorem fitS_is (l : List Nat) (H w h : Nat) : ∀ ps : List (Nat × Nat), (∀ q, fitS l H w h ps = some q → q.1 + w ≤ l.length ∧ q.2 = overL l q.1 w ∧ q.2 + h ≤ H ∧ ∃ p ∈ ps, p.1 = q.1) ∧
    ∀ p ∈ ps, p.1 + w ≤ l.length → overL l p.1 w + h ≤ H → ∃ q, fitS l H w h ps = some q ∧ q.2 ≤ overL l p.1 w := by
  suffices hn : ∀ n (ps : List (Nat × Nat)), ps.length = n → (∀ q, fitS l H w h ps = some q → q.1 + w ≤ l.length ∧ q.2 = overL l q.1 w ∧ q.2 + h ≤ H ∧ ∃ p ∈ ps, p.1 = q.1) ∧
      ∀ p ∈ ps, p.1 + w ≤ l.length → overL l p.1 w + h ≤ H → ∃ q, fitS l H w h ps = some q ∧ q.2 ≤ overL l p.1 w from fun ps => hn _ ps rfl
  intro n
  induction n with
  | zero =>
    intro ps hps
    obtain rfl := List.eq_nil_of_length_eq_zero hps
    exact ⟨fun q h => (by cases h), fun p h => (by cases h)⟩
  | succ n ih =>
    intro ps hps
    obtain ⟨qs, a, rfl⟩ : ∃ qs a, ps = qs ++ [a] := ⟨ps.dropLast, ps.getLast (by intro e; subst e; simp at hps), (List.dropLast_concat_getLast _).symm⟩
    replace ih := ih qs (by simpa using hps)
    clear hps
    generalize qs = ps at *
    rw [fitS_next]
    obtain ⟨i1, i2⟩ := ih
    unfold fitB
    by_cases hc : a.1 + w ≤ l.length ∧ overL l a.1 w + h ≤ H ∧ ((fitS l H w h ps).all fun q => decide (overL l a.1 w < q.2)) = true
    · rw [if_pos hc]
      obtain ⟨c1, c2, c3⟩ := hc
      refine ⟨fun q hq => ?_, fun p hp h1 h2 => ?_⟩
      · simp only [Option.some.injEq] at hq
        subst hq
        exact ⟨c1, rfl, c2, a, by simp, rfl⟩
      · refine ⟨_, rfl, ?_⟩
        rcases List.mem_append.1 hp with hp | hp
        · obtain ⟨q, e, hq⟩ := i2 p hp h1 h2
          rw [e] at c3
          simp at c3
          simp only []
          omega
        · rw [List.mem_singleton.1 hp]
          exact Nat.le_refl _
    · rw [if_neg hc]
      refine ⟨fun q hq => ?_, fun p hp h1 h2 => ?_⟩
      · obtain ⟨a1, a2, a3, p, hp, e⟩ := i1 q hq
        exact ⟨a1, a2, a3, p, List.mem_append.2 (.inl hp), e⟩
      · rcases List.mem_append.1 hp with hp | hp
        · exact i2 p hp h1 h2
        · obtain rfl := List.mem_singleton.1 hp
          cases hb : fitS l H w h ps with
          | none => exact absurd ⟨h1, h2, by rw [hb]; rfl⟩ hc
          | some q =>
            refine ⟨q, rfl, ?_⟩
            by_cases hlt : overL l p.1 w < q.2
            · exact absurd ⟨h1, h2, by rw [hb]; simpa using hlt⟩ hc
            · omega
theorem fitL_some {l : List Nat} {H : Nat} {w h : Int} {x y : Nat} (e : fitL l H w h = some (x, y)) : 1 ≤ w ∧ 1 ≤ h ∧ x + w.toNat ≤ l.length ∧ y = overL l x w.toNat ∧ y + h.toNat ≤ H := by
  unfold fitL at e
  split at e
  · cases e
  · obtain ⟨a, b, c, _⟩ := (fitS_is l H w.toNat h.toNat (stepsL l)).1 _ e
    exact ⟨by omega, by omega, a, b, c⟩
/-- Nothing stands lower at any place than what is chosen. -/
theorem fitL_low {l : List Nat} {H : Nat} {w h : Int} (hw : 1 ≤ w) (hh : 1 ≤ h) (x : Nat) (hx : x + w.toNat ≤ l.length) (ho : overL l x w.toNat + h.toNat ≤ H) : ∃ q, fitL l H w h = some q ∧ q.2 ≤ overL l x w.toNat := by
  obtain ⟨p, h1, h2, h3⟩ := step_before l x
  have hle : overL l p w.toNat ≤ overL l x w.toNat := by
    refine over_le (fun k a b => ?_)
    by_cases hk : k < x
    · rw [h3 k a (by omega)]
      exact hgt_le_over (Nat.le_refl _) (by omega)
    · exact hgt_le_over (by omega) (by omega)
  have hm : (p, hgt l p) ∈ stepsL l := by unfold stepsL; rw [mem_stepsTo]; exact ⟨by simp only []; omega, h2, rfl⟩
  obtain ⟨q, e, hq⟩ := (fitS_is l H w.toNat h.toNat (stepsL l)).2 _ hm (by simp only []; omega) (by simp only []; omega)
  refine ⟨q, ?_, by simp only [] at hq; omega⟩
  unfold fitL
  rw [if_neg (by omega)]
  exact e
theorem fitL_none {l : List Nat} {H : Nat} {w h : Int} (hc : w < 1 ∨ h < 1 ∨ (l.length : Int) < w ∨ (H : Int) < h) : fitL l H w h = none := by
  cases e : fitL l H w h with
  | none => rfl
  | some q =>
    obtain ⟨a, b, c, d, f⟩ := fitL_some (x := q.1) (y := q.2) e
    omega

/-- P14.3: may a rectangle be laid? -/
def mayL (l : List Nat) (H : Nat) (X Y W G : Int) : Bool := decide (0 < W ∧ 0 < G ∧ 0 ≤ X ∧ X + W ≤ l.length ∧ Y + G ≤ H ∧ (overL l X.toNat W.toNat : Int) ≤ Y)
/-- .. and what it makes of the heights. -/
def putL (l : List Nat) (X W v : Nat) : List Nat := (List.range l.length).map fun x => if X ≤ x ∧ x < X + W then v else hgt l x
theorem putL_length (l : List Nat) (X W v : Nat) : (putL l X W v).length = l.length := by simp [putL]
theorem putL_at (l : List Nat) (X W v x : Nat) (hx : x < l.length) : hgt (putL l X W v) x = if X ≤ x ∧ x < X + W then v else hgt l x := by
  unfold hgt putL
  rw [List.getD_eq_getElem?_getD, List.getElem?_map, List.getElem?_range hx]
  rfl
def laidL (l : List Nat) (H : Nat) (X Y W G : Int) : List Nat := if mayL l H X Y W G = true then putL l X.toNat W.toNat (Y + G).toNat else l
theorem laidL_length (l : List Nat) (H : Nat) (X Y W G : Int) : (laidL l H X Y W G).length = l.length := by unfold laidL; split <;> simp [putL_length]
/-- It never goes down, nor out of the page. -/
theorem laidL_grows (l : List Nat) (H : Nat) (X Y W G : Int) (x : Nat) (hx : x < l.length) (hl : hgt l x ≤ H) : hgt l x ≤ hgt (laidL l H X Y W G) x ∧ hgt (laidL l H X Y W G) x ≤ H := by
  unfold laidL
  split
  · rename_i h
    obtain ⟨h1, h2, h3, h4, h5, h6⟩ := of_decide_eq_true h
    rw [putL_at _ _ _ _ _ hx]
    split
    · rename_i hc
      have := hgt_le_over (l := l) hc.1 hc.2
      omega
    · exact ⟨Nat.le_refl _, hl⟩
  · exact ⟨Nat.le_refl _, hl⟩
/-- What fits may be laid. -/
theorem fit_may {l : List Nat} {H : Nat} {w h : Int} {x y : Nat} (e : fitL l H w h = some (x, y)) : mayL l H x y w h = true := by
  obtain ⟨a, b, c, d, f⟩ := fitL_some e
  unfold mayL
  rw [decide_eq_true_eq, Int.toNat_natCast]
  omega

/-- A page's side. -/
def side (n : Int) : Nat := (max 0 (min n 64)).toNat
theorem side_le (n : Int) : side n ≤ 64 := by unfold side; omega
/-- P14.3: over rectangles. -/
abbrev Rc := Int × Int × Int × Int
def rebH (H : Nat) (x : Nat) (m : Nat) (r : Rc) : Nat := if r.1 ≤ (x : Int) ∧ (x : Int) < r.1 + r.2.2.1 then max m (max 0 (min (H : Int) (r.2.1 + r.2.2.2))).toNat else m
def rebL (W H : Nat) (rs : List Rc) : List Nat := (List.range W).map fun x => rs.foldl (rebH H x) 0
theorem rebL_length (W H : Nat) (rs : List Rc) : (rebL W H rs).length = W := by simp [rebL]
theorem rebL_nil (W H : Nat) : rebL W H [] = List.replicate W 0 := by
  unfold rebL
  refine List.ext_getElem (by simp) (fun j h1 h2 => ?_)
  simp
theorem rebL_at (W H : Nat) (rs : List Rc) (x : Nat) (hx : x < W) : hgt (rebL W H rs) x = rs.foldl (rebH H x) 0 := by
  unfold hgt rebL
  rw [List.getD_eq_getElem?_getD, List.getElem?_map, List.getElem?_range hx]
  rfl
theorem rebL_next (W H : Nat) (rs : List Rc) (r : Rc) (x : Nat) (hx : x < W) : hgt (rebL W H (rs ++ [r])) x = rebH H x (hgt (rebL W H rs) x) r := by
  rw [rebL_at _ _ _ _ hx, rebL_at _ _ _ _ hx, List.foldl_append]
  rfl
theorem list_of_hgt {a b : List Nat} (hl : a.length = b.length) (h : ∀ x, x < a.length → hgt a x = hgt b x) : a = b := by
  refine List.ext_getElem? (fun i => ?_)
  by_cases hi : i < a.length
  · rw [at_hgt hi, at_hgt (by omega), h i hi]
  · rw [List.getElem?_eq_none (by omega), List.getElem?_eq_none (by omega)]
/-- P14.3: made anew over all that was laid it is the same. -/
theorem reb_laid {W H : Nat} {rs : List Rc} {x y : Nat} {w h : Int} (hm : mayL (rebL W H rs) H x y w h = true) : rebL W H (rs ++ [((x : Int), (y : Int), w, h)]) = putL (rebL W H rs) x w.toNat ((y : Int) + h).toNat := by
  obtain ⟨h1, h2, h3, h4, h5, h6⟩ := of_decide_eq_true hm
  refine list_of_hgt (by rw [rebL_length, putL_length, rebL_length]) (fun k hk => ?_)
  rw [rebL_length] at hk
  rw [rebL_next _ _ _ _ _ hk, putL_at _ _ _ _ _ (by rw [rebL_length]; exact hk)]
  unfold rebH
  rw [Int.toNat_natCast] at h6
  by_cases hc : x ≤ k ∧ k < x + w.toNat
  · rw [if_pos (by simp only []; omega), if_pos hc]
    have := hgt_le_over (l := rebL W H rs) hc.1 hc.2
    simp only []
    omega
  · rw [if_neg (by simp only []; omega), if_neg hc]
/-- P14.1, P14.2: into an empty page. -/
theorem hgt_zero (W x : Nat) : hgt (List.replicate W 0) x = 0 := by unfold hgt; rw [List.getD_eq_getElem?_getD, List.getElem?_replicate]; split <;> rfl
theorem over_zero (W x : Nat) : ∀ w, overL (List.replicate W 0) x w = 0
  | 0 => rfl
  | w + 1 => by unfold overL; rw [over_zero W x w, hgt_zero]; rfl
theorem steps_zero (W : Nat) : ∀ n, stepsTo (List.replicate W 0) (n + 1) = [(0, 0)]
  | 0 => by unfold stepsTo; rw [if_pos (show isStep (List.replicate W 0) 0 = true from rfl), hgt_zero]; rfl
  | n + 1 => by
    rw [stepsTo, if_neg (by unfold isStep; rw [hgt_zero, hgt_zero]; simp), steps_zero W n]
theorem fit_zero (W H : Nat) (w h : Int) (h1 : 1 ≤ w) (h2 : 1 ≤ h) (h3 : w ≤ W) (h4 : h ≤ H) : fitL (List.replicate W 0) H w h = some (0, 0) := by
  unfold fitL
  rw [if_neg (by omega)]
  unfold stepsL fitS
  rw [List.length_replicate]
  obtain ⟨n, rfl⟩ : ∃ n, W = n + 1 := ⟨W - 1, by omega⟩
  rw [steps_zero]
  simp only [List.foldl_cons, List.foldl_nil]
  unfold fitB
  rw [over_zero, if_pos ⟨by simp; omega, by omega, rfl⟩]

end Go.Proofs.Ytklajpadnbeplaa
