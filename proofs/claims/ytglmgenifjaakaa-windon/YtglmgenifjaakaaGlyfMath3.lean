/-
  Outlines as bytes: how long what is written is, and that it is bytes: numbers, without a program (no claim is made here).
-/
import Derived.Test.YtglmgenifjaakaaGlyfMath2
namespace Go.Proofs.Ytglmgenifjaakaa

theorem exMap_ok {α β : Type} {e : Except Nat α} {f : α → β} {y : β} (h : e.map f = .ok y) : ∃ x, e = .ok x ∧ f x = y := by
  cases e with
  | error _ => cases h
  | ok x => exact ⟨x, rfl, by injection h⟩

theorem flags_len : ∀ (b : List Nat) (c n : Nat) (fs r : List Nat), c ≤ n → flagsS n c b = .ok (fs, r) → c + fs.length = n ∧ r.length ≤ b.length ∧ ∀ a ∈ r, a ∈ b
  | [], c, n, fs, r, hc, h => by
    unfold flagsS at h
    split at h
    · injection h with h; injection h with h1 h2; subst h1 h2; exact ⟨by simp; omega, Nat.le_refl _, fun _ h => h⟩
    · cases h
  | [f], c, n, fs, r, hc, h => by
    unfold flagsS at h
    split at h
    · injection h with h; injection h with h1 h2; subst h1 h2; exact ⟨by simp; omega, Nat.le_refl _, fun _ h => h⟩
    · split at h
      · cases h
      · split at h
        · cases h
        · obtain ⟨⟨gs, s⟩, h1, h2⟩ := exMap_ok h
          injection h2 with h2 h3
          subst h2 h3
          obtain ⟨a, b, d⟩ := flags_len [] (c + 1) n gs s (by omega) h1
          exact ⟨by simp; omega, by simp only [List.length_nil, List.length_cons] at b ⊢; omega, fun x hx => by have := d x hx; cases this⟩
  | f :: t :: q, c, n, fs, r, hc, h => by
    unfold flagsS at h
    split at h
    · injection h with h; injection h with h1 h2; subst h1 h2; exact ⟨by simp; omega, Nat.le_refl _, fun _ h => h⟩
    · split at h
      · split at h
        · cases h
        · obtain ⟨⟨gs, s⟩, h1, h2⟩ := exMap_ok h
          injection h2 with h2 h3
          subst h2 h3
          obtain ⟨a, b, d⟩ := flags_len q (c + (t + 1)) n gs s (by omega) h1
          exact ⟨by simp; omega, by simp; omega, fun x hx => List.mem_cons_of_mem _ (List.mem_cons_of_mem _ (d x hx))⟩
      · split at h
        · cases h
        · obtain ⟨⟨gs, s⟩, h1, h2⟩ := exMap_ok h
          injection h2 with h2 h3
          subst h2 h3
          obtain ⟨a, b, d⟩ := flags_len (t :: q) (c + 1) n gs s (by omega) h1
          exact ⟨by simp; omega, by simp at b ⊢; omega, fun x hx => List.mem_cons_of_mem _ (d x hx)⟩

theorem exMap_err {α β : Type} {e : Except Nat α} {f : α → β} {k : Nat} (h : e.map f = .error k) : e = .error k := by
  cases e with
  | error _ => injection h with h; rw [h]
  | ok x => cases h
theorem flags_err : ∀ (b : List Nat) (c n e : Nat), flagsS n c b = .error e → e = 1 ∨ e = 2
  | [], c, n, e, h => by
    unfold flagsS at h
    split at h
    · cases h
    · injection h with h; omega
  | [f], c, n, e, h => by
    unfold flagsS at h
    split at h
    · cases h
    · split at h
      · injection h with h; omega
      · split at h
        · injection h with h; omega
        · exact flags_err [] (c + 1) n e (exMap_err h)
  | f :: t :: q, c, n, e, h => by
    unfold flagsS at h
    split at h
    · cases h
    · split at h
      · split at h
        · injection h with h; omega
        · exact flags_err q _ n e (exMap_err h)
      · split at h
        · injection h with h; omega
        · exact flags_err (t :: q) _ n e (exMap_err h)

theorem stepB_le (d : Int) : (stepB d).length ≤ 2 ∧ 1 ≤ (stepB d).length := by
  unfold stepB
  split <;> simp
theorem step_len {t : Bool} {b r : List Nat} {d : Int} (hb : ∀ a ∈ b, a < 256) (h : stepS t b = some (d, r)) : (stepB d).length + r.length ≤ b.length ∧ r.length + 1 ≤ b.length ∧ ∀ a ∈ r, a ∈ b := by
  cases t
  · rcases b with _ | ⟨a, q⟩
    · cases h
    · injection h with h
      injection h with h1 h2
      subst h1 h2
      have ha := hb a (List.mem_cons_self ..)
      have hf : far (int8 a) = false := by
        unfold far int8
        split <;> simp <;> omega
      refine ⟨?_, by simp, fun x hx => List.mem_cons_of_mem _ hx⟩
      unfold stepB
      rw [hf]
      simp; omega
  · rcases b with _ | ⟨a, _ | ⟨a2, q⟩⟩
    · cases h
    · cases h
    · injection h with h
      injection h with h1 h2
      subst h1 h2
      have := stepB_le (256 * int8 a + a2)
      exact ⟨by simp; omega, by simp, fun x hx => List.mem_cons_of_mem _ (List.mem_cons_of_mem _ hx)⟩

theorem points_len : ∀ (fs : List Nat) (x y : Int) (b : List Nat) (vs : List Vtx) (r : List Nat), (∀ a ∈ b, a < 256) → pointsS x y fs b = some (vs, r) → vs.length = fs.length ∧ (stepsV x y vs).length + r.length ≤ b.length ∧ 2 * vs.length + r.length ≤ b.length
  | [], x, y, b, vs, r, _, h => by
    injection h with h
    injection h with h1 h2
    subst h1 h2
    exact ⟨rfl, by simp [stepsV], by simp⟩
  | f :: fs, x, y, b, vs, r, hb, h => by
    unfold pointsS at h
    split at h
    · cases h
    · next dx b1 e1 =>
      obtain ⟨p1, p2, p3⟩ := step_len hb e1
      have hb1 : ∀ a ∈ b1, a < 256 := fun a ha => hb a (p3 a ha)
      split at h
      · cases h
      · next dy b2 e2 =>
        obtain ⟨q1, q2, q3⟩ := step_len hb1 e2
        have hb2 : ∀ a ∈ b2, a < 256 := fun a ha => hb1 a (q3 a ha)
        split at h
        · cases h
        · next us b3 e3 =>
          injection h with h
          injection h with h1 h2
          subst h1 h2
          obtain ⟨s1, s2, s3⟩ := points_len fs (x + dx) (y + dy) b2 us b3 hb2 e3
          have g1 : x + dx - x = dx := by omega
          have g2 : y + dy - y = dy := by omega
          refine ⟨by simp [s1], ?_, by simp; omega⟩
          simp only [stepsV, g1, g2, List.length_append]
          omega

theorem split_len : ∀ (ss : List Nat) (vs : List Vtx), ss.sum = vs.length → (splitS ss vs).flatten = vs ∧ (splitS ss vs).map List.length = ss
  | [], vs, h => by
    have : vs = [] := List.eq_nil_of_length_eq_zero (by simpa using h.symm)
    subst this
    exact ⟨rfl, rfl⟩
  | s :: ss, vs, h => by
    rw [List.sum_cons] at h
    obtain ⟨a, b⟩ := split_len ss (vs.drop s) (by rw [List.length_drop]; omega)
    simp only [splitS, List.flatten_cons, List.map_cons, a, b, List.take_append_drop, List.length_take]
    exact ⟨trivial, by rw [Nat.min_eq_left (by omega)]⟩

theorem rle_len : ∀ (k : Nat) (l : List Nat), (rleN k l).length ≤ l.length
  | 0, l => by simp [rleN]
  | k + 1, [] => by simp [rleN]
  | k + 1, f :: l => by
    unfold rleN
    split
    · have := rle_len k l; simp; omega
    · have h1 := rle_len k (l.drop (runLen f l))
      rw [List.length_drop] at h1
      have h2 := runLen_le f l
      simp; omega

theorem parse_ok {x : List Nat} {o : List (List Vtx)} (hx : ∀ a ∈ x, a < 256) (h : parseS x = (o, 0)) : checkS o = 0 ∧ (encodeS o).length ≤ x.length + x.length := by
  rcases x with _ | ⟨k, r⟩
  · cases h
  · rw [parseS_cons] at h
    split at h
    · cases h
    · split at h
      · cases h
      · next hk hs =>
        unfold parseT at h
        split at h
        · next e he =>
          exfalso
          injection h with h1 h2
          have := flags_err _ _ _ _ he
          omega
        · next fs b he =>
          obtain ⟨a1, a2, a3⟩ := flags_len _ _ _ _ _ (Nat.zero_le _) he
          have hb : ∀ a ∈ b, a < 256 := fun a ha => hx a (List.mem_cons_of_mem _ (List.mem_of_mem_drop (a3 a ha)))
          split at h
          · cases h
          · next vs b2 hp =>
            split at h
            · cases h
            · split at h
              · next hc => injection h with h1 h2; exact absurd h2 hc
              · next hc =>
                injection h with h1 h2
                subst h1
                obtain ⟨p1, p2, p3⟩ := points_len fs 0 0 b vs b2 hb hp
                obtain ⟨q1, q2⟩ := split_len (r.take k) vs (by omega)
                refine ⟨by omega, ?_⟩
                have l1 : (splitS (r.take k) vs).length = (r.take k).length := by rw [← List.length_map (f := List.length), q2]
                have l2 := rle_len (flagsV 0 0 vs).length (flagsV 0 0 vs)
                rw [flagsV_length] at l2
                unfold encodeS rle
                rw [q1, q2, flagsV_length]
                simp only [List.length_cons, List.length_append, l1, List.length_take, List.length_drop] at *
                omega

theorem rle_bytes : ∀ (k : Nat) (l : List Nat), (∀ f ∈ l, f < 8) → l.length ≤ 255 → ∀ b ∈ rleN k l, b < 256
  | 0, _, _, _, b, hb => by simp [rleN] at hb
  | _ + 1, [], _, _, b, hb => by simp [rleN] at hb
  | k + 1, f :: l, hf, hl, b, hb => by
    have h0 := hf f (List.mem_cons_self ..)
    have hm : ∀ g ∈ l, g < 8 := fun g hg => hf g (List.mem_cons_of_mem _ hg)
    have h1 := runLen_le f l
    simp only [List.length_cons] at hl
    unfold rleN at hb
    split at hb
    · rcases List.mem_cons.1 hb with rfl | hb
      · omega
      · exact rle_bytes k l hm (by omega) b hb
    · rcases List.mem_cons.1 hb with rfl | hb
      · omega
      · rcases List.mem_cons.1 hb with rfl | hb
        · omega
        · exact rle_bytes k _ (fun g hg => hm g (List.mem_of_mem_drop hg)) (by rw [List.length_drop]; omega) b hb
theorem step_bytes (d : Int) : ∀ b ∈ stepB d, b < 256 := by
  intro b hb
  have h1 := loB_lt d
  have h2 := hiB_lt d
  unfold stepB at hb
  split at hb <;> simp at hb <;> omega
theorem steps_bytes : ∀ (vs : List Vtx) (x y : Int), ∀ b ∈ stepsV x y vs, b < 256
  | [], _, _, b, hb => by simp [stepsV] at hb
  | v :: vs, x, y, b, hb => by
    unfold stepsV at hb
    rcases List.mem_append.1 hb with hb | hb
    · exact step_bytes _ b hb
    · rcases List.mem_append.1 hb with hb | hb
      · exact step_bytes _ b hb
      · exact steps_bytes vs _ _ b hb
theorem le_flatten : ∀ (o : List (List Vtx)), ∀ c ∈ o, c.length ≤ o.flatten.length
  | [], _, h => nomatch h
  | d :: o, c, h => by
    rw [List.flatten_cons, List.length_append]
    rcases List.mem_cons.1 h with rfl | h
    · omega
    · have := le_flatten o c h; omega
theorem encode_bytes (o : List (List Vtx)) (h : checkS o = 0) : ∀ b ∈ encodeS o, b < 256 := by
  obtain ⟨h1, h2, _, h4⟩ := checkS_zero h
  intro b hb
  unfold encodeS at hb
  rcases List.mem_cons.1 hb with rfl | hb
  · omega
  · rcases List.mem_append.1 hb with hb | hb
    · obtain ⟨c, hc, rfl⟩ := List.mem_map.1 hb
      have := le_flatten o c hc
      omega
    · rcases List.mem_append.1 hb with hb | hb
      · exact rle_bytes _ _ (flagsV_lt _ _ _) (by rw [flagsV_length]; omega) b hb
      · exact steps_bytes _ _ _ b hb
theorem encode_max (o : List (List Vtx)) (h : checkS o = 0) : 1 ≤ (encodeS o).length ∧ (encodeS o).length ≤ 400 := by
  obtain ⟨h1, h2, _, h4⟩ := checkS_zero h
  have l2 := rle_len (flagsV 0 0 o.flatten).length (flagsV 0 0 o.flatten)
  have l3 : ∀ (vs : List Vtx) (x y : Int), (stepsV x y vs).length ≤ 4 * vs.length := by
    intro vs
    induction vs with
    | nil => intro x y; simp [stepsV]
    | cons v vs ih =>
      intro x y
      have a := (stepB_le (v.x - x)).1
      have b := (stepB_le (v.y - y)).1
      have c := ih v.x v.y
      simp only [stepsV, List.length_append, List.length_cons]
      omega
  have l4 := l3 o.flatten 0 0
  rw [flagsV_length] at l2
  unfold encodeS rle
  rw [flagsV_length]
  simp only [List.length_cons, List.length_append, List.length_map]
  omega

end Go.Proofs.Ytglmgenifjaakaa
