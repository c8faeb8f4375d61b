/-
  Outlines as bytes: what is written is read again; what is cut is too short; how long it is: numbers, without a program (no claim is made here).
-/
import Derived.Test.YtglmgenifjaakaaGlyfMath
namespace Go.Proofs.Ytglmgenifjaakaa

theorem checkC_zero : ∀ (cs : List (List Vtx)) (n : Nat), checkC n cs = 0 → n ≤ 64 → n + cs.flatten.length ≤ 64 ∧ (∀ c ∈ cs, c ≠ []) ∧ ∀ v ∈ cs.flatten, inV v
  | [], n, _, hn => ⟨by simpa using hn, (fun _ h => nomatch h), (fun _ h => nomatch h)⟩
  | c :: cs, n, h, _ => by
    unfold checkC at h
    split at h
    · cases h
    · split at h
      · cases h
      · split at h
        · cases h
        · next h1 h2 h3 =>
          obtain ⟨a, b, d⟩ := checkC_zero cs (n + c.length) h (by omega)
          refine ⟨by simp only [List.flatten_cons, List.length_append]; omega, fun e he => ?_, fun v hv => ?_⟩
          · rcases List.mem_cons.1 he with rfl | he
            · exact h2
            · exact b e he
          · rw [List.flatten_cons] at hv
            rcases List.mem_append.1 hv with hv | hv
            · refine badV_in ?_
              rw [Bool.not_eq_true] at h3
              exact Bool.eq_false_iff.2 fun k => absurd (List.any_eq_true.2 ⟨v, hv, k⟩) (by rw [h3]; decide)
            · exact d v hv
theorem checkS_zero {o : List (List Vtx)} (h : checkS o = 0) : o.length ≤ 8 ∧ o.flatten.length ≤ 64 ∧ (∀ c ∈ o, c ≠ []) ∧ ∀ v ∈ o.flatten, inV v := by
  unfold checkS at h
  split at h
  · cases h
  · next h1 =>
    obtain ⟨a, b, c⟩ := checkC_zero o 0 h (by omega)
    exact ⟨by omega, by omega, b, c⟩

theorem split_flatten : ∀ o : List (List Vtx), splitS (o.map List.length) o.flatten = o
  | [] => rfl
  | c :: cs => by
    simp only [List.map_cons, List.flatten_cons, splitS]
    rw [List.take_left, List.drop_left, split_flatten cs]

theorem flags_all (fs : List Nat) (h : ∀ f ∈ fs, f < 8) (r : List Nat) : flagsS fs.length 0 (rle fs ++ r) = .ok (fs, r) :=
  flags_round fs.length fs 0 fs.length (Nat.le_refl _) (by omega) h r

theorem parse_sizes (o : List (List Vtx)) (X : List Nat) (h1 : o.length ≤ 8) (h2 : o.flatten.length ≤ 64) :
    parseS (o.length :: (o.map List.length ++ X)) = parseT (o.map List.length) X := by
  have e1 : (o.map List.length ++ X).take o.length = o.map List.length := by rw [← List.length_map (as := o) List.length, List.take_left]
  have e2 : (o.map List.length ++ X).drop o.length = X := by rw [← List.length_map (as := o) List.length, List.drop_left]
  have e3 : (o.map List.length).sum = o.flatten.length := List.length_flatten.symm
  have e4 : ¬ (o.map List.length ++ X).length < o.length := by simp
  have e5 : ¬ (64 < o.flatten.length ∨ 8 < (o.map List.length).length) := by simp only [List.length_map]; omega
  rw [parseS_cons, e1, e2, e3, if_neg e4, if_neg e5]

theorem parse_encode (o : List (List Vtx)) (h : checkS o = 0) : parseS (encodeS o) = (o, 0) := by
  obtain ⟨h1, h2, _, h4⟩ := checkS_zero h
  have f := flags_all (flagsV 0 0 o.flatten) (flagsV_lt _ _ _) (stepsV 0 0 o.flatten)
  rw [flagsV_length] at f
  have p := points_round o.flatten 0 0 (by omega) (by omega) h4 []
  rw [List.append_nil] at p
  have e3 : (o.map List.length).sum = o.flatten.length := List.length_flatten.symm
  unfold encodeS
  rw [parse_sizes o _ h1 h2]
  unfold parseT
  rw [e3, f]
  simp only [p, split_flatten, h]
  simp

theorem flagsS_nil (n c : Nat) (h : c < n) : flagsS n c [] = .error 1 := by simp [flagsS]; omega
theorem flags_cut : ∀ (k : Nat) (fs : List Nat) (c n : Nat) (_ : fs.length ≤ k) (_ : c + fs.length = n) (_ : ∀ f ∈ fs, f < 8) (m : Nat) (_ : m < (rleN k fs).length), flagsS n c ((rleN k fs).take m) = .error 1
  | 0, _, _, _, _, _, _, m, hm => by simp [rleN] at hm
  | _ + 1, [], _, _, _, _, _, m, hm => by simp [rleN] at hm
  | k + 1, f :: l, c, n, hk, hn, hf, m, hm => by
    simp only [List.length_cons] at hk hn
    have h0 := hf f (List.mem_cons_self ..)
    have hl : ∀ g ∈ l, g < 8 := fun g hg => hf g (List.mem_cons_of_mem _ hg)
    unfold rleN at hm ⊢
    split at hm
    · next hr =>
      rw [if_pos hr]
      rcases m with _ | m
      · exact flagsS_nil n c (by omega)
      · rw [List.take_succ_cons, flagsS_one n c f (by omega) h0, flags_cut k l (c + 1) n (by omega) (by omega) hl m (by simpa using hm)]
        rfl
    · next hr =>
      rw [if_neg hr]
      have h1 := runLen_le f l
      have h3 : (l.drop (runLen f l)).length = l.length - runLen f l := List.length_drop ..
      rcases m with _ | _ | m
      · exact flagsS_nil n c (by omega)
      · have a1 : ¬ n ≤ c := by omega
        have a2 : (f + 8) / 8 % 2 = 1 := by omega
        simp only [List.take_succ_cons, List.take_zero, flagsS, if_neg a1, if_pos a2]
      · rw [List.take_succ_cons, List.take_succ_cons, flagsS_many n c f _ (by omega) h0 (by omega), flags_cut k _ _ n (by omega) (by omega) (fun g hg => hl g (List.mem_of_mem_drop hg)) m (by simpa using hm)]
        rfl

theorem step_cut (d : Int) (q : Nat) (h : q < (stepB d).length) : stepS (far d) ((stepB d).take q) = none := by
  unfold stepB at h ⊢
  cases hf : far d
  · simp only [hf, Bool.false_eq_true, if_false, List.length_cons, List.length_nil] at h ⊢
    obtain rfl : q = 0 := by omega
    rfl
  · simp only [hf, if_true, List.length_cons, List.length_nil] at h ⊢
    rcases (by omega : q = 0 ∨ q = 1) with rfl | rfl <;> rfl

theorem points_cut : ∀ (vs : List Vtx) (x y : Int) (_ : -255 ≤ x ∧ x ≤ 255) (_ : -255 ≤ y ∧ y ≤ 255) (_ : ∀ v ∈ vs, inV v) (q : Nat) (_ : q < (stepsV x y vs).length), pointsS x y (flagsV x y vs) ((stepsV x y vs).take q) = none
  | [], _, _, _, _, _, q, hq => by simp [stepsV] at hq
  | v :: vs, x, y, hx, hy, hv, q, hq => by
    have h0 := hv v (List.mem_cons_self ..)
    have e1 : x + (v.x - x) = v.x := by omega
    have e2 : y + (v.y - y) = v.y := by omega
    have hb := h0
    obtain ⟨⟨a, b⟩, c, d⟩ := h0
    simp only [stepsV, List.length_append] at hq
    simp only [flagsV, stepsV, pointsS, flagV_x, flagV_y, flagV_on]
    by_cases g1 : q < (stepB (v.x - x)).length
    · rw [List.take_append_of_le_length (by omega), step_cut _ _ g1]
    · obtain ⟨p, rfl⟩ := Nat.exists_eq_add_of_le (Nat.le_of_not_lt g1)
      rw [List.take_length_add_append, step_round _ (by omega)]
      simp only []
      by_cases g2 : p < (stepB (v.y - y)).length
      · rw [List.take_append_of_le_length (by omega), step_cut _ _ g2]
      · obtain ⟨s, rfl⟩ := Nat.exists_eq_add_of_le (Nat.le_of_not_lt g2)
        rw [List.take_length_add_append, step_round _ (by omega)]
        simp only [e1, e2]
        rw [points_cut vs v.x v.y hb.1 hb.2 (fun u hu => hv u (List.mem_cons_of_mem _ hu)) s (by omega)]

theorem parse_cut (o : List (List Vtx)) (h : checkS o = 0) (c : Nat) (hc : c < (encodeS o).length) : parseS ((encodeS o).take c) = ([], 1) := by
  obtain ⟨h1, h2, _, h4⟩ := checkS_zero h
  have hl := flagsV_lt o.flatten 0 0
  have hn := flagsV_length o.flatten 0 0
  unfold encodeS at hc ⊢
  rcases c with _ | j
  · rfl
  · simp only [List.length_cons, List.length_append, List.length_map] at hc
    rw [List.take_succ_cons]
    by_cases g : j < o.length
    · have g1 : ((o.map List.length ++ (rle (flagsV 0 0 o.flatten) ++ stepsV 0 0 o.flatten)).take j).length < o.length := by rw [List.length_take]; omega
      rw [parseS_cons, if_pos g1]
    · obtain ⟨m, rfl⟩ := Nat.exists_eq_add_of_le (Nat.le_of_not_lt g)
      have e : (o.map List.length ++ (rle (flagsV 0 0 o.flatten) ++ stepsV 0 0 o.flatten)).take (o.length + m) = o.map List.length ++ (rle (flagsV 0 0 o.flatten) ++ stepsV 0 0 o.flatten).take m := by
        rw [← List.length_map (as := o) List.length, List.take_length_add_append]
      have e3 : (o.map List.length).sum = o.flatten.length := List.length_flatten.symm
      rw [e, parse_sizes o _ h1 h2]
      unfold parseT
      rw [e3]
      by_cases g2 : m < (rle (flagsV 0 0 o.flatten)).length
      · have f := flags_cut (flagsV 0 0 o.flatten).length (flagsV 0 0 o.flatten) 0 (flagsV 0 0 o.flatten).length (Nat.le_refl _) (by omega) hl m g2
        rw [hn] at f
        rw [List.take_append_of_le_length (by omega)]
        unfold rle
        rw [hn, f]
      · obtain ⟨q, rfl⟩ := Nat.exists_eq_add_of_le (Nat.le_of_not_lt g2)
        have f := flags_all (flagsV 0 0 o.flatten) hl ((stepsV 0 0 o.flatten).take q)
        rw [hn] at f
        rw [List.take_length_add_append, f]
        simp only [points_cut o.flatten 0 0 (by omega) (by omega) h4 q (by omega)]

end Go.Proofs.Ytglmgenifjaakaa
