/-
  What the program's raise and Rebuild of layer 14 do to any world: contracts (no claim is made here).
-/
import Derived.Test.YtklajpadnbeplaaSkyPc
import Derived.Test.YtklajpadnbeplaaSky6
namespace Go.Proofs.Ytklajpadnbeplaa
open Go.RowKit

/-- The heights when a rectangle has been raised at its places before k. -/
def upL (l : List Nat) (H : Nat) (r : Rc) (k : Int) : List Nat := (List.range l.length).map fun (x : Nat) => if (x : Int) < k then rebH H x (hgt l x) r else hgt l x
theorem upL_length (l : List Nat) (H : Nat) (r : Rc) (k : Int) : (upL l H r k).length = l.length := by simp [upL]
theorem upL_at (l : List Nat) (H : Nat) (r : Rc) (k : Int) (x : Nat) (hx : x < l.length) : hgt (upL l H r k) x = if (x : Int) < k then rebH H x (hgt l x) r else hgt l x := by
  unfold hgt upL
  rw [List.getD_eq_getElem?_getD, List.getElem?_map, List.getElem?_range hx]
  rfl
theorem upL_zero (l : List Nat) (H : Nat) (r : Rc) (k : Int) (hk : k ≤ r.1 ∨ k ≤ 0) : upL l H r k = l := list_of_hgt (upL_length _ _ _ _) (fun x hx => by
  rw [upL_length] at hx
  rw [upL_at _ _ _ _ _ hx]
  split
  · unfold rebH
    rw [if_neg (by omega)]
  · rfl)
theorem upL_next (l : List Nat) (H : Nat) (r : Rc) (k : Nat) (hk : k < l.length) (h1 : r.1 ≤ (k : Int)) (h2 : (k : Int) < r.1 + r.2.2.1) : (upL l H r k).set k (max (hgt l k) (max 0 (min (H : Int) (r.2.1 + r.2.2.2))).toNat) = upL l H r ((k : Int) + 1) := by
  refine list_of_hgt (by simp [upL_length]) (fun x hx => ?_)
  rw [List.length_set, upL_length] at hx
  rw [hgt_set _ _ _ _ (by rw [upL_length]; exact hk), upL_at _ _ _ _ _ hx, upL_at _ _ _ _ _ hx]
  by_cases hxk : x = k
  · subst hxk
    rw [if_pos rfl, if_pos (by omega)]
    unfold rebH
    rw [if_pos ⟨h1, h2⟩]
  · rw [if_neg hxk]
    by_cases hlt : (x : Int) < k
    · rw [if_pos hlt, if_pos (by omega)]
    · rw [if_neg hlt, if_neg (by omega)]
theorem upL_keep (l : List Nat) (H : Nat) (r : Rc) (k : Nat) (hk : k < l.length) : hgt (upL l H r k) k = hgt l k := by rw [upL_at _ _ _ _ _ hk, if_neg (by omega)]
/-- .. and beyond its places nothing changes. -/
theorem upL_end (l : List Nat) (H : Nat) (r : Rc) (k : Int) (hk : (l.length : Int) ≤ k ∨ r.1 + r.2.2.1 ≤ k) : upL l H r k = upL l H r l.length := by
  refine list_of_hgt (by simp [upL_length]) (fun x hx => ?_)
  rw [upL_length] at hx
  rw [upL_at _ _ _ _ _ hx, upL_at _ _ _ _ _ hx, if_pos (show (x : Int) < (l.length : Nat) by omega)]
  split
  · rfl
  · unfold rebH
    rw [if_neg (by omega)]
theorem rebH_le {H x m : Nat} (r : Rc) (h : m ≤ H) : rebH H x m r ≤ H := by
  unfold rebH
  split <;> omega
theorem upL_le {l : List Nat} {H : Nat} {r : Rc} {k : Int} (h : ∀ y ∈ l, y ≤ H) : ∀ y ∈ upL l H r k, y ≤ H := by
  intro y hy
  unfold upL at hy
  obtain ⟨x, _, rfl⟩ := List.mem_map.1 hy
  split
  · exact rebH_le r (hgt_le h x)
  · exact hgt_le h x
theorem upL_reb (W H : Nat) (rs : List Rc) (r : Rc) : upL (rebL W H rs) H r (rebL W H rs).length = rebL W H (rs ++ [r]) := by
  refine list_of_hgt (by rw [upL_length, rebL_length, rebL_length]) (fun x hx => ?_)
  rw [upL_length] at hx
  rw [upL_at _ _ _ _ _ hx, if_pos (by omega), rebL_next _ _ _ _ _ (by rw [rebL_length] at hx; exact hx)]

set_option maxRecDepth 100000 in
set_option maxHeartbeats 3200000 in
theorem praise_any (ks : Nat → Prop) (v : Value) (l : List Nat) (H : Nat) (X Y W G : Int) (w : World) (h : Rsky w ks v l H) (hr : InR (X, Y, W, G)) : Calls Try.prog 25 #[v, rcV (X, Y, W, G)] w fun e w' => e = .returned (.tuple #[]) ∧ Rsky w' ks v (upL l H (X, Y, W, G) l.length) H ∧ But ks w w' := by
  obtain ⟨⟨r0, r1⟩, r2, r3⟩ := hr
  simp only [] at r0 r1 r2 r3
  obtain ⟨p, g, rfl, hne, hk, hP, hG, h1, h2, h3⟩ := h
  have hal := (Below.refl _ w).alloc (Nat.le_refl _) (.cells #[.int .i64 X, .int .i64 Y, .int .i64 W, .int .i64 G] 31)
  have hp0 := hP.lt
  have hg0 := hG.lt
  have HKK := Lib.hid hk
  have H3 := Lib.hid h3
  have HP1 := Lib.hid (hP.keep hal)
  have HG1 := Lib.hid (hG.keep hal)
  have HR1 := Lib.hid (Blk.new w 31 [.int .i64 X, .int .i64 Y, .int .i64 W, .int .i64 G] rfl)
  have HB1 := Lib.hid hal
  obtain ⟨N, hN⟩ : ∃ N, l.length = N := ⟨_, rfl⟩
  have HN := Lib.hid hN
  rw [hN] at HP1 HG1 h1
  have wYG : IntKind.i64.wrap (Y + G) = Y + G := wI (by omega) (by omega)
  have wXW : IntKind.i64.wrap (X + W) = X + W := wI (by omega) (by omega)
  have m1 := fun w => run_min2i (P := Try.prog) #[3, 3] 3 (Y + G) H w
  have m2 := fun w => run_max2i (P := Try.prog) #[3, 3] 3 X 0 w
  have m3 := fun w => run_min2i (P := Try.prog) #[3, 3] 3 (X + W) N w
  obtain ⟨k0, hk0⟩ : ∃ k0 : Nat, max X 0 = k0 := ⟨(max X 0).toNat, by omega⟩
  obtain ⟨hh, hhh⟩ : ∃ hh : Int, min (Y + G) (H : Int) = hh := ⟨_, rfl⟩
  obtain ⟨Z, hZ⟩ : ∃ Z : Int, min (X + W) (N : Int) = Z := ⟨_, rfl⟩
  rw [hhh] at m1
  rw [hk0] at m2
  rw [hZ] at m3
  clear hal hP hG hk h3 hN
  go_enter Try.func25, Try.ntmps25
  go_wp2_with fail
  generalize w.alloc (.cells #[.int .i64 X, .int .i64 Y, .int .i64 W, .int .i64 G] 31) = w1 at *
  have HP := Lib.hid (HP1.out.drew)
  have HR := Lib.hid (HR1.out.drew)
  have HG : Hid (HRw w1.drew g N l) := Lib.hid HG1.out
  have AB := HB1.out.drew
  clear HP1 HR1 HG1 HB1
  refine wp_region_held_drew (S := fun wx => (wx.cell? ⟨w.heap.size, 1, none⟩ = some (.int .i64 Y) ∧ wx.cell? ⟨w.heap.size, 3, none⟩ = some (.int .i64 G)) ∧ wx.cell? ⟨p, 1, none⟩ = some (.int .i64 (H : Int))) (by kernel_rfl) (⟨⟨HR.out.cell 1 rfl, HR.out.cell 3 rfl⟩, HP.out.cell 1 rfl⟩) (fun hHeld => ?_)
  refine wpAnyH_take (i := 0) (v := ?_) rfl (by kernel_rfl) (by kernel_rfl) (by kernel_rfl) (fun _ _ _ h => h) (Or.inl ⟨by rfl, ?_⟩) hHeld ?_
  rotate_left
  · intro w hSw
    (try dsimp only at hSw)
    (try simp only [List.getElem_toArray, List.getElem_cons_zero])
    go_simp
    all_goals with_reducible rfl
  try simp only [List.getElem_toArray, List.getElem_cons_zero, Act.put, List.setIfInBounds_toArray, List.set_cons_zero, List.set_cons_succ]
  refine wpAnyH_take (i := 1) (v := ?_) rfl (by kernel_rfl) (by kernel_rfl) (by kernel_rfl) (fun _ _ _ h => h) (Or.inl ⟨by rfl, ?_⟩) hHeld ?_
  rotate_left
  · intro w hSw
    (try dsimp only at hSw)
    (try simp only [List.getElem_toArray, List.getElem_cons_zero, List.getElem_cons_succ])
    go_simp
    all_goals with_reducible rfl
  try simp only [List.getElem_toArray, List.getElem_cons_zero, List.getElem_cons_succ, Act.put, List.setIfInBounds_toArray, List.set_cons_zero, List.set_cons_succ]
  refine wpAnyH_take (i := 2) (v := ?_) rfl (by kernel_rfl) (by kernel_rfl) (by kernel_rfl) (fun _ _ _ h => h) (Or.inl ⟨by rfl, ?_⟩) hHeld ?_
  rotate_left
  · intro w hSw
    (try dsimp only at hSw)
    (try simp only [List.getElem_toArray, List.getElem_cons_zero, List.getElem_cons_succ])
    go_simp
    all_goals with_reducible rfl
  try simp only [List.getElem_toArray, List.getElem_cons_zero, List.getElem_cons_succ, Act.put, List.setIfInBounds_toArray, List.set_cons_zero, List.set_cons_succ]
  refine wpAnyH_take (i := 3) (v := ?_) rfl (by kernel_rfl) (by kernel_rfl) (by kernel_rfl) (fun _ _ _ h => h) (Or.inl ⟨by rfl, ?_⟩) hHeld ?_
  rotate_left
  · intro w hSw
    (try dsimp only at hSw)
    (try simp only [List.getElem_toArray, List.getElem_cons_zero, List.getElem_cons_succ])
    go_simp
    all_goals with_reducible rfl
  try simp only [List.getElem_toArray, List.getElem_cons_zero, List.getElem_cons_succ, Act.put, List.setIfInBounds_toArray, List.set_cons_zero, List.set_cons_succ]
  refine wpAnyH_take (i := 4) (v := ?_) rfl (by kernel_rfl) (by kernel_rfl) (by kernel_rfl) (fun _ _ _ h => h) (Or.inl ⟨by rfl, ?_⟩) hHeld ?_
  rotate_left
  · intro w hSw
    (try dsimp only at hSw)
    (try simp only [List.getElem_toArray, List.getElem_cons_zero, List.getElem_cons_succ])
    go_simp
    all_goals with_reducible rfl
  try simp only [List.getElem_toArray, List.getElem_cons_zero, List.getElem_cons_succ, Act.put, List.setIfInBounds_toArray, List.set_cons_zero, List.set_cons_succ]
  refine wpAnyH_take (i := 5) (v := ?_) rfl (by kernel_rfl) (by kernel_rfl) (by kernel_rfl) (fun _ _ _ h => h) (Or.inl ⟨by rfl, ?_⟩) hHeld ?_
  rotate_left
  · intro w hSw
    (try dsimp only at hSw)
    (try simp only [List.getElem_toArray, List.getElem_cons_zero, List.getElem_cons_succ])
    go_simp
    all_goals with_reducible rfl
  try simp only [List.getElem_toArray, List.getElem_cons_zero, List.getElem_cons_succ, Act.put, List.setIfInBounds_toArray, List.set_cons_zero, List.set_cons_succ]
  refine wpAnyH_take (i := 6) (v := ?_) rfl (by kernel_rfl) (by kernel_rfl) (by kernel_rfl) (fun _ _ _ h => h) (Or.inl ⟨by rfl, ?_⟩) hHeld ?_
  rotate_left
  · intro w hSw
    (try dsimp only at hSw)
    (try simp only [List.getElem_toArray, List.getElem_cons_zero, List.getElem_cons_succ])
    go_simp
    all_goals with_reducible rfl
  try simp only [List.getElem_toArray, List.getElem_cons_zero, List.getElem_cons_succ, Act.put, List.setIfInBounds_toArray, List.set_cons_zero, List.set_cons_succ]
  refine wpAnyH_take (i := 7) (v := ?_) rfl (by kernel_rfl) (by kernel_rfl) (by kernel_rfl) (fun _ _ _ h => h) (Or.inl ⟨by rfl, ?_⟩) hHeld ?_
  rotate_left
  · intro w hSw
    (try dsimp only at hSw)
    (try simp only [List.getElem_toArray, List.getElem_cons_zero, List.getElem_cons_succ])
    go_simp
    all_goals with_reducible rfl
  try simp only [List.getElem_toArray, List.getElem_cons_zero, List.getElem_cons_succ, Act.put, List.setIfInBounds_toArray, List.set_cons_zero, List.set_cons_succ]
  refine wpAnyH_take (i := 8) (v := ?_) rfl (by kernel_rfl) (by kernel_rfl) (by kernel_rfl) (fun _ _ _ h => h) (Or.inl ⟨by rfl, ?_⟩) hHeld ?_
  rotate_left
  · intro w hSw
    (try dsimp only at hSw)
    (try simp only [List.getElem_toArray, List.getElem_cons_zero, List.getElem_cons_succ])
    go_simp
    all_goals with_reducible rfl
  try simp only [List.getElem_toArray, List.getElem_cons_zero, List.getElem_cons_succ, Act.put, List.setIfInBounds_toArray, List.set_cons_zero, List.set_cons_succ]
  refine wpAnyH_take (i := 9) (v := ?_) rfl (by kernel_rfl) (by kernel_rfl) (by kernel_rfl) (fun _ _ _ h => h) (Or.inl ⟨by rfl, ?_⟩) hHeld ?_
  rotate_left
  · intro w hSw
    (try dsimp only at hSw)
    (try simp only [List.getElem_toArray, List.getElem_cons_zero, List.getElem_cons_succ])
    go_simp
    all_goals with_reducible rfl
  try simp only [List.getElem_toArray, List.getElem_cons_zero, List.getElem_cons_succ, Act.put, List.setIfInBounds_toArray, List.set_cons_zero, List.set_cons_succ]
  refine wpAnyH_take (i := 10) (v := ?_) rfl (by kernel_rfl) (by kernel_rfl) (by kernel_rfl) (fun _ _ _ h => h) (Or.inl ⟨by rfl, ?_⟩) hHeld ?_
  rotate_left
  · intro w hSw
    (try dsimp only at hSw)
    (try simp only [List.getElem_toArray, List.getElem_cons_zero, List.getElem_cons_succ])
    go_simp
    all_goals with_reducible rfl
  try simp only [List.getElem_toArray, List.getElem_cons_zero, List.getElem_cons_succ, Act.put, List.setIfInBounds_toArray, List.set_cons_zero, List.set_cons_succ]
  refine wpAnyH_done (by kernel_rfl) ?_ _
  generalize w1.drew = wd at *
  have q0 := HR.out.cell 0 rfl
  have ql := HR.out.lt
  clear m1 hHeld
  go_wp2_with fail
  go_loopw [5] (fun i wr => ∃ k : Nat, i = .int .i64 k ∧ Hid (X ≤ k) ∧ Hid (HRw wr g N (upL l H (X, Y, W, G) k)) ∧ Hid (But (fun q => q = g) wd wr)) (fun i _ => N - (intOf i).toNat)
  case atStart => exact ⟨k0, rfl, Lib.hid (by omega), Lib.hid (by rw [upL_zero _ _ _ _ (by simp only []; omega)]; exact HG.out), Lib.hid (But.of (Below.refl _ _))⟩
  case round =>
    obtain ⟨k, rfl, HX, HGr, HW⟩ := hrel
    have HPr := Lib.hid (HP.out.heap (HW.out.block p HP.out.lt hne))
    have HRr := Lib.hid (HR.out.heap (HW.out.block _ HR.out.lt (by omega)))
    clear q0 ql
    by_cases hkz : (k : Int) < Z
    · have hkb : decide ((k : Int) < Z) = true := by simpa using hkz
      go_wp2_with fail
      have hd : Below wr.heap.size wr wr.drew := (Below.refl _ wr).drew
      replace HRr := Lib.hid (HRr.out.keep hd)
      replace HPr := Lib.hid (HPr.out.keep hd)
      replace HW : Hid (But (fun q => q = g) wd wr.drew) := Lib.hid (HW.out.trans (But.of hd))
      replace HGr : Hid (HRw wr.drew g N (upL l H (X, Y, W, G) k)) := Lib.hid HGr.out
      clear hd
      refine wp_region_held_drew (S := fun wx => (wx.cell? ⟨w.heap.size, 0, none⟩ = some (.int .i64 X) ∧ wx.cell? ⟨w.heap.size, 2, none⟩ = some (.int .i64 W)) ∧ wx.cell? ⟨p, 0, none⟩ = some (.slice (some ⟨g, 0, none⟩) N N)) (by kernel_rfl) (⟨⟨HRr.out.cell 0 rfl, HRr.out.cell 2 rfl⟩, HPr.out.cell 0 rfl⟩) (fun hHeld => ?_)
      generalize wr.drew = we at *
      refine wpAnyH_take (i := 0) (v := ?_) rfl (by kernel_rfl) (by kernel_rfl) (by kernel_rfl) (fun _ _ _ h => h) (Or.inl ⟨by rfl, ?_⟩) hHeld ?_
      rotate_left
      · intro w hSw
        (try dsimp only at hSw)
        (try simp only [List.getElem_toArray, List.getElem_cons_zero])
        go_simp
        all_goals with_reducible rfl
      try simp only [List.getElem_toArray, List.getElem_cons_zero, Act.put, List.setIfInBounds_toArray, List.set_cons_zero, List.set_cons_succ]
      refine wpAnyH_take (i := 1) (v := ?_) rfl (by kernel_rfl) (by kernel_rfl) (by kernel_rfl) (fun _ _ _ h => h) (Or.inl ⟨by rfl, ?_⟩) hHeld ?_
      rotate_left
      · intro w hSw
        (try dsimp only at hSw)
        (try simp only [List.getElem_toArray, List.getElem_cons_zero, List.getElem_cons_succ])
        go_simp
        all_goals with_reducible rfl
      try simp only [List.getElem_toArray, List.getElem_cons_zero, List.getElem_cons_succ, Act.put, List.setIfInBounds_toArray, List.set_cons_zero, List.set_cons_succ]
      refine wpAnyH_take (i := 2) (v := ?_) rfl (by kernel_rfl) (by kernel_rfl) (by kernel_rfl) (fun _ _ _ h => h) (Or.inl ⟨by rfl, ?_⟩) hHeld ?_
      rotate_left
      · intro w hSw
        (try dsimp only at hSw)
        (try simp only [List.getElem_toArray, List.getElem_cons_zero, List.getElem_cons_succ])
        go_simp
        all_goals with_reducible rfl
      try simp only [List.getElem_toArray, List.getElem_cons_zero, List.getElem_cons_succ, Act.put, List.setIfInBounds_toArray, List.set_cons_zero, List.set_cons_succ]
      refine wpAnyH_take (i := 3) (v := ?_) rfl (by kernel_rfl) (by kernel_rfl) (by kernel_rfl) (fun _ _ _ h => h) (Or.inl ⟨by rfl, ?_⟩) hHeld ?_
      rotate_left
      · intro w hSw
        (try dsimp only at hSw)
        (try simp only [List.getElem_toArray, List.getElem_cons_zero, List.getElem_cons_succ])
        go_simp
        all_goals with_reducible rfl
      try simp only [List.getElem_toArray, List.getElem_cons_zero, List.getElem_cons_succ, Act.put, List.setIfInBounds_toArray, List.set_cons_zero, List.set_cons_succ]
      refine wpAnyH_take (i := 4) (v := ?_) rfl (by kernel_rfl) (by kernel_rfl) (by kernel_rfl) (fun _ _ _ h => h) (Or.inl ⟨by rfl, ?_⟩) hHeld ?_
      rotate_left
      · intro w hSw
        (try dsimp only at hSw)
        (try simp only [List.getElem_toArray, List.getElem_cons_zero, List.getElem_cons_succ])
        go_simp
        all_goals with_reducible rfl
      try simp only [List.getElem_toArray, List.getElem_cons_zero, List.getElem_cons_succ, Act.put, List.setIfInBounds_toArray, List.set_cons_zero, List.set_cons_succ]
      refine wpAnyH_take (i := 5) (v := ?_) rfl (by kernel_rfl) (by kernel_rfl) (by kernel_rfl) (fun _ _ _ h => h) (Or.inl ⟨by rfl, ?_⟩) hHeld ?_
      rotate_left
      · intro w hSw
        (try dsimp only at hSw)
        (try simp only [List.getElem_toArray, List.getElem_cons_zero, List.getElem_cons_succ])
        go_simp
        all_goals with_reducible rfl
      try simp only [List.getElem_toArray, List.getElem_cons_zero, List.getElem_cons_succ, Act.put, List.setIfInBounds_toArray, List.set_cons_zero, List.set_cons_succ]
      refine wpAnyH_take (i := 6) (v := ?_) rfl (by kernel_rfl) (by kernel_rfl) (by kernel_rfl) (fun _ _ _ h => h) (Or.inl ⟨by rfl, ?_⟩) hHeld ?_
      rotate_left
      · intro w hSw
        (try dsimp only at hSw)
        (try simp only [List.getElem_toArray, List.getElem_cons_zero, List.getElem_cons_succ])
        go_simp
        all_goals with_reducible rfl
      try simp only [List.getElem_toArray, List.getElem_cons_zero, List.getElem_cons_succ, Act.put, List.setIfInBounds_toArray, List.set_cons_zero, List.set_cons_succ]
      refine wpAnyH_take (i := 7) (v := ?_) rfl (by kernel_rfl) (by kernel_rfl) (by kernel_rfl) (fun _ _ _ h => h) (Or.inl ⟨by rfl, ?_⟩) hHeld ?_
      rotate_left
      · intro w hSw
        (try dsimp only at hSw)
        (try simp only [List.getElem_toArray, List.getElem_cons_zero, List.getElem_cons_succ])
        go_simp
        all_goals with_reducible rfl
      try simp only [List.getElem_toArray, List.getElem_cons_zero, List.getElem_cons_succ, Act.put, List.setIfInBounds_toArray, List.set_cons_zero, List.set_cons_succ]
      refine wpAnyH_take (i := 8) (v := ?_) rfl (by kernel_rfl) (by kernel_rfl) (by kernel_rfl) (fun _ _ _ h => h) (Or.inl ⟨by rfl, ?_⟩) hHeld ?_
      rotate_left
      · intro w hSw
        (try dsimp only at hSw)
        (try simp only [List.getElem_toArray, List.getElem_cons_zero, List.getElem_cons_succ])
        go_simp
        all_goals with_reducible rfl
      try simp only [List.getElem_toArray, List.getElem_cons_zero, List.getElem_cons_succ, Act.put, List.setIfInBounds_toArray, List.set_cons_zero, List.set_cons_succ]
      refine wpAnyH_take (i := 9) (v := ?_) rfl (by kernel_rfl) (by kernel_rfl) (by kernel_rfl) (fun _ _ _ h => h) (Or.inl ⟨by rfl, ?_⟩) hHeld ?_
      rotate_left
      · intro w hSw
        (try dsimp only at hSw)
        (try simp only [List.getElem_toArray, List.getElem_cons_zero, List.getElem_cons_succ])
        go_simp
        all_goals with_reducible rfl
      try simp only [List.getElem_toArray, List.getElem_cons_zero, List.getElem_cons_succ, Act.put, List.setIfInBounds_toArray, List.set_cons_zero, List.set_cons_succ]
      refine wpAnyH_take (i := 10) (v := ?_) rfl (by kernel_rfl) (by kernel_rfl) (by kernel_rfl) (fun _ _ _ h => h) (Or.inl ⟨by rfl, ?_⟩) hHeld ?_
      rotate_left
      · intro w hSw
        (try dsimp only at hSw)
        (try simp only [List.getElem_toArray, List.getElem_cons_zero, List.getElem_cons_succ])
        go_simp
        all_goals with_reducible rfl
      try simp only [List.getElem_toArray, List.getElem_cons_zero, List.getElem_cons_succ, Act.put, List.setIfInBounds_toArray, List.set_cons_zero, List.set_cons_succ]
      refine wpAnyH_take (i := 11) (v := ?_) rfl (by kernel_rfl) (by kernel_rfl) (by kernel_rfl) (fun _ _ _ h => h) (Or.inl ⟨by rfl, ?_⟩) hHeld ?_
      rotate_left
      · intro w hSw
        (try dsimp only at hSw)
        (try simp only [List.getElem_toArray, List.getElem_cons_zero, List.getElem_cons_succ])
        go_simp
        all_goals with_reducible rfl
      try simp only [List.getElem_toArray, List.getElem_cons_zero, List.getElem_cons_succ, Act.put, List.setIfInBounds_toArray, List.set_cons_zero, List.set_cons_succ]
      refine wpAnyH_take (i := 12) (v := ?_) rfl (by kernel_rfl) (by kernel_rfl) (by kernel_rfl) (fun _ _ _ h => h) (Or.inl ⟨by rfl, ?_⟩) hHeld ?_
      rotate_left
      · intro w hSw
        (try dsimp only at hSw)
        (try simp only [List.getElem_toArray, List.getElem_cons_zero, List.getElem_cons_succ])
        go_simp
        all_goals with_reducible rfl
      try simp only [List.getElem_toArray, List.getElem_cons_zero, List.getElem_cons_succ, Act.put, List.setIfInBounds_toArray, List.set_cons_zero, List.set_cons_succ]
      refine wpAnyH_done (by kernel_rfl) ?_ _
      clear hHeld
      have hkN : k < N := by omega
      have hkb2 : decide ((k : Int) < N) = true := by simpa using hkN
      have hX1 := HX.out
      obtain ⟨c0, cf⟩ := HGr.out.cell k hkN
      rw [upL_keep _ _ _ _ (by rw [HN.out]; exact hkN)] at c0
      obtain ⟨y2, hy2⟩ : ∃ y2, max (hgt l k) (max 0 (min (H : Int) (Y + G))).toNat = y2 := ⟨_, rfl⟩
      have hmx := fun w => run_max2i (P := Try.prog) #[3, 3] 3 (hgt l k : Nat) hh w
      rw [show max ((hgt l k : Nat) : Int) hh = (y2 : Int) by omega] at hmx
      have HG6 := HGr.out.store k y2
      have hnx := upL_next l H (X, Y, W, G) k (by rw [HN.out]; exact hkN) hX1 (by simp only []; omega)
      simp only [] at hnx
      rw [hy2] at hnx
      have hset : (upL l H (X, Y, W, G) k).set k y2 = upL l H (X, Y, W, G) ((k : Int) + 1) := hnx
      rw [hset] at HG6
      have HG7 := Lib.hid HG6
      have HX7 : Hid (X ≤ ((k + 1 : Nat) : Int)) := Lib.hid (by omega)
      have HW7 := Lib.hid (HW.out.set ⟨g, k, none⟩ rfl (.int .i64 (y2 : Int)))
      have gl := HGr.out.lt
      have hif : (if ((hgt l k : Nat) : Int) < hh then hh else ((hgt l k : Nat) : Int)) = (y2 : Int) := by split <;> omega
      clear HG6 hnx hset hX1 hy2 HX HGr
      generalize hgt l k = y1 at *
      go_wp2_with fail
      have hd : Below we.heap.size we we.drew := (Below.refl _ we).drew
      replace HPr := Lib.hid (HPr.out.keep hd)
      replace c0 : we.drew.cell? ⟨g, k, none⟩ = some (.int .i64 (y1 : Nat)) := c0
      replace cf : we.drew.frozen? ⟨g, k, none⟩ = false := cf
      replace gl : g < we.drew.heap.size := gl
      replace HG7 : Hid (HRw (we.drew.setCell ⟨g, k, none⟩ (.int .i64 (y2 : Int))) g N (upL l H (X, Y, W, G) ((k : Int) + 1))) := Lib.hid HG7.out
      replace HW7 : Hid (But (fun q => q = g) wd (we.drew.setCell ⟨g, k, none⟩ (.int .i64 (y2 : Int)))) := Lib.hid (((HW.out.trans (But.of hd)).set ⟨g, k, none⟩ rfl (.int .i64 (y2 : Int))))
      clear hd HW HRr
      refine wp_region_held_drew (S := fun wx => wx.cell? ⟨p, 0, none⟩ = some (.slice (some ⟨g, 0, none⟩) N N)) (by kernel_rfl) (HPr.out.cell 0 rfl) (fun hHeld => ?_)
      generalize we.drew = wf at *
      refine wpAnyH_take (i := 0) (v := ?_) rfl (by kernel_rfl) (by kernel_rfl) (by kernel_rfl) (fun _ _ _ h => h) (Or.inl ⟨by rfl, ?_⟩) hHeld ?_
      rotate_left
      · intro w hSw
        (try dsimp only at hSw)
        (try simp only [List.getElem_toArray, List.getElem_cons_zero])
        go_simp
        all_goals with_reducible rfl
      try simp only [List.getElem_toArray, List.getElem_cons_zero, Act.put, List.setIfInBounds_toArray, List.set_cons_zero, List.set_cons_succ]
      refine wpAnyH_take (i := 1) (v := ?_) rfl (by kernel_rfl) (by kernel_rfl) (by kernel_rfl) (fun _ _ _ h => h) (Or.inl ⟨by rfl, ?_⟩) hHeld ?_
      rotate_left
      · intro w hSw
        (try dsimp only at hSw)
        (try simp only [List.getElem_toArray, List.getElem_cons_zero, List.getElem_cons_succ])
        go_simp
        all_goals with_reducible rfl
      try simp only [List.getElem_toArray, List.getElem_cons_zero, List.getElem_cons_succ, Act.put, List.setIfInBounds_toArray, List.set_cons_zero, List.set_cons_succ]
      refine wpAnyH_take (i := 2) (v := ?_) rfl (by kernel_rfl) (by kernel_rfl) (by kernel_rfl) (fun _ _ _ h => h) (Or.inl ⟨by rfl, ?_⟩) hHeld ?_
      rotate_left
      · intro w hSw
        (try dsimp only at hSw)
        (try simp only [List.getElem_toArray, List.getElem_cons_zero, List.getElem_cons_succ])
        go_simp
        all_goals with_reducible rfl
      try simp only [List.getElem_toArray, List.getElem_cons_zero, List.getElem_cons_succ, Act.put, List.setIfInBounds_toArray, List.set_cons_zero, List.set_cons_succ]
      refine wpAnyH_take (i := 3) (v := ?_) rfl (by kernel_rfl) (by kernel_rfl) (by kernel_rfl) (fun _ _ _ h => h) (Or.inl ⟨by rfl, ?_⟩) hHeld ?_
      rotate_left
      · intro w hSw
        (try dsimp only at hSw)
        (try simp only [List.getElem_toArray, List.getElem_cons_zero, List.getElem_cons_succ])
        go_simp
        all_goals with_reducible rfl
      try simp only [List.getElem_toArray, List.getElem_cons_zero, List.getElem_cons_succ, Act.put, List.setIfInBounds_toArray, List.set_cons_zero, List.set_cons_succ]
      refine wpAnyH_take (i := 4) (v := ?_) rfl (by kernel_rfl) (by kernel_rfl) (by kernel_rfl) (fun _ _ _ h => h) (Or.inl ⟨by rfl, ?_⟩) hHeld ?_
      rotate_left
      · intro w hSw
        (try dsimp only at hSw)
        (try simp only [List.getElem_toArray, List.getElem_cons_zero, List.getElem_cons_succ])
        go_simp
        all_goals with_reducible rfl
      try simp only [List.getElem_toArray, List.getElem_cons_zero, List.getElem_cons_succ, Act.put, List.setIfInBounds_toArray, List.set_cons_zero, List.set_cons_succ]
      refine wpAnyH_take (i := 5) (v := ?_) rfl (by kernel_rfl) (by kernel_rfl) (by kernel_rfl) (fun _ _ _ h => h) (Or.inl ⟨by rfl, ?_⟩) hHeld ?_
      rotate_left
      · intro w hSw
        (try dsimp only at hSw)
        (try simp only [List.getElem_toArray, List.getElem_cons_zero, List.getElem_cons_succ])
        go_simp
        all_goals with_reducible rfl
      try simp only [List.getElem_toArray, List.getElem_cons_zero, List.getElem_cons_succ, Act.put, List.setIfInBounds_toArray, List.set_cons_zero, List.set_cons_succ]
      refine wpAnyH_take (i := 6) (v := ?_) rfl (by kernel_rfl) (by kernel_rfl) (by kernel_rfl) (fun _ _ _ h => h) (Or.inl ⟨by rfl, ?_⟩) hHeld ?_
      rotate_left
      · intro w hSw
        (try dsimp only at hSw)
        (try simp only [List.getElem_toArray, List.getElem_cons_zero, List.getElem_cons_succ])
        go_simp
        all_goals with_reducible rfl
      try simp only [List.getElem_toArray, List.getElem_cons_zero, List.getElem_cons_succ, Act.put, List.setIfInBounds_toArray, List.set_cons_zero, List.set_cons_succ]
      refine wpAnyH_take (i := 7) (v := ?_) rfl (by kernel_rfl) (by kernel_rfl) (by kernel_rfl) (fun _ _ _ h => h) (Or.inl ⟨by rfl, ?_⟩) hHeld ?_
      rotate_left
      · intro w hSw
        (try dsimp only at hSw)
        (try simp only [List.getElem_toArray, List.getElem_cons_zero, List.getElem_cons_succ])
        go_simp
        all_goals with_reducible rfl
      try simp only [List.getElem_toArray, List.getElem_cons_zero, List.getElem_cons_succ, Act.put, List.setIfInBounds_toArray, List.set_cons_zero, List.set_cons_succ]
      refine wpAnyH_take (i := 8) (v := ?_) rfl (by kernel_rfl) (by kernel_rfl) (by kernel_rfl) (fun _ _ _ h => h) (Or.inl ⟨by rfl, ?_⟩) hHeld ?_
      rotate_left
      · intro w hSw
        (try dsimp only at hSw)
        (try simp only [List.getElem_toArray, List.getElem_cons_zero, List.getElem_cons_succ])
        go_simp
        all_goals with_reducible rfl
      try simp only [List.getElem_toArray, List.getElem_cons_zero, List.getElem_cons_succ, Act.put, List.setIfInBounds_toArray, List.set_cons_zero, List.set_cons_succ]
      refine wpAnyH_take (i := 9) (v := ?_) rfl (by kernel_rfl) (by kernel_rfl) (by kernel_rfl) (fun _ _ _ h => h) (Or.inl ⟨by rfl, ?_⟩) hHeld ?_
      rotate_left
      · intro w hSw
        (try dsimp only at hSw)
        (try simp only [List.getElem_toArray, List.getElem_cons_zero, List.getElem_cons_succ])
        go_simp
        all_goals with_reducible rfl
      try simp only [List.getElem_toArray, List.getElem_cons_zero, List.getElem_cons_succ, Act.put, List.setIfInBounds_toArray, List.set_cons_zero, List.set_cons_succ]
      refine wpAnyH_take (i := 10) (v := ?_) rfl (by kernel_rfl) (by kernel_rfl) (by kernel_rfl) (fun _ _ _ h => h) (Or.inl ⟨by rfl, ?_⟩) hHeld ?_
      rotate_left
      · intro w hSw
        (try dsimp only at hSw)
        (try simp only [List.getElem_toArray, List.getElem_cons_zero, List.getElem_cons_succ])
        go_simp
        all_goals with_reducible rfl
      try simp only [List.getElem_toArray, List.getElem_cons_zero, List.getElem_cons_succ, Act.put, List.setIfInBounds_toArray, List.set_cons_zero, List.set_cons_succ]
      refine wpAnyH_take (i := 12) (v := ?_) rfl (by kernel_rfl) (by kernel_rfl) (by kernel_rfl) (fun _ _ _ h => h) (Or.inl ⟨by rfl, ?_⟩) hHeld ?_
      rotate_left
      · intro w hSw
        (try dsimp only at hSw)
        (try simp only [List.getElem_toArray, List.getElem_cons_zero, List.getElem_cons_succ])
        go_simp
        all_goals with_reducible rfl
      try simp only [List.getElem_toArray, List.getElem_cons_zero, List.getElem_cons_succ, Act.put, List.setIfInBounds_toArray, List.set_cons_zero, List.set_cons_succ]
      refine wpAnyH_ready (rs := [11]) (by kernel_rfl) (by simp) ?_
      refine AllReadyH.cons rfl (fun K hK => ?_) AllReadyH.nil
      try simp only [List.getElem_toArray, List.getElem_cons_zero, List.getElem_cons_succ]
      go_simp
      refine hK.out _ _ (HPr.out.cell 0 rfl) (fun hHeld => ?_)
      clear hK K
      try simp only [List.getElem_toArray, List.getElem_cons_zero, List.getElem_cons_succ, Act.put, List.setIfInBounds_toArray, List.set_cons_zero, List.set_cons_succ]
      refine wpAnyH_take (i := 13) (v := ?_) rfl (by kernel_rfl) (by kernel_rfl) (by kernel_rfl) (fun _ _ _ h => h) (Or.inl ⟨by rfl, ?_⟩) hHeld ?_
      rotate_left
      · intro w hSw
        (try dsimp only at hSw)
        (try simp only [List.getElem_toArray, List.getElem_cons_zero, List.getElem_cons_succ])
        go_simp
        all_goals with_reducible rfl
      try simp only [List.getElem_toArray, List.getElem_cons_zero, List.getElem_cons_succ, Act.put, List.setIfInBounds_toArray, List.set_cons_zero, List.set_cons_succ]
      refine wpAnyH_take (i := 14) (v := ?_) rfl (by kernel_rfl) (by kernel_rfl) (by kernel_rfl) (fun _ _ _ h => h) (Or.inl ⟨by rfl, ?_⟩) hHeld ?_
      rotate_left
      · intro w hSw
        (try dsimp only at hSw)
        (try simp only [List.getElem_toArray, List.getElem_cons_zero, List.getElem_cons_succ])
        go_simp
        all_goals with_reducible rfl
      try simp only [List.getElem_toArray, List.getElem_cons_zero, List.getElem_cons_succ, Act.put, List.setIfInBounds_toArray, List.set_cons_zero, List.set_cons_succ]
      refine wpAnyH_ready (rs := [15]) (by kernel_rfl) (by simp) ?_
      refine AllReadyH.cons rfl (fun K hK => ?_) AllReadyH.nil
      try simp only [List.getElem_toArray, List.getElem_cons_zero, List.getElem_cons_succ]
      go_simp
      (try rw [hif])
      replace HPr := Lib.hid (HPr.out.heap (heap_set wf ⟨g, k, none⟩ (.int .i64 (y2 : Int)) p hne))
      clear c0 cf
      refine hK.out _ _ (HPr.out.cell 0 rfl) (fun hHeld => ?_)
      clear hK K
      try simp only [List.getElem_toArray, List.getElem_cons_zero, List.getElem_cons_succ, Act.put, List.setIfInBounds_toArray, List.set_cons_zero, List.set_cons_succ]
      refine wpAnyH_done (by kernel_rfl) ?_ _
      go_wp2_with fail
      exact ⟨⟨k + 1, by go_num, HX7, HG7, HW7⟩, by simp [intOf]; omega⟩
    · have hkb : decide ((k : Int) < Z) = false := by simpa using hkz
      go_wp2_with fail
      have hd : Below wr.heap.size wr wr.drew := (Below.refl _ wr).drew
      replace HRr := Lib.hid (HRr.out.keep hd)
      replace HPr := Lib.hid (HPr.out.keep hd)
      replace HW : Hid (But (fun q => q = g) wd wr.drew) := Lib.hid (HW.out.trans (But.of hd))
      replace HGr : Hid (HRw wr.drew g N (upL l H (X, Y, W, G) k)) := Lib.hid HGr.out
      clear hd
      refine wp_region_held_drew (S := fun wx => (wx.cell? ⟨w.heap.size, 0, none⟩ = some (.int .i64 X) ∧ wx.cell? ⟨w.heap.size, 2, none⟩ = some (.int .i64 W)) ∧ wx.cell? ⟨p, 0, none⟩ = some (.slice (some ⟨g, 0, none⟩) N N)) (by kernel_rfl) (⟨⟨HRr.out.cell 0 rfl, HRr.out.cell 2 rfl⟩, HPr.out.cell 0 rfl⟩) (fun hHeld => ?_)
      generalize wr.drew = we at *
      refine wpAnyH_take (i := 0) (v := ?_) rfl (by kernel_rfl) (by kernel_rfl) (by kernel_rfl) (fun _ _ _ h => h) (Or.inl ⟨by rfl, ?_⟩) hHeld ?_
      rotate_left
      · intro w hSw
        (try dsimp only at hSw)
        (try simp only [List.getElem_toArray, List.getElem_cons_zero])
        go_simp
        all_goals with_reducible rfl
      try simp only [List.getElem_toArray, List.getElem_cons_zero, Act.put, List.setIfInBounds_toArray, List.set_cons_zero, List.set_cons_succ]
      refine wpAnyH_take (i := 1) (v := ?_) rfl (by kernel_rfl) (by kernel_rfl) (by kernel_rfl) (fun _ _ _ h => h) (Or.inl ⟨by rfl, ?_⟩) hHeld ?_
      rotate_left
      · intro w hSw
        (try dsimp only at hSw)
        (try simp only [List.getElem_toArray, List.getElem_cons_zero, List.getElem_cons_succ])
        go_simp
        all_goals with_reducible rfl
      try simp only [List.getElem_toArray, List.getElem_cons_zero, List.getElem_cons_succ, Act.put, List.setIfInBounds_toArray, List.set_cons_zero, List.set_cons_succ]
      refine wpAnyH_take (i := 2) (v := ?_) rfl (by kernel_rfl) (by kernel_rfl) (by kernel_rfl) (fun _ _ _ h => h) (Or.inl ⟨by rfl, ?_⟩) hHeld ?_
      rotate_left
      · intro w hSw
        (try dsimp only at hSw)
        (try simp only [List.getElem_toArray, List.getElem_cons_zero, List.getElem_cons_succ])
        go_simp
        all_goals with_reducible rfl
      try simp only [List.getElem_toArray, List.getElem_cons_zero, List.getElem_cons_succ, Act.put, List.setIfInBounds_toArray, List.set_cons_zero, List.set_cons_succ]
      refine wpAnyH_take (i := 3) (v := ?_) rfl (by kernel_rfl) (by kernel_rfl) (by kernel_rfl) (fun _ _ _ h => h) (Or.inl ⟨by rfl, ?_⟩) hHeld ?_
      rotate_left
      · intro w hSw
        (try dsimp only at hSw)
        (try simp only [List.getElem_toArray, List.getElem_cons_zero, List.getElem_cons_succ])
        go_simp
        all_goals with_reducible rfl
      try simp only [List.getElem_toArray, List.getElem_cons_zero, List.getElem_cons_succ, Act.put, List.setIfInBounds_toArray, List.set_cons_zero, List.set_cons_succ]
      refine wpAnyH_take (i := 4) (v := ?_) rfl (by kernel_rfl) (by kernel_rfl) (by kernel_rfl) (fun _ _ _ h => h) (Or.inl ⟨by rfl, ?_⟩) hHeld ?_
      rotate_left
      · intro w hSw
        (try dsimp only at hSw)
        (try simp only [List.getElem_toArray, List.getElem_cons_zero, List.getElem_cons_succ])
        go_simp
        all_goals with_reducible rfl
      try simp only [List.getElem_toArray, List.getElem_cons_zero, List.getElem_cons_succ, Act.put, List.setIfInBounds_toArray, List.set_cons_zero, List.set_cons_succ]
      refine wpAnyH_take (i := 5) (v := ?_) rfl (by kernel_rfl) (by kernel_rfl) (by kernel_rfl) (fun _ _ _ h => h) (Or.inl ⟨by rfl, ?_⟩) hHeld ?_
      rotate_left
      · intro w hSw
        (try dsimp only at hSw)
        (try simp only [List.getElem_toArray, List.getElem_cons_zero, List.getElem_cons_succ])
        go_simp
        all_goals with_reducible rfl
      try simp only [List.getElem_toArray, List.getElem_cons_zero, List.getElem_cons_succ, Act.put, List.setIfInBounds_toArray, List.set_cons_zero, List.set_cons_succ]
      refine wpAnyH_take (i := 6) (v := ?_) rfl (by kernel_rfl) (by kernel_rfl) (by kernel_rfl) (fun _ _ _ h => h) (Or.inl ⟨by rfl, ?_⟩) hHeld ?_
      rotate_left
      · intro w hSw
        (try dsimp only at hSw)
        (try simp only [List.getElem_toArray, List.getElem_cons_zero, List.getElem_cons_succ])
        go_simp
        all_goals with_reducible rfl
      try simp only [List.getElem_toArray, List.getElem_cons_zero, List.getElem_cons_succ, Act.put, List.setIfInBounds_toArray, List.set_cons_zero, List.set_cons_succ]
      refine wpAnyH_take (i := 7) (v := ?_) rfl (by kernel_rfl) (by kernel_rfl) (by kernel_rfl) (fun _ _ _ h => h) (Or.inl ⟨by rfl, ?_⟩) hHeld ?_
      rotate_left
      · intro w hSw
        (try dsimp only at hSw)
        (try simp only [List.getElem_toArray, List.getElem_cons_zero, List.getElem_cons_succ])
        go_simp
        all_goals with_reducible rfl
      try simp only [List.getElem_toArray, List.getElem_cons_zero, List.getElem_cons_succ, Act.put, List.setIfInBounds_toArray, List.set_cons_zero, List.set_cons_succ]
      refine wpAnyH_take (i := 8) (v := ?_) rfl (by kernel_rfl) (by kernel_rfl) (by kernel_rfl) (fun _ _ _ h => h) (Or.inl ⟨by rfl, ?_⟩) hHeld ?_
      rotate_left
      · intro w hSw
        (try dsimp only at hSw)
        (try simp only [List.getElem_toArray, List.getElem_cons_zero, List.getElem_cons_succ])
        go_simp
        all_goals with_reducible rfl
      try simp only [List.getElem_toArray, List.getElem_cons_zero, List.getElem_cons_succ, Act.put, List.setIfInBounds_toArray, List.set_cons_zero, List.set_cons_succ]
      refine wpAnyH_take (i := 9) (v := ?_) rfl (by kernel_rfl) (by kernel_rfl) (by kernel_rfl) (fun _ _ _ h => h) (Or.inl ⟨by rfl, ?_⟩) hHeld ?_
      rotate_left
      · intro w hSw
        (try dsimp only at hSw)
        (try simp only [List.getElem_toArray, List.getElem_cons_zero, List.getElem_cons_succ])
        go_simp
        all_goals with_reducible rfl
      try simp only [List.getElem_toArray, List.getElem_cons_zero, List.getElem_cons_succ, Act.put, List.setIfInBounds_toArray, List.set_cons_zero, List.set_cons_succ]
      refine wpAnyH_take (i := 10) (v := ?_) rfl (by kernel_rfl) (by kernel_rfl) (by kernel_rfl) (fun _ _ _ h => h) (Or.inl ⟨by rfl, ?_⟩) hHeld ?_
      rotate_left
      · intro w hSw
        (try dsimp only at hSw)
        (try simp only [List.getElem_toArray, List.getElem_cons_zero, List.getElem_cons_succ])
        go_simp
        all_goals with_reducible rfl
      try simp only [List.getElem_toArray, List.getElem_cons_zero, List.getElem_cons_succ, Act.put, List.setIfInBounds_toArray, List.set_cons_zero, List.set_cons_succ]
      refine wpAnyH_take (i := 11) (v := ?_) rfl (by kernel_rfl) (by kernel_rfl) (by kernel_rfl) (fun _ _ _ h => h) (Or.inl ⟨by rfl, ?_⟩) hHeld ?_
      rotate_left
      · intro w hSw
        (try dsimp only at hSw)
        (try simp only [List.getElem_toArray, List.getElem_cons_zero, List.getElem_cons_succ])
        go_simp
        all_goals with_reducible rfl
      try simp only [List.getElem_toArray, List.getElem_cons_zero, List.getElem_cons_succ, Act.put, List.setIfInBounds_toArray, List.set_cons_zero, List.set_cons_succ]
      refine wpAnyH_take (i := 12) (v := ?_) rfl (by kernel_rfl) (by kernel_rfl) (by kernel_rfl) (fun _ _ _ h => h) (Or.inl ⟨by rfl, ?_⟩) hHeld ?_
      rotate_left
      · intro w hSw
        (try dsimp only at hSw)
        (try simp only [List.getElem_toArray, List.getElem_cons_zero, List.getElem_cons_succ])
        go_simp
        all_goals with_reducible rfl
      try simp only [List.getElem_toArray, List.getElem_cons_zero, List.getElem_cons_succ, Act.put, List.setIfInBounds_toArray, List.set_cons_zero, List.set_cons_succ]
      refine wpAnyH_done (by kernel_rfl) ?_ _
      clear hHeld
      go_wp2_with fail
      have HE := HGr.out
      rw [upL_end _ _ _ _ (by rw [HN.out]; simp only []; omega)] at HE
      refine bodyPost_end (v := .tuple #[]) (by simp [results, Try.results25, go_sem]) rfl ⟨rfl, ⟨p, g, rfl, hne, HKK.out, by rw [upL_length, HN.out]; exact HPr.out, by rw [upL_length, HN.out]; rw [HN.out] at HE; exact HE, by rw [upL_length, HN.out]; exact h1, h2, upL_le H3.out⟩, ?_⟩
      exact (But.of AB).trans ⟨HW.out.os, HW.out.tape, HW.out.output, HW.out.size, fun k hk hks => HW.out.block k hk (fun e => hks ((HKK.out k).2 (.inr e)))⟩

set_option maxRecDepth 100000 in
set_option maxHeartbeats 3200000 in
theorem prebuild_any (m n : Int) (vr : Value) (rs : List Rc) (w : World) (hrr : RRd w vr rs) (hrl : rs.length ≤ 1000) (hin : ∀ r ∈ rs, InR r) : Calls Try.prog 17 #[.int .i64 m, .int .i64 n, vr] w fun e w' => ∃ ks v, e = .returned v ∧ Rsky w' ks v (rebL (side m) (side n) rs) (side n) ∧ (∀ g, ks g → w.heap.size ≤ g) ∧ Below w.heap.size w w' := by
  have HOF := Lib.hid (pof_any m n w)
  have HRR := Lib.hid hrr
  have HIN := Lib.hid hin
  have HRA := Lib.hid (fun ks v l H X Y W G w h hr => praise_any ks v l H X Y W G w h hr)
  obtain ⟨Ar, capr, rfl, hcr, -⟩ := id hrr
  obtain ⟨M, hM⟩ : ∃ M, rs.length = M := ⟨_, rfl⟩
  have HM := Lib.hid hM
  rw [hM] at HRR hrl hcr
  rw [hM]
  rw [← rebL_nil (side m) (side n)] at HOF
  generalize side m = S0 at *
  generalize side n = S1 at *
  clear hM hrr hin
  go_enter Try.func17, Try.ntmps17
  go_wp2_with fail
  refine HOF.out.mono ?_
  rintro e w1 ⟨ks, v, rfl, hR, hks, hb⟩
  obtain ⟨pa, rfl⟩ : ∃ p, v = .pointer (some p) := by obtain ⟨p, g, e, _⟩ := hR; exact ⟨_, e⟩
  have HR1 := Lib.hid hR
  have HK1 := Lib.hid hks
  have HB1 := Lib.hid hb
  clear HOF hR hks hb
  go_wp2_with fail
  go_loopw [15] (fun i wr => ∃ r : Nat, r ≤ M ∧ i = .int .i64 r ∧ Hid (Rsky wr ks (.pointer (some pa)) (rebL S0 S1 (rs.take r)) S1) ∧ Hid (Below w.heap.size w wr)) (fun i _ => M - (intOf i).toNat)
  case atStart => exact ⟨0, Nat.zero_le _, rfl, HR1, HB1⟩
  case round =>
    clear HR1 HB1
    obtain ⟨r, hr, rfl, HS, HB⟩ := hrel
    by_cases hrn : r < M
    · have hrb : decide ((r : Int) < M) = true := by simp; omega
      obtain ⟨⟨R0, R1, R2, R3⟩, hp⟩ : ∃ p, rs[r]? = some p := ⟨_, List.getElem?_eq_getElem (by rw [HM.out]; exact hrn)⟩
      obtain ⟨ar, rfl, har, x0, x1, x2, x3⟩ := (HRR.out.keep HB.out).at r _ hp
      simp only [] at x0 x1 x2 x3
      have HRI := HIN.out _ (List.mem_of_getElem? hp)
      have HNX : Hid (upL (rebL S0 S1 (rs.take r)) S1 (R0, R1, R2, R3) (rebL S0 S1 (rs.take r)).length = rebL S0 S1 (rs.take (r + 1))) := Lib.hid (by rw [upL_reb, List.take_add_one, hp]; rfl)
      have hal := (Below.refl _ wr).alloc (Nat.le_refl _) (.cells #[.int .i64 R0, .int .i64 R1, .int .i64 R2, .int .i64 R3] 31)
      have HSa := Lib.hid (HS.out.keep hal)
      have HBa := Lib.hid (below2 HB.out hal)
      have HRC := HRA.out ks (.pointer (some pa)) _ S1 R0 R1 R2 R3 _ HSa.out HRI
      simp only [rcV] at HRC
      rw [HNX.out] at HRC
      replace HRC := Lib.hid HRC
      clear hal HS HNX hp
      go_wp2_with fail
      refine HRC.out.mono ?_
      rintro e w3 ⟨rfl, hS, hb⟩
      have HS3 := Lib.hid hS
      have HB3 := Lib.hid (HBa.out.trans (hb.below (B := w.heap.size) (fun q hq => by have := HK1.out q hq; omega) HBa.out.size))
      clear hS hb HSa HBa HRC
      go_wp2_with fail
      exact ⟨⟨r + 1, hrn, by go_num, HS3, HB3⟩, by simp [intOf]; omega⟩
    · obtain rfl : r = M := by omega
      have hrb : decide ((r : Int) < r) = false := by simp
      have hfull : rs.take r = rs := List.take_of_length_le (by rw [HM.out]; exact Nat.le_refl _)
      rw [hfull] at HS
      clear hfull
      go_wp2_with fail
      go_ret
      exact ⟨ks, _, rfl, HS.out, HK1.out, HB.out⟩

end Go.Proofs.Ytklajpadnbeplaa
