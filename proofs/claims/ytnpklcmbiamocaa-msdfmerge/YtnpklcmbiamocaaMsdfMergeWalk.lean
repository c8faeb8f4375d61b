/-
  The walk of punchcutlaw12.MsdfMerge, over what the program is to do (no claim is made here).
-/
import Derived.Test.YtnpklcmbiamocaaMsd5
import Derived.OpenShut
namespace Go.Proofs.Ytnpklcmbiamocaa
open Go.RowKit

theorem run_max8 {P : Program} (ats : Array TypeId) (ty : TypeId) (a b : Int) (w : World) : Sem.run P (Builtin.max_ ats ty #[.int .i8 a, .int .i8 b]) w = .ok (.int .i8 (max a b)) w := by
  simp [Builtin.max_, Builtin.max2, Int.max_def]; split <;> split <;> (try omega) <;> (try rfl) <;> (congr 2; omega)
theorem w8 {a : Int} (h1 : -128 ≤ a) (h2 : a ≤ 127) : IntKind.i8.wrap a = a := by unfold IntKind.wrap; simp [IntKind.bits, IntKind.signed]; omega

theorem padN_len (bs : List Nat) (n : Nat) : (padN bs n).length = n := by unfold padN; rw [List.length_append, List.length_take, List.length_replicate]; omega
theorem padN_lt (bs : List Nat) (n : Nat) (h : ∀ b ∈ bs, b < 256) : ∀ b ∈ padN bs n, b < 256 := by
  intro b hb
  unfold padN at hb
  rcases List.mem_append.1 hb with h1 | h1
  · exact h b (List.mem_of_mem_take h1)
  · rw [(List.mem_replicate.1 h1).2]; omega

theorem BRow.aside {w : World} {base F k : Nat} {V : Value} {bs : List Nat} (h : BRow w base V bs) (hne : ∀ g, V.ownBlock = some g → g ≠ F) (x : Value) : BRow (w.setCell ⟨F, k, none⟩ x) base V bs := own_blocks h fun g hg => heap_set w _ x g (hne g hg)
set_option maxRecDepth 100000 in
/-- append(s, b) of one byte. -/
theorem bpush_list {w : World} {ops : Array Oper} {rest : List Oper} {o : Oper} {a : Act} {Q : Exit → Act → World → Prop} (hgd : o.guard = none) (s x : Operand)
    (ho : o.op = .call { callee := .builtin .append, args := #[s, x], argTypes := #[25, 25] }) (base : Nat) (u : Value) (es : List Nat) (N : Nat) (hs : a.eval s = u) (hown : BRow w base u es) (hN : es.length = N)
    (g1 : Nat) (b : Nat) (hx : a.eval x = .slice (some ⟨g1, 0, none⟩) 1 1) (hc : w.cell? ⟨g1, 0, none⟩ = some (.int .u8 b)) (hlen : N ≤ 1000) (hbase : base ≤ w.heap.size)
    (h : ∀ A' cap' w', BRow w' base (.slice A' (N + 1) cap') (es ++ [b]) → w.grownBy w' u.ownBlock → Below base w w' → (∀ q, (Value.slice A' (N + 1) cap').ownBlock = some q → u.ownBlock = some q ∨ q = w.heap.size) → wpList Try.prog ops Q rest (a.put o.dst (.slice A' (N + 1) cap')) w') :
    wpList Try.prog ops Q (o :: rest) a w := by
  refine wpList_plain hgd fun _ hK => ?_
  obtain ⟨i0, hi0, hz0, hz1, hz2⟩ := infos binfo
  refine wp_append_lies w s x 25 ho base 5 i0 _ 1 1 Try.underlying25 hi0 hz0 hz1 hz2 rfl (by omega) u N (bvals es) hs (BRow.own hown hN) ⟨g1, 0, none⟩ 1 1 (bvals [b]) hx rfl (fun j v hj => ?_) (bvals_one _) (by omega) (by unfold maxLen; omega) (by omega) hbase _ rfl ?_
  · have hl := (List.getElem?_eq_some_iff.1 hj).1
    rw [bvals_length] at hl
    simp only [List.length_cons, List.length_nil] at hl
    obtain rfl : j = 0 := by omega
    simp only [bvals, List.map_cons, List.map_nil, List.getElem?_cons_zero, Option.some.injEq] at hj
    rw [← hj]
    exact hc
  · intro g cap' w' hown' hgrow hat _
    refine hK _ _ (h _ _ w' ?_ hgrow ((Below.refl base w).grown hgrow hbase (fun q hq => (World.ownsRow.lt hown q hq).1)) (fun q hq => by
      have : g = q := by simpa [Value.ownBlock] using hq
      rw [← this]
      exact hat))
    unfold BRow
    rw [List.length_append, hN, bvals_append]
    exact hown'

set_option maxRecDepth 100000 in
set_option maxHeartbeats 6400000 in
theorem msdfMerge_walk (H : CornOK) (K : MsdfOK) (A0 : Option Addr) (l0 c0 : Nat) (b0 : List Nat) (A1 : Option Addr) (l1 c1 : Nat) (b1 : List Nat) (A2 : Option Addr) (l2 c2 : Nat) (b2 : List Nat) (x y z : Int) (w : World)
    (h0 : BRd w (.slice A0 l0 c0) b0) (_ : b0.length = l0) (h1 : BRd w (.slice A1 l1 c1) b1) (_ : b1.length = l1) (h2 : BRd w (.slice A2 l2 c2) b2) (_ : b2.length = l2) (hx : -128 ≤ x ∧ x ≤ 127) (hy : -128 ≤ y ∧ y ≤ 127) (hz : 0 ≤ z ∧ z ≤ 255) :
    Calls Try.prog 6 #[.slice A0 l0 c0, .slice A1 l1 c1, .slice A2 l2 c2, .int .i8 x, .int .i8 y, .int .u8 z] w fun e w' => e = .returned (.bool true) ∧ Below w.heap.size w w' := by
  have HAW := Lib.hid (fun w => awake12 H K w)
  have HI0 := Lib.hid h0
  have hbb : (∀ b ∈ b0, b < 256) ∧ (∀ b ∈ b1, b < 256) ∧ (∀ b ∈ b2, b < 256) := by
    obtain ⟨_, _, _, _, _, q0, _⟩ := h0
    obtain ⟨_, _, _, _, _, q1, _⟩ := h1
    obtain ⟨_, _, _, _, _, q2, _⟩ := h2
    exact ⟨q0, q1, q2⟩
  have HBB := Lib.hid hbb
  have HI1 := Lib.hid h1
  have HI2 := Lib.hid h2
  obtain ⟨X, hX⟩ : ∃ X, max x 0 = X := ⟨_, rfl⟩
  obtain ⟨Y, hY⟩ : ∃ X, max y 0 = X := ⟨_, rfl⟩
  obtain ⟨u, hu⟩ : ∃ u : Nat, X % 20 = u := ⟨(X % 20).toNat, by omega⟩
  obtain ⟨v, hv⟩ : ∃ u : Nat, Y % 20 = u := ⟨(Y % 20).toNat, by omega⟩
  have HM0 : ∀ w, Sem.run Try.prog (Builtin.max_ #[50, 50] 50 #[.int .i8 x, .int .i8 0]) w = .ok (.int .i8 X) w := fun w => by rw [run_max8, hX]
  have HM1 : ∀ w, Sem.run Try.prog (Builtin.max_ #[50, 50] 50 #[.int .i8 y, .int .i8 0]) w = .ok (.int .i8 Y) w := fun w => by rw [run_max8, hY]
  have hXu : X.tmod 20 = (u : Int) := by rw [Int.tmod_eq_emod_of_nonneg (by omega)]; exact hu
  have hYv : Y.tmod 20 = (v : Int) := by rw [Int.tmod_eq_emod_of_nonneg (by omega)]; exact hv
  have bu : u ≤ 19 := by omega
  have bv : v ≤ 19 := by omega
  have zu : IntKind.i8.wrap (u : Int) = u := w8 (by omega) (by omega)
  have zv : IntKind.i8.wrap (v : Int) = v := w8 (by omega) (by omega)
  have HB0 := Lib.hid (alloc2 w (.cells #[.int .i8 x] 50) (.cells #[.int .i8 y] 50))
  have HX0 := Lib.hid ((Blk.new w 50 [.int .i8 x] rfl).alloc (.cells #[.int .i8 y] 50))
  have HY0 := Lib.hid (Blk.new (w.alloc (.cells #[.int .i8 x] 50)) 50 [.int .i8 y] (g := w.heap.size + 1) (by simp))
  clear hX hY hu hv hx hy h0 h1 h2 hbb
  go_enter Try.func6, Try.ntmps6
  go_wp2_with fail
  refine (HAW.out _).mono ?_
  rintro e w1 ⟨rfl, hb⟩
  have HX1 := Lib.hid (HX0.out.keep hb)
  have HY1 := Lib.hid (HY0.out.keep hb)
  have HB1 := Lib.hid (below2 HB0.out hb)
  clear hb HX0 HY0 HB0 HAW
  go_upto_region 3 with fail
  go_cut [23] (fun _ wx => Hid (Blk wx w.heap.size 50 [.int .i8 u]) ∧ Hid (Blk wx (w.heap.size + 1) 50 [.int .i8 v]) ∧ Hid (Below w.heap.size w wx))
  case first =>
    have hd : Below w1.heap.size w1 w1.drew := (Below.refl _ w1).drew
    have AB := HB1.out.drew
    replace HX1 := Lib.hid (HX1.out.keep hd)
    replace HY1 := Lib.hid (HY1.out.keep hd)
    clear hd HB1
    refine wp_region_held_drew (S := fun _ => True) (by kernel_rfl) (trivial) (fun hHeld => ?_)
    generalize w1.drew = w2 at *
    refine wpAnyH_ready (rs := [0, 3]) (by kernel_rfl) (by simp) ?_
    refine AllReadyH.cons rfl (fun K hK => ?_) (AllReadyH.cons rfl (fun K hK => ?_) AllReadyH.nil)
    · try simp only [List.getElem_toArray, List.getElem_cons_zero]
      have q0 := HX1.out.cell 0 rfl
      go_simp
      clear q0
      refine hK.out _ _ (trivial) (fun hHeld => ?_)
      clear hK K
      try simp only [List.getElem_toArray, List.getElem_cons_zero, List.getElem_cons_succ, Act.put, List.setIfInBounds_toArray, List.set_cons_zero, List.set_cons_succ]
      refine wpAnyH_take (i := 1) (v := ?_) rfl (by kernel_rfl) (by kernel_rfl) (by kernel_rfl) (fun _ _ _ h => h) (Or.inl ⟨by rfl, ?_⟩) hHeld ?_
      rotate_left
      · intro w hSw
        (try dsimp only at hSw)
        (try simp only [List.getElem_toArray, List.getElem_cons_zero, List.getElem_cons_succ])
        go_simp
        all_goals with_reducible rfl
      try simp only [List.getElem_toArray, List.getElem_cons_zero, List.getElem_cons_succ, Act.put, List.setIfInBounds_toArray, List.set_cons_zero, List.set_cons_succ]
      refine wpAnyH_take (i := 2) (v := ?_) rfl (by kernel_rfl) (by kernel_rfl) (by kernel_rfl) (fun _ _ _ h => h) (Or.inl ⟨by rfl, ?_⟩) hHeld ?_
      rotate_left
      · intro w hSw
        (try dsimp only at hSw)
        (try simp only [List.getElem_toArray, List.getElem_cons_zero, List.getElem_cons_succ])
        go_simp
        all_goals with_reducible rfl
      try simp only [List.getElem_toArray, List.getElem_cons_zero, List.getElem_cons_succ, Act.put, List.setIfInBounds_toArray, List.set_cons_zero, List.set_cons_succ]
      refine wpAnyH_ready (rs := [3, 6]) (by kernel_rfl) (by simp) ?_
      refine AllReadyH.cons rfl (fun K hK => ?_) (AllReadyH.cons rfl (fun K hK => ?_) AllReadyH.nil)
      · try simp only [List.getElem_toArray, List.getElem_cons_zero, List.getElem_cons_succ]
        have q0 := HY1.out.cell 0 rfl
        go_simp
        clear q0
        refine hK.out _ _ (trivial) (fun hHeld => ?_)
        clear hK K
        try simp only [List.getElem_toArray, List.getElem_cons_zero, List.getElem_cons_succ, Act.put, List.setIfInBounds_toArray, List.set_cons_zero, List.set_cons_succ]
        refine wpAnyH_take (i := 4) (v := ?_) rfl (by kernel_rfl) (by kernel_rfl) (by kernel_rfl) (fun _ _ _ h => h) (Or.inl ⟨by rfl, ?_⟩) hHeld ?_
        rotate_left
        · intro w hSw
          (try dsimp only at hSw)
          (try simp only [List.getElem_toArray, List.getElem_cons_zero, List.getElem_cons_succ])
          go_simp
          all_goals with_reducible rfl
        try simp only [List.getElem_toArray, List.getElem_cons_zero, List.getElem_cons_succ, Act.put, List.setIfInBounds_toArray, List.set_cons_zero, List.set_cons_succ]
        refine wpAnyH_take (i := 5) (v := ?_) rfl (by kernel_rfl) (by kernel_rfl) (by kernel_rfl) (fun _ _ _ h => h) (Or.inl ⟨by rfl, ?_⟩) hHeld ?_
        rotate_left
        · intro w hSw
          (try dsimp only at hSw)
          (try simp only [List.getElem_toArray, List.getElem_cons_zero, List.getElem_cons_succ])
          go_simp
          all_goals with_reducible rfl
        try simp only [List.getElem_toArray, List.getElem_cons_zero, List.getElem_cons_succ, Act.put, List.setIfInBounds_toArray, List.set_cons_zero, List.set_cons_succ]
        refine wpAnyH_ready (rs := [6]) (by kernel_rfl) (by simp) ?_
        refine AllReadyH.cons rfl (fun K hK => ?_) AllReadyH.nil
        try simp only [List.getElem_toArray, List.getElem_cons_zero, List.getElem_cons_succ]
        have q0 := HX1.out.cell 0 rfl
        have q1 := HX1.out.frozen 0
        have q2 := HX1.out.lt
        go_simp
        clear q0 q1 q2
        replace HX1 := Lib.hid (HX1.out.set 0 (.int .i8 u))
        replace HY1 := Lib.hid (HY1.out.other (k := w.heap.size) 0 (.int .i8 u) (by omega))
        have AB := AB.setCell (p := ⟨w.heap.size, 0, none⟩) (show w.heap.size ≤ w.heap.size by omega) (.int .i8 u)
        generalize w2.setCell ⟨w.heap.size, 0, none⟩ (.int .i8 u) = w3 at *
        refine hK.out _ _ (trivial) (fun hHeld => ?_)
        clear hK K
        try simp only [List.getElem_toArray, List.getElem_cons_zero, List.getElem_cons_succ, Act.put, List.setIfInBounds_toArray, List.set_cons_zero, List.set_cons_succ]
        refine wpAnyH_ready (rs := [7]) (by kernel_rfl) (by simp) ?_
        refine AllReadyH.cons rfl (fun K hK => ?_) AllReadyH.nil
        try simp only [List.getElem_toArray, List.getElem_cons_zero, List.getElem_cons_succ]
        have q0 := HY1.out.cell 0 rfl
        have q1 := HY1.out.frozen 0
        have q2 := HY1.out.lt
        go_simp
        clear q0 q1 q2
        replace HY1 := Lib.hid (HY1.out.set 0 (.int .i8 v))
        replace HX1 := Lib.hid (HX1.out.other (k := w.heap.size + 1) 0 (.int .i8 v) (by omega))
        have AB := AB.setCell (p := ⟨w.heap.size + 1, 0, none⟩) (show w.heap.size ≤ w.heap.size + 1 by omega) (.int .i8 v)
        generalize w3.setCell ⟨w.heap.size + 1, 0, none⟩ (.int .i8 v) = w4 at *
        refine hK.out _ _ (trivial) (fun hHeld => ?_)
        clear hK K
        try simp only [List.getElem_toArray, List.getElem_cons_zero, List.getElem_cons_succ, Act.put, List.setIfInBounds_toArray, List.set_cons_zero, List.set_cons_succ]
        refine wpAnyH_done (by kernel_rfl) ?_ _
        clear hHeld
        go_wp2_with fail
        go_meet
        exact ⟨HX1, HY1, Lib.hid AB⟩
      · try simp only [List.getElem_toArray, List.getElem_cons_zero, List.getElem_cons_succ]
        have q0 := HX1.out.cell 0 rfl
        have q1 := HX1.out.frozen 0
        have q2 := HX1.out.lt
        go_simp
        clear q0 q1 q2
        replace HX1 := Lib.hid (HX1.out.set 0 (.int .i8 u))
        replace HY1 := Lib.hid (HY1.out.other (k := w.heap.size) 0 (.int .i8 u) (by omega))
        have AB := AB.setCell (p := ⟨w.heap.size, 0, none⟩) (show w.heap.size ≤ w.heap.size by omega) (.int .i8 u)
        generalize w2.setCell ⟨w.heap.size, 0, none⟩ (.int .i8 u) = w3 at *
        refine hK.out _ _ (trivial) (fun hHeld => ?_)
        clear hK K
        try simp only [List.getElem_toArray, List.getElem_cons_zero, List.getElem_cons_succ, Act.put, List.setIfInBounds_toArray, List.set_cons_zero, List.set_cons_succ]
        refine wpAnyH_ready (rs := [3]) (by kernel_rfl) (by simp) ?_
        refine AllReadyH.cons rfl (fun K hK => ?_) AllReadyH.nil
        try simp only [List.getElem_toArray, List.getElem_cons_zero, List.getElem_cons_succ]
        have q0 := HY1.out.cell 0 rfl
        go_simp
        clear q0
        refine hK.out _ _ (trivial) (fun hHeld => ?_)
        clear hK K
        try simp only [List.getElem_toArray, List.getElem_cons_zero, List.getElem_cons_succ, Act.put, List.setIfInBounds_toArray, List.set_cons_zero, List.set_cons_succ]
        refine wpAnyH_take (i := 4) (v := ?_) rfl (by kernel_rfl) (by kernel_rfl) (by kernel_rfl) (fun _ _ _ h => h) (Or.inl ⟨by rfl, ?_⟩) hHeld ?_
        rotate_left
        · intro w hSw
          (try dsimp only at hSw)
          (try simp only [List.getElem_toArray, List.getElem_cons_zero, List.getElem_cons_succ])
          go_simp
          all_goals with_reducible rfl
        try simp only [List.getElem_toArray, List.getElem_cons_zero, List.getElem_cons_succ, Act.put, List.setIfInBounds_toArray, List.set_cons_zero, List.set_cons_succ]
        refine wpAnyH_take (i := 5) (v := ?_) rfl (by kernel_rfl) (by kernel_rfl) (by kernel_rfl) (fun _ _ _ h => h) (Or.inl ⟨by rfl, ?_⟩) hHeld ?_
        rotate_left
        · intro w hSw
          (try dsimp only at hSw)
          (try simp only [List.getElem_toArray, List.getElem_cons_zero, List.getElem_cons_succ])
          go_simp
          all_goals with_reducible rfl
        try simp only [List.getElem_toArray, List.getElem_cons_zero, List.getElem_cons_succ, Act.put, List.setIfInBounds_toArray, List.set_cons_zero, List.set_cons_succ]
        refine wpAnyH_ready (rs := [7]) (by kernel_rfl) (by simp) ?_
        refine AllReadyH.cons rfl (fun K hK => ?_) AllReadyH.nil
        try simp only [List.getElem_toArray, List.getElem_cons_zero, List.getElem_cons_succ]
        have q0 := HY1.out.cell 0 rfl
        have q1 := HY1.out.frozen 0
        have q2 := HY1.out.lt
        go_simp
        clear q0 q1 q2
        replace HY1 := Lib.hid (HY1.out.set 0 (.int .i8 v))
        replace HX1 := Lib.hid (HX1.out.other (k := w.heap.size + 1) 0 (.int .i8 v) (by omega))
        have AB := AB.setCell (p := ⟨w.heap.size + 1, 0, none⟩) (show w.heap.size ≤ w.heap.size + 1 by omega) (.int .i8 v)
        generalize w3.setCell ⟨w.heap.size + 1, 0, none⟩ (.int .i8 v) = w4 at *
        refine hK.out _ _ (trivial) (fun hHeld => ?_)
        clear hK K
        try simp only [List.getElem_toArray, List.getElem_cons_zero, List.getElem_cons_succ, Act.put, List.setIfInBounds_toArray, List.set_cons_zero, List.set_cons_succ]
        refine wpAnyH_done (by kernel_rfl) ?_ _
        clear hHeld
        go_wp2_with fail
        go_meet
        exact ⟨HX1, HY1, Lib.hid AB⟩
    · try simp only [List.getElem_toArray, List.getElem_cons_zero, List.getElem_cons_succ]
      have q0 := HY1.out.cell 0 rfl
      go_simp
      clear q0
      refine hK.out _ _ (trivial) (fun hHeld => ?_)
      clear hK K
      try simp only [List.getElem_toArray, List.getElem_cons_zero, List.getElem_cons_succ, Act.put, List.setIfInBounds_toArray, List.set_cons_zero, List.set_cons_succ]
      refine wpAnyH_take (i := 4) (v := ?_) rfl (by kernel_rfl) (by kernel_rfl) (by kernel_rfl) (fun _ _ _ h => h) (Or.inl ⟨by rfl, ?_⟩) hHeld ?_
      rotate_left
      · intro w hSw
        (try dsimp only at hSw)
        (try simp only [List.getElem_toArray, List.getElem_cons_zero, List.getElem_cons_succ])
        go_simp
        all_goals with_reducible rfl
      try simp only [List.getElem_toArray, List.getElem_cons_zero, List.getElem_cons_succ, Act.put, List.setIfInBounds_toArray, List.set_cons_zero, List.set_cons_succ]
      refine wpAnyH_take (i := 5) (v := ?_) rfl (by kernel_rfl) (by kernel_rfl) (by kernel_rfl) (fun _ _ _ h => h) (Or.inl ⟨by rfl, ?_⟩) hHeld ?_
      rotate_left
      · intro w hSw
        (try dsimp only at hSw)
        (try simp only [List.getElem_toArray, List.getElem_cons_zero, List.getElem_cons_succ])
        go_simp
        all_goals with_reducible rfl
      try simp only [List.getElem_toArray, List.getElem_cons_zero, List.getElem_cons_succ, Act.put, List.setIfInBounds_toArray, List.set_cons_zero, List.set_cons_succ]
      refine wpAnyH_ready (rs := [0]) (by kernel_rfl) (by simp) ?_
      refine AllReadyH.cons rfl (fun K hK => ?_) AllReadyH.nil
      try simp only [List.getElem_toArray, List.getElem_cons_zero]
      have q0 := HX1.out.cell 0 rfl
      go_simp
      clear q0
      refine hK.out _ _ (trivial) (fun hHeld => ?_)
      clear hK K
      try simp only [List.getElem_toArray, List.getElem_cons_zero, List.getElem_cons_succ, Act.put, List.setIfInBounds_toArray, List.set_cons_zero, List.set_cons_succ]
      refine wpAnyH_take (i := 1) (v := ?_) rfl (by kernel_rfl) (by kernel_rfl) (by kernel_rfl) (fun _ _ _ h => h) (Or.inl ⟨by rfl, ?_⟩) hHeld ?_
      rotate_left
      · intro w hSw
        (try dsimp only at hSw)
        (try simp only [List.getElem_toArray, List.getElem_cons_zero, List.getElem_cons_succ])
        go_simp
        all_goals with_reducible rfl
      try simp only [List.getElem_toArray, List.getElem_cons_zero, List.getElem_cons_succ, Act.put, List.setIfInBounds_toArray, List.set_cons_zero, List.set_cons_succ]
      refine wpAnyH_take (i := 2) (v := ?_) rfl (by kernel_rfl) (by kernel_rfl) (by kernel_rfl) (fun _ _ _ h => h) (Or.inl ⟨by rfl, ?_⟩) hHeld ?_
      rotate_left
      · intro w hSw
        (try dsimp only at hSw)
        (try simp only [List.getElem_toArray, List.getElem_cons_zero, List.getElem_cons_succ])
        go_simp
        all_goals with_reducible rfl
      try simp only [List.getElem_toArray, List.getElem_cons_zero, List.getElem_cons_succ, Act.put, List.setIfInBounds_toArray, List.set_cons_zero, List.set_cons_succ]
      refine wpAnyH_ready (rs := [6]) (by kernel_rfl) (by simp) ?_
      refine AllReadyH.cons rfl (fun K hK => ?_) AllReadyH.nil
      try simp only [List.getElem_toArray, List.getElem_cons_zero, List.getElem_cons_succ]
      have q0 := HX1.out.cell 0 rfl
      have q1 := HX1.out.frozen 0
      have q2 := HX1.out.lt
      go_simp
      clear q0 q1 q2
      replace HX1 := Lib.hid (HX1.out.set 0 (.int .i8 u))
      replace HY1 := Lib.hid (HY1.out.other (k := w.heap.size) 0 (.int .i8 u) (by omega))
      have AB := AB.setCell (p := ⟨w.heap.size, 0, none⟩) (show w.heap.size ≤ w.heap.size by omega) (.int .i8 u)
      generalize w2.setCell ⟨w.heap.size, 0, none⟩ (.int .i8 u) = w3 at *
      refine hK.out _ _ (trivial) (fun hHeld => ?_)
      clear hK K
      try simp only [List.getElem_toArray, List.getElem_cons_zero, List.getElem_cons_succ, Act.put, List.setIfInBounds_toArray, List.set_cons_zero, List.set_cons_succ]
      refine wpAnyH_ready (rs := [7]) (by kernel_rfl) (by simp) ?_
      refine AllReadyH.cons rfl (fun K hK => ?_) AllReadyH.nil
      try simp only [List.getElem_toArray, List.getElem_cons_zero, List.getElem_cons_succ]
      have q0 := HY1.out.cell 0 rfl
      have q1 := HY1.out.frozen 0
      have q2 := HY1.out.lt
      go_simp
      clear q0 q1 q2
      replace HY1 := Lib.hid (HY1.out.set 0 (.int .i8 v))
      replace HX1 := Lib.hid (HX1.out.other (k := w.heap.size + 1) 0 (.int .i8 v) (by omega))
      have AB := AB.setCell (p := ⟨w.heap.size + 1, 0, none⟩) (show w.heap.size ≤ w.heap.size + 1 by omega) (.int .i8 v)
      generalize w3.setCell ⟨w.heap.size + 1, 0, none⟩ (.int .i8 v) = w4 at *
      refine hK.out _ _ (trivial) (fun hHeld => ?_)
      clear hK K
      try simp only [List.getElem_toArray, List.getElem_cons_zero, List.getElem_cons_succ, Act.put, List.setIfInBounds_toArray, List.set_cons_zero, List.set_cons_succ]
      refine wpAnyH_done (by kernel_rfl) ?_ _
      clear hHeld
      go_wp2_with fail
      go_meet
      exact ⟨HX1, HY1, Lib.hid AB⟩
  case rest =>
    obtain ⟨HX2, HY2, HB2⟩ := hcut
    replace HI0 := Lib.hid (HI0.out.keep HB2.out)
    replace HI1 := Lib.hid (HI1.out.keep HB2.out)
    replace HI2 := Lib.hid (HI2.out.keep HB2.out)
    obtain ⟨L, hL⟩ : ∃ L, u * v = L := ⟨_, rfl⟩
    have hLb : L ≤ 361 := by rw [← hL]; exact Nat.mul_le_mul bu bv
    have zL : IntKind.i64.wrap ((u : Int) * v) = L := by rw [← hL, Int.natCast_mul]; exact wI (by rw [← Int.natCast_mul]; omega) (by rw [← Int.natCast_mul, hL]; omega)
    have HL := Lib.hid hL
    have yu : IntKind.i64.wrap (u : Int) = u := wI (by omega) (by omega)
    have yv : IntKind.i64.wrap (v : Int) = v := wI (by omega) (by omega)
    clear HX1 HY1 HB1 zu zv hXu hYv HM0 HM1 hL
    have x0 := HX2.out.cell 0 rfl
    have xl := HX2.out.lt
    have y0 := HY2.out.cell 0 rfl
    have yl := HY2.out.lt
    have hal : Below wc.heap.size wc (wc.alloc (.cells #[.int .i64 L] 3)) := (Below.refl _ _).alloc (Nat.le_refl _) _
    have HX5 := Lib.hid (HX2.out.keep hal)
    have HY5 := Lib.hid (HY2.out.keep hal)
    have HN5 := Lib.hid (Blk.new wc 3 [.int .i64 L] rfl)
    have HB5 := Lib.hid (below2 HB2.out hal)
    replace HI0 := Lib.hid (HI0.out.keep hal)
    replace HI1 := Lib.hid (HI1.out.keep hal)
    replace HI2 := Lib.hid (HI2.out.keep hal)
    clear hal HX2 HY2 HB2
    go_wp2_with fail
    clear x0 xl y0 yl
    generalize wc.alloc (.cells #[.int .i64 L] 3) = w5 at *
    generalize wc.heap.size = GN at *
    have h := merge1_any w.heap.size (w.heap.size + 1) GN u v L _ b0 w5 HI0.out (by omega) (by omega) (by omega) (HX5.out.cell 0 rfl) (HY5.out.cell 0 rfl) (HN5.out.cell 0 rfl) ⟨HX5.out.lt, HY5.out.lt, HN5.out.lt⟩
    refine h.mono ?_
    clear h HI0
    rintro e w6 ⟨T0, rfl, h0, hb⟩
    have HX6 := Lib.hid (HX5.out.keep hb)
    have HY6 := Lib.hid (HY5.out.keep hb)
    have HN6 := Lib.hid (HN5.out.keep hb)
    have HB6 := Lib.hid (below2 HB5.out hb)
    replace HI1 := Lib.hid (HI1.out.keep hb)
    replace HI2 := Lib.hid (HI2.out.keep hb)
    have HT0 := Lib.hid h0
    have HO0 : Hid (∀ g, T0.ownBlock = some g → g < w6.heap.size) := Lib.hid (fun g hg => (World.ownsRow.lt h0 g hg).2)
    have hz56 := hb.size
    clear h0 hb HX5 HY5 HN5
    go_wp2_with fail
    have h := merge1_any w.heap.size (w.heap.size + 1) GN u v L _ b1 w6 HI1.out (by omega) (by omega) (by omega) (HX6.out.cell 0 rfl) (HY6.out.cell 0 rfl) (HN6.out.cell 0 rfl) ⟨HX6.out.lt, HY6.out.lt, HN6.out.lt⟩
    refine h.mono ?_
    clear h HI1
    rintro e w7 ⟨T1, rfl, h0, hb⟩
    have HX7 := Lib.hid (HX6.out.keep hb)
    have HY7 := Lib.hid (HY6.out.keep hb)
    have HN7 := Lib.hid (HN6.out.keep hb)
    have HB7 := Lib.hid (below2 HB6.out hb)
    replace HI2 := Lib.hid (HI2.out.keep hb)
    replace HT0 := Lib.hid (HT0.out.below hb)
    have HT1 := Lib.hid h0
    have HO1 : Hid (∀ g, T1.ownBlock = some g → w6.heap.size ≤ g ∧ g < w7.heap.size) := Lib.hid (fun g hg => World.ownsRow.lt h0 g hg)
    have hz67 := hb.size
    clear h0 hb HX6 HY6 HN6
    go_wp2_with fail
    have h := merge1_any w.heap.size (w.heap.size + 1) GN u v L _ b2 w7 HI2.out (by omega) (by omega) (by omega) (HX7.out.cell 0 rfl) (HY7.out.cell 0 rfl) (HN7.out.cell 0 rfl) ⟨HX7.out.lt, HY7.out.lt, HN7.out.lt⟩
    refine h.mono ?_
    clear h HI2
    rintro e w8 ⟨T2, rfl, h0, hb⟩
    have HX8 := Lib.hid (HX7.out.keep hb)
    have HY8 := Lib.hid (HY7.out.keep hb)
    have HN8 := Lib.hid (HN7.out.keep hb)
    have HB8 := Lib.hid (below2 HB7.out hb)
    replace HT0 := Lib.hid (HT0.out.below hb)
    replace HT1 := Lib.hid (HT1.out.below hb)
    have HT2 := Lib.hid h0
    have HO2 : Hid (∀ g, T2.ownBlock = some g → w7.heap.size ≤ g ∧ g < w8.heap.size) := Lib.hid (fun g hg => World.ownsRow.lt h0 g hg)
    have hz78 := hb.size
    clear h0 hb HX7 HY7 HN7
    have HF0 := Lib.hid (padN_len b0 L)
    have HF1 := Lib.hid (padN_len b1 L)
    have HF2 := Lib.hid (padN_len b2 L)
    have HG0 := Lib.hid (padN_lt b0 L HBB.out.1)
    have HG1 := Lib.hid (padN_lt b1 L HBB.out.2.1)
    have HG2 := Lib.hid (padN_lt b2 L HBB.out.2.2)
    generalize padN b0 L = f0 at *
    generalize padN b1 L = f1 at *
    generalize padN b2 L = f2 at *
    obtain ⟨P0, d0, rfl⟩ := HT0.out.form
    obtain ⟨P1, d1, rfl⟩ := HT1.out.form
    obtain ⟨P2, d2, rfl⟩ := HT2.out.form
    rw [HF0.out] at HT0 HO0 ⊢
    rw [HF1.out] at HT1 HO1 ⊢
    rw [HF2.out] at HT2 HO2 ⊢
    have hal : Below w8.heap.size w8 (w8.alloc (.cells #[.int .i64 u, .int .i64 v, .slice P0 L d0, .int .i64 u, .int .i64 v, .slice P1 L d1, .int .i64 u, .int .i64 v, .slice P2 L d2] 39)) := (Below.refl _ _).alloc (Nat.le_refl _) _
    have HR9 := Lib.hid (Blk.new w8 39 [.int .i64 u, .int .i64 v, .slice P0 L d0, .int .i64 u, .int .i64 v, .slice P1 L d1, .int .i64 u, .int .i64 v, .slice P2 L d2] rfl)
    have HX9 := Lib.hid (HX8.out.keep hal)
    have HY9 := Lib.hid (HY8.out.keep hal)
    have HN9 := Lib.hid (HN8.out.keep hal)
    have HB9 := Lib.hid (below2 HB8.out hal)
    replace HT0 := Lib.hid (HT0.out.below hal)
    replace HT1 := Lib.hid (HT1.out.below hal)
    replace HT2 := Lib.hid (HT2.out.below hal)
    have hz85 := HB5.out.size
    clear hal HX8 HY8 HN8 HB8 HB5 HB6 HB7
    go_wp2_with fail
    generalize w8.alloc (.cells #[.int .i64 u, .int .i64 v, .slice P0 L d0, .int .i64 u, .int .i64 v, .slice P1 L d1, .int .i64 u, .int .i64 v, .slice P2 L d2] 39) = w9 at *
    generalize w8.heap.size = F at *
    have hmg := K.merge u v _ _ _ f0 f1 f2 w9 (by omega) (by omega) (HT0.out.read HG0.out) (HT1.out.read HG1.out) (HT2.out.read HG2.out) (HF0.out.trans HL.out.symm) (HF1.out.trans HL.out.symm) (HF2.out.trans HL.out.symm)
    refine hmg.mono ?_
    clear hmg
    rintro e w10 ⟨Q, rfl, h0, hb⟩
    have HML := Lib.hid ((medL_length f0 f1 f2).trans HF0.out)
    obtain ⟨Q, dq, rfl⟩ := h0.form
    rw [HML.out] at h0 ⊢
    have hal : Below w10.heap.size w10 (w10.alloc (.cells #[.int .i64 u, .int .i64 v, .slice Q L dq] 38)) := (Below.refl _ _).alloc (Nat.le_refl _) _
    have HM11 := Lib.hid (Blk.new w10 38 [.int .i64 u, .int .i64 v, .slice Q L dq] rfl)
    have HR11 := Lib.hid ((HR9.out.keep hb).keep hal)
    have HX11 := Lib.hid ((HX9.out.keep hb).keep hal)
    have HY11 := Lib.hid ((HY9.out.keep hb).keep hal)
    have HN11 := Lib.hid ((HN9.out.keep hb).keep hal)
    have HB11 := Lib.hid (below2 (below2 HB9.out hb) hal)
    replace HT0 := Lib.hid ((HT0.out.below hb).below hal)
    replace HT1 := Lib.hid ((HT1.out.below hb).below hal)
    replace HT2 := Lib.hid ((HT2.out.below hb).below hal)
    have HTQ := Lib.hid (h0.below hal)
    clear h0 hb hal HR9 HX9 HY9 HN9 HB9
    obtain ⟨W, hW⟩ : ∃ W, w10.alloc (.cells #[.int .i64 u, .int .i64 v, .slice Q L dq] 38) = W := ⟨_, rfl⟩
    obtain ⟨M, hM⟩ : ∃ M, w10.heap.size = M := ⟨_, rfl⟩
    rw [hW] at HT0 HT1 HT2 HTQ HM11 HR11 HX11 HY11 HN11 HB11
    rw [hM] at HM11
    have x0 := HX11.out.cell 0 rfl
    have xl := HX11.out.lt
    have y0 := HY11.out.cell 0 rfl
    have yl := HY11.out.lt
    have n0 := HN11.out.cell 0 rfl
    have nl := HN11.out.lt
    have m0 := HM11.out.cell 0 rfl
    have m1 := HM11.out.cell 1 rfl
    have m2 := HM11.out.cell 2 rfl
    have ml := HM11.out.lt
    go_wp2_with fail
    clear x0 xl y0 yl n0 nl m0 m1 m2 ml hW hM HX11 HY11 HN11
    go_loopw [76] (fun i wr => ∃ r : Nat, r ≤ L ∧ i = .int .i64 r ∧ Hid (Below W.heap.size W wr)) (fun i _ => L - (intOf i).toNat)
    case atStart => exact ⟨0, Nat.zero_le _, rfl, Lib.hid (Below.refl _ _)⟩
    case round =>
      obtain ⟨r, hr, rfl, HW⟩ := hrel
      by_cases hrL : r < L
      · have hrb : decide ((r : Int) < L) = true := by simp; omega
        obtain ⟨p, hp⟩ : ∃ c, f0[r]? = some c := ⟨_, List.getElem?_eq_getElem (by rw [HF0.out]; exact hrL)⟩
        obtain ⟨q, hq⟩ : ∃ c, f1[r]? = some c := ⟨_, List.getElem?_eq_getElem (by rw [HF1.out]; exact hrL)⟩
        obtain ⟨t, ht⟩ : ∃ c, f2[r]? = some c := ⟨_, List.getElem?_eq_getElem (by rw [HF2.out]; exact hrL)⟩
        have hp2 := HG0.out p (List.mem_of_getElem? hp)
        have hq2 := HG1.out q (List.mem_of_getElem? hq)
        have ht2 := HG2.out t (List.mem_of_getElem? ht)
        have hmd := medL_at f0 f1 f2 r p q t hp hq ht
        obtain ⟨-, ap, rfl, hapl, e0⟩ := (HT0.out.below HW.out).byte r hp
        obtain ⟨-, aq, rfl, haql, e1⟩ := (HT1.out.below HW.out).byte r hq
        obtain ⟨-, at', rfl, hatl, e2⟩ := (HT2.out.below HW.out).byte r ht
        obtain ⟨-, am, rfl, haml, em⟩ := (HTQ.out.below HW.out).byte r hmd
        have HMD := Lib.hid (fun w => K.median p q t w hp2 hq2 ht2)
        generalize medN p q t = md at *
        have m2 := (HM11.out.keep HW.out).cell 2 rfl
        have ml := (HM11.out.keep HW.out).lt
        have r2 := (HR11.out.keep HW.out).cell 2 rfl
        have r5 := (HR11.out.keep HW.out).cell 5 rfl
        have r8 := (HR11.out.keep HW.out).cell 8 rfl
        have rl := (HR11.out.keep HW.out).lt
        clear hp hq ht hmd hp2 hq2 ht2
        have HMw := Lib.hid (HM11.out.keep HW.out)
        have HRw := Lib.hid (HR11.out.keep HW.out)
        clear m2 ml r2 r5 r8 rl
        go_wp2_with fail
        have hd : Below wr.heap.size wr wr.drew := (Below.refl _ wr).drew
        have AB : Below W.heap.size W wr.drew := HW.out.drew
        replace HMw := Lib.hid (HMw.out.keep hd)
        replace HRw := Lib.hid (HRw.out.keep hd)
        replace em := Go.Proofs.Ytnpklcmbiamocaa.keep hd em
        replace e0 := Go.Proofs.Ytnpklcmbiamocaa.keep hd e0
        replace e1 := Go.Proofs.Ytnpklcmbiamocaa.keep hd e1
        replace e2 := Go.Proofs.Ytnpklcmbiamocaa.keep hd e2
        clear hd HW
        refine wp_region_held_drew (S := fun wx => wx.cell? ⟨M, 2, none⟩ = some (.slice (some am) L dq) ∧ wx.cell? ⟨F, 2, none⟩ = some (.slice (some ap) L d0) ∧ wx.cell? ⟨F, 5, none⟩ = some (.slice (some aq) L d1) ∧ wx.cell? ⟨F, 8, none⟩ = some (.slice (some at') L d2) ∧ wx.cell? (am.add r) = some (.int .u8 md) ∧ wx.cell? (ap.add r) = some (.int .u8 p) ∧ wx.cell? (aq.add r) = some (.int .u8 q) ∧ wx.cell? (at'.add r) = some (.int .u8 t)) (by kernel_rfl) (⟨HMw.out.cell 2 rfl, HRw.out.cell 2 rfl, HRw.out.cell 5 rfl, HRw.out.cell 8 rfl, em, e0, e1, e2⟩) (fun hHeld => ?_)
        refine wpAnyH_take (i := 0) (v := ?_) rfl (by kernel_rfl) (by kernel_rfl) (by kernel_rfl) (fun _ _ _ h => h) (Or.inl ⟨by rfl, ?_⟩) hHeld ?_
        rotate_left
        · intro w hSw
          (try dsimp only at hSw)
          (try simp only [List.getElem_toArray, List.getElem_cons_zero])
          go_simp
          all_goals with_reducible rfl
        try simp only [List.getElem_toArray, List.getElem_cons_zero, Act.put, List.setIfInBounds_toArray, List.set_cons_zero, List.set_cons_succ]
        refine wpAnyH_take (i := 1) (v := ?_) rfl (by kernel_rfl) (by kernel_rfl) (by kernel_rfl) (fun _ _ _ h => h) (Or.inl ⟨by rfl, ?_⟩) hHeld ?_
        rotate_left
        · intro w hSw
          (try dsimp only at hSw)
          (try simp only [List.getElem_toArray, List.getElem_cons_zero, List.getElem_cons_succ])
          go_simp
          all_goals with_reducible rfl
        try simp only [List.getElem_toArray, List.getElem_cons_zero, List.getElem_cons_succ, Act.put, List.setIfInBounds_toArray, List.set_cons_zero, List.set_cons_succ]
        refine wpAnyH_take (i := 2) (v := ?_) rfl (by kernel_rfl) (by kernel_rfl) (by kernel_rfl) (fun _ _ _ h => h) (Or.inl ⟨by rfl, ?_⟩) hHeld ?_
        rotate_left
        · intro w hSw
          (try dsimp only at hSw)
          (try simp only [List.getElem_toArray, List.getElem_cons_zero, List.getElem_cons_succ])
          go_simp
          all_goals with_reducible rfl
        try simp only [List.getElem_toArray, List.getElem_cons_zero, List.getElem_cons_succ, Act.put, List.setIfInBounds_toArray, List.set_cons_zero, List.set_cons_succ]
        refine wpAnyH_take (i := 3) (v := ?_) rfl (by kernel_rfl) (by kernel_rfl) (by kernel_rfl) (fun _ _ _ h => h) (Or.inl ⟨by rfl, ?_⟩) hHeld ?_
        rotate_left
        · intro w hSw
          (try dsimp only at hSw)
          (try simp only [List.getElem_toArray, List.getElem_cons_zero, List.getElem_cons_succ])
          go_simp
          all_goals with_reducible rfl
        try simp only [List.getElem_toArray, List.getElem_cons_zero, List.getElem_cons_succ, Act.put, List.setIfInBounds_toArray, List.set_cons_zero, List.set_cons_succ]
        refine wpAnyH_take (i := 4) (v := ?_) rfl (by kernel_rfl) (by kernel_rfl) (by kernel_rfl) (fun _ _ _ h => h) (Or.inl ⟨by rfl, ?_⟩) hHeld ?_
        rotate_left
        · intro w hSw
          (try dsimp only at hSw)
          (try simp only [List.getElem_toArray, List.getElem_cons_zero, List.getElem_cons_succ])
          go_simp
          all_goals with_reducible rfl
        try simp only [List.getElem_toArray, List.getElem_cons_zero, List.getElem_cons_succ, Act.put, List.setIfInBounds_toArray, List.set_cons_zero, List.set_cons_succ]
        refine wpAnyH_take (i := 5) (v := ?_) rfl (by kernel_rfl) (by kernel_rfl) (by kernel_rfl) (fun _ _ _ h => h) (Or.inl ⟨by rfl, ?_⟩) hHeld ?_
        rotate_left
        · intro w hSw
          (try dsimp only at hSw)
          (try simp only [List.getElem_toArray, List.getElem_cons_zero, List.getElem_cons_succ])
          go_simp
          all_goals with_reducible rfl
        try simp only [List.getElem_toArray, List.getElem_cons_zero, List.getElem_cons_succ, Act.put, List.setIfInBounds_toArray, List.set_cons_zero, List.set_cons_succ]
        refine wpAnyH_take (i := 6) (v := ?_) rfl (by kernel_rfl) (by kernel_rfl) (by kernel_rfl) (fun _ _ _ h => h) (Or.inl ⟨by rfl, ?_⟩) hHeld ?_
        rotate_left
        · intro w hSw
          (try dsimp only at hSw)
          (try simp only [List.getElem_toArray, List.getElem_cons_zero, List.getElem_cons_succ])
          go_simp
          all_goals with_reducible rfl
        try simp only [List.getElem_toArray, List.getElem_cons_zero, List.getElem_cons_succ, Act.put, List.setIfInBounds_toArray, List.set_cons_zero, List.set_cons_succ]
        refine wpAnyH_take (i := 7) (v := ?_) rfl (by kernel_rfl) (by kernel_rfl) (by kernel_rfl) (fun _ _ _ h => h) (Or.inl ⟨by rfl, ?_⟩) hHeld ?_
        rotate_left
        · intro w hSw
          (try dsimp only at hSw)
          (try simp only [List.getElem_toArray, List.getElem_cons_zero, List.getElem_cons_succ])
          go_simp
          all_goals with_reducible rfl
        try simp only [List.getElem_toArray, List.getElem_cons_zero, List.getElem_cons_succ, Act.put, List.setIfInBounds_toArray, List.set_cons_zero, List.set_cons_succ]
        refine wpAnyH_take (i := 8) (v := ?_) rfl (by kernel_rfl) (by kernel_rfl) (by kernel_rfl) (fun _ _ _ h => h) (Or.inl ⟨by rfl, ?_⟩) hHeld ?_
        rotate_left
        · intro w hSw
          (try dsimp only at hSw)
          (try simp only [List.getElem_toArray, List.getElem_cons_zero, List.getElem_cons_succ])
          go_simp
          all_goals with_reducible rfl
        try simp only [List.getElem_toArray, List.getElem_cons_zero, List.getElem_cons_succ, Act.put, List.setIfInBounds_toArray, List.set_cons_zero, List.set_cons_succ]
        refine wpAnyH_take (i := 9) (v := ?_) rfl (by kernel_rfl) (by kernel_rfl) (by kernel_rfl) (fun _ _ _ h => h) (Or.inl ⟨by rfl, ?_⟩) hHeld ?_
        rotate_left
        · intro w hSw
          (try dsimp only at hSw)
          (try simp only [List.getElem_toArray, List.getElem_cons_zero, List.getElem_cons_succ])
          go_simp
          all_goals with_reducible rfl
        try simp only [List.getElem_toArray, List.getElem_cons_zero, List.getElem_cons_succ, Act.put, List.setIfInBounds_toArray, List.set_cons_zero, List.set_cons_succ]
        refine wpAnyH_take (i := 10) (v := ?_) rfl (by kernel_rfl) (by kernel_rfl) (by kernel_rfl) (fun _ _ _ h => h) (Or.inl ⟨by rfl, ?_⟩) hHeld ?_
        rotate_left
        · intro w hSw
          (try dsimp only at hSw)
          (try simp only [List.getElem_toArray, List.getElem_cons_zero, List.getElem_cons_succ])
          go_simp
          all_goals with_reducible rfl
        try simp only [List.getElem_toArray, List.getElem_cons_zero, List.getElem_cons_succ, Act.put, List.setIfInBounds_toArray, List.set_cons_zero, List.set_cons_succ]
        refine wpAnyH_take (i := 11) (v := ?_) rfl (by kernel_rfl) (by kernel_rfl) (by kernel_rfl) (fun _ _ _ h => h) (Or.inl ⟨by rfl, ?_⟩) hHeld ?_
        rotate_left
        · intro w hSw
          (try dsimp only at hSw)
          (try simp only [List.getElem_toArray, List.getElem_cons_zero, List.getElem_cons_succ])
          go_simp
          all_goals with_reducible rfl
        try simp only [List.getElem_toArray, List.getElem_cons_zero, List.getElem_cons_succ, Act.put, List.setIfInBounds_toArray, List.set_cons_zero, List.set_cons_succ]
        refine wpAnyH_take (i := 12) (v := ?_) rfl (by kernel_rfl) (by kernel_rfl) (by kernel_rfl) (fun _ _ _ h => h) (Or.inl ⟨by rfl, ?_⟩) hHeld ?_
        rotate_left
        · intro w hSw
          (try dsimp only at hSw)
          (try simp only [List.getElem_toArray, List.getElem_cons_zero, List.getElem_cons_succ])
          go_simp
          all_goals with_reducible rfl
        try simp only [List.getElem_toArray, List.getElem_cons_zero, List.getElem_cons_succ, Act.put, List.setIfInBounds_toArray, List.set_cons_zero, List.set_cons_succ]
        refine wpAnyH_take (i := 13) (v := ?_) rfl (by kernel_rfl) (by kernel_rfl) (by kernel_rfl) (fun _ _ _ h => h) (Or.inl ⟨by rfl, ?_⟩) hHeld ?_
        rotate_left
        · intro w hSw
          (try dsimp only at hSw)
          (try simp only [List.getElem_toArray, List.getElem_cons_zero, List.getElem_cons_succ])
          go_simp
          all_goals with_reducible rfl
        try simp only [List.getElem_toArray, List.getElem_cons_zero, List.getElem_cons_succ, Act.put, List.setIfInBounds_toArray, List.set_cons_zero, List.set_cons_succ]
        refine wpAnyH_take (i := 14) (v := ?_) rfl (by kernel_rfl) (by kernel_rfl) (by kernel_rfl) (fun _ _ _ h => h) (Or.inl ⟨by rfl, ?_⟩) hHeld ?_
        rotate_left
        · intro w hSw
          (try dsimp only at hSw)
          (try simp only [List.getElem_toArray, List.getElem_cons_zero, List.getElem_cons_succ])
          go_simp
          all_goals with_reducible rfl
        try simp only [List.getElem_toArray, List.getElem_cons_zero, List.getElem_cons_succ, Act.put, List.setIfInBounds_toArray, List.set_cons_zero, List.set_cons_succ]
        refine wpAnyH_take (i := 15) (v := ?_) rfl (by kernel_rfl) (by kernel_rfl) (by kernel_rfl) (fun _ _ _ h => h) (Or.inl ⟨by rfl, ?_⟩) hHeld ?_
        rotate_left
        · intro w hSw
          (try dsimp only at hSw)
          (try simp only [List.getElem_toArray, List.getElem_cons_zero, List.getElem_cons_succ])
          go_simp
          all_goals with_reducible rfl
        try simp only [List.getElem_toArray, List.getElem_cons_zero, List.getElem_cons_succ, Act.put, List.setIfInBounds_toArray, List.set_cons_zero, List.set_cons_succ]
        refine wpAnyH_take (i := 16) (v := ?_) rfl (by kernel_rfl) (by kernel_rfl) (by kernel_rfl) (fun _ _ _ h => h) (Or.inl ⟨by rfl, ?_⟩) hHeld ?_
        rotate_left
        · intro w hSw
          (try dsimp only at hSw)
          (try simp only [List.getElem_toArray, List.getElem_cons_zero, List.getElem_cons_succ])
          go_simp
          all_goals with_reducible rfl
        try simp only [List.getElem_toArray, List.getElem_cons_zero, List.getElem_cons_succ, Act.put, List.setIfInBounds_toArray, List.set_cons_zero, List.set_cons_succ]
        refine wpAnyH_take (i := 17) (v := ?_) rfl (by kernel_rfl) (by kernel_rfl) (by kernel_rfl) (fun _ _ _ h => h) (Or.inl ⟨by rfl, ?_⟩) hHeld ?_
        rotate_left
        · intro w hSw
          (try dsimp only at hSw)
          (try simp only [List.getElem_toArray, List.getElem_cons_zero, List.getElem_cons_succ])
          go_simp
          all_goals with_reducible rfl
        try simp only [List.getElem_toArray, List.getElem_cons_zero, List.getElem_cons_succ, Act.put, List.setIfInBounds_toArray, List.set_cons_zero, List.set_cons_succ]
        refine wpAnyH_take (i := 18) (v := ?_) rfl (by kernel_rfl) (by kernel_rfl) (by kernel_rfl) (fun _ _ _ h => h) (Or.inl ⟨by rfl, ?_⟩) hHeld ?_
        rotate_left
        · intro w hSw
          (try dsimp only at hSw)
          (try simp only [List.getElem_toArray, List.getElem_cons_zero, List.getElem_cons_succ])
          go_simp
          all_goals with_reducible rfl
        try simp only [List.getElem_toArray, List.getElem_cons_zero, List.getElem_cons_succ, Act.put, List.setIfInBounds_toArray, List.set_cons_zero, List.set_cons_succ]
        refine wpAnyH_take (i := 19) (v := ?_) rfl (by kernel_rfl) (by kernel_rfl) (by kernel_rfl) (fun _ _ _ h => h) (Or.inl ⟨by rfl, ?_⟩) hHeld ?_
        rotate_left
        · intro w hSw
          (try dsimp only at hSw)
          (try simp only [List.getElem_toArray, List.getElem_cons_zero, List.getElem_cons_succ])
          go_simp
          all_goals with_reducible rfl
        try simp only [List.getElem_toArray, List.getElem_cons_zero, List.getElem_cons_succ, Act.put, List.setIfInBounds_toArray, List.set_cons_zero, List.set_cons_succ]
        refine wpAnyH_take (i := 20) (v := ?_) rfl (by kernel_rfl) (by kernel_rfl) (by kernel_rfl) (fun _ _ _ h => h) (Or.inl ⟨by rfl, ?_⟩) hHeld ?_
        rotate_left
        · intro w hSw
          (try dsimp only at hSw)
          (try simp only [List.getElem_toArray, List.getElem_cons_zero, List.getElem_cons_succ])
          go_simp
          all_goals with_reducible rfl
        try simp only [List.getElem_toArray, List.getElem_cons_zero, List.getElem_cons_succ, Act.put, List.setIfInBounds_toArray, List.set_cons_zero, List.set_cons_succ]
        refine wpAnyH_take (i := 21) (v := ?_) rfl (by kernel_rfl) (by kernel_rfl) (by kernel_rfl) (fun _ _ _ h => h) (Or.inl ⟨by rfl, ?_⟩) hHeld ?_
        rotate_left
        · intro w hSw
          (try dsimp only at hSw)
          (try simp only [List.getElem_toArray, List.getElem_cons_zero, List.getElem_cons_succ])
          go_simp
          all_goals with_reducible rfl
        try simp only [List.getElem_toArray, List.getElem_cons_zero, List.getElem_cons_succ, Act.put, List.setIfInBounds_toArray, List.set_cons_zero, List.set_cons_succ]
        refine wpAnyH_take (i := 22) (v := ?_) rfl (by kernel_rfl) (by kernel_rfl) (by kernel_rfl) (fun _ _ _ h => h) (Or.inl ⟨by rfl, ?_⟩) hHeld ?_
        rotate_left
        · intro w hSw
          (try dsimp only at hSw)
          (try simp only [List.getElem_toArray, List.getElem_cons_zero, List.getElem_cons_succ])
          go_simp
          all_goals with_reducible rfl
        try simp only [List.getElem_toArray, List.getElem_cons_zero, List.getElem_cons_succ, Act.put, List.setIfInBounds_toArray, List.set_cons_zero, List.set_cons_succ]
        refine wpAnyH_ready (rs := [23]) (by kernel_rfl) (by simp) ?_
        refine AllReadyH.cons rfl (fun K hK => ?_) AllReadyH.nil
        try simp only [List.getElem_toArray, List.getElem_cons_zero, List.getElem_cons_succ]
        go_simp
        refine (HMD.out _).mono ?_
        rintro e wn ⟨rfl, hbn⟩
        have AB := AB.trans (hbn.mono (AB.size))
        replace HMw := Lib.hid (HMw.out.keep hbn)
        replace HRw := Lib.hid (HRw.out.keep hbn)
        replace em := Go.Proofs.Ytnpklcmbiamocaa.keep hbn em
        replace e0 := Go.Proofs.Ytnpklcmbiamocaa.keep hbn e0
        replace e1 := Go.Proofs.Ytnpklcmbiamocaa.keep hbn e1
        replace e2 := Go.Proofs.Ytnpklcmbiamocaa.keep hbn e2
        clear hbn
        go_wp2_with fail
        refine hK.out _ _ (⟨HMw.out.cell 2 rfl, HRw.out.cell 2 rfl, HRw.out.cell 5 rfl, HRw.out.cell 8 rfl, em, e0, e1, e2⟩) (fun hHeld => ?_)
        clear hK K
        try simp only [List.getElem_toArray, List.getElem_cons_zero, List.getElem_cons_succ, Act.put, List.setIfInBounds_toArray, List.set_cons_zero, List.set_cons_succ]
        refine wpAnyH_take (i := 24) (v := ?_) rfl (by kernel_rfl) (by kernel_rfl) (by kernel_rfl) (fun _ _ _ h => h) (Or.inl ⟨by rfl, ?_⟩) hHeld ?_
        rotate_left
        · intro w hSw
          (try dsimp only at hSw)
          (try simp only [List.getElem_toArray, List.getElem_cons_zero, List.getElem_cons_succ])
          go_simp
          all_goals with_reducible rfl
        try simp only [List.getElem_toArray, List.getElem_cons_zero, List.getElem_cons_succ, Act.put, List.setIfInBounds_toArray, List.set_cons_zero, List.set_cons_succ]
        refine wpAnyH_done (by kernel_rfl) ?_ _
        clear hHeld
        go_wp2_with fail
        exact ⟨⟨r + 1, hrL, by go_num, Lib.hid AB⟩, by simp [intOf]; omega⟩
      · obtain rfl : r = L := by omega
        have HMw := Lib.hid (HM11.out.keep HW.out)
        have HRw := Lib.hid (HR11.out.keep HW.out)
        have HBw := Lib.hid (below2 HB11.out HW.out)
        replace HT0 := Lib.hid (HT0.out.below HW.out)
        replace HT1 := Lib.hid (HT1.out.below HW.out)
        replace HT2 := Lib.hid (HT2.out.below HW.out)
        clear HTQ HM11 HR11 HB11 HML
        obtain ⟨j, hj⟩ : ∃ j : Nat, z % 4 = j := ⟨(z % 4).toNat, by omega⟩
        have hzj : z.tmod 4 = (j : Int) := by rw [Int.tmod_eq_emod_of_nonneg hz.1]; exact hj
        have hj4 : j < 4 := by omega
        clear hj
        have q0 := HRw.out.cell 0 rfl
        have q1 := HRw.out.cell 1 rfl
        have q2 := HRw.out.cell 2 rfl
        have q3 := HRw.out.cell 3 rfl
        have q4 := HRw.out.cell 4 rfl
        have q5 := HRw.out.cell 5 rfl
        have q6 := HRw.out.cell 6 rfl
        have q7 := HRw.out.cell 7 rfl
        have q8 := HRw.out.cell 8 rfl
        have qf := HRw.out.frozen
        have ql := HRw.out.lt
        have yu1 : IntKind.i64.wrap ((u : Int) + 1) = u + 1 := wI (by omega) (by omega)
        have yv1 : IntKind.i64.wrap ((v : Int) + 1) = v + 1 := wI (by omega) (by omega)
        obtain rfl | rfl | rfl | rfl : j = 0 ∨ j = 1 ∨ j = 2 ∨ j = 3 := by omega
        · go_wp2_with fail
          obtain ⟨WZ, hWZ⟩ : ∃ WZ, wr.setCell ⟨F, 3, none⟩ (.int .i64 (u + 1)) = WZ := ⟨_, rfl⟩
          have z0 := HT0.out.aside (F := F) (k := 3) (fun g hg => by have := HO0.out g hg; omega) (.int .i64 (u + 1))
          have z1 := HT1.out.aside (F := F) (k := 3) (fun g hg => by have := HO1.out g hg; omega) (.int .i64 (u + 1))
          have z2 := HT2.out.aside (F := F) (k := 3) (fun g hg => by have := HO2.out g hg; omega) (.int .i64 (u + 1))
          have hbF := HBw.out.setCell (p := ⟨F, 3, none⟩) (show w.heap.size ≤ F by omega) (.int .i64 (u + 1))
          have hm := K.unlike u v (u + 1) v u v _ _ _ f0 f1 f2 _ (by omega) (by omega) (by omega) (by omega) (by omega) (by omega) (z0.read HG0.out) (z1.read HG1.out) (z2.read HG2.out) (by omega)
          refine hm.mono ?_
          clear hm
          rintro e w13 ⟨rfl, hb⟩
          have HBz := Lib.hid (below2 hbF hb)
          clear hb hbF z0 z1 z2 hWZ
          go_wp2_with fail
          go_ret
          exact ⟨rfl, HBz.out.alloc HBz.out.size _⟩
        · go_wp2_with fail
          obtain ⟨WZ, hWZ⟩ : ∃ WZ, wr.setCell ⟨F, 7, none⟩ (.int .i64 (v + 1)) = WZ := ⟨_, rfl⟩
          have z0 := HT0.out.aside (F := F) (k := 7) (fun g hg => by have := HO0.out g hg; omega) (.int .i64 (v + 1))
          have z1 := HT1.out.aside (F := F) (k := 7) (fun g hg => by have := HO1.out g hg; omega) (.int .i64 (v + 1))
          have z2 := HT2.out.aside (F := F) (k := 7) (fun g hg => by have := HO2.out g hg; omega) (.int .i64 (v + 1))
          have hbF := HBw.out.setCell (p := ⟨F, 7, none⟩) (show w.heap.size ≤ F by omega) (.int .i64 (v + 1))
          have hm := K.unlike u v u v u (v + 1) _ _ _ f0 f1 f2 _ (by omega) (by omega) (by omega) (by omega) (by omega) (by omega) (z0.read HG0.out) (z1.read HG1.out) (z2.read HG2.out) (by omega)
          refine hm.mono ?_
          clear hm
          rintro e w13 ⟨rfl, hb⟩
          have HBz := Lib.hid (below2 hbF hb)
          clear hb hbF z0 z1 z2 hWZ
          go_wp2_with fail
          go_ret
          exact ⟨rfl, HBz.out.alloc HBz.out.size _⟩
        · have HLz := Lib.hid (heap_alloc_new wr (.cells #[.int .u8 7] 5))
          have HTa := Lib.hid (HT1.out.alloc (.cells #[.int .u8 7] 5))
          have HRa := Lib.hid (HRw.out.alloc (.cells #[.int .u8 7] 5))
          have HBa := Lib.hid (HBw.out.alloc HBw.out.size (.cells #[.int .u8 7] 5))
          have HSa : Hid (w6.heap.size ≤ (wr.alloc (.cells #[.int .u8 7] 5)).heap.size) := Lib.hid (by have := HRa.out.lt; omega)
          have HOa := Lib.hid (fun g hg => HO1.out g hg)
          have HZ0 := Lib.hid (HT0.out.alloc (.cells #[.int .u8 7] 5))
          have HZ2 := Lib.hid (HT2.out.alloc (.cells #[.int .u8 7] 5))
          have l0 : (wr.alloc (.cells #[.int .u8 7] 5)).cell? ⟨wr.heap.size, 0, none⟩ = some (.int .u8 7) := by simp
          go_wp2_with (at_builtin; refine bpush_list (by rfl) _ _ (by rfl) w6.heap.size _ f1 r (by rfl) HTa.out HF1.out wr.heap.size 7 (by rfl) l0 (by omega) HSa.out ?_; intro A7 c7 w12 hown hgrow hb12 hat7; have HAT := Lib.hid hat7; have hRz := HRa.out.grown hgrow (fun e => by have := (HO1.out F (by rw [← e])).2; omega); have q0 := hRz.cell 0 rfl; have q1 := hRz.cell 1 rfl; have q2 := hRz.cell 2 rfl; have q3 := hRz.cell 3 rfl; have q4 := hRz.cell 4 rfl; have q5 := hRz.cell 5 rfl; have q6 := hRz.cell 6 rfl; have q7 := hRz.cell 7 rfl; have q8 := hRz.cell 8 rfl; have qf := hRz.frozen; have qz := hRz.lt; have HRz := Lib.hid hRz; have HGr := Lib.hid hgrow; have HTz := Lib.hid hown; have HBz := Lib.hid (HBa.out.trans (hb12.mono (show w.heap.size ≤ w6.heap.size by omega))); clear hRz hgrow hown hb12 hat7)
          have z0 : BRow (w12.setCell ⟨F, 5, none⟩ (.slice A7 (r + 1) c7)) _ _ f0 := (HZ0.out.kept HGr.out (fun g hg hg2 => by have := HO1.out g hg; have := HO0.out g hg2; omega)).aside (F := F) (k := 5) (fun g hg => by have := HO0.out g hg; omega) (.slice A7 (r + 1) c7)
          have z2 : BRow (w12.setCell ⟨F, 5, none⟩ (.slice A7 (r + 1) c7)) _ _ f2 := (HZ2.out.kept HGr.out (fun g hg hg2 => by have := HO1.out g hg; have := HO2.out g hg2; omega)).aside (F := F) (k := 5) (fun g hg => by have := HO2.out g hg; omega) (.slice A7 (r + 1) c7)
          have z1 : BRow (w12.setCell ⟨F, 5, none⟩ (.slice A7 (r + 1) c7)) _ _ (f1 ++ [7]) := HTz.out.aside (F := F) (k := 5) (fun g hg => Or.elim (HAT.out g hg) (fun h => by have := HO1.out g h; omega) (fun h => by rw [h]; have := HRa.out.lt; omega)) (.slice A7 (r + 1) c7)
          have hm := K.unlike u v u v u v _ _ _ f0 (f1 ++ [7]) f2 _ (by omega) (by omega) (by omega) (by omega) (by omega) (by omega) (z0.read HG0.out) (z1.read (fun b hb => Or.elim (List.mem_append.1 hb) (HG1.out b) (fun h => by simp only [List.mem_singleton] at h; omega))) (z2.read HG2.out) (by
            rintro ⟨_, _, _, _, _, h, _⟩
            rw [List.length_append, HF1.out, HL.out] at h
            simp only [List.length_cons, List.length_nil] at h
            omega)
          have hbF := HBz.out.setCell (p := ⟨F, 5, none⟩) (show w.heap.size ≤ F by omega) (.slice A7 (r + 1) c7)
          refine hm.mono ?_
          clear hm
          rintro e w13 ⟨rfl, hb⟩
          have HBy := Lib.hid (below2 hbF hb)
          clear hb hbF z0 z1 z2
          go_wp2_with fail
          go_ret
          exact ⟨rfl, HBy.out.alloc HBy.out.size _⟩
        · have HLz := Lib.hid (heap_alloc_new wr (.cells #[.int .u8 7] 5))
          have HTa := Lib.hid (HT0.out.alloc (.cells #[.int .u8 7] 5))
          have HRa := Lib.hid (HRw.out.alloc (.cells #[.int .u8 7] 5))
          have HBa := Lib.hid (HBw.out.alloc HBw.out.size (.cells #[.int .u8 7] 5))
          have HSa : Hid (w5.heap.size ≤ (wr.alloc (.cells #[.int .u8 7] 5)).heap.size) := Lib.hid (by have := HRa.out.lt; omega)
          have HOa := Lib.hid (fun g hg => HO0.out g hg)
          have HZ1 := Lib.hid (HT1.out.alloc (.cells #[.int .u8 7] 5))
          have HZ2 := Lib.hid (HT2.out.alloc (.cells #[.int .u8 7] 5))
          have l0 : (wr.alloc (.cells #[.int .u8 7] 5)).cell? ⟨wr.heap.size, 0, none⟩ = some (.int .u8 7) := by simp
          go_wp2_with (at_builtin; refine bpush_list (by rfl) _ _ (by rfl) w5.heap.size _ f0 r (by rfl) HTa.out HF0.out wr.heap.size 7 (by rfl) l0 (by omega) HSa.out ?_; intro A7 c7 w12 hown hgrow hb12 hat7; have HAT := Lib.hid hat7; have hRz := HRa.out.grown hgrow (fun e => by have := HO0.out F (by rw [← e]); omega); have q0 := hRz.cell 0 rfl; have q1 := hRz.cell 1 rfl; have q2 := hRz.cell 2 rfl; have q3 := hRz.cell 3 rfl; have q4 := hRz.cell 4 rfl; have q5 := hRz.cell 5 rfl; have q6 := hRz.cell 6 rfl; have q7 := hRz.cell 7 rfl; have q8 := hRz.cell 8 rfl; have qf := hRz.frozen; have qz := hRz.lt; have HRz := Lib.hid hRz; have HGr := Lib.hid hgrow; have HTz := Lib.hid hown; have HBz := Lib.hid (HBa.out.trans (hb12.mono (show w.heap.size ≤ w5.heap.size by omega))); clear hRz hgrow hown hb12 hat7)
          have z1 : BRow (w12.setCell ⟨F, 2, none⟩ (.slice A7 (r + 1) c7)) _ _ f1 := (HZ1.out.kept HGr.out (fun g hg hg2 => by have := HO0.out g hg; have := HO1.out g hg2; omega)).aside (F := F) (k := 2) (fun g hg => by have := HO1.out g hg; omega) (.slice A7 (r + 1) c7)
          have z2 : BRow (w12.setCell ⟨F, 2, none⟩ (.slice A7 (r + 1) c7)) _ _ f2 := (HZ2.out.kept HGr.out (fun g hg hg2 => by have := HO0.out g hg; have := HO2.out g hg2; omega)).aside (F := F) (k := 2) (fun g hg => by have := HO2.out g hg; omega) (.slice A7 (r + 1) c7)
          have z0 : BRow (w12.setCell ⟨F, 2, none⟩ (.slice A7 (r + 1) c7)) _ _ (f0 ++ [7]) := HTz.out.aside (F := F) (k := 2) (fun g hg => Or.elim (HAT.out g hg) (fun h => by have := HO0.out g h; omega) (fun h => by rw [h]; have := HRa.out.lt; omega)) (.slice A7 (r + 1) c7)
          have hm := K.unlike u v u v u v _ _ _ (f0 ++ [7]) f1 f2 _ (by omega) (by omega) (by omega) (by omega) (by omega) (by omega) (z0.read (fun b hb => Or.elim (List.mem_append.1 hb) (HG0.out b) (fun h => by simp only [List.mem_singleton] at h; omega))) (z1.read HG1.out) (z2.read HG2.out) (by
            rintro ⟨_, _, _, _, h, _, _⟩
            rw [List.length_append, HF0.out, HL.out] at h
            simp only [List.length_cons, List.length_nil] at h
            omega)
          have hbF := HBz.out.setCell (p := ⟨F, 2, none⟩) (show w.heap.size ≤ F by omega) (.slice A7 (r + 1) c7)
          refine hm.mono ?_
          clear hm
          rintro e w13 ⟨rfl, hb⟩
          have HBy := Lib.hid (below2 hbF hb)
          clear hb hbF z0 z1 z2
          go_wp2_with fail
          go_ret
          exact ⟨rfl, HBy.out.alloc HBy.out.size _⟩

end Go.Proofs.Ytnpklcmbiamocaa
