/-
  What the closure of the law MsdfMerge does to any world: a contract (no claim is made here).
-/
import Derived.Test.YtnpklcmbiamocaaMsd2
import Derived.Test.YtnpklcmbiamocaaBzer
import Derived.Deep.AppendLies
namespace Go.Proofs.Ytnpklcmbiamocaa
open Go.RowKit

set_option maxRecDepth 100000 in
/-- append(s, x...) of bytes that are read. -/
theorem bdjoin_wp {w : World} {o : Oper} {a : Act} {K : Act → World → Prop} {Q : Exit → Act → World → Prop} (s x : Operand)
    (ho : o.op = .call { callee := .builtin .append, args := #[s, x], argTypes := #[25, 25] }) (base : Nat) (u : Value) (es : List Nat) (N : Nat) (hs : a.eval s = u) (hown : BRow w base u es) (hN : es.length = N)
    (A : Option Addr) (M cap : Nat) (fs : List Nat) (hx : a.eval x = .slice A M cap) (hfs : BRd w (.slice A M cap) fs) (hM : fs.length = M) (hlen : N + M ≤ 1000000) (hbase : base ≤ w.heap.size)
    (h : ∀ A' cap' w', BRow w' base (.slice A' (N + M) cap') (es ++ fs) → Below base w w' → K (a.put o.dst (.slice A' (N + M) cap')) w') :
    Oper.wp Try.prog o a w K Q := by
  obtain ⟨i0, hi0, hz0, hz1, hz2⟩ := infos binfo
  by_cases h0 : M = 0
  · subst h0
    have hf : fs = [] := List.eq_nil_of_length_eq_zero hM
    subst hf
    obtain ⟨Au, cu, hu⟩ := hown.form
    have hr := append_empty (P := Try.prog) (w := w) base 25 o.type 5 i0 1 Try.underlying25 hi0 u N (bvals es) (BRow.own hown hN) A cap
    refine Lib.wp_append_run w s x 25 25 ho u (.slice A 0 cap) hs hx u w hr ?_
    have hu' : u = .slice Au (N + 0) cu := by rw [hu, hN]; rfl
    rw [hu']
    rw [hu'] at hown
    exact h Au cu w (by rw [List.append_nil]; exact hown) (Below.refl _ _)
  · obtain ⟨A1, cap1, e1, _, _, _, h3⟩ := id hfs
    obtain ⟨a1, ha1, _⟩ := h3 0 (by omega)
    simp only [Value.slice.injEq] at e1
    obtain ⟨rfl, -, -⟩ := e1
    subst ha1
    have hnews : ∀ j v, (bvals fs)[j]? = some v → w.cell? (a1.add j) = some v := by
      intro j v hj
      have hlt : j < fs.length := by have := (List.getElem?_eq_some_iff.1 hj).1; rwa [bvals_length] at this
      obtain ⟨_, e, _, k⟩ := h3 j hlt
      cases e
      unfold bvals at hj
      rw [List.getElem?_map, List.getElem?_eq_getElem hlt] at hj
      injection hj with hj
      rw [← hj]
      exact k
    refine wp_append_lies w s x 25 ho base 5 i0 _ 1 1 Try.underlying25 hi0 hz0 hz1 hz2 rfl (by omega) u N (bvals es) hs (BRow.own hown hN) a1 M cap (bvals fs) hx (by rw [bvals_length, hM, Nat.mul_one]) hnews (bvals_one _) (by omega) (by unfold maxLen; omega) (by omega) hbase _ rfl ?_
    intro g cap' w' hown' hgrow _ _
    refine h _ _ w' ?_ ?_
    · unfold BRow
      rw [List.length_append, hN, hM, bvals_append]
      exact hown'
    · exact (Below.refl base w).grown hgrow hbase (fun q hq => (World.ownsRow.lt hown q hq).1)
theorem bdjoin_list {w : World} {ops : Array Oper} {rest : List Oper} {o : Oper} {a : Act} {Q : Exit → Act → World → Prop} (hgd : o.guard = none) (s x : Operand)
    (ho : o.op = .call { callee := .builtin .append, args := #[s, x], argTypes := #[25, 25] }) (base : Nat) (u : Value) (es : List Nat) (N : Nat) (hs : a.eval s = u) (hown : BRow w base u es) (hN : es.length = N)
    (A : Option Addr) (M cap : Nat) (fs : List Nat) (hx : a.eval x = .slice A M cap) (hfs : BRd w (.slice A M cap) fs) (hM : fs.length = M) (hlen : N + M ≤ 1000000) (hbase : base ≤ w.heap.size)
    (h : ∀ A' cap' w', BRow w' base (.slice A' (N + M) cap') (es ++ fs) → Below base w w' → wpList Try.prog ops Q rest (a.put o.dst (.slice A' (N + M) cap')) w') :
    wpList Try.prog ops Q (o :: rest) a w :=
  wpList_plain hgd fun _ hK => bdjoin_wp s x ho base u es N hs hown hN A M cap fs hx hfs hM hlen hbase fun A' cap' w' h1 h2 => hK _ _ (h A' cap' w' h1 h2)
theorem bzeros_wp {w : World} {o : Oper} {a : Act} {K : Act → World → Prop} {Q : Exit → Act → World → Prop} (s x : Operand)
    (ho : o.op = .call { callee := .builtin .append, args := #[s, x], argTypes := #[25, 3] }) (base : Nat) (u : Value) (es : List Nat) (N k : Nat) (hs : a.eval s = u) (hown : BRow w base u es) (hN : es.length = N) (hx : a.eval x = .int .i64 k) (hk : N + k ≤ 100000) (hbase : base ≤ w.heap.size)
    (h : ∀ A' cap' w', BRow w' base (.slice A' (N + k) cap') (es ++ List.replicate k 0) → Below base w w' → K (a.put o.dst (.slice A' (N + k) cap')) w') :
    Oper.wp Try.prog o a w K Q := by
  obtain ⟨A', cap', w', hr, h1, h2⟩ := bzeros_run N k o.type hown hN hk hbase
  exact Lib.wp_append_run w s x 25 3 ho u (.int .i64 k) hs hx _ w' hr (h A' cap' w' h1 h2)
theorem bzeros_list {w : World} {ops : Array Oper} {rest : List Oper} {o : Oper} {a : Act} {Q : Exit → Act → World → Prop} (hgd : o.guard = none) (s x : Operand)
    (ho : o.op = .call { callee := .builtin .append, args := #[s, x], argTypes := #[25, 3] }) (base : Nat) (u : Value) (es : List Nat) (N k : Nat) (hs : a.eval s = u) (hown : BRow w base u es) (hN : es.length = N) (hx : a.eval x = .int .i64 k) (hk : N + k ≤ 100000) (hbase : base ≤ w.heap.size)
    (h : ∀ A' cap' w', BRow w' base (.slice A' (N + k) cap') (es ++ List.replicate k 0) → Below base w w' → wpList Try.prog ops Q rest (a.put o.dst (.slice A' (N + k) cap')) w') :
    wpList Try.prog ops Q (o :: rest) a w := by
  obtain ⟨A', cap', w', hr, h1, h2⟩ := bzeros_run N k o.type hown hN hk hbase
  exact Lib.wpList_append_run w hgd s x 25 3 ho u (.int .i64 k) hs hx _ w' hr (h A' cap' w' h1 h2)

/-- A text cut or filled up to so many bytes. -/
def padN (bs : List Nat) (n : Nat) : List Nat := bs.take n ++ List.replicate (n - bs.length) 0

set_option maxRecDepth 100000 in
set_option maxHeartbeats 1600000 in
theorem merge1_any (gw gh gn u v n : Nat) (t : Value) (bs : List Nat) (w : World) (ht : BRd w t bs) (hu : u ≤ 24) (hv : v ≤ 24) (hn : n ≤ 1000) (hw : w.cell? ⟨gw, 0, none⟩ = some (.int .i8 u)) (hh : w.cell? ⟨gh, 0, none⟩ = some (.int .i8 v)) (hnn : w.cell? ⟨gn, 0, none⟩ = some (.int .i64 n)) (hg : gw < w.heap.size ∧ gh < w.heap.size ∧ gn < w.heap.size) :
    Calls Try.prog 19 #[t, .pointer (some ⟨gn, 0, none⟩), .pointer (some ⟨gw, 0, none⟩), .pointer (some ⟨gh, 0, none⟩)] w fun e w' => ∃ T, e = .returned (.agg #[.int .i64 u, .int .i64 v, T]) ∧ BRow w' w.heap.size T (padN bs n) ∧ Below w.heap.size w w' := by
  obtain ⟨A, cap, rfl, hc, hcm, hbb, -⟩ := id ht
  have HP := Lib.hid (show padN bs n = bs.take n ++ List.replicate (n - bs.length) 0 from rfl)
  obtain ⟨hg1, hg2, hg3⟩ := hg
  have hal : Below w.heap.size w (w.alloc (.cells #[.int .i64 0, .int .i64 0, .slice none 0 0] 38)) := (Below.refl _ _).alloc (Nat.le_refl _) _
  have HT1 := Lib.hid (ht.keep hal)
  have HR1 := Lib.hid (Blk.new w 38 [.int .i64 0, .int .i64 0, .slice none 0 0] rfl)
  have HB1 := Lib.hid hal
  have c1 := Go.Proofs.Ytnpklcmbiamocaa.keep hal hw
  have c2 := Go.Proofs.Ytnpklcmbiamocaa.keep hal hh
  have c3 := Go.Proofs.Ytnpklcmbiamocaa.keep hal hnn
  have hwz : w.heap.size + 1 = (w.alloc (.cells #[.int .i64 0, .int .i64 0, .slice none 0 0] 38)).heap.size := by simp
  obtain ⟨N, hN⟩ : ∃ N, bs.length = N := ⟨_, rfl⟩
  have HN := Lib.hid hN
  rw [hN] at HT1 HP hc ⊢
  have hNm : N ≤ 9223372036854775807 := by unfold maxLen at hcm; omega
  obtain ⟨m, hm⟩ : ∃ m, min N n = m := ⟨_, rfl⟩
  obtain ⟨k, hk⟩ : ∃ k, n - N = k := ⟨_, rfl⟩
  obtain ⟨D, hD⟩ : ∃ D : Int, (n : Int) - N = D := ⟨_, rfl⟩
  rw [hk] at HP
  have hmk : m + k = n := by omega
  have hmN : m ≤ N := by omega
  have HTK := Lib.hid (show bs.take n = bs.take m by
    by_cases h : N ≤ n
    · rw [← hm, Nat.min_eq_left h, ← hN, List.take_length, List.take_of_length_le (by omega)]
    · rw [← hm, Nat.min_eq_right (by omega)])
  have HTL := Lib.hid (show (bs.take m).length = m by rw [List.length_take, hN]; omega)
  rw [HTK.out] at HP
  have z1 : IntKind.i64.wrap ((n : Int) - N) = D := by rw [hD]; exact wI (by omega) (by omega)
  have HMI : ∀ w, Sem.run Try.prog (Builtin.min_ #[3, 3] 3 #[.int .i64 N, .int .i64 n]) w = .ok (.int .i64 m) w := fun w => by rw [run_min2i, show min (N : Int) n = m by omega]
  have HMA : ∀ w, Sem.run Try.prog (Builtin.max_ #[3, 3] 3 #[.int .i64 0, .int .i64 D]) w = .ok (.int .i64 k) w := fun w => by rw [run_max2i, show max 0 D = (k : Int) by omega]
  have hmc : decide ((cap : Int) < m) = false := by simp; omega
  have hmz : decide ((m : Int) < 0) = false := by simp
  have hkz : k ≤ 1000 := by omega
  have hmn : m ≤ 1000 := by omega
  have hcm2 : m ≤ cap := by omega
  clear hN hm hk hD ht hw hh hnn hbb HTK
  go_enter Try.func19, Try.ntmps19
  go_upto_region 1 with fail
  generalize w.alloc (.cells #[.int .i64 0, .int .i64 0, .slice none 0 0] 38) = w1 at *
  have hd : Below w1.heap.size w1 w1.drew := (Below.refl _ w1).drew
  have AB := HB1.out.drew
  have HTX := Lib.hid (HT1.out.keep hd)
  have HRX := Lib.hid (HR1.out.keep hd)
  have HZ : Hid (w.heap.size + 1 ≤ w1.drew.heap.size) := Lib.hid (by rw [hwz]; exact hd.size)
  have d1 := Go.Proofs.Ytnpklcmbiamocaa.keep hd c1
  have d2 := Go.Proofs.Ytnpklcmbiamocaa.keep hd c2
  have d3 := Go.Proofs.Ytnpklcmbiamocaa.keep hd c3
  clear hd HB1 HT1 HR1 c1 c2 c3 hwz
  refine wp_region_held_drew (S := fun wx => wx.cell? ⟨gn, 0, none⟩ = some (.int .i64 n)) (by kernel_rfl) (d3) (fun hHeld => ?_)
  refine wpAnyH_take (i := 0) (v := ?_) rfl (by kernel_rfl) (by kernel_rfl) (by kernel_rfl) (fun _ _ _ h => h) (Or.inl ⟨by rfl, ?_⟩) hHeld ?_
  rotate_left
  · intro w hSw
    (try dsimp only at hSw)
    (try simp only [List.getElem_toArray, List.getElem_cons_zero])
    go_simp
    all_goals with_reducible rfl
  try simp only [List.getElem_toArray, List.getElem_cons_zero, Act.put, List.setIfInBounds_toArray, List.set_cons_zero, List.set_cons_succ]
  refine wpAnyH_take (i := 1) (v := ?_) rfl (by kernel_rfl) (by kernel_rfl) (by kernel_rfl) (fun _ _ _ h => h) (Or.inl ⟨by rfl, ?_⟩) hHeld ?_
  rotate_left
  · intro w hSw
    (try dsimp only at hSw)
    (try simp only [List.getElem_toArray, List.getElem_cons_zero, List.getElem_cons_succ])
    go_simp
    all_goals with_reducible rfl
  try simp only [List.getElem_toArray, List.getElem_cons_zero, List.getElem_cons_succ, Act.put, List.setIfInBounds_toArray, List.set_cons_zero, List.set_cons_succ]
  refine wpAnyH_take (i := 2) (v := ?_) rfl (by kernel_rfl) (by kernel_rfl) (by kernel_rfl) (fun _ _ _ h => h) (Or.inl ⟨by rfl, ?_⟩) hHeld ?_
  rotate_left
  · intro w hSw
    (try dsimp only at hSw)
    (try simp only [List.getElem_toArray, List.getElem_cons_zero, List.getElem_cons_succ])
    go_simp
    all_goals with_reducible rfl
  try simp only [List.getElem_toArray, List.getElem_cons_zero, List.getElem_cons_succ, Act.put, List.setIfInBounds_toArray, List.set_cons_zero, List.set_cons_succ]
  refine wpAnyH_take (i := 3) (v := ?_) rfl (by kernel_rfl) (by kernel_rfl) (by kernel_rfl) (fun _ _ _ h => h) (Or.inl ⟨by rfl, ?_⟩) hHeld ?_
  rotate_left
  · intro w hSw
    (try dsimp only at hSw)
    (try simp only [List.getElem_toArray, List.getElem_cons_zero, List.getElem_cons_succ])
    go_simp
    all_goals with_reducible rfl
  try simp only [List.getElem_toArray, List.getElem_cons_zero, List.getElem_cons_succ, Act.put, List.setIfInBounds_toArray, List.set_cons_zero, List.set_cons_succ]
  refine wpAnyH_take (i := 4) (v := ?_) rfl (by kernel_rfl) (by kernel_rfl) (by kernel_rfl) (fun _ _ _ h => h) (Or.inl ⟨by rfl, ?_⟩) hHeld ?_
  rotate_left
  · intro w hSw
    (try dsimp only at hSw)
    (try simp only [List.getElem_toArray, List.getElem_cons_zero, List.getElem_cons_succ])
    go_simp
    all_goals with_reducible rfl
  try simp only [List.getElem_toArray, List.getElem_cons_zero, List.getElem_cons_succ, Act.put, List.setIfInBounds_toArray, List.set_cons_zero, List.set_cons_succ]
  refine wpAnyH_take (i := 5) (v := ?_) rfl (by kernel_rfl) (by kernel_rfl) (by kernel_rfl) (fun _ _ _ h => h) (Or.inl ⟨by rfl, ?_⟩) hHeld ?_
  rotate_left
  · intro w hSw
    (try dsimp only at hSw)
    (try simp only [List.getElem_toArray, List.getElem_cons_zero, List.getElem_cons_succ])
    go_simp
    all_goals with_reducible rfl
  try simp only [List.getElem_toArray, List.getElem_cons_zero, List.getElem_cons_succ, Act.put, List.setIfInBounds_toArray, List.set_cons_zero, List.set_cons_succ]
  refine wpAnyH_take (i := 7) (v := ?_) rfl (by kernel_rfl) (by kernel_rfl) (by kernel_rfl) (fun _ _ _ h => h) (Or.inl ⟨by rfl, ?_⟩) hHeld ?_
  rotate_left
  · intro w hSw
    (try dsimp only at hSw)
    (try simp only [List.getElem_toArray, List.getElem_cons_zero, List.getElem_cons_succ])
    go_simp
    all_goals with_reducible rfl
  try simp only [List.getElem_toArray, List.getElem_cons_zero, List.getElem_cons_succ, Act.put, List.setIfInBounds_toArray, List.set_cons_zero, List.set_cons_succ]
  refine wpAnyH_take (i := 8) (v := ?_) rfl (by kernel_rfl) (by kernel_rfl) (by kernel_rfl) (fun _ _ _ h => h) (Or.inl ⟨by rfl, ?_⟩) hHeld ?_
  rotate_left
  · intro w hSw
    (try dsimp only at hSw)
    (try simp only [List.getElem_toArray, List.getElem_cons_zero, List.getElem_cons_succ])
    go_simp
    all_goals with_reducible rfl
  try simp only [List.getElem_toArray, List.getElem_cons_zero, List.getElem_cons_succ, Act.put, List.setIfInBounds_toArray, List.set_cons_zero, List.set_cons_succ]
  refine wpAnyH_take (i := 9) (v := ?_) rfl (by kernel_rfl) (by kernel_rfl) (by kernel_rfl) (fun _ _ _ h => h) (Or.inl ⟨by rfl, ?_⟩) hHeld ?_
  rotate_left
  · intro w hSw
    (try dsimp only at hSw)
    (try simp only [List.getElem_toArray, List.getElem_cons_zero, List.getElem_cons_succ])
    go_simp
    all_goals with_reducible rfl
  try simp only [List.getElem_toArray, List.getElem_cons_zero, List.getElem_cons_succ, Act.put, List.setIfInBounds_toArray, List.set_cons_zero, List.set_cons_succ]
  refine wpAnyH_take (i := 10) (v := ?_) rfl (by kernel_rfl) (by kernel_rfl) (by kernel_rfl) (fun _ _ _ h => h) (Or.inl ⟨by rfl, ?_⟩) hHeld ?_
  rotate_left
  · intro w hSw
    (try dsimp only at hSw)
    (try simp only [List.getElem_toArray, List.getElem_cons_zero, List.getElem_cons_succ])
    go_simp
    all_goals with_reducible rfl
  try simp only [List.getElem_toArray, List.getElem_cons_zero, List.getElem_cons_succ, Act.put, List.setIfInBounds_toArray, List.set_cons_zero, List.set_cons_succ]
  refine wpAnyH_take (i := 11) (v := ?_) rfl (by kernel_rfl) (by kernel_rfl) (by kernel_rfl) (fun _ _ _ h => h) (Or.inl ⟨by rfl, ?_⟩) hHeld ?_
  rotate_left
  · intro w hSw
    (try dsimp only at hSw)
    (try simp only [List.getElem_toArray, List.getElem_cons_zero, List.getElem_cons_succ])
    go_simp
    all_goals with_reducible rfl
  try simp only [List.getElem_toArray, List.getElem_cons_zero, List.getElem_cons_succ, Act.put, List.setIfInBounds_toArray, List.set_cons_zero, List.set_cons_succ]
  refine wpAnyH_ready (rs := [6]) (by kernel_rfl) (by simp) ?_
  refine AllReadyH.cons rfl (fun K hK => ?_) AllReadyH.nil
  try simp only [List.getElem_toArray, List.getElem_cons_zero, List.getElem_cons_succ]
  refine step_if (by kernel_rfl) ?_
  refine bdjoin_wp (.const (.slice none 0 0)) (.tmp 11) ?_ (w.heap.size + 1) (.slice none 0 0) [] 0 ?_ (BRow.nil _ _) rfl A m cap (bs.take m) ?_ ?_ HTL.out ?_ HZ.out ?_
  · rfl
  · rfl
  · rfl
  · exact HTX.out.take m (by rw [HN.out]; exact hmN)
  · omega
  intro A6 c6 wn hX hb6
  rw [Nat.zero_add] at hX ⊢
  rw [List.nil_append] at hX
  have HX := Lib.hid hX
  clear hX HTX
  have AB := AB.trans (hb6.mono (Nat.le_succ _))
  have hz6 := Nat.le_trans HZ.out hb6.size
  replace HZ := Lib.hid hz6
  replace HRX := Lib.hid (HRX.out.heap (hb6.block w.heap.size (Nat.lt_succ_self _)))
  replace d1 := (hb6.cell (p := ⟨gw, 0, none⟩) (show gw < w.heap.size + 1 by omega)).trans d1
  replace d2 := (hb6.cell (p := ⟨gh, 0, none⟩) (show gh < w.heap.size + 1 by omega)).trans d2
  replace d3 := (hb6.cell (p := ⟨gn, 0, none⟩) (show gn < w.heap.size + 1 by omega)).trans d3
  clear hb6 hz6
  refine hK.out _ _ (d3) (fun hHeld => ?_)
  clear hK K
  try simp only [Act.put, List.setIfInBounds_toArray, List.set_cons_zero, List.set_cons_succ]
  refine wpAnyH_ready (rs := [12]) (by kernel_rfl) (by simp) ?_
  refine AllReadyH.cons rfl (fun K hK => ?_) AllReadyH.nil
  try simp only [List.getElem_toArray, List.getElem_cons_zero, List.getElem_cons_succ]
  refine step_if (by kernel_rfl) ?_
  refine bzeros_wp (.tmp 12) (.tmp 17) ?_ (w.heap.size + 1) (.slice A6 m c6) (bs.take m) m k ?_ HX.out HTL.out ?_ ?_ HZ.out ?_
  · rfl
  · rfl
  · rfl
  · omega
  intro A7 c7 wn hX7 hb7
  rw [hmk] at hX7 ⊢
  rw [← HP.out] at hX7
  have HX7 := Lib.hid hX7
  clear hX7 HX
  have AB := AB.trans (hb7.mono (Nat.le_succ _))
  have hz6 := Nat.le_trans HZ.out hb7.size
  replace HZ := Lib.hid hz6
  replace HRX := Lib.hid (HRX.out.heap (hb7.block w.heap.size (Nat.lt_succ_self _)))
  replace d1 := (hb7.cell (p := ⟨gw, 0, none⟩) (show gw < w.heap.size + 1 by omega)).trans d1
  replace d2 := (hb7.cell (p := ⟨gh, 0, none⟩) (show gh < w.heap.size + 1 by omega)).trans d2
  replace d3 := (hb7.cell (p := ⟨gn, 0, none⟩) (show gn < w.heap.size + 1 by omega)).trans d3
  clear hb7 hz6
  refine hK.out _ _ (d3) (fun hHeld => ?_)
  clear hK K
  try simp only [Act.put, List.setIfInBounds_toArray, List.set_cons_zero, List.set_cons_succ]
  refine wpAnyH_take (i := 13) (v := ?_) rfl (by kernel_rfl) (by kernel_rfl) (by kernel_rfl) (fun _ _ _ h => h) (Or.inl ⟨by rfl, ?_⟩) hHeld ?_
  rotate_left
  · intro w hSw
    (try dsimp only at hSw)
    (try simp only [List.getElem_toArray, List.getElem_cons_zero, List.getElem_cons_succ])
    go_simp
    all_goals with_reducible rfl
  try simp only [List.getElem_toArray, List.getElem_cons_zero, List.getElem_cons_succ, Act.put, List.setIfInBounds_toArray, List.set_cons_zero]
  refine wpAnyH_done (by kernel_rfl) ?_ _
  clear hHeld
  have r0 := HRX.out.cell 0 rfl
  have r1 := HRX.out.cell 1 rfl
  have r2 := HRX.out.cell 2 rfl
  have rf := HRX.out.frozen
  have rl := HRX.out.lt
  have HR3 : Hid (Blk (((wn.setCell ⟨w.heap.size, 0, none⟩ (.int .i64 u)).setCell ⟨w.heap.size, 1, none⟩ (.int .i64 v)).setCell ⟨w.heap.size, 2, none⟩ (.slice A7 n c7)) w.heap.size 38 [.int .i64 u, .int .i64 v, .slice A7 n c7]) := Lib.hid (((HRX.out.set 0 (.int .i64 u)).set 1 (.int .i64 v)).set 2 (.slice A7 n c7))
  have HB3 := Lib.hid (((AB.setCell (p := ⟨w.heap.size, 0, none⟩) (Nat.le_refl _) (.int .i64 u)).setCell (p := ⟨w.heap.size, 1, none⟩) (Nat.le_refl _) (.int .i64 v)).setCell (p := ⟨w.heap.size, 2, none⟩) (Nat.le_refl _) (.slice A7 n c7))
  have HX3 := Lib.hid (((HX7.out.set (p := ⟨w.heap.size, 0, none⟩) (Nat.lt_succ_self _) (.int .i64 u)).set (p := ⟨w.heap.size, 1, none⟩) (Nat.lt_succ_self _) (.int .i64 v)).set (p := ⟨w.heap.size, 2, none⟩) (Nat.lt_succ_self _) (.slice A7 n c7))
  clear HX7 HRX AB HZ d3
  go_wp2_with fail
  have k0 := HR3.out.cell 0 rfl
  have k1 := HR3.out.cell 1 rfl
  have k2 := HR3.out.cell 2 rfl
  exact bodyPost_ret (v := .agg #[.int .i64 u, .int .i64 v, .slice A7 n c7]) (by simp [results, Try.results19, go_sem, k0, k1, k2]) rfl ⟨_, rfl, HX3.out.mono (Nat.le_succ _), HB3.out⟩

end Go.Proofs.Ytnpklcmbiamocaa
