/-
  What the program's texels do in layer 13: contracts (no claim is made here).
-/
import Derived.Test.YteiildeaccngjaaSwp4
import Derived.Test.YteiildeaccngjaaMsdq
namespace Go.Proofs.Yteiildeaccngjaa
open Go.RowKit

theorem eats_keepB {w w' : World} {a : Addr} {i B : Nat} {s0 s1 s2 s3 : Int} (h : EAtS w a i s0 s1 s2 s3) (hl : a.block < B) (hb : Below B w w') : EAtS w' a i s0 s1 s2 s3 := by
  obtain ⟨h0, h1, h2, h3⟩ := h
  have hk : ∀ p : Addr, p.block = a.block → w'.cell? p = w.cell? p := fun p e => hb.cell (by rw [e]; exact hl)
  exact ⟨(hk (a.add (i * 4)) (block_add a _)).trans h0, (hk ⟨(a.add (i * 4)).block, (a.add (i * 4)).off + 1, none⟩ (block_add a _)).trans h1, (hk ⟨(a.add (i * 4)).block, (a.add (i * 4)).off + 2, none⟩ (block_add a _)).trans h2, (hk ⟨(a.add (i * 4)).block, (a.add (i * 4)).off + 3, none⟩ (block_add a _)).trans h3⟩
theorem NRw.heap {w w' : World} {gm n : Nat} {xs : List Value} (h : NRw w gm n xs) (hb : w'.heap[gm]? = w.heap[gm]?) : NRw w' gm n xs := ⟨h.1, own_blocks h.2 fun q hq => by cases hq; exact hb⟩
/-- The squares that go with what is known. -/
def SQw (w : World) (g M : Nat) (es : List Ed) (P : Nat → Pt) (st : List Int) : Prop :=
  ∃ xs, w.ownsRow g 47 2 (.slice (some ⟨g, 0, none⟩) M M) M xs ∧ ∀ n, n < M → 0 ≤ knS st n → xs[n * 2]? = some (.int .i64 (sqK es (P n) (knS st n)).1) ∧ xs[n * 2 + 1]? = some (.int .i64 (sqK es (P n) (knS st n)).2)
theorem SQw.lt {w : World} {g M : Nat} {es : List Ed} {P : Nat → Pt} {st : List Int} (h : SQw w g M es P st) : g < w.heap.size := by
  obtain ⟨xs, h, _⟩ := h
  exact (World.ownsRow.lt h g rfl).2
theorem SQw.heap {w w' : World} {g M : Nat} {es : List Ed} {P : Nat → Pt} {st : List Int} (h : SQw w g M es P st) (hb : w'.heap[g]? = w.heap[g]?) : SQw w' g M es P st := by
  obtain ⟨xs, h, k⟩ := h
  exact ⟨xs, own_blocks h fun q hq => by cases hq; exact hb, k⟩
theorem SQw.keep {w w' : World} {g M : Nat} {es : List Ed} {P : Nat → Pt} {st : List Int} (h : SQw w g M es P st) (hb : Below w.heap.size w w') : SQw w' g M es P st := h.heap (hb.block g h.lt)
theorem SQw.cell {w : World} {g M : Nat} {es : List Ed} {P : Nat → Pt} {st : List Int} (h : SQw w g M es P st) {n : Nat} (hn : n < M) : ((∃ x, w.cell? ⟨g, n * 2, none⟩ = some x) ∧ ∃ x, w.cell? ⟨g, n * 2 + 1, none⟩ = some x) ∧ w.frozen? ⟨g, n * 2, none⟩ = false ∧ w.frozen? ⟨g, n * 2 + 1, none⟩ = false := by
  obtain ⟨xs, h, _⟩ := h
  have hl := h.1
  refine ⟨⟨⟨xs[n * 2]'(by omega), ?_⟩, ⟨xs[n * 2 + 1]'(by omega), ?_⟩⟩, World.ownsRow.frozenAt h _, World.ownsRow.frozenAt h _⟩
  · rw [World.ownsRow.cellAt h _ (by omega)]; exact List.getElem?_eq_getElem _
  · rw [World.ownsRow.cellAt h _ (by omega)]; exact List.getElem?_eq_getElem _
theorem SQw.val {w : World} {g M : Nat} {es : List Ed} {P : Nat → Pt} {st : List Int} (h : SQw w g M es P st) {n : Nat} (hn : n < M) (hk : 0 ≤ knS st n) : w.cell? ⟨g, n * 2, none⟩ = some (.int .i64 (sqK es (P n) (knS st n)).1) ∧ w.cell? ⟨g, n * 2 + 1, none⟩ = some (.int .i64 (sqK es (P n) (knS st n)).2) := by
  obtain ⟨xs, h, k⟩ := h
  exact ⟨(World.ownsRow.cellAt h _ (by omega)).trans (k n hn hk).1, (World.ownsRow.cellAt h _ (by omega)).trans (k n hn hk).2⟩
theorem SQw.store {w : World} {g M : Nat} {es : List Ed} {P : Nat → Pt} {st : List Int} (h : SQw w g M es P st) {n : Nat} (hn : n < M) (hl : st.length = M) (e : Int) {a b : Int} (ha : (sqK es (P n) e).1 = a) (hb : (sqK es (P n) e).2 = b) :
    SQw ((w.setCell ⟨g, n * 2, none⟩ (.int .i64 a)).setCell ⟨g, n * 2 + 1, none⟩ (.int .i64 b)) g M es P (st.set n e) := by
  subst ha hb
  obtain ⟨xs, h, k⟩ := h
  have hx := h.1
  refine ⟨_, (World.ownsRow.stored (World.ownsRow.stored h (n * 2) _).1 (n * 2 + 1) _).1, fun m hm hk => ?_⟩
  rw [kn_set (by omega)] at hk ⊢
  by_cases hmn : m = n
  · subst hmn
    rw [if_pos rfl]
    constructor
    · rw [List.getElem?_set_ne (by omega), List.getElem?_set_self (by omega)]
    · rw [List.getElem?_set_self (by rw [List.length_set]; omega)]
  · rw [if_neg hmn] at hk ⊢
    rw [List.getElem?_set_ne (by omega), List.getElem?_set_ne (by omega), List.getElem?_set_ne (by omega), List.getElem?_set_ne (by omega)]
    exact k m hm hk
/-- Nothing is known: whatever the squares are. -/
theorem SQw.new {w : World} {g M : Nat} {xs : List Value} (es : List Ed) (P : Nat → Pt) {st : List Int} (h : w.ownsRow g 47 2 (.slice (some ⟨g, 0, none⟩) M M) M xs) (hk : ∀ n, knS st n < 0) : SQw w g M es P st :=
  ⟨xs, h, fun n _ h0 => absurd h0 (by have := hk n; omega)⟩

set_option maxHeartbeats 3200000 in
theorem pplace_any (n f p : Int) (m : Nat) (w : World) (hn : n.natAbs ≤ 100000) (hf : f.natAbs ≤ 300) (hp : 1 ≤ p ∧ p ≤ 16) (hm : 0 < m ∧ m ≤ 24) :
    Calls Try.prog 70 #[.int .i64 n, .int .i64 f, .int .i64 p, .int .i64 m] w fun e w' => e = .returned (.int .i64 (plS n f m p : Nat)) ∧ w = w' := by
  have HF := Lib.hid (fun w => floor_any (n - f * 32) (p * 32) (by omega) (by omega) w)
  have HV : Hid (((plS n f m p : Nat) : Int) = min (max ((n - f * 32) / (p * 32)) 0) ((m : Int) - 1)) := Lib.hid (by unfold plS; rw [Int.mul_comm 32 f, Int.mul_comm 32 p]; omega)
  obtain ⟨q, hq⟩ : ∃ q, (n - f * 32) / (p * 32) = q := ⟨_, rfl⟩
  rw [hq] at HF HV
  have hmx := fun w => run_max2i (P := Try.prog) #[3, 3] 3 q 0 w
  have hmn := fun w => run_min2i (P := Try.prog) #[3, 3] 3 (max q 0) ((m : Int) - 1) w
  have h1 : IntKind.i64.wrap ((m : Int) - 1) = m - 1 := wI (by omega) (by omega)
  have h2 : IntKind.i64.wrap (f * 32) = f * 32 := wI (by omega) (by omega)
  have h3 : IntKind.i64.wrap (n - f * 32) = n - f * 32 := wI (by omega) (by omega)
  have h4 : IntKind.i64.wrap (p * 32) = p * 32 := wI (by omega) (by omega)
  clear hq
  go_enter Try.func70, Try.ntmps70
  go_wp2_with fail
  refine (HF.out _).mono ?_
  rintro e w1 ⟨rfl, rfl⟩
  go_wp2_with fail
  go_ret
  exact ⟨by rw [HV.out]; rfl, rfl⟩

set_option maxRecDepth 100000 in
set_option maxHeartbeats 3200000 in
theorem pcentre_any (ve V1 V2 : Value) (x y p s : Int) (u v n : Nat) (w : World) (hx : x.natAbs ≤ 300) (hy : y.natAbs ≤ 300) (hp : 1 ≤ p ∧ p ≤ 16) (hu : 0 < u ∧ u ≤ 24) (hv : v ≤ 24) (hn : n < u * v) :
    Calls Try.prog 69 #[.agg #[ve, .int .i64 x, .int .i64 y, .int .i64 p, .int .i64 u, .int .i64 v, .int .i64 s, V1, V2], .int .i64 n] w fun e w' => e = .returned (.agg #[.int .i64 (cenS x y p u n).x, .int .i64 (cenS x y p u n).y]) ∧ Below w.heap.size w w' := by
  obtain ⟨a, ha⟩ : ∃ a, n % u = a := ⟨_, rfl⟩
  obtain ⟨b, hb⟩ : ∃ b, n / u = b := ⟨_, rfl⟩
  have ha1 : (n : Int) % (u : Int) = (a : Int) := by rw [← ha]; rfl
  have hb1 : (n : Int) / (u : Int) = (b : Int) := by rw [← hb]; rfl
  have hau : a < u := by rw [← ha]; exact Nat.mod_lt _ (by omega)
  have hbv : b < v := by rw [← hb]; exact Nat.div_lt_of_lt_mul hn
  have hz : ((u : Int) == 0) = false := by simp; omega
  have HC := Lib.hid (fun w => centre_any x y p u v s a b (by omega) (by omega) (by omega) (by omega) (by omega) w)
  have hcs : cenS x y p u n = ⟨midG x p a, midG y p b⟩ := by unfold cenS midP; rw [ha, hb]
  obtain ⟨X, hX⟩ : ∃ X, midG x p a = X := ⟨_, rfl⟩
  obtain ⟨Y, hY⟩ : ∃ X, midG y p b = X := ⟨_, rfl⟩
  rw [hX, hY] at HC hcs
  rw [hcs]
  have hzn : ¬(u = 0) := by omega
  have ha2 : (n : Int).tmod (u : Int) = (a : Int) := by rw [Int.tmod_eq_emod_of_nonneg (by omega)]; exact ha1
  have hbw : IntKind.i64.wrap (b : Int) = (b : Int) := wI (by omega) (by omega)
  have HT0 := Lib.hid ((Blk.new w 72 [ve, .int .i64 x, .int .i64 y, .int .i64 p, .int .i64 u, .int .i64 v, .int .i64 s, V1, V2] rfl).alloc (.cells #[.int .i64 0, .int .i64 0] 41))
  have HR0 := Lib.hid (Blk.new (w.alloc (.cells #[ve, .int .i64 x, .int .i64 y, .int .i64 p, .int .i64 u, .int .i64 v, .int .i64 s, V1, V2] 72)) 41 [.int .i64 0, .int .i64 0] (g := w.heap.size + 1) (by simp))
  have HB0 := Lib.hid (alloc2 w (.cells #[ve, .int .i64 x, .int .i64 y, .int .i64 p, .int .i64 u, .int .i64 v, .int .i64 s, V1, V2] 72) (.cells #[.int .i64 0, .int .i64 0] 41))
  clear hcs hX hY ha hb
  go_enter Try.func69, Try.ntmps69
  go_wp2_with fail
  generalize (w.alloc (.cells #[ve, .int .i64 x, .int .i64 y, .int .i64 p, .int .i64 u, .int .i64 v, .int .i64 s, V1, V2] 72)).alloc (.cells #[.int .i64 0, .int .i64 0] 41) = W at *
  have HT := Lib.hid (HT0.out.drew)
  have HR := Lib.hid (HR0.out.drew)
  have AB := HB0.out.drew
  clear HT0 HR0 HB0
  refine wp_region_held_drew (S := fun wx => wx.cell? ⟨w.heap.size, 1, none⟩ = some (.int .i64 x) ∧ wx.cell? ⟨w.heap.size, 2, none⟩ = some (.int .i64 y) ∧ wx.cell? ⟨w.heap.size, 3, none⟩ = some (.int .i64 p) ∧ wx.cell? ⟨w.heap.size, 4, none⟩ = some (.int .i64 u) ∧ wx.cell? ⟨w.heap.size, 5, none⟩ = some (.int .i64 v) ∧ wx.cell? ⟨w.heap.size, 6, none⟩ = some (.int .i64 s)) (by kernel_rfl) (⟨HT.out.cell 1 rfl, HT.out.cell 2 rfl, HT.out.cell 3 rfl, HT.out.cell 4 rfl, HT.out.cell 5 rfl, HT.out.cell 6 rfl⟩) (fun hHeld => ?_)
  generalize W.drew = w2d at *
  refine wpAnyH_take (i := 0) (v := ?_) rfl (by kernel_rfl) (by kernel_rfl) (by kernel_rfl) (fun _ _ _ h => h) (Or.inl ⟨by rfl, ?_⟩) hHeld ?_
  rotate_left
  · intro w hSw
    (try dsimp only at hSw)
    (try simp only [List.getElem_toArray, List.getElem_cons_zero])
    go_simp
    all_goals with_reducible rfl
  try simp only [List.getElem_toArray, List.getElem_cons_zero, Act.put, List.setIfInBounds_toArray, List.set_cons_zero, List.set_cons_succ]
  refine wpAnyH_take (i := 1) (v := ?_) rfl (by kernel_rfl) (by kernel_rfl) (by kernel_rfl) (fun _ _ _ h => h) (Or.inl ⟨by rfl, ?_⟩) hHeld ?_
  rotate_left
  · intro w hSw
    (try dsimp only at hSw)
    (try simp only [List.getElem_toArray, List.getElem_cons_zero, List.getElem_cons_succ])
    go_simp
    all_goals with_reducible rfl
  try simp only [List.getElem_toArray, List.getElem_cons_zero, List.getElem_cons_succ, Act.put, List.setIfInBounds_toArray, List.set_cons_zero, List.set_cons_succ]
  refine wpAnyH_take (i := 2) (v := ?_) rfl (by kernel_rfl) (by kernel_rfl) (by kernel_rfl) (fun _ _ _ h => h) (Or.inl ⟨by rfl, ?_⟩) hHeld ?_
  rotate_left
  · intro w hSw
    (try dsimp only at hSw)
    (try simp only [List.getElem_toArray, List.getElem_cons_zero, List.getElem_cons_succ])
    go_simp
    all_goals with_reducible rfl
  try simp only [List.getElem_toArray, List.getElem_cons_zero, List.getElem_cons_succ, Act.put, List.setIfInBounds_toArray, List.set_cons_zero, List.set_cons_succ]
  refine wpAnyH_take (i := 3) (v := ?_) rfl (by kernel_rfl) (by kernel_rfl) (by kernel_rfl) (fun _ _ _ h => h) (Or.inl ⟨by rfl, ?_⟩) hHeld ?_
  rotate_left
  · intro w hSw
    (try dsimp only at hSw)
    (try simp only [List.getElem_toArray, List.getElem_cons_zero, List.getElem_cons_succ])
    go_simp
    all_goals with_reducible rfl
  try simp only [List.getElem_toArray, List.getElem_cons_zero, List.getElem_cons_succ, Act.put, List.setIfInBounds_toArray, List.set_cons_zero, List.set_cons_succ]
  refine wpAnyH_take (i := 4) (v := ?_) rfl (by kernel_rfl) (by kernel_rfl) (by kernel_rfl) (fun _ _ _ h => h) (Or.inl ⟨by rfl, ?_⟩) hHeld ?_
  rotate_left
  · intro w hSw
    (try dsimp only at hSw)
    (try simp only [List.getElem_toArray, List.getElem_cons_zero, List.getElem_cons_succ])
    go_simp
    all_goals with_reducible rfl
  try simp only [List.getElem_toArray, List.getElem_cons_zero, List.getElem_cons_succ, Act.put, List.setIfInBounds_toArray, List.set_cons_zero, List.set_cons_succ]
  refine wpAnyH_take (i := 5) (v := ?_) rfl (by kernel_rfl) (by kernel_rfl) (by kernel_rfl) (fun _ _ _ h => h) (Or.inl ⟨by rfl, ?_⟩) hHeld ?_
  rotate_left
  · intro w hSw
    (try dsimp only at hSw)
    (try simp only [List.getElem_toArray, List.getElem_cons_zero, List.getElem_cons_succ])
    go_simp
    all_goals with_reducible rfl
  try simp only [List.getElem_toArray, List.getElem_cons_zero, List.getElem_cons_succ, Act.put, List.setIfInBounds_toArray, List.set_cons_zero, List.set_cons_succ]
  refine wpAnyH_take (i := 6) (v := ?_) rfl (by kernel_rfl) (by kernel_rfl) (by kernel_rfl) (fun _ _ _ h => h) (Or.inl ⟨by rfl, ?_⟩) hHeld ?_
  rotate_left
  · intro w hSw
    (try dsimp only at hSw)
    (try simp only [List.getElem_toArray, List.getElem_cons_zero, List.getElem_cons_succ])
    go_simp
    all_goals with_reducible rfl
  try simp only [List.getElem_toArray, List.getElem_cons_zero, List.getElem_cons_succ, Act.put, List.setIfInBounds_toArray, List.set_cons_zero, List.set_cons_succ]
  refine wpAnyH_take (i := 7) (v := ?_) rfl (by kernel_rfl) (by kernel_rfl) (by kernel_rfl) (fun _ _ _ h => h) (Or.inl ⟨by rfl, ?_⟩) hHeld ?_
  rotate_left
  · intro w hSw
    (try dsimp only at hSw)
    (try simp only [List.getElem_toArray, List.getElem_cons_zero, List.getElem_cons_succ])
    go_simp
    all_goals with_reducible rfl
  try simp only [List.getElem_toArray, List.getElem_cons_zero, List.getElem_cons_succ, Act.put, List.setIfInBounds_toArray, List.set_cons_zero, List.set_cons_succ]
  refine wpAnyH_take (i := 8) (v := ?_) rfl (by kernel_rfl) (by kernel_rfl) (by kernel_rfl) (fun _ _ _ h => h) (Or.inl ⟨by rfl, ?_⟩) hHeld ?_
  rotate_left
  · intro w hSw
    (try dsimp only at hSw)
    (try simp only [List.getElem_toArray, List.getElem_cons_zero, List.getElem_cons_succ])
    go_simp
    all_goals with_reducible rfl
  try simp only [List.getElem_toArray, List.getElem_cons_zero, List.getElem_cons_succ, Act.put, List.setIfInBounds_toArray, List.set_cons_zero, List.set_cons_succ]
  refine wpAnyH_take (i := 9) (v := ?_) rfl (by kernel_rfl) (by kernel_rfl) (by kernel_rfl) (fun _ _ _ h => h) (Or.inl ⟨by rfl, ?_⟩) hHeld ?_
  rotate_left
  · intro w hSw
    (try dsimp only at hSw)
    (try simp only [List.getElem_toArray, List.getElem_cons_zero, List.getElem_cons_succ])
    go_simp
    all_goals with_reducible rfl
  try simp only [List.getElem_toArray, List.getElem_cons_zero, List.getElem_cons_succ, Act.put, List.setIfInBounds_toArray, List.set_cons_zero, List.set_cons_succ]
  refine wpAnyH_take (i := 10) (v := ?_) rfl (by kernel_rfl) (by kernel_rfl) (by kernel_rfl) (fun _ _ _ h => h) (Or.inl ⟨by rfl, ?_⟩) hHeld ?_
  rotate_left
  · intro w hSw
    (try dsimp only at hSw)
    (try simp only [List.getElem_toArray, List.getElem_cons_zero, List.getElem_cons_succ])
    go_simp
    all_goals with_reducible rfl
  try simp only [List.getElem_toArray, List.getElem_cons_zero, List.getElem_cons_succ, Act.put, List.setIfInBounds_toArray, List.set_cons_zero, List.set_cons_succ]
  refine wpAnyH_take (i := 11) (v := ?_) rfl (by kernel_rfl) (by kernel_rfl) (by kernel_rfl) (fun _ _ _ h => h) (Or.inl ⟨by rfl, ?_⟩) hHeld ?_
  rotate_left
  · intro w hSw
    (try dsimp only at hSw)
    (try simp only [List.getElem_toArray, List.getElem_cons_zero, List.getElem_cons_succ])
    go_simp
    all_goals with_reducible rfl
  try simp only [List.getElem_toArray, List.getElem_cons_zero, List.getElem_cons_succ, Act.put, List.setIfInBounds_toArray, List.set_cons_zero, List.set_cons_succ]
  refine wpAnyH_ready (rs := [12]) (by kernel_rfl) (by simp) ?_
  refine AllReadyH.cons rfl (fun K hK => ?_) AllReadyH.nil
  try simp only [List.getElem_toArray, List.getElem_cons_zero, List.getElem_cons_succ]
  go_simp
  refine (HC.out _).mono ?_
  rintro e wn ⟨rfl, hbn⟩
  have AB := AB.trans (hbn.mono (AB.size))
  replace HT := Lib.hid (HT.out.keep hbn)
  replace HR := Lib.hid (HR.out.keep hbn)
  clear hbn
  go_wp2_with fail
  refine hK.out _ _ (⟨HT.out.cell 1 rfl, HT.out.cell 2 rfl, HT.out.cell 3 rfl, HT.out.cell 4 rfl, HT.out.cell 5 rfl, HT.out.cell 6 rfl⟩) (fun hHeld => ?_)
  clear hK K
  try simp only [List.getElem_toArray, List.getElem_cons_zero, List.getElem_cons_succ, Act.put, List.setIfInBounds_toArray, List.set_cons_zero, List.set_cons_succ]
  refine wpAnyH_ready (rs := [13]) (by kernel_rfl) (by simp) ?_
  refine AllReadyH.cons rfl (fun K hK => ?_) AllReadyH.nil
  try simp only [List.getElem_toArray, List.getElem_cons_zero, List.getElem_cons_succ]
  have x0 := HR.out.cell 0 rfl
  have x1 := HR.out.cell 1 rfl
  have xf := HR.out.frozen
  have xl := HR.out.lt
  go_simp
  replace HR : Hid (Blk _ (w.heap.size + 1) 41 [.int .i64 X, .int .i64 Y]) := Lib.hid (sput2 HR.out)
  replace HT := Lib.hid (soth2 (g := w.heap.size + 1) (x := .int .i64 X) (y := .int .i64 Y) HT.out (by omega))
  have AB := sbelow2 (g := w.heap.size + 1) (x := .int .i64 X) (y := .int .i64 Y) AB (Nat.le_succ _)
  clear x0 x1 xf xl
  refine hK.out _ _ (⟨HT.out.cell 1 rfl, HT.out.cell 2 rfl, HT.out.cell 3 rfl, HT.out.cell 4 rfl, HT.out.cell 5 rfl, HT.out.cell 6 rfl⟩) (fun hHeld => ?_)
  clear hK K
  try simp only [List.getElem_toArray, List.getElem_cons_zero, List.getElem_cons_succ, Act.put, List.setIfInBounds_toArray, List.set_cons_zero, List.set_cons_succ]
  refine wpAnyH_done (by kernel_rfl) ?_ _
  have q0 := HR.out.cell 0 rfl
  have q1 := HR.out.cell 1 rfl
  go_wp2_with fail
  exact bodyPost_ret (v := .agg #[.int .i64 X, .int .i64 Y]) (by simp [results, Try.results69, go_sem, q0, q1]) rfl ⟨rfl, AB⟩

set_option maxRecDepth 100000 in
set_option maxHeartbeats 3200000 in
theorem poffer_any (gA gQ n m : Nat) (ve : Value) (es : List Ed) (x y p s : Int) (u v : Nat) (st : List Int) (w : World)
    (hA : NRw w gA (u * v) (ivals st)) (hQ : SQw w gQ (u * v) es (cenS x y p u) st) (hne : gA ≠ gQ) (hv : ERd w ve es)
    (hin : ∀ s ∈ es, InD s) (hx : x.natAbs ≤ 300) (hy : y.natAbs ≤ 300) (hp : 1 ≤ p ∧ p ≤ 16) (hu : 0 < u ∧ u ≤ 24) (hv2 : v ≤ 24) (hn : n < u * v) (hm : m < es.length) (hst : InK es.length st) :
    Calls Try.prog 52 #[.agg #[ve, .int .i64 x, .int .i64 y, .int .i64 p, .int .i64 u, .int .i64 v, .int .i64 s, .slice (some ⟨gA, 0, none⟩) (u * v) (u * v), .slice (some ⟨gQ, 0, none⟩) (u * v) (u * v)], .int .i64 n, .int .i64 m] w fun r w' => (∃ V, r = .returned V) ∧ NRw w' gA (u * v) (ivals (offerS es (cenS x y p u) st n m)) ∧ SQw w' gQ (u * v) es (cenS x y p u) (offerS es (cenS x y p u) st n m) ∧ But (fun g => g = gA ∨ g = gQ) w w' := by
  have HPM : Hid (InP (cenS x y p u n)) := Lib.hid (by
    have h1 : n % u < u := Nat.mod_lt _ hu.1
    have h2 : n / u < v := Nat.div_lt_of_lt_mul hn
    unfold cenS
    generalize n % u = a at *
    generalize n / u = b at *
    exact mid_in x y p a b hx hy hp (by omega) (by omega))
  obtain ⟨Ae, cape, rfl, hce, -⟩ := id hv
  obtain ⟨E, hE0⟩ : ∃ c, es[m]? = some c := ⟨_, List.getElem?_eq_getElem hm⟩
  have hIE := hin E (List.mem_of_getElem? hE0)
  obtain ⟨ae, rfl, hal, hEm⟩ := hv.at m E hE0
  have HCE := Lib.hid (fun w => pcentre_any (.slice (some ae) es.length cape) (.slice (some ⟨gA, 0, none⟩) (u * v) (u * v)) (.slice (some ⟨gQ, 0, none⟩) (u * v) (u * v)) x y p s u v n w hx hy hp hu hv2 hn)
  have hst0 : offerS es (cenS x y p u) st n m = if knS st n < 0 ∨ (sqK es (cenS x y p u n) m).1 * (sqK es (cenS x y p u n) (knS st n)).2 < (sqK es (cenS x y p u n) (knS st n)).1 * (sqK es (cenS x y p u n) m).2 then st.set n m else st := by
    unfold offerS
    by_cases h : knS st n < 0 ∨ (sqK es (cenS x y p u n) m).1 * (sqK es (cenS x y p u n) (knS st n)).2 < (sqK es (cenS x y p u n) (knS st n)).1 * (sqK es (cenS x y p u n) m).2
    · rw [if_pos ⟨by omega, h⟩, if_pos h]
    · rw [if_neg (fun q => h q.2), if_neg h]
  have hsm : sqK es (cenS x y p u n) m = sqF E (cenS x y p u n) := by unfold sqK; rw [Int.toNat_natCast, show es.getD m edZ = E by rw [List.getD_eq_getElem?_getD, hE0]; rfl]
  have HVJ := Lib.hid (fun bj (h : (bj : Int) = knS st n) (h2 : 0 ≤ bj) => hQ.val hn (by omega))
  have hsm0 := hsm
  generalize cenS x y p u = P at *
  obtain ⟨X, Y, hXY⟩ : ∃ X Y, P n = ⟨X, Y⟩ := ⟨_, _, rfl⟩
  have HXY := Lib.hid hXY
  rw [hXY] at HPM HCE hst0 hsm HVJ
  have HSQ := Lib.hid (fun w => square_any E.a.x E.a.y E.b.x E.b.y X Y ⟨hIE.1, hIE.2, HPM.out⟩ w)
  have q1 := sq_small E ⟨X, Y⟩ hIE HPM.out
  change Hid (∀ w, Calls _ _ _ _ fun e w' => e = .returned (.agg #[.int .i64 (sqF E ⟨X, Y⟩).1, .int .i64 (sqF E ⟨X, Y⟩).2]) ∧ _) at HSQ
  rw [hsm] at hst0
  have HSV := Lib.hid (show (sqK es (P n) m).1 = (sqF E ⟨X, Y⟩).1 ∧ (sqK es (P n) m).2 = (sqF E ⟨X, Y⟩).2 by rw [hsm0, hXY]; exact ⟨rfl, rfl⟩)
  clear hsm0
  generalize (sqF E ⟨X, Y⟩).1 = n1 at *
  generalize (sqF E ⟨X, Y⟩).2 = d1 at *
  obtain ⟨M, hM⟩ : ∃ M, u * v = M := ⟨_, rfl⟩
  rw [hM] at hA hQ hn HCE ⊢
  obtain ⟨N, hN⟩ : ∃ N, es.length = N := ⟨_, rfl⟩
  have HIN := Lib.hid hin
  have HLN := Lib.hid hN
  rw [hN] at hm hce HCE ⊢
  have HS := Lib.hid hst
  rw [hN] at HS
  have hal0 : Below w.heap.size w (w.alloc (.cells #[.slice (some ae) N cape, .int .i64 x, .int .i64 y, .int .i64 p, .int .i64 u, .int .i64 v, .int .i64 s, .slice (some ⟨gA, 0, none⟩) M M, .slice (some ⟨gQ, 0, none⟩) M M] 72)) := (Below.refl _ _).alloc (Nat.le_refl _) _
  have HB1 := Lib.hid hal0
  have HT := Lib.hid (Blk.new w 72 [.slice (some ae) N cape, .int .i64 x, .int .i64 y, .int .i64 p, .int .i64 u, .int .i64 v, .int .i64 s, .slice (some ⟨gA, 0, none⟩) M M, .slice (some ⟨gQ, 0, none⟩) M M] rfl)
  have HA1 := Lib.hid (hA.keep hal0)
  have HQ1 := Lib.hid (hQ.keep hal0)
  have HEx := Lib.hid (eats_keep hEm hal hal0)
  have HEl := Lib.hid (Nat.lt_of_lt_of_le hal hal0.size)
  have HAE := Lib.hid hal
  have HV1 := Lib.hid (hv.keep hal0)
  have HLA := Lib.hid (show gA < w.heap.size from hA.lt)
  have HLQ := Lib.hid (show gQ < w.heap.size from hQ.lt)
  have HTL : Hid (w.heap.size < (w.alloc (.cells #[.slice (some ae) N cape, .int .i64 x, .int .i64 y, .int .i64 p, .int .i64 u, .int .i64 v, .int .i64 s, .slice (some ⟨gA, 0, none⟩) M M, .slice (some ⟨gQ, 0, none⟩) M M] 72)).heap.size) := Lib.hid HT.out.lt
  clear hA hQ hv hin hst hN hM hal0 hEm hal hXY hsm
  go_enter Try.func52, Try.ntmps52
  go_wp2_with fail
  generalize w.alloc (.cells #[.slice (some ae) N cape, .int .i64 x, .int .i64 y, .int .i64 p, .int .i64 u, .int .i64 v, .int .i64 s, .slice (some ⟨gA, 0, none⟩) M M, .slice (some ⟨gQ, 0, none⟩) M M] 72) = w1 at *
  go_cut [6] (fun sp wx => ∃ P9 : Nat, sp = .pointer (some ⟨P9, 0, none⟩) ∧ w1.heap.size ≤ P9 ∧ Hid (Blk wx P9 47 [.int .i64 n1, .int .i64 d1]) ∧ Hid (Below w1.heap.size w1 wx))
  case first =>
    clear HA1 HQ1 HV1 hst0 HVJ HSV
    have AB : Below w1.heap.size w1 w1.drew := (Below.refl _ w1).drew
    replace HT := Lib.hid (HT.out.keep AB)
    replace HEx := Lib.hid (eats_keep HEx.out HEl.out AB)
    replace HEl := Lib.hid (Nat.lt_of_lt_of_le HEl.out AB.size)
    refine wp_region_held_drew (S := fun wx => wx.cell? ⟨w.heap.size, 0, none⟩ = some (.slice (some ae) N cape) ∧ wx.cell? ⟨w.heap.size, 1, none⟩ = some (.int .i64 x) ∧ wx.cell? ⟨w.heap.size, 2, none⟩ = some (.int .i64 y) ∧ wx.cell? ⟨w.heap.size, 3, none⟩ = some (.int .i64 p) ∧ wx.cell? ⟨w.heap.size, 4, none⟩ = some (.int .i64 u) ∧ wx.cell? ⟨w.heap.size, 5, none⟩ = some (.int .i64 v) ∧ wx.cell? ⟨w.heap.size, 6, none⟩ = some (.int .i64 s) ∧ wx.cell? ⟨w.heap.size, 7, none⟩ = some (.slice (some ⟨gA, 0, none⟩) M M) ∧ wx.cell? ⟨w.heap.size, 8, none⟩ = some (.slice (some ⟨gQ, 0, none⟩) M M) ∧ wx.cell? (ae.add (m * 4)) = some (.int .i64 E.a.x) ∧ wx.cell? ⟨(ae.add (m * 4)).block, (ae.add (m * 4)).off + 1, none⟩ = some (.int .i64 E.a.y) ∧ wx.cell? ⟨(ae.add (m * 4)).block, (ae.add (m * 4)).off + 2, none⟩ = some (.int .i64 E.b.x) ∧ wx.cell? ⟨(ae.add (m * 4)).block, (ae.add (m * 4)).off + 3, none⟩ = some (.int .i64 E.b.y)) (by kernel_rfl) (⟨HT.out.cell 0 rfl, HT.out.cell 1 rfl, HT.out.cell 2 rfl, HT.out.cell 3 rfl, HT.out.cell 4 rfl, HT.out.cell 5 rfl, HT.out.cell 6 rfl, HT.out.cell 7 rfl, HT.out.cell 8 rfl, HEx.out.1, HEx.out.2.1, HEx.out.2.2.1, HEx.out.2.2.2⟩) (fun hHeld => ?_)
    generalize w1.drew = w2d at *
    refine wpAnyH_take (i := 0) (v := ?_) rfl (by kernel_rfl) (by kernel_rfl) (by kernel_rfl) (fun _ _ _ h => h) (Or.inl ⟨by rfl, ?_⟩) hHeld ?_
    rotate_left
    · intro w hSw
      (try dsimp only at hSw)
      (try simp only [List.getElem_toArray, List.getElem_cons_zero])
      go_simp
      all_goals with_reducible rfl
    try simp only [List.getElem_toArray, List.getElem_cons_zero, Act.put, List.setIfInBounds_toArray, List.set_cons_zero, List.set_cons_succ]
    refine wpAnyH_take (i := 1) (v := ?_) rfl (by kernel_rfl) (by kernel_rfl) (by kernel_rfl) (fun _ _ _ h => h) (Or.inl ⟨by rfl, ?_⟩) hHeld ?_
    rotate_left
    · intro w hSw
      (try dsimp only at hSw)
      (try simp only [List.getElem_toArray, List.getElem_cons_zero, List.getElem_cons_succ])
      go_simp
      all_goals with_reducible rfl
    try simp only [List.getElem_toArray, List.getElem_cons_zero, List.getElem_cons_succ, Act.put, List.setIfInBounds_toArray, List.set_cons_zero, List.set_cons_succ]
    refine wpAnyH_take (i := 2) (v := ?_) rfl (by kernel_rfl) (by kernel_rfl) (by kernel_rfl) (fun _ _ _ h => h) (Or.inl ⟨by rfl, ?_⟩) hHeld ?_
    rotate_left
    · intro w hSw
      (try dsimp only at hSw)
      (try simp only [List.getElem_toArray, List.getElem_cons_zero, List.getElem_cons_succ])
      go_simp
      all_goals with_reducible rfl
    try simp only [List.getElem_toArray, List.getElem_cons_zero, List.getElem_cons_succ, Act.put, List.setIfInBounds_toArray, List.set_cons_zero, List.set_cons_succ]
    refine wpAnyH_take (i := 3) (v := ?_) rfl (by kernel_rfl) (by kernel_rfl) (by kernel_rfl) (fun _ _ _ h => h) (Or.inl ⟨by rfl, ?_⟩) hHeld ?_
    rotate_left
    · intro w hSw
      (try dsimp only at hSw)
      (try simp only [List.getElem_toArray, List.getElem_cons_zero, List.getElem_cons_succ])
      go_simp
      all_goals with_reducible rfl
    try simp only [List.getElem_toArray, List.getElem_cons_zero, List.getElem_cons_succ, Act.put, List.setIfInBounds_toArray, List.set_cons_zero, List.set_cons_succ]
    refine wpAnyH_take (i := 4) (v := ?_) rfl (by kernel_rfl) (by kernel_rfl) (by kernel_rfl) (fun _ _ _ h => h) (Or.inl ⟨by rfl, ?_⟩) hHeld ?_
    rotate_left
    · intro w hSw
      (try dsimp only at hSw)
      (try simp only [List.getElem_toArray, List.getElem_cons_zero, List.getElem_cons_succ])
      go_simp
      all_goals with_reducible rfl
    try simp only [List.getElem_toArray, List.getElem_cons_zero, List.getElem_cons_succ, Act.put, List.setIfInBounds_toArray, List.set_cons_zero, List.set_cons_succ]
    refine wpAnyH_take (i := 5) (v := ?_) rfl (by kernel_rfl) (by kernel_rfl) (by kernel_rfl) (fun _ _ _ h => h) (Or.inl ⟨by rfl, ?_⟩) hHeld ?_
    rotate_left
    · intro w hSw
      (try dsimp only at hSw)
      (try simp only [List.getElem_toArray, List.getElem_cons_zero, List.getElem_cons_succ])
      go_simp
      all_goals with_reducible rfl
    try simp only [List.getElem_toArray, List.getElem_cons_zero, List.getElem_cons_succ, Act.put, List.setIfInBounds_toArray, List.set_cons_zero, List.set_cons_succ]
    refine wpAnyH_take (i := 6) (v := ?_) rfl (by kernel_rfl) (by kernel_rfl) (by kernel_rfl) (fun _ _ _ h => h) (Or.inl ⟨by rfl, ?_⟩) hHeld ?_
    rotate_left
    · intro w hSw
      (try dsimp only at hSw)
      (try simp only [List.getElem_toArray, List.getElem_cons_zero, List.getElem_cons_succ])
      go_simp
      all_goals with_reducible rfl
    try simp only [List.getElem_toArray, List.getElem_cons_zero, List.getElem_cons_succ, Act.put, List.setIfInBounds_toArray, List.set_cons_zero, List.set_cons_succ]
    refine wpAnyH_ready (rs := [7, 9]) (by kernel_rfl) (by simp) ?_
    refine AllReadyH.cons rfl (fun K hK => ?_) (AllReadyH.cons rfl (fun K hK => ?_) AllReadyH.nil)
    · try simp only [List.getElem_toArray, List.getElem_cons_zero, List.getElem_cons_succ]
      go_simp
      refine (HCE.out _).mono ?_
      rintro e wn ⟨rfl, hbn⟩
      have AB := AB.trans (hbn.mono (AB.size))
      replace HT := Lib.hid (HT.out.keep hbn)
      replace HEx := Lib.hid (eats_keep HEx.out HEl.out hbn)
      replace HEl := Lib.hid (Nat.lt_of_lt_of_le HEl.out hbn.size)
      try replace HPB := Lib.hid (HPB.out.keep hbn)
      clear hbn
      go_wp2_with fail
      refine hK.out _ _ (⟨HT.out.cell 0 rfl, HT.out.cell 1 rfl, HT.out.cell 2 rfl, HT.out.cell 3 rfl, HT.out.cell 4 rfl, HT.out.cell 5 rfl, HT.out.cell 6 rfl, HT.out.cell 7 rfl, HT.out.cell 8 rfl, HEx.out.1, HEx.out.2.1, HEx.out.2.2.1, HEx.out.2.2.2⟩) (fun hHeld => ?_)
      clear hK K
      try simp only [List.getElem_toArray, List.getElem_cons_zero, List.getElem_cons_succ, Act.put, List.setIfInBounds_toArray, List.set_cons_zero, List.set_cons_succ]
      refine wpAnyH_ready (rs := [8, 9]) (by kernel_rfl) (by simp) ?_
      refine AllReadyH.cons rfl (fun K hK => ?_) (AllReadyH.cons rfl (fun K hK => ?_) AllReadyH.nil)
      · try simp only [List.getElem_toArray, List.getElem_cons_zero, List.getElem_cons_succ]
        go_simp
        refine (HSQ.out _).mono ?_
        rintro e wn ⟨rfl, hbn⟩
        have AB := AB.trans (hbn.mono (AB.size))
        replace HT := Lib.hid (HT.out.keep hbn)
        replace HEx := Lib.hid (eats_keep HEx.out HEl.out hbn)
        replace HEl := Lib.hid (Nat.lt_of_lt_of_le HEl.out hbn.size)
        try replace HPB := Lib.hid (HPB.out.keep hbn)
        clear hbn
        go_wp2_with fail
        refine hK.out _ _ (⟨HT.out.cell 0 rfl, HT.out.cell 1 rfl, HT.out.cell 2 rfl, HT.out.cell 3 rfl, HT.out.cell 4 rfl, HT.out.cell 5 rfl, HT.out.cell 6 rfl, HT.out.cell 7 rfl, HT.out.cell 8 rfl, HEx.out.1, HEx.out.2.1, HEx.out.2.2.1, HEx.out.2.2.2⟩) (fun hHeld => ?_)
        clear hK K
        try simp only [List.getElem_toArray, List.getElem_cons_zero, List.getElem_cons_succ, Act.put, List.setIfInBounds_toArray, List.set_cons_zero, List.set_cons_succ]
        refine wpAnyH_ready (rs := [9]) (by kernel_rfl) (by simp) ?_
        refine AllReadyH.cons rfl (fun K hK => ?_) AllReadyH.nil
        try simp only [List.getElem_toArray, List.getElem_cons_zero, List.getElem_cons_succ]
        go_simp
        obtain ⟨P9, hP, hP1, hBn, hAn, hKn⟩ := snew_ex AB (Nat.le_refl _) 47 [.int .i64 0, .int .i64 0]
        have hP2 : w.heap.size < P9 := Nat.lt_of_lt_of_le HTL.out hP1
        try simp only [World.size_alloc] at hP
        rw [hP]
        have HPB := Lib.hid hBn
        replace HT := Lib.hid (HT.out.keep hKn)
        replace HEx := Lib.hid (eats_keep HEx.out HEl.out hKn)
        replace HEl := Lib.hid (Nat.lt_of_lt_of_le HEl.out hKn.size)
        have AB := hAn
        clear hBn hAn hKn hP
        refine hK.out _ _ (⟨HT.out.cell 0 rfl, HT.out.cell 1 rfl, HT.out.cell 2 rfl, HT.out.cell 3 rfl, HT.out.cell 4 rfl, HT.out.cell 5 rfl, HT.out.cell 6 rfl, HT.out.cell 7 rfl, HT.out.cell 8 rfl, HEx.out.1, HEx.out.2.1, HEx.out.2.2.1, HEx.out.2.2.2⟩) (fun hHeld => ?_)
        clear hK K
        try simp only [List.getElem_toArray, List.getElem_cons_zero, List.getElem_cons_succ, Act.put, List.setIfInBounds_toArray, List.set_cons_zero, List.set_cons_succ]
        refine wpAnyH_ready (rs := [10]) (by kernel_rfl) (by simp) ?_
        refine AllReadyH.cons rfl (fun K hK => ?_) AllReadyH.nil
        try simp only [List.getElem_toArray, List.getElem_cons_zero, List.getElem_cons_succ]
        have x0 := HPB.out.cell 0 rfl
        have x1 := HPB.out.cell 1 rfl
        have xf := HPB.out.frozen
        have xl := HPB.out.lt
        have xe := Lib.hid (eats_keepB HEx.out (Nat.lt_trans HAE.out hP2) (sbelow2 (x := .int .i64 n1) (y := .int .i64 d1) (Below.refl P9 _) (Nat.le_refl _)))
        go_simp
        replace HPB : Hid (Blk _ P9 47 [.int .i64 n1, .int .i64 d1]) := Lib.hid (sput2 HPB.out)
        replace HT := Lib.hid (soth2 (g := P9) (x := .int .i64 n1) (y := .int .i64 d1) HT.out (by omega))
        have AB := sbelow2 (g := P9) (x := .int .i64 n1) (y := .int .i64 d1) AB hP1
        clear x0 x1 xf xl HEx
        have HEx := xe
        refine hK.out _ _ (⟨HT.out.cell 0 rfl, HT.out.cell 1 rfl, HT.out.cell 2 rfl, HT.out.cell 3 rfl, HT.out.cell 4 rfl, HT.out.cell 5 rfl, HT.out.cell 6 rfl, HT.out.cell 7 rfl, HT.out.cell 8 rfl, HEx.out.1, HEx.out.2.1, HEx.out.2.2.1, HEx.out.2.2.2⟩) (fun hHeld => ?_)
        clear hK K
        try simp only [List.getElem_toArray, List.getElem_cons_zero, List.getElem_cons_succ, Act.put, List.setIfInBounds_toArray, List.set_cons_zero, List.set_cons_succ]
        refine wpAnyH_done (by kernel_rfl) ?_ _
        go_wp2_with fail
        go_meet
        exact ⟨P9, rfl, hP1, HPB, Lib.hid AB⟩
      · try simp only [List.getElem_toArray, List.getElem_cons_zero, List.getElem_cons_succ]
        go_simp
        obtain ⟨P9, hP, hP1, hBn, hAn, hKn⟩ := snew_ex AB (Nat.le_refl _) 47 [.int .i64 0, .int .i64 0]
        have hP2 : w.heap.size < P9 := Nat.lt_of_lt_of_le HTL.out hP1
        try simp only [World.size_alloc] at hP
        rw [hP]
        have HPB := Lib.hid hBn
        replace HT := Lib.hid (HT.out.keep hKn)
        replace HEx := Lib.hid (eats_keep HEx.out HEl.out hKn)
        replace HEl := Lib.hid (Nat.lt_of_lt_of_le HEl.out hKn.size)
        have AB := hAn
        clear hBn hAn hKn hP
        refine hK.out _ _ (⟨HT.out.cell 0 rfl, HT.out.cell 1 rfl, HT.out.cell 2 rfl, HT.out.cell 3 rfl, HT.out.cell 4 rfl, HT.out.cell 5 rfl, HT.out.cell 6 rfl, HT.out.cell 7 rfl, HT.out.cell 8 rfl, HEx.out.1, HEx.out.2.1, HEx.out.2.2.1, HEx.out.2.2.2⟩) (fun hHeld => ?_)
        clear hK K
        try simp only [List.getElem_toArray, List.getElem_cons_zero, List.getElem_cons_succ, Act.put, List.setIfInBounds_toArray, List.set_cons_zero, List.set_cons_succ]
        refine wpAnyH_ready (rs := [8]) (by kernel_rfl) (by simp) ?_
        refine AllReadyH.cons rfl (fun K hK => ?_) AllReadyH.nil
        try simp only [List.getElem_toArray, List.getElem_cons_zero, List.getElem_cons_succ]
        go_simp
        refine (HSQ.out _).mono ?_
        rintro e wn ⟨rfl, hbn⟩
        have AB := AB.trans (hbn.mono (AB.size))
        replace HT := Lib.hid (HT.out.keep hbn)
        replace HEx := Lib.hid (eats_keep HEx.out HEl.out hbn)
        replace HEl := Lib.hid (Nat.lt_of_lt_of_le HEl.out hbn.size)
        try replace HPB := Lib.hid (HPB.out.keep hbn)
        clear hbn
        go_wp2_with fail
        refine hK.out _ _ (⟨HT.out.cell 0 rfl, HT.out.cell 1 rfl, HT.out.cell 2 rfl, HT.out.cell 3 rfl, HT.out.cell 4 rfl, HT.out.cell 5 rfl, HT.out.cell 6 rfl, HT.out.cell 7 rfl, HT.out.cell 8 rfl, HEx.out.1, HEx.out.2.1, HEx.out.2.2.1, HEx.out.2.2.2⟩) (fun hHeld => ?_)
        clear hK K
        try simp only [List.getElem_toArray, List.getElem_cons_zero, List.getElem_cons_succ, Act.put, List.setIfInBounds_toArray, List.set_cons_zero, List.set_cons_succ]
        refine wpAnyH_ready (rs := [10]) (by kernel_rfl) (by simp) ?_
        refine AllReadyH.cons rfl (fun K hK => ?_) AllReadyH.nil
        try simp only [List.getElem_toArray, List.getElem_cons_zero, List.getElem_cons_succ]
        have x0 := HPB.out.cell 0 rfl
        have x1 := HPB.out.cell 1 rfl
        have xf := HPB.out.frozen
        have xl := HPB.out.lt
        have xe := Lib.hid (eats_keepB HEx.out (Nat.lt_trans HAE.out hP2) (sbelow2 (x := .int .i64 n1) (y := .int .i64 d1) (Below.refl P9 _) (Nat.le_refl _)))
        go_simp
        replace HPB : Hid (Blk _ P9 47 [.int .i64 n1, .int .i64 d1]) := Lib.hid (sput2 HPB.out)
        replace HT := Lib.hid (soth2 (g := P9) (x := .int .i64 n1) (y := .int .i64 d1) HT.out (by omega))
        have AB := sbelow2 (g := P9) (x := .int .i64 n1) (y := .int .i64 d1) AB hP1
        clear x0 x1 xf xl HEx
        have HEx := xe
        refine hK.out _ _ (⟨HT.out.cell 0 rfl, HT.out.cell 1 rfl, HT.out.cell 2 rfl, HT.out.cell 3 rfl, HT.out.cell 4 rfl, HT.out.cell 5 rfl, HT.out.cell 6 rfl, HT.out.cell 7 rfl, HT.out.cell 8 rfl, HEx.out.1, HEx.out.2.1, HEx.out.2.2.1, HEx.out.2.2.2⟩) (fun hHeld => ?_)
        clear hK K
        try simp only [List.getElem_toArray, List.getElem_cons_zero, List.getElem_cons_succ, Act.put, List.setIfInBounds_toArray, List.set_cons_zero, List.set_cons_succ]
        refine wpAnyH_done (by kernel_rfl) ?_ _
        go_wp2_with fail
        go_meet
        exact ⟨P9, rfl, hP1, HPB, Lib.hid AB⟩
    · try simp only [List.getElem_toArray, List.getElem_cons_zero, List.getElem_cons_succ]
      go_simp
      obtain ⟨P9, hP, hP1, hBn, hAn, hKn⟩ := snew_ex AB (Nat.le_refl _) 47 [.int .i64 0, .int .i64 0]
      have hP2 : w.heap.size < P9 := Nat.lt_of_lt_of_le HTL.out hP1
      try simp only [World.size_alloc] at hP
      rw [hP]
      have HPB := Lib.hid hBn
      replace HT := Lib.hid (HT.out.keep hKn)
      replace HEx := Lib.hid (eats_keep HEx.out HEl.out hKn)
      replace HEl := Lib.hid (Nat.lt_of_lt_of_le HEl.out hKn.size)
      have AB := hAn
      clear hBn hAn hKn hP
      refine hK.out _ _ (⟨HT.out.cell 0 rfl, HT.out.cell 1 rfl, HT.out.cell 2 rfl, HT.out.cell 3 rfl, HT.out.cell 4 rfl, HT.out.cell 5 rfl, HT.out.cell 6 rfl, HT.out.cell 7 rfl, HT.out.cell 8 rfl, HEx.out.1, HEx.out.2.1, HEx.out.2.2.1, HEx.out.2.2.2⟩) (fun hHeld => ?_)
      clear hK K
      try simp only [List.getElem_toArray, List.getElem_cons_zero, List.getElem_cons_succ, Act.put, List.setIfInBounds_toArray, List.set_cons_zero, List.set_cons_succ]
      refine wpAnyH_ready (rs := [7]) (by kernel_rfl) (by simp) ?_
      refine AllReadyH.cons rfl (fun K hK => ?_) AllReadyH.nil
      try simp only [List.getElem_toArray, List.getElem_cons_zero, List.getElem_cons_succ]
      go_simp
      refine (HCE.out _).mono ?_
      rintro e wn ⟨rfl, hbn⟩
      have AB := AB.trans (hbn.mono (AB.size))
      replace HT := Lib.hid (HT.out.keep hbn)
      replace HEx := Lib.hid (eats_keep HEx.out HEl.out hbn)
      replace HEl := Lib.hid (Nat.lt_of_lt_of_le HEl.out hbn.size)
      try replace HPB := Lib.hid (HPB.out.keep hbn)
      clear hbn
      go_wp2_with fail
      refine hK.out _ _ (⟨HT.out.cell 0 rfl, HT.out.cell 1 rfl, HT.out.cell 2 rfl, HT.out.cell 3 rfl, HT.out.cell 4 rfl, HT.out.cell 5 rfl, HT.out.cell 6 rfl, HT.out.cell 7 rfl, HT.out.cell 8 rfl, HEx.out.1, HEx.out.2.1, HEx.out.2.2.1, HEx.out.2.2.2⟩) (fun hHeld => ?_)
      clear hK K
      try simp only [List.getElem_toArray, List.getElem_cons_zero, List.getElem_cons_succ, Act.put, List.setIfInBounds_toArray, List.set_cons_zero, List.set_cons_succ]
      refine wpAnyH_ready (rs := [8]) (by kernel_rfl) (by simp) ?_
      refine AllReadyH.cons rfl (fun K hK => ?_) AllReadyH.nil
      try simp only [List.getElem_toArray, List.getElem_cons_zero, List.getElem_cons_succ]
      go_simp
      refine (HSQ.out _).mono ?_
      rintro e wn ⟨rfl, hbn⟩
      have AB := AB.trans (hbn.mono (AB.size))
      replace HT := Lib.hid (HT.out.keep hbn)
      replace HEx := Lib.hid (eats_keep HEx.out HEl.out hbn)
      replace HEl := Lib.hid (Nat.lt_of_lt_of_le HEl.out hbn.size)
      try replace HPB := Lib.hid (HPB.out.keep hbn)
      clear hbn
      go_wp2_with fail
      refine hK.out _ _ (⟨HT.out.cell 0 rfl, HT.out.cell 1 rfl, HT.out.cell 2 rfl, HT.out.cell 3 rfl, HT.out.cell 4 rfl, HT.out.cell 5 rfl, HT.out.cell 6 rfl, HT.out.cell 7 rfl, HT.out.cell 8 rfl, HEx.out.1, HEx.out.2.1, HEx.out.2.2.1, HEx.out.2.2.2⟩) (fun hHeld => ?_)
      clear hK K
      try simp only [List.getElem_toArray, List.getElem_cons_zero, List.getElem_cons_succ, Act.put, List.setIfInBounds_toArray, List.set_cons_zero, List.set_cons_succ]
      refine wpAnyH_ready (rs := [10]) (by kernel_rfl) (by simp) ?_
      refine AllReadyH.cons rfl (fun K hK => ?_) AllReadyH.nil
      try simp only [List.getElem_toArray, List.getElem_cons_zero, List.getElem_cons_succ]
      have x0 := HPB.out.cell 0 rfl
      have x1 := HPB.out.cell 1 rfl
      have xf := HPB.out.frozen
      have xl := HPB.out.lt
      have xe := Lib.hid (eats_keepB HEx.out (Nat.lt_trans HAE.out hP2) (sbelow2 (x := .int .i64 n1) (y := .int .i64 d1) (Below.refl P9 _) (Nat.le_refl _)))
      go_simp
      replace HPB : Hid (Blk _ P9 47 [.int .i64 n1, .int .i64 d1]) := Lib.hid (sput2 HPB.out)
      replace HT := Lib.hid (soth2 (g := P9) (x := .int .i64 n1) (y := .int .i64 d1) HT.out (by omega))
      have AB := sbelow2 (g := P9) (x := .int .i64 n1) (y := .int .i64 d1) AB hP1
      clear x0 x1 xf xl HEx
      have HEx := xe
      refine hK.out _ _ (⟨HT.out.cell 0 rfl, HT.out.cell 1 rfl, HT.out.cell 2 rfl, HT.out.cell 3 rfl, HT.out.cell 4 rfl, HT.out.cell 5 rfl, HT.out.cell 6 rfl, HT.out.cell 7 rfl, HT.out.cell 8 rfl, HEx.out.1, HEx.out.2.1, HEx.out.2.2.1, HEx.out.2.2.2⟩) (fun hHeld => ?_)
      clear hK K
      try simp only [List.getElem_toArray, List.getElem_cons_zero, List.getElem_cons_succ, Act.put, List.setIfInBounds_toArray, List.set_cons_zero, List.set_cons_succ]
      refine wpAnyH_done (by kernel_rfl) ?_ _
      go_wp2_with fail
      go_meet
      exact ⟨P9, rfl, hP1, HPB, Lib.hid AB⟩

  case rest =>
    obtain ⟨P9, rfl, hP9, HPB, HPW⟩ := hcut
    have HT2 := Lib.hid (HT.out.keep HPW.out)
    have HA2 := Lib.hid (HA1.out.keep HPW.out)
    have HQ2 := Lib.hid (HQ1.out.keep HPW.out)
    have HV2 := Lib.hid (HV1.out.keep HPW.out)
    have HBW := Lib.hid (below2 HB1.out HPW.out)
    have HTP := Lib.hid (Nat.lt_of_lt_of_le HTL.out hP9)
    clear HT HA1 HQ1 HV1 HEx HEl HTL HCE HSQ HPW HB1 hP9
    have hKi := HS.out n
    have hKv := (HA2.out.val n hn).1
    obtain ⟨tb, htb⟩ : ∃ tb : Bool, decide (knS st n < 0 ∨ n1 * (sqK es ⟨X, Y⟩ (knS st n)).2 < (sqK es ⟨X, Y⟩ (knS st n)).1 * d1) = tb := ⟨_, rfl⟩
    have HO : Hid (offerS es P st n m = if tb = true then st.set n m else st) := Lib.hid (by rw [hst0, ← htb]; simp only [decide_eq_true_eq])
    clear hst0
    go_wp2_with fail
    go_cut [31] (fun sb wx => sb = .bool tb ∧ Hid (Below wc.heap.size wc wx))
    case first =>
      have HVQ := Lib.hid (fun h : 0 ≤ knS st n => HQ2.out.val hn h)
      rw [HXY.out] at HVQ
      generalize knS st n = K at *
      have HKv : Hid (wc.cell? ⟨gA, n, none⟩ = some (.int .i64 K)) := Lib.hid hKv
      have HAl : Hid (gA < wc.heap.size) := Lib.hid HA2.out.lt
      have HQl : Hid (gQ < wc.heap.size) := Lib.hid HQ2.out.lt
      clear hKv HA2 HQ2
      by_cases hK0 : K < 0
      · obtain rfl : K = -1 := by omega
        obtain rfl : tb = true := by rw [← htb]; simp
        clear HVQ HVJ htb
        have AB : Below wc.heap.size wc wc.drew := (Below.refl _ wc).drew
        replace HT2 := Lib.hid (HT2.out.keep AB)
        replace HPB := Lib.hid (HPB.out.keep AB)
        replace HKv := Lib.hid (Go.Proofs.Yteiildeaccngjaa.keep AB HKv.out)
        replace HAl := Lib.hid (Nat.lt_of_lt_of_le HAl.out AB.size)
        refine wp_region_held_drew (S := fun wx => wx.cell? ⟨w.heap.size, 0, none⟩ = some (.slice (some ae) N cape) ∧ wx.cell? ⟨w.heap.size, 1, none⟩ = some (.int .i64 x) ∧ wx.cell? ⟨w.heap.size, 2, none⟩ = some (.int .i64 y) ∧ wx.cell? ⟨w.heap.size, 3, none⟩ = some (.int .i64 p) ∧ wx.cell? ⟨w.heap.size, 4, none⟩ = some (.int .i64 u) ∧ wx.cell? ⟨w.heap.size, 5, none⟩ = some (.int .i64 v) ∧ wx.cell? ⟨w.heap.size, 6, none⟩ = some (.int .i64 s) ∧ wx.cell? ⟨w.heap.size, 7, none⟩ = some (.slice (some ⟨gA, 0, none⟩) M M) ∧ wx.cell? ⟨w.heap.size, 8, none⟩ = some (.slice (some ⟨gQ, 0, none⟩) M M) ∧ wx.cell? ⟨gA, n, none⟩ = some (.int .i64 (-1)) ∧ wx.cell? ⟨P9, 0, none⟩ = some (.int .i64 n1) ∧ wx.cell? ⟨P9, 1, none⟩ = some (.int .i64 d1)) (by kernel_rfl) (⟨HT2.out.cell 0 rfl, HT2.out.cell 1 rfl, HT2.out.cell 2 rfl, HT2.out.cell 3 rfl, HT2.out.cell 4 rfl, HT2.out.cell 5 rfl, HT2.out.cell 6 rfl, HT2.out.cell 7 rfl, HT2.out.cell 8 rfl, HKv.out, HPB.out.cell 0 rfl, HPB.out.cell 1 rfl⟩) (fun hHeld => ?_)
        refine wpAnyH_take (i := 0) (v := ?_) rfl (by kernel_rfl) (by kernel_rfl) (by kernel_rfl) (fun _ _ _ h => h) (Or.inl ⟨by rfl, ?_⟩) hHeld ?_
        rotate_left
        · intro w hSw
          (try dsimp only at hSw)
          (try simp only [List.getElem_toArray, List.getElem_cons_zero])
          go_simp
          all_goals with_reducible rfl
        try simp only [List.getElem_toArray, List.getElem_cons_zero, Act.put, List.setIfInBounds_toArray, List.set_cons_zero, List.set_cons_succ]
        refine wpAnyH_take (i := 1) (v := ?_) rfl (by kernel_rfl) (by kernel_rfl) (by kernel_rfl) (fun _ _ _ h => h) (Or.inl ⟨by rfl, ?_⟩) hHeld ?_
        rotate_left
        · intro w hSw
          (try dsimp only at hSw)
          (try simp only [List.getElem_toArray, List.getElem_cons_zero, List.getElem_cons_succ])
          go_simp
          all_goals with_reducible rfl
        try simp only [List.getElem_toArray, List.getElem_cons_zero, List.getElem_cons_succ, Act.put, List.setIfInBounds_toArray, List.set_cons_zero, List.set_cons_succ]
        refine wpAnyH_take (i := 2) (v := ?_) rfl (by kernel_rfl) (by kernel_rfl) (by kernel_rfl) (fun _ _ _ h => h) (Or.inl ⟨by rfl, ?_⟩) hHeld ?_
        rotate_left
        · intro w hSw
          (try dsimp only at hSw)
          (try simp only [List.getElem_toArray, List.getElem_cons_zero, List.getElem_cons_succ])
          go_simp
          all_goals with_reducible rfl
        try simp only [List.getElem_toArray, List.getElem_cons_zero, List.getElem_cons_succ, Act.put, List.setIfInBounds_toArray, List.set_cons_zero, List.set_cons_succ]
        refine wpAnyH_take (i := 3) (v := ?_) rfl (by kernel_rfl) (by kernel_rfl) (by kernel_rfl) (fun _ _ _ h => h) (Or.inl ⟨by rfl, ?_⟩) hHeld ?_
        rotate_left
        · intro w hSw
          (try dsimp only at hSw)
          (try simp only [List.getElem_toArray, List.getElem_cons_zero, List.getElem_cons_succ])
          go_simp
          all_goals with_reducible rfl
        try simp only [List.getElem_toArray, List.getElem_cons_zero, List.getElem_cons_succ, Act.put, List.setIfInBounds_toArray, List.set_cons_zero, List.set_cons_succ]
        refine wpAnyH_take (i := 4) (v := ?_) rfl (by kernel_rfl) (by kernel_rfl) (by kernel_rfl) (fun _ _ _ h => h) (Or.inl ⟨by rfl, ?_⟩) hHeld ?_
        rotate_left
        · intro w hSw
          (try dsimp only at hSw)
          (try simp only [List.getElem_toArray, List.getElem_cons_zero, List.getElem_cons_succ])
          go_simp
          all_goals with_reducible rfl
        try simp only [List.getElem_toArray, List.getElem_cons_zero, List.getElem_cons_succ, Act.put, List.setIfInBounds_toArray, List.set_cons_zero, List.set_cons_succ]
        refine wpAnyH_take (i := 5) (v := ?_) rfl (by kernel_rfl) (by kernel_rfl) (by kernel_rfl) (fun _ _ _ h => h) (Or.inl ⟨by rfl, ?_⟩) hHeld ?_
        rotate_left
        · intro w hSw
          (try dsimp only at hSw)
          (try simp only [List.getElem_toArray, List.getElem_cons_zero, List.getElem_cons_succ])
          go_simp
          all_goals with_reducible rfl
        try simp only [List.getElem_toArray, List.getElem_cons_zero, List.getElem_cons_succ, Act.put, List.setIfInBounds_toArray, List.set_cons_zero, List.set_cons_succ]
        refine wpAnyH_take (i := 6) (v := ?_) rfl (by kernel_rfl) (by kernel_rfl) (by kernel_rfl) (fun _ _ _ h => h) (Or.inl ⟨by rfl, ?_⟩) hHeld ?_
        rotate_left
        · intro w hSw
          (try dsimp only at hSw)
          (try simp only [List.getElem_toArray, List.getElem_cons_zero, List.getElem_cons_succ])
          go_simp
          all_goals with_reducible rfl
        try simp only [List.getElem_toArray, List.getElem_cons_zero, List.getElem_cons_succ, Act.put, List.setIfInBounds_toArray, List.set_cons_zero, List.set_cons_succ]
        refine wpAnyH_take (i := 7) (v := undef) rfl (by kernel_rfl) (by kernel_rfl) (by kernel_rfl) (fun _ _ _ h => h) (Or.inr ⟨by rfl, rfl⟩) hHeld ?_
        try simp only [List.getElem_toArray, List.getElem_cons_zero, List.getElem_cons_succ, Act.put, List.setIfInBounds_toArray, List.set_cons_zero, List.set_cons_succ]
        refine wpAnyH_take (i := 8) (v := undef) rfl (by kernel_rfl) (by kernel_rfl) (by kernel_rfl) (fun _ _ _ h => h) (Or.inr ⟨by rfl, rfl⟩) hHeld ?_
        try simp only [List.getElem_toArray, List.getElem_cons_zero, List.getElem_cons_succ, Act.put, List.setIfInBounds_toArray, List.set_cons_zero, List.set_cons_succ]
        refine wpAnyH_take (i := 9) (v := undef) rfl (by kernel_rfl) (by kernel_rfl) (by kernel_rfl) (fun _ _ _ h => h) (Or.inr ⟨by rfl, rfl⟩) hHeld ?_
        try simp only [List.getElem_toArray, List.getElem_cons_zero, List.getElem_cons_succ, Act.put, List.setIfInBounds_toArray, List.set_cons_zero, List.set_cons_succ]
        refine wpAnyH_take (i := 10) (v := undef) rfl (by kernel_rfl) (by kernel_rfl) (by kernel_rfl) (fun _ _ _ h => h) (Or.inr ⟨by rfl, rfl⟩) hHeld ?_
        try simp only [List.getElem_toArray, List.getElem_cons_zero, List.getElem_cons_succ, Act.put, List.setIfInBounds_toArray, List.set_cons_zero, List.set_cons_succ]
        refine wpAnyH_take (i := 11) (v := undef) rfl (by kernel_rfl) (by kernel_rfl) (by kernel_rfl) (fun _ _ _ h => h) (Or.inr ⟨by rfl, rfl⟩) hHeld ?_
        try simp only [List.getElem_toArray, List.getElem_cons_zero, List.getElem_cons_succ, Act.put, List.setIfInBounds_toArray, List.set_cons_zero, List.set_cons_succ]
        refine wpAnyH_take (i := 12) (v := undef) rfl (by kernel_rfl) (by kernel_rfl) (by kernel_rfl) (fun _ _ _ h => h) (Or.inr ⟨by rfl, rfl⟩) hHeld ?_
        try simp only [List.getElem_toArray, List.getElem_cons_zero, List.getElem_cons_succ, Act.put, List.setIfInBounds_toArray, List.set_cons_zero, List.set_cons_succ]
        refine wpAnyH_take (i := 13) (v := undef) rfl (by kernel_rfl) (by kernel_rfl) (by kernel_rfl) (fun _ _ _ h => h) (Or.inr ⟨by rfl, rfl⟩) hHeld ?_
        try simp only [List.getElem_toArray, List.getElem_cons_zero, List.getElem_cons_succ, Act.put, List.setIfInBounds_toArray, List.set_cons_zero, List.set_cons_succ]
        refine wpAnyH_take (i := 14) (v := undef) rfl (by kernel_rfl) (by kernel_rfl) (by kernel_rfl) (fun _ _ _ h => h) (Or.inr ⟨by rfl, rfl⟩) hHeld ?_
        try simp only [List.getElem_toArray, List.getElem_cons_zero, List.getElem_cons_succ, Act.put, List.setIfInBounds_toArray, List.set_cons_zero, List.set_cons_succ]
        refine wpAnyH_take (i := 15) (v := ?_) rfl (by kernel_rfl) (by kernel_rfl) (by kernel_rfl) (fun _ _ _ h => h) (Or.inl ⟨by rfl, ?_⟩) hHeld ?_
        rotate_left
        · intro w hSw
          (try dsimp only at hSw)
          (try simp only [List.getElem_toArray, List.getElem_cons_zero, List.getElem_cons_succ])
          go_simp
          all_goals with_reducible rfl
        try simp only [List.getElem_toArray, List.getElem_cons_zero, List.getElem_cons_succ, Act.put, List.setIfInBounds_toArray, List.set_cons_zero, List.set_cons_succ]
        refine wpAnyH_done (by kernel_rfl) ?_ _
        go_wp2_with fail
        go_meet
        exact ⟨rfl, Lib.hid AB⟩
      · obtain ⟨bj, rfl⟩ : ∃ q : Nat, K = q := ⟨K.toNat, by omega⟩
        have hKb : ((bj : Int) == -1) = false := by simp
        have hbj : bj < N := by omega
        obtain ⟨Ej, hEj0⟩ : ∃ c, es[bj]? = some c := ⟨_, List.getElem?_eq_getElem (by rw [HLN.out]; omega)⟩
        have hIJ := HIN.out Ej (List.mem_of_getElem? hEj0)
        have q2 := sq_small Ej ⟨X, Y⟩ hIJ HPM.out
        have hvq := HVQ.out (by omega)
        rw [show sqK es ⟨X, Y⟩ (bj : Nat) = sqF Ej ⟨X, Y⟩ by unfold sqK; rw [Int.toNat_natCast, show es.getD bj edZ = Ej by rw [List.getD_eq_getElem?_getD, hEj0]; rfl]] at htb hvq
        generalize (sqF Ej ⟨X, Y⟩).1 = n2 at *
        generalize (sqF Ej ⟨X, Y⟩).2 = d2 at *
        have HCM := Lib.hid (fun w => rcompare_int n1 d1 n2 d2 (by omega) (by omega) (by omega) (by omega) w)
        obtain ⟨mm, hm0⟩ : ∃ m, cmpI (n1 * d2) (n2 * d1) = m := ⟨_, rfl⟩
        rw [hm0] at HCM
        have hmi0 : mm < 0 ↔ n1 * d2 < n2 * d1 := by rw [← hm0]; unfold cmpI; split <;> (try split) <;> omega
        have hmb : decide (mm < 0) = tb := by
          rw [← htb]
          by_cases h : n1 * d2 < n2 * d1
          · rw [decide_eq_true (hmi0.2 h), decide_eq_true (.inr h)]
          · rw [decide_eq_false (fun q => h (hmi0.1 q)), decide_eq_false (fun q => q.elim (fun q => by omega) h)]
        have HQv := Lib.hid hvq
        clear hEj0 hIJ q2 hvq hm0 hmi0 HVQ HVJ htb
        have AB : Below wc.heap.size wc wc.drew := (Below.refl _ wc).drew
        replace HT2 := Lib.hid (HT2.out.keep AB)
        replace HPB := Lib.hid (HPB.out.keep AB)
        replace HKv := Lib.hid (Go.Proofs.Yteiildeaccngjaa.keep AB HKv.out)
        replace HAl := Lib.hid (Nat.lt_of_lt_of_le HAl.out AB.size)
        replace HQv := Lib.hid (And.intro (Go.Proofs.Yteiildeaccngjaa.keep AB HQv.out.1) (Go.Proofs.Yteiildeaccngjaa.keep AB HQv.out.2))
        replace HQl := Lib.hid (Nat.lt_of_lt_of_le HQl.out AB.size)
        refine wp_region_held_drew (S := fun wx => wx.cell? ⟨w.heap.size, 0, none⟩ = some (.slice (some ae) N cape) ∧ wx.cell? ⟨w.heap.size, 1, none⟩ = some (.int .i64 x) ∧ wx.cell? ⟨w.heap.size, 2, none⟩ = some (.int .i64 y) ∧ wx.cell? ⟨w.heap.size, 3, none⟩ = some (.int .i64 p) ∧ wx.cell? ⟨w.heap.size, 4, none⟩ = some (.int .i64 u) ∧ wx.cell? ⟨w.heap.size, 5, none⟩ = some (.int .i64 v) ∧ wx.cell? ⟨w.heap.size, 6, none⟩ = some (.int .i64 s) ∧ wx.cell? ⟨w.heap.size, 7, none⟩ = some (.slice (some ⟨gA, 0, none⟩) M M) ∧ wx.cell? ⟨w.heap.size, 8, none⟩ = some (.slice (some ⟨gQ, 0, none⟩) M M) ∧ wx.cell? ⟨gA, n, none⟩ = some (.int .i64 (bj : Nat)) ∧ wx.cell? ⟨P9, 0, none⟩ = some (.int .i64 n1) ∧ wx.cell? ⟨P9, 1, none⟩ = some (.int .i64 d1) ∧ wx.cell? ⟨gQ, n * 2, none⟩ = some (.int .i64 n2) ∧ wx.cell? ⟨gQ, n * 2 + 1, none⟩ = some (.int .i64 d2)) (by kernel_rfl) (⟨HT2.out.cell 0 rfl, HT2.out.cell 1 rfl, HT2.out.cell 2 rfl, HT2.out.cell 3 rfl, HT2.out.cell 4 rfl, HT2.out.cell 5 rfl, HT2.out.cell 6 rfl, HT2.out.cell 7 rfl, HT2.out.cell 8 rfl, HKv.out, HPB.out.cell 0 rfl, HPB.out.cell 1 rfl, HQv.out.1, HQv.out.2⟩) (fun hHeld => ?_)
        refine wpAnyH_take (i := 0) (v := ?_) rfl (by kernel_rfl) (by kernel_rfl) (by kernel_rfl) (fun _ _ _ h => h) (Or.inl ⟨by rfl, ?_⟩) hHeld ?_
        rotate_left
        · intro w hSw
          (try dsimp only at hSw)
          (try simp only [List.getElem_toArray, List.getElem_cons_zero])
          go_simp
          all_goals with_reducible rfl
        try simp only [List.getElem_toArray, List.getElem_cons_zero, Act.put, List.setIfInBounds_toArray, List.set_cons_zero, List.set_cons_succ]
        refine wpAnyH_take (i := 1) (v := ?_) rfl (by kernel_rfl) (by kernel_rfl) (by kernel_rfl) (fun _ _ _ h => h) (Or.inl ⟨by rfl, ?_⟩) hHeld ?_
        rotate_left
        · intro w hSw
          (try dsimp only at hSw)
          (try simp only [List.getElem_toArray, List.getElem_cons_zero, List.getElem_cons_succ])
          go_simp
          all_goals with_reducible rfl
        try simp only [List.getElem_toArray, List.getElem_cons_zero, List.getElem_cons_succ, Act.put, List.setIfInBounds_toArray, List.set_cons_zero, List.set_cons_succ]
        refine wpAnyH_take (i := 2) (v := ?_) rfl (by kernel_rfl) (by kernel_rfl) (by kernel_rfl) (fun _ _ _ h => h) (Or.inl ⟨by rfl, ?_⟩) hHeld ?_
        rotate_left
        · intro w hSw
          (try dsimp only at hSw)
          (try simp only [List.getElem_toArray, List.getElem_cons_zero, List.getElem_cons_succ])
          go_simp
          all_goals with_reducible rfl
        try simp only [List.getElem_toArray, List.getElem_cons_zero, List.getElem_cons_succ, Act.put, List.setIfInBounds_toArray, List.set_cons_zero, List.set_cons_succ]
        refine wpAnyH_take (i := 3) (v := ?_) rfl (by kernel_rfl) (by kernel_rfl) (by kernel_rfl) (fun _ _ _ h => h) (Or.inl ⟨by rfl, ?_⟩) hHeld ?_
        rotate_left
        · intro w hSw
          (try dsimp only at hSw)
          (try simp only [List.getElem_toArray, List.getElem_cons_zero, List.getElem_cons_succ])
          go_simp
          all_goals with_reducible rfl
        try simp only [List.getElem_toArray, List.getElem_cons_zero, List.getElem_cons_succ, Act.put, List.setIfInBounds_toArray, List.set_cons_zero, List.set_cons_succ]
        refine wpAnyH_take (i := 4) (v := ?_) rfl (by kernel_rfl) (by kernel_rfl) (by kernel_rfl) (fun _ _ _ h => h) (Or.inl ⟨by rfl, ?_⟩) hHeld ?_
        rotate_left
        · intro w hSw
          (try dsimp only at hSw)
          (try simp only [List.getElem_toArray, List.getElem_cons_zero, List.getElem_cons_succ])
          go_simp
          all_goals with_reducible rfl
        try simp only [List.getElem_toArray, List.getElem_cons_zero, List.getElem_cons_succ, Act.put, List.setIfInBounds_toArray, List.set_cons_zero, List.set_cons_succ]
        refine wpAnyH_take (i := 5) (v := ?_) rfl (by kernel_rfl) (by kernel_rfl) (by kernel_rfl) (fun _ _ _ h => h) (Or.inl ⟨by rfl, ?_⟩) hHeld ?_
        rotate_left
        · intro w hSw
          (try dsimp only at hSw)
          (try simp only [List.getElem_toArray, List.getElem_cons_zero, List.getElem_cons_succ])
          go_simp
          all_goals with_reducible rfl
        try simp only [List.getElem_toArray, List.getElem_cons_zero, List.getElem_cons_succ, Act.put, List.setIfInBounds_toArray, List.set_cons_zero, List.set_cons_succ]
        refine wpAnyH_take (i := 6) (v := ?_) rfl (by kernel_rfl) (by kernel_rfl) (by kernel_rfl) (fun _ _ _ h => h) (Or.inl ⟨by rfl, ?_⟩) hHeld ?_
        rotate_left
        · intro w hSw
          (try dsimp only at hSw)
          (try simp only [List.getElem_toArray, List.getElem_cons_zero, List.getElem_cons_succ])
          go_simp
          all_goals with_reducible rfl
        try simp only [List.getElem_toArray, List.getElem_cons_zero, List.getElem_cons_succ, Act.put, List.setIfInBounds_toArray, List.set_cons_zero, List.set_cons_succ]
        refine wpAnyH_take (i := 7) (v := ?_) rfl (by kernel_rfl) (by kernel_rfl) (by kernel_rfl) (fun _ _ _ h => h) (Or.inl ⟨by rfl, ?_⟩) hHeld ?_
        rotate_left
        · intro w hSw
          (try dsimp only at hSw)
          (try simp only [List.getElem_toArray, List.getElem_cons_zero, List.getElem_cons_succ])
          go_simp
          all_goals with_reducible rfl
        try simp only [List.getElem_toArray, List.getElem_cons_zero, List.getElem_cons_succ, Act.put, List.setIfInBounds_toArray, List.set_cons_zero, List.set_cons_succ]
        refine wpAnyH_take (i := 8) (v := ?_) rfl (by kernel_rfl) (by kernel_rfl) (by kernel_rfl) (fun _ _ _ h => h) (Or.inl ⟨by rfl, ?_⟩) hHeld ?_
        rotate_left
        · intro w hSw
          (try dsimp only at hSw)
          (try simp only [List.getElem_toArray, List.getElem_cons_zero, List.getElem_cons_succ])
          go_simp
          all_goals with_reducible rfl
        try simp only [List.getElem_toArray, List.getElem_cons_zero, List.getElem_cons_succ, Act.put, List.setIfInBounds_toArray, List.set_cons_zero, List.set_cons_succ]
        refine wpAnyH_take (i := 9) (v := ?_) rfl (by kernel_rfl) (by kernel_rfl) (by kernel_rfl) (fun _ _ _ h => h) (Or.inl ⟨by rfl, ?_⟩) hHeld ?_
        rotate_left
        · intro w hSw
          (try dsimp only at hSw)
          (try simp only [List.getElem_toArray, List.getElem_cons_zero, List.getElem_cons_succ])
          go_simp
          all_goals with_reducible rfl
        try simp only [List.getElem_toArray, List.getElem_cons_zero, List.getElem_cons_succ, Act.put, List.setIfInBounds_toArray, List.set_cons_zero, List.set_cons_succ]
        refine wpAnyH_take (i := 10) (v := ?_) rfl (by kernel_rfl) (by kernel_rfl) (by kernel_rfl) (fun _ _ _ h => h) (Or.inl ⟨by rfl, ?_⟩) hHeld ?_
        rotate_left
        · intro w hSw
          (try dsimp only at hSw)
          (try simp only [List.getElem_toArray, List.getElem_cons_zero, List.getElem_cons_succ])
          go_simp
          all_goals with_reducible rfl
        try simp only [List.getElem_toArray, List.getElem_cons_zero, List.getElem_cons_succ, Act.put, List.setIfInBounds_toArray, List.set_cons_zero, List.set_cons_succ]
        refine wpAnyH_take (i := 11) (v := ?_) rfl (by kernel_rfl) (by kernel_rfl) (by kernel_rfl) (fun _ _ _ h => h) (Or.inl ⟨by rfl, ?_⟩) hHeld ?_
        rotate_left
        · intro w hSw
          (try dsimp only at hSw)
          (try simp only [List.getElem_toArray, List.getElem_cons_zero, List.getElem_cons_succ])
          go_simp
          all_goals with_reducible rfl
        try simp only [List.getElem_toArray, List.getElem_cons_zero, List.getElem_cons_succ, Act.put, List.setIfInBounds_toArray, List.set_cons_zero, List.set_cons_succ]
        refine wpAnyH_take (i := 12) (v := ?_) rfl (by kernel_rfl) (by kernel_rfl) (by kernel_rfl) (fun _ _ _ h => h) (Or.inl ⟨by rfl, ?_⟩) hHeld ?_
        rotate_left
        · intro w hSw
          (try dsimp only at hSw)
          (try simp only [List.getElem_toArray, List.getElem_cons_zero, List.getElem_cons_succ])
          go_simp
          all_goals with_reducible rfl
        try simp only [List.getElem_toArray, List.getElem_cons_zero, List.getElem_cons_succ, Act.put, List.setIfInBounds_toArray, List.set_cons_zero, List.set_cons_succ]
        refine wpAnyH_ready (rs := [13]) (by kernel_rfl) (by simp) ?_
        refine AllReadyH.cons rfl (fun K hK => ?_) AllReadyH.nil
        try simp only [List.getElem_toArray, List.getElem_cons_zero, List.getElem_cons_succ]
        go_simp
        refine (HCM.out _).mono ?_
        rintro e wn ⟨rfl, hbn⟩
        have AB := AB.trans (hbn.mono (AB.size))
        replace HT2 := Lib.hid (HT2.out.keep hbn)
        replace HPB := Lib.hid (HPB.out.keep hbn)
        replace HKv := Lib.hid ((cell_eqb (p := ⟨gA, n, none⟩) (hbn.block _ HAl.out)).trans HKv.out)
        replace HQv := Lib.hid (And.intro ((cell_eqb (p := ⟨gQ, n * 2, none⟩) (hbn.block _ HQl.out)).trans HQv.out.1) ((cell_eqb (p := ⟨gQ, n * 2 + 1, none⟩) (hbn.block _ HQl.out)).trans HQv.out.2))
        clear hbn
        go_wp2_with fail
        refine hK.out _ _ (⟨HT2.out.cell 0 rfl, HT2.out.cell 1 rfl, HT2.out.cell 2 rfl, HT2.out.cell 3 rfl, HT2.out.cell 4 rfl, HT2.out.cell 5 rfl, HT2.out.cell 6 rfl, HT2.out.cell 7 rfl, HT2.out.cell 8 rfl, HKv.out, HPB.out.cell 0 rfl, HPB.out.cell 1 rfl, HQv.out.1, HQv.out.2⟩) (fun hHeld => ?_)
        clear hK K
        try simp only [List.getElem_toArray, List.getElem_cons_zero, List.getElem_cons_succ, Act.put, List.setIfInBounds_toArray, List.set_cons_zero, List.set_cons_succ]
        refine wpAnyH_take (i := 14) (v := ?_) rfl (by kernel_rfl) (by kernel_rfl) (by kernel_rfl) (fun _ _ _ h => h) (Or.inl ⟨by rfl, ?_⟩) hHeld ?_
        rotate_left
        · intro w hSw
          (try dsimp only at hSw)
          (try simp only [List.getElem_toArray, List.getElem_cons_zero, List.getElem_cons_succ])
          go_simp
          all_goals with_reducible rfl
        try simp only [List.getElem_toArray, List.getElem_cons_zero, List.getElem_cons_succ, Act.put, List.setIfInBounds_toArray, List.set_cons_zero, List.set_cons_succ]
        refine wpAnyH_take (i := 15) (v := ?_) rfl (by kernel_rfl) (by kernel_rfl) (by kernel_rfl) (fun _ _ _ h => h) (Or.inl ⟨by rfl, ?_⟩) hHeld ?_
        rotate_left
        · intro w hSw
          (try dsimp only at hSw)
          (try simp only [List.getElem_toArray, List.getElem_cons_zero, List.getElem_cons_succ])
          go_simp
          all_goals with_reducible rfl
        try simp only [List.getElem_toArray, List.getElem_cons_zero, List.getElem_cons_succ, Act.put, List.setIfInBounds_toArray, List.set_cons_zero, List.set_cons_succ]
        refine wpAnyH_done (by kernel_rfl) ?_ _
        go_wp2_with fail
        go_meet
        exact ⟨by rw [← hmb], Lib.hid AB⟩
    case rest =>
      obtain ⟨rfl, HW3⟩ := hcut
      have HT3 := Lib.hid (HT2.out.keep HW3.out)
      have HA3 := Lib.hid (HA2.out.keep HW3.out)
      have HQ3 := Lib.hid (HQ2.out.keep HW3.out)
      have HP3 := Lib.hid (HPB.out.keep HW3.out)
      have HB3 := Lib.hid (below2 HBW.out HW3.out)
      clear HT2 HA2 HQ2 HPB HBW HW3 HVJ htb hKi hKv
      cases tb
      · have HO1 : Hid (offerS es P st n m = st) := Lib.hid (HO.out.trans (if_neg (by simp)))
        clear HO
        go_wp2_with fail
        refine bodyPost_end (v := .tuple #[]) (by simp [results, Try.results52, go_sem]) rfl ?_
        refine ⟨⟨_, rfl⟩, ?_, ?_, But.of HB3.out⟩
        · rw [HO1.out]; exact HA3.out
        · rw [HO1.out]; exact HQ3.out
      · have HO1 : Hid (offerS es P st n m = st.set n m) := Lib.hid (HO.out.trans (if_pos rfl))
        clear HO
        go_wp2_with fail
        obtain ⟨⟨⟨qx, q8⟩, ⟨rx, q9⟩⟩, qf, rf⟩ := HQ3.out.cell hn
        have ql := HQ3.out.lt
        have AB : But (fun g => g = gA ∨ g = gQ) w wc.drew := But.of HB3.out.drew
        replace HT3 := Lib.hid HT3.out.drew
        replace HP3 := Lib.hid HP3.out.drew
        have hdr : Below wc.heap.size wc wc.drew := (Below.refl _ wc).drew
        replace HA3 := Lib.hid (HA3.out.keep hdr)
        replace HQ3 := Lib.hid (HQ3.out.keep hdr)
        have hPA : P9 ≠ gA := by have := HLA.out; have := HTP.out; omega
        have hPQ : P9 ≠ gQ := by have := HLQ.out; have := HTP.out; omega
        have hTA : w.heap.size ≠ gA := by have := HLA.out; omega
        have hTQ : w.heap.size ≠ gQ := by have := HLQ.out; omega
        have hsl : st.length = M := by have h := HA3.out.1; unfold ivals at h; rwa [List.length_map] at h
        clear hdr
        refine wp_region_held_drew (S := fun wx => wx.cell? ⟨w.heap.size, 0, none⟩ = some (.slice (some ae) N cape) ∧ wx.cell? ⟨w.heap.size, 1, none⟩ = some (.int .i64 x) ∧ wx.cell? ⟨w.heap.size, 2, none⟩ = some (.int .i64 y) ∧ wx.cell? ⟨w.heap.size, 3, none⟩ = some (.int .i64 p) ∧ wx.cell? ⟨w.heap.size, 4, none⟩ = some (.int .i64 u) ∧ wx.cell? ⟨w.heap.size, 5, none⟩ = some (.int .i64 v) ∧ wx.cell? ⟨w.heap.size, 6, none⟩ = some (.int .i64 s) ∧ wx.cell? ⟨w.heap.size, 7, none⟩ = some (.slice (some ⟨gA, 0, none⟩) M M) ∧ wx.cell? ⟨w.heap.size, 8, none⟩ = some (.slice (some ⟨gQ, 0, none⟩) M M) ∧ wx.cell? ⟨P9, 0, none⟩ = some (.int .i64 n1) ∧ wx.cell? ⟨P9, 1, none⟩ = some (.int .i64 d1)) (by kernel_rfl) (⟨HT3.out.cell 0 rfl, HT3.out.cell 1 rfl, HT3.out.cell 2 rfl, HT3.out.cell 3 rfl, HT3.out.cell 4 rfl, HT3.out.cell 5 rfl, HT3.out.cell 6 rfl, HT3.out.cell 7 rfl, HT3.out.cell 8 rfl, HP3.out.cell 0 rfl, HP3.out.cell 1 rfl⟩) (fun hHeld => ?_)
        refine wpAnyH_take (i := 0) (v := ?_) rfl (by kernel_rfl) (by kernel_rfl) (by kernel_rfl) (fun _ _ _ h => h) (Or.inl ⟨by rfl, ?_⟩) hHeld ?_
        rotate_left
        · intro w hSw
          (try dsimp only at hSw)
          (try simp only [List.getElem_toArray, List.getElem_cons_zero])
          go_simp
          all_goals with_reducible rfl
        try simp only [List.getElem_toArray, List.getElem_cons_zero, Act.put, List.setIfInBounds_toArray, List.set_cons_zero, List.set_cons_succ]
        refine wpAnyH_take (i := 1) (v := ?_) rfl (by kernel_rfl) (by kernel_rfl) (by kernel_rfl) (fun _ _ _ h => h) (Or.inl ⟨by rfl, ?_⟩) hHeld ?_
        rotate_left
        · intro w hSw
          (try dsimp only at hSw)
          (try simp only [List.getElem_toArray, List.getElem_cons_zero, List.getElem_cons_succ])
          go_simp
          all_goals with_reducible rfl
        try simp only [List.getElem_toArray, List.getElem_cons_zero, List.getElem_cons_succ, Act.put, List.setIfInBounds_toArray, List.set_cons_zero, List.set_cons_succ]
        refine wpAnyH_take (i := 2) (v := ?_) rfl (by kernel_rfl) (by kernel_rfl) (by kernel_rfl) (fun _ _ _ h => h) (Or.inl ⟨by rfl, ?_⟩) hHeld ?_
        rotate_left
        · intro w hSw
          (try dsimp only at hSw)
          (try simp only [List.getElem_toArray, List.getElem_cons_zero, List.getElem_cons_succ])
          go_simp
          all_goals with_reducible rfl
        try simp only [List.getElem_toArray, List.getElem_cons_zero, List.getElem_cons_succ, Act.put, List.setIfInBounds_toArray, List.set_cons_zero, List.set_cons_succ]
        refine wpAnyH_take (i := 3) (v := ?_) rfl (by kernel_rfl) (by kernel_rfl) (by kernel_rfl) (fun _ _ _ h => h) (Or.inl ⟨by rfl, ?_⟩) hHeld ?_
        rotate_left
        · intro w hSw
          (try dsimp only at hSw)
          (try simp only [List.getElem_toArray, List.getElem_cons_zero, List.getElem_cons_succ])
          go_simp
          all_goals with_reducible rfl
        try simp only [List.getElem_toArray, List.getElem_cons_zero, List.getElem_cons_succ, Act.put, List.setIfInBounds_toArray, List.set_cons_zero, List.set_cons_succ]
        refine wpAnyH_take (i := 4) (v := ?_) rfl (by kernel_rfl) (by kernel_rfl) (by kernel_rfl) (fun _ _ _ h => h) (Or.inl ⟨by rfl, ?_⟩) hHeld ?_
        rotate_left
        · intro w hSw
          (try dsimp only at hSw)
          (try simp only [List.getElem_toArray, List.getElem_cons_zero, List.getElem_cons_succ])
          go_simp
          all_goals with_reducible rfl
        try simp only [List.getElem_toArray, List.getElem_cons_zero, List.getElem_cons_succ, Act.put, List.setIfInBounds_toArray, List.set_cons_zero, List.set_cons_succ]
        refine wpAnyH_take (i := 5) (v := ?_) rfl (by kernel_rfl) (by kernel_rfl) (by kernel_rfl) (fun _ _ _ h => h) (Or.inl ⟨by rfl, ?_⟩) hHeld ?_
        rotate_left
        · intro w hSw
          (try dsimp only at hSw)
          (try simp only [List.getElem_toArray, List.getElem_cons_zero, List.getElem_cons_succ])
          go_simp
          all_goals with_reducible rfl
        try simp only [List.getElem_toArray, List.getElem_cons_zero, List.getElem_cons_succ, Act.put, List.setIfInBounds_toArray, List.set_cons_zero, List.set_cons_succ]
        refine wpAnyH_take (i := 6) (v := ?_) rfl (by kernel_rfl) (by kernel_rfl) (by kernel_rfl) (fun _ _ _ h => h) (Or.inl ⟨by rfl, ?_⟩) hHeld ?_
        rotate_left
        · intro w hSw
          (try dsimp only at hSw)
          (try simp only [List.getElem_toArray, List.getElem_cons_zero, List.getElem_cons_succ])
          go_simp
          all_goals with_reducible rfl
        try simp only [List.getElem_toArray, List.getElem_cons_zero, List.getElem_cons_succ, Act.put, List.setIfInBounds_toArray, List.set_cons_zero, List.set_cons_succ]
        refine wpAnyH_take (i := 7) (v := ?_) rfl (by kernel_rfl) (by kernel_rfl) (by kernel_rfl) (fun _ _ _ h => h) (Or.inl ⟨by rfl, ?_⟩) hHeld ?_
        rotate_left
        · intro w hSw
          (try dsimp only at hSw)
          (try simp only [List.getElem_toArray, List.getElem_cons_zero, List.getElem_cons_succ])
          go_simp
          all_goals with_reducible rfl
        try simp only [List.getElem_toArray, List.getElem_cons_zero, List.getElem_cons_succ, Act.put, List.setIfInBounds_toArray, List.set_cons_zero, List.set_cons_succ]
        refine wpAnyH_take (i := 8) (v := ?_) rfl (by kernel_rfl) (by kernel_rfl) (by kernel_rfl) (fun _ _ _ h => h) (Or.inl ⟨by rfl, ?_⟩) hHeld ?_
        rotate_left
        · intro w hSw
          (try dsimp only at hSw)
          (try simp only [List.getElem_toArray, List.getElem_cons_zero, List.getElem_cons_succ])
          go_simp
          all_goals with_reducible rfl
        try simp only [List.getElem_toArray, List.getElem_cons_zero, List.getElem_cons_succ, Act.put, List.setIfInBounds_toArray, List.set_cons_zero, List.set_cons_succ]
        refine wpAnyH_ready (rs := [9]) (by kernel_rfl) (by simp) ?_
        refine AllReadyH.cons rfl (fun K hK => ?_) AllReadyH.nil
        try simp only [List.getElem_toArray, List.getElem_cons_zero, List.getElem_cons_succ]
        have af := (HA3.out.cell n hn).2
        obtain ⟨ax, a1⟩ := (HA3.out.cell n hn).1
        have al := HA3.out.lt
        go_simp
        replace HT3 := Lib.hid (HT3.out.other (k := gA) n (.int .i64 (m : Int)) hTA)
        replace HP3 := Lib.hid (HP3.out.other (k := gA) n (.int .i64 (m : Int)) hPA)
        replace HQ3 := Lib.hid (HQ3.out.heap (heap_set _ ⟨gA, n, none⟩ (.int .i64 (m : Int)) gQ (Ne.symm hne)))
        replace HA3 := Lib.hid (HA3.out.store n (.int .i64 (m : Int)))
        have AB := AB.set ⟨gA, n, none⟩ (Or.inl rfl) (.int .i64 (m : Int))
        clear af a1 al
        refine hK.out _ _ (⟨HT3.out.cell 0 rfl, HT3.out.cell 1 rfl, HT3.out.cell 2 rfl, HT3.out.cell 3 rfl, HT3.out.cell 4 rfl, HT3.out.cell 5 rfl, HT3.out.cell 6 rfl, HT3.out.cell 7 rfl, HT3.out.cell 8 rfl, HP3.out.cell 0 rfl, HP3.out.cell 1 rfl⟩) (fun hHeld => ?_)
        clear hK K
        try simp only [List.getElem_toArray, List.getElem_cons_zero, List.getElem_cons_succ, Act.put, List.setIfInBounds_toArray, List.set_cons_zero, List.set_cons_succ]
        refine wpAnyH_take (i := 10) (v := ?_) rfl (by kernel_rfl) (by kernel_rfl) (by kernel_rfl) (fun _ _ _ h => h) (Or.inl ⟨by rfl, ?_⟩) hHeld ?_
        rotate_left
        · intro w hSw
          (try dsimp only at hSw)
          (try simp only [List.getElem_toArray, List.getElem_cons_zero, List.getElem_cons_succ])
          go_simp
          all_goals with_reducible rfl
        try simp only [List.getElem_toArray, List.getElem_cons_zero, List.getElem_cons_succ, Act.put, List.setIfInBounds_toArray, List.set_cons_zero, List.set_cons_succ]
        refine wpAnyH_ready (rs := [11]) (by kernel_rfl) (by simp) ?_
        refine AllReadyH.cons rfl (fun K hK => ?_) AllReadyH.nil
        try simp only [List.getElem_toArray, List.getElem_cons_zero, List.getElem_cons_succ]
        go_simp
        replace HT3 := Lib.hid ((HT3.out.other (k := gQ) (n * 2) (.int .i64 n1) hTQ).other (k := gQ) (n * 2 + 1) (.int .i64 d1) hTQ)
        replace HP3 := Lib.hid ((HP3.out.other (k := gQ) (n * 2) (.int .i64 n1) hPQ).other (k := gQ) (n * 2 + 1) (.int .i64 d1) hPQ)
        replace HQ3 := Lib.hid (HQ3.out.store hn hsl (m : Int) HSV.out.1 HSV.out.2)
        replace HA3 := Lib.hid ((HA3.out.heap (heap_set _ ⟨gQ, n * 2, none⟩ (.int .i64 n1) gA hne)).heap (heap_set _ ⟨gQ, n * 2 + 1, none⟩ (.int .i64 d1) gA hne))
        have AB := (AB.set ⟨gQ, n * 2, none⟩ (Or.inr rfl) (.int .i64 n1)).set ⟨gQ, n * 2 + 1, none⟩ (Or.inr rfl) (.int .i64 d1)
        clear qf rf q8 q9 ql
        refine hK.out _ _ (⟨HT3.out.cell 0 rfl, HT3.out.cell 1 rfl, HT3.out.cell 2 rfl, HT3.out.cell 3 rfl, HT3.out.cell 4 rfl, HT3.out.cell 5 rfl, HT3.out.cell 6 rfl, HT3.out.cell 7 rfl, HT3.out.cell 8 rfl, HP3.out.cell 0 rfl, HP3.out.cell 1 rfl⟩) (fun hHeld => ?_)
        clear hK K
        try simp only [List.getElem_toArray, List.getElem_cons_zero, List.getElem_cons_succ, Act.put, List.setIfInBounds_toArray, List.set_cons_zero, List.set_cons_succ]
        refine wpAnyH_done (by kernel_rfl) ?_ _
        go_wp2_with fail
        refine bodyPost_end (v := .tuple #[]) (by simp [results, Try.results52, go_sem]) rfl ?_
        refine ⟨⟨_, rfl⟩, ?_, ?_, AB⟩
        · rw [HO1.out, ← ivals_set]; exact HA3.out
        · rw [HO1.out]; exact HQ3.out

end Go.Proofs.Yteiildeaccngjaa
