/-
  What the program's texels do in layer 13, further: contracts (no claim is made here).
-/
import Derived.Test.YteiildeaccngjaaSwpPa
namespace Go.Proofs.Yteiildeaccngjaa
open Go.RowKit

theorem erd_but {ks : Nat → Prop} {w w' : World} {v : Value} {l : List Ed} (h : ERd w v l) (hb : But ks w w') (hk : l ≠ [] → ∀ g, v.ownBlock = some g → ¬ ks g) : ERd w' v l := by
  by_cases hl : l = []
  · subst hl
    obtain ⟨A, cap, rfl, h1, _⟩ := h
    exact ⟨A, cap, rfl, h1, fun i hi => absurd hi (Nat.not_lt_zero _)⟩
  · exact h.but hb (hk hl)
theorem half_in : ∀ a b : Int, a.natAbs ≤ 8192 → b.natAbs ≤ 8192 → ((a + b).tdiv 2).natAbs ≤ 8192 := by
  intro a b h1 h2
  rw [Int.natAbs_tdiv]
  exact Nat.div_le_of_le_mul (by rw [show (2 : Int).natAbs = 2 from rfl]; omega)

set_option maxRecDepth 100000 in
set_option maxHeartbeats 3200000 in
theorem pholder_any (ve V1 V2 : Value) (x y p s : Int) (u v : Nat) (a b : Int) (w : World) (ha : a.natAbs ≤ 100000) (hb : b.natAbs ≤ 100000) (hx : x.natAbs ≤ 300) (hy : y.natAbs ≤ 300) (hp : 1 ≤ p ∧ p ≤ 16) (hu : 0 < u ∧ u ≤ 24) (hv : 0 < v ∧ v ≤ 24) :
    Calls Try.prog 53 #[.agg #[ve, .int .i64 x, .int .i64 y, .int .i64 p, .int .i64 u, .int .i64 v, .int .i64 s, V1, V2], .agg #[.int .i64 a, .int .i64 b]] w fun e w' => e = .returned (.int .i64 ((plS b y v p * u + plS a x u p : Nat) : Int)) ∧ Below w.heap.size w w' := by
  have H1 := Lib.hid (fun w => pplace_any a x p u w ha hx hp hu)
  have H2 := Lib.hid (fun w => pplace_any b y p v w hb hy hp hv)
  have l1 := plS_lt (n := a) (f := x) (p := p) hu.1
  have l2 := plS_lt (n := b) (f := y) (p := p) hv.1
  generalize plS a x u p = A at *
  generalize plS b y v p = B at *
  have hm : B * u ≤ 24 * 24 := Nat.mul_le_mul (by omega) hu.2
  have w1 : IntKind.i64.wrap ((B : Int) * u) = ((B * u : Nat) : Int) := by rw [← Int.natCast_mul]; exact wI (by omega) (by omega)
  obtain ⟨z, hz⟩ : ∃ z, B * u = z := ⟨_, rfl⟩
  rw [hz] at hm w1 ⊢
  have w2 : IntKind.i64.wrap ((z : Int) + A) = ((z + A : Nat) : Int) := by rw [← Int.natCast_add]; exact wI (by omega) (by omega)
  have HT := Lib.hid ((Blk.new w 72 [ve, .int .i64 x, .int .i64 y, .int .i64 p, .int .i64 u, .int .i64 v, .int .i64 s, V1, V2] rfl).alloc (.cells #[.int .i64 a, .int .i64 b] 41))
  have HR := Lib.hid (Blk.new (w.alloc (.cells #[ve, .int .i64 x, .int .i64 y, .int .i64 p, .int .i64 u, .int .i64 v, .int .i64 s, V1, V2] 72)) 41 [.int .i64 a, .int .i64 b] (g := w.heap.size + 1) (by simp))
  have HB := Lib.hid (alloc2 w (.cells #[ve, .int .i64 x, .int .i64 y, .int .i64 p, .int .i64 u, .int .i64 v, .int .i64 s, V1, V2] 72) (.cells #[.int .i64 a, .int .i64 b] 41))
  clear hz hm l1 l2
  go_enter Try.func53, Try.ntmps53
  go_wp2_with fail
  generalize (w.alloc (.cells #[ve, .int .i64 x, .int .i64 y, .int .i64 p, .int .i64 u, .int .i64 v, .int .i64 s, V1, V2] 72)).alloc (.cells #[.int .i64 a, .int .i64 b] 41) = W at *
  refine (H1.out _).mono ?_
  rintro e wa ⟨rfl, rfl⟩
  have t1 := HT.out.cell 1 rfl
  have t2 := HT.out.cell 2 rfl
  have t3 := HT.out.cell 3 rfl
  have t4 := HT.out.cell 4 rfl
  have t5 := HT.out.cell 5 rfl
  have t6 := HT.out.cell 6 rfl
  have r0 := HR.out.cell 0 rfl
  have r1 := HR.out.cell 1 rfl
  go_wp2_with fail
  refine (H2.out _).mono ?_
  rintro e wa ⟨rfl, rfl⟩
  go_wp2_with fail
  go_ret
  exact ⟨by rfl, HB.out⟩

set_option maxRecDepth 100000 in
set_option maxHeartbeats 3200000 in
theorem ppts_any (gA gQ m : Nat) (ve : Value) (es : List Ed) (x y p s : Int) (u v : Nat) (st : List Int) (w : World)
    (hA : NRw w gA (u * v) (ivals st)) (hQ : SQw w gQ (u * v) es (cenS x y p u) st) (hne : gA ≠ gQ) (hv : ERd w ve es) (hve : es ≠ [] → ∀ g, ve.ownBlock = some g → ¬ (g = gA ∨ g = gQ))
    (hin : ∀ s ∈ es, InD s) (hx : x.natAbs ≤ 300) (hy : y.natAbs ≤ 300) (hp : 1 ≤ p ∧ p ≤ 16) (hu : 0 < u ∧ u ≤ 24) (hv2 : 0 < v ∧ v ≤ 24) (hst : InK es.length st) (E : Ed) (hE : es[m]? = some E) :
    Calls Try.prog 30 #[.agg #[ve, .int .i64 x, .int .i64 y, .int .i64 p, .int .i64 u, .int .i64 v, .int .i64 s, .slice (some ⟨gA, 0, none⟩) (u * v) (u * v), .slice (some ⟨gQ, 0, none⟩) (u * v) (u * v)], .agg #[.int .i64 E.a.x, .int .i64 E.a.y, .int .i64 E.b.x, .int .i64 E.b.y], .int .i64 m] w fun r w' => (∃ V, r = .returned V) ∧ NRw w' gA (u * v) (ivals (seed3 es x y p u v st m 3)) ∧ SQw w' gQ (u * v) es (cenS x y p u) (seed3 es x y p u v st m 3) ∧ But (fun g => g = gA ∨ g = gQ) w w' := by
  have hml : m < es.length := (List.getElem?_eq_some_iff.1 hE).1
  have hIE := hin E (List.mem_of_getElem? hE)
  have hEd : es.getD m edZ = E := by rw [List.getD_eq_getElem?_getD, hE]; rfl
  have hsl : st.length = u * v := by have h := hA.1; unfold ivals at h; rwa [List.length_map] at h
  obtain ⟨⟨i1, i2⟩, i3, i4⟩ := id hIE
  have hi5 := half_in _ _ i1 i3
  have hi6 := half_in _ _ i2 i4
  have HO0 := Lib.hid (fun w h1 h2 h3 => poffer_any gA gQ (cellE x y p u v (es.getD m edZ) 0) m ve es x y p s u v (seed3 es x y p u v st m 0) w h1 h2 hne h3 hin hx hy hp hu hv2.2 (cellE_lt hu.1 hv2.1 _ _) hml (seed3_in es x y p u v hu.1 hv2.1 hsl hst (by omega) 0))
  rw [show offerS es (cenS x y p u) (seed3 es x y p u v st m 0) (cellE x y p u v (es.getD m edZ) 0) m = seed3 es x y p u v st m 1 from rfl, hEd] at HO0
  have HH0 := Lib.hid (fun w => pholder_any ve (.slice (some ⟨gA, 0, none⟩) (u * v) (u * v)) (.slice (some ⟨gQ, 0, none⟩) (u * v) (u * v)) x y p s u v (E.a.x) (E.a.y) w (by omega) (by omega) hx hy hp hu hv2)
  rw [show plS E.a.y y v p * u + plS E.a.x x u p = cellE x y p u v E 0 from rfl] at HH0
  generalize cellE x y p u v E 0 = n0 at *
  have HO1 := Lib.hid (fun w h1 h2 h3 => poffer_any gA gQ (cellE x y p u v (es.getD m edZ) 1) m ve es x y p s u v (seed3 es x y p u v st m 1) w h1 h2 hne h3 hin hx hy hp hu hv2.2 (cellE_lt hu.1 hv2.1 _ _) hml (seed3_in es x y p u v hu.1 hv2.1 hsl hst (by omega) 1))
  rw [show offerS es (cenS x y p u) (seed3 es x y p u v st m 1) (cellE x y p u v (es.getD m edZ) 1) m = seed3 es x y p u v st m 2 from rfl, hEd] at HO1
  have HH1 := Lib.hid (fun w => pholder_any ve (.slice (some ⟨gA, 0, none⟩) (u * v) (u * v)) (.slice (some ⟨gQ, 0, none⟩) (u * v) (u * v)) x y p s u v (((E.a.x + E.b.x).tdiv 2)) (((E.a.y + E.b.y).tdiv 2)) w (by omega) (by omega) hx hy hp hu hv2)
  rw [show plS ((E.a.y + E.b.y).tdiv 2) y v p * u + plS ((E.a.x + E.b.x).tdiv 2) x u p = cellE x y p u v E 1 from rfl] at HH1
  generalize cellE x y p u v E 1 = n1 at *
  have HO2 := Lib.hid (fun w h1 h2 h3 => poffer_any gA gQ (cellE x y p u v (es.getD m edZ) 2) m ve es x y p s u v (seed3 es x y p u v st m 2) w h1 h2 hne h3 hin hx hy hp hu hv2.2 (cellE_lt hu.1 hv2.1 _ _) hml (seed3_in es x y p u v hu.1 hv2.1 hsl hst (by omega) 2))
  rw [show offerS es (cenS x y p u) (seed3 es x y p u v st m 2) (cellE x y p u v (es.getD m edZ) 2) m = seed3 es x y p u v st m 3 from rfl, hEd] at HO2
  have HH2 := Lib.hid (fun w => pholder_any ve (.slice (some ⟨gA, 0, none⟩) (u * v) (u * v)) (.slice (some ⟨gQ, 0, none⟩) (u * v) (u * v)) x y p s u v (E.b.x) (E.b.y) w (by omega) (by omega) hx hy hp hu hv2)
  rw [show plS E.b.y y v p * u + plS E.b.x x u p = cellE x y p u v E 2 from rfl] at HH2
  generalize cellE x y p u v E 2 = n2 at *
  rw [show seed3 es x y p u v st m 0 = st from rfl] at HO0
  generalize seed3 es x y p u v st m 1 = st1 at *
  generalize seed3 es x y p u v st m 2 = st2 at *
  generalize seed3 es x y p u v st m 3 = st3 at *
  generalize cenS x y p u = P at *
  generalize u * v = M at *
  have q0 : IntKind.i64.wrap (E.a.x + E.b.x) = E.a.x + E.b.x := wI (by omega) (by omega)
  have q1 : IntKind.i64.wrap (E.a.y + E.b.y) = E.a.y + E.b.y := wI (by omega) (by omega)
  have q2 : IntKind.i64.wrap ((E.a.x + E.b.x).tdiv 2) = (E.a.x + E.b.x).tdiv 2 := wI (by omega) (by omega)
  have q3 : IntKind.i64.wrap ((E.a.y + E.b.y).tdiv 2) = (E.a.y + E.b.y).tdiv 2 := wI (by omega) (by omega)
  have hal := alloc2 w (.cells #[ve, .int .i64 x, .int .i64 y, .int .i64 p, .int .i64 u, .int .i64 v, .int .i64 s, .slice (some ⟨gA, 0, none⟩) M M, .slice (some ⟨gQ, 0, none⟩) M M] 72) (.cells #[.int .i64 E.a.x, .int .i64 E.a.y, .int .i64 E.b.x, .int .i64 E.b.y] 50)
  have hk : Below w.heap.size w ((w.alloc (.cells #[ve, .int .i64 x, .int .i64 y, .int .i64 p, .int .i64 u, .int .i64 v, .int .i64 s, .slice (some ⟨gA, 0, none⟩) M M, .slice (some ⟨gQ, 0, none⟩) M M] 72)).alloc (.cells #[.int .i64 E.a.x, .int .i64 E.a.y, .int .i64 E.b.x, .int .i64 E.b.y] 50)) := hal
  have HT := Lib.hid ((Blk.new w 72 [ve, .int .i64 x, .int .i64 y, .int .i64 p, .int .i64 u, .int .i64 v, .int .i64 s, .slice (some ⟨gA, 0, none⟩) M M, .slice (some ⟨gQ, 0, none⟩) M M] rfl).alloc (.cells #[.int .i64 E.a.x, .int .i64 E.a.y, .int .i64 E.b.x, .int .i64 E.b.y] 50))
  have HEb := Lib.hid (Blk.new (w.alloc (.cells #[ve, .int .i64 x, .int .i64 y, .int .i64 p, .int .i64 u, .int .i64 v, .int .i64 s, .slice (some ⟨gA, 0, none⟩) M M, .slice (some ⟨gQ, 0, none⟩) M M] 72)) 50 [.int .i64 E.a.x, .int .i64 E.a.y, .int .i64 E.b.x, .int .i64 E.b.y] (g := w.heap.size + 1) (by simp))
  have hTk : ¬ (w.heap.size = gA ∨ w.heap.size = gQ) := by have := hA.lt; have := hQ.lt; omega
  have hEk : ¬ (w.heap.size + 1 = gA ∨ w.heap.size + 1 = gQ) := by have := hA.lt; have := hQ.lt; omega
  have HA := Lib.hid (hA.keep hk)
  have HQ := Lib.hid (hQ.keep hk)
  have HV := Lib.hid (hv.keep hk)
  have HVE := Lib.hid hve
  have AB : But (fun g => g = gA ∨ g = gQ) w ((w.alloc (.cells #[ve, .int .i64 x, .int .i64 y, .int .i64 p, .int .i64 u, .int .i64 v, .int .i64 s, .slice (some ⟨gA, 0, none⟩) M M, .slice (some ⟨gQ, 0, none⟩) M M] 72)).alloc (.cells #[.int .i64 E.a.x, .int .i64 E.a.y, .int .i64 E.b.x, .int .i64 E.b.y] 50)) := But.of hal
  clear hA hQ hv hve hin hst hEd hsl hal hk hIE
  go_enter Try.func30, Try.ntmps30
  go_wp2_with fail
  generalize (w.alloc (.cells #[ve, .int .i64 x, .int .i64 y, .int .i64 p, .int .i64 u, .int .i64 v, .int .i64 s, .slice (some ⟨gA, 0, none⟩) M M, .slice (some ⟨gQ, 0, none⟩) M M] 72)).alloc (.cells #[.int .i64 E.a.x, .int .i64 E.a.y, .int .i64 E.b.x, .int .i64 E.b.y] 50) = wn at *
  have hdr : Below wn.heap.size wn wn.drew := (Below.refl _ wn).drew
  replace HT := Lib.hid (HT.out.keep hdr)
  replace HEb := Lib.hid (HEb.out.keep hdr)
  replace HA := Lib.hid (HA.out.keep hdr)
  replace HQ := Lib.hid (HQ.out.keep hdr)
  replace HV := Lib.hid (HV.out.keep hdr)
  have AB := AB.then (hdr.mono AB.size)
  clear hdr
  refine wp_region_held_drew (S := fun wx => wx.cell? ⟨w.heap.size, 0, none⟩ = some (ve) ∧ wx.cell? ⟨w.heap.size, 1, none⟩ = some (.int .i64 x) ∧ wx.cell? ⟨w.heap.size, 2, none⟩ = some (.int .i64 y) ∧ wx.cell? ⟨w.heap.size, 3, none⟩ = some (.int .i64 p) ∧ wx.cell? ⟨w.heap.size, 4, none⟩ = some (.int .i64 u) ∧ wx.cell? ⟨w.heap.size, 5, none⟩ = some (.int .i64 v) ∧ wx.cell? ⟨w.heap.size, 6, none⟩ = some (.int .i64 s) ∧ wx.cell? ⟨w.heap.size, 7, none⟩ = some (.slice (some ⟨gA, 0, none⟩) M M) ∧ wx.cell? ⟨w.heap.size, 8, none⟩ = some (.slice (some ⟨gQ, 0, none⟩) M M) ∧ wx.cell? ⟨w.heap.size + 1, 0, none⟩ = some (.int .i64 E.a.x) ∧ wx.cell? ⟨w.heap.size + 1, 1, none⟩ = some (.int .i64 E.a.y) ∧ wx.cell? ⟨w.heap.size + 1, 2, none⟩ = some (.int .i64 E.b.x) ∧ wx.cell? ⟨w.heap.size + 1, 3, none⟩ = some (.int .i64 E.b.y)) (by kernel_rfl) (⟨HT.out.cell 0 rfl, HT.out.cell 1 rfl, HT.out.cell 2 rfl, HT.out.cell 3 rfl, HT.out.cell 4 rfl, HT.out.cell 5 rfl, HT.out.cell 6 rfl, HT.out.cell 7 rfl, HT.out.cell 8 rfl, HEb.out.cell 0 rfl, HEb.out.cell 1 rfl, HEb.out.cell 2 rfl, HEb.out.cell 3 rfl⟩) (fun hHeld => ?_)
  generalize wn.drew = w2d at *
  refine wpAnyH_take (i := 0) (v := ?_) rfl (by kernel_rfl) (by kernel_rfl) (by kernel_rfl) (fun _ _ _ h => h) (Or.inl ⟨by rfl, ?_⟩) hHeld ?_
  rotate_left
  · intro w hSw
    (try dsimp only at hSw)
    (try simp only [List.getElem_toArray, List.getElem_cons_zero])
    go_simp
    all_goals with_reducible rfl
  try simp only [List.getElem_toArray, List.getElem_cons_zero, Act.put, List.setIfInBounds_toArray, List.set_cons_zero, List.set_cons_succ]
  refine wpAnyH_take (i := 1) (v := ?_) rfl (by kernel_rfl) (by kernel_rfl) (by kernel_rfl) (fun _ _ _ h => h) (Or.inl ⟨by rfl, ?_⟩) hHeld ?_
  rotate_left
  · intro w hSw
    (try dsimp only at hSw)
    (try simp only [List.getElem_toArray, List.getElem_cons_zero, List.getElem_cons_succ])
    go_simp
    all_goals with_reducible rfl
  try simp only [List.getElem_toArray, List.getElem_cons_zero, List.getElem_cons_succ, Act.put, List.setIfInBounds_toArray, List.set_cons_zero, List.set_cons_succ]
  refine wpAnyH_take (i := 2) (v := ?_) rfl (by kernel_rfl) (by kernel_rfl) (by kernel_rfl) (fun _ _ _ h => h) (Or.inl ⟨by rfl, ?_⟩) hHeld ?_
  rotate_left
  · intro w hSw
    (try dsimp only at hSw)
    (try simp only [List.getElem_toArray, List.getElem_cons_zero, List.getElem_cons_succ])
    go_simp
    all_goals with_reducible rfl
  try simp only [List.getElem_toArray, List.getElem_cons_zero, List.getElem_cons_succ, Act.put, List.setIfInBounds_toArray, List.set_cons_zero, List.set_cons_succ]
  refine wpAnyH_take (i := 3) (v := ?_) rfl (by kernel_rfl) (by kernel_rfl) (by kernel_rfl) (fun _ _ _ h => h) (Or.inl ⟨by rfl, ?_⟩) hHeld ?_
  rotate_left
  · intro w hSw
    (try dsimp only at hSw)
    (try simp only [List.getElem_toArray, List.getElem_cons_zero, List.getElem_cons_succ])
    go_simp
    all_goals with_reducible rfl
  try simp only [List.getElem_toArray, List.getElem_cons_zero, List.getElem_cons_succ, Act.put, List.setIfInBounds_toArray, List.set_cons_zero, List.set_cons_succ]
  refine wpAnyH_take (i := 5) (v := ?_) rfl (by kernel_rfl) (by kernel_rfl) (by kernel_rfl) (fun _ _ _ h => h) (Or.inl ⟨by rfl, ?_⟩) hHeld ?_
  rotate_left
  · intro w hSw
    (try dsimp only at hSw)
    (try simp only [List.getElem_toArray, List.getElem_cons_zero, List.getElem_cons_succ])
    go_simp
    all_goals with_reducible rfl
  try simp only [List.getElem_toArray, List.getElem_cons_zero, List.getElem_cons_succ, Act.put, List.setIfInBounds_toArray, List.set_cons_zero, List.set_cons_succ]
  refine wpAnyH_ready (rs := [4]) (by kernel_rfl) (by simp) ?_
  refine AllReadyH.cons rfl (fun K hK => ?_) AllReadyH.nil
  try simp only [List.getElem_toArray, List.getElem_cons_zero, List.getElem_cons_succ]
  go_simp
  refine (HH0.out _).mono ?_
  rintro e wn ⟨rfl, hbn⟩
  have AB := AB.then (hbn.mono AB.size)
  replace HT := Lib.hid (HT.out.keep hbn)
  replace HEb := Lib.hid (HEb.out.keep hbn)
  replace HA := Lib.hid (HA.out.keep hbn)
  replace HQ := Lib.hid (HQ.out.keep hbn)
  replace HV := Lib.hid (HV.out.keep hbn)
  clear hbn
  go_wp2_with fail
  refine hK.out _ _ (⟨HT.out.cell 0 rfl, HT.out.cell 1 rfl, HT.out.cell 2 rfl, HT.out.cell 3 rfl, HT.out.cell 4 rfl, HT.out.cell 5 rfl, HT.out.cell 6 rfl, HT.out.cell 7 rfl, HT.out.cell 8 rfl, HEb.out.cell 0 rfl, HEb.out.cell 1 rfl, HEb.out.cell 2 rfl, HEb.out.cell 3 rfl⟩) (fun hHeld => ?_)
  clear hK K
  try simp only [List.getElem_toArray, List.getElem_cons_zero, List.getElem_cons_succ, Act.put, List.setIfInBounds_toArray, List.set_cons_zero, List.set_cons_succ]
  refine wpAnyH_ready (rs := [6]) (by kernel_rfl) (by simp) ?_
  refine AllReadyH.cons rfl (fun K hK => ?_) AllReadyH.nil
  try simp only [List.getElem_toArray, List.getElem_cons_zero, List.getElem_cons_succ]
  go_simp
  refine (HO0.out _ HA.out HQ.out HV.out).mono ?_
  rintro e wn ⟨⟨V, rfl⟩, hA, hQ, hbn⟩
  have AB := AB.trans hbn
  replace HT := Lib.hid (HT.out.but hbn hTk)
  replace HEb := Lib.hid (HEb.out.but hbn hEk)
  replace HV := Lib.hid (erd_but HV.out hbn HVE.out)
  replace HA := Lib.hid hA
  replace HQ := Lib.hid hQ
  clear hbn hA hQ
  go_wp2_with fail
  refine hK.out _ _ (⟨HT.out.cell 0 rfl, HT.out.cell 1 rfl, HT.out.cell 2 rfl, HT.out.cell 3 rfl, HT.out.cell 4 rfl, HT.out.cell 5 rfl, HT.out.cell 6 rfl, HT.out.cell 7 rfl, HT.out.cell 8 rfl, HEb.out.cell 0 rfl, HEb.out.cell 1 rfl, HEb.out.cell 2 rfl, HEb.out.cell 3 rfl⟩) (fun hHeld => ?_)
  clear hK K
  try simp only [List.getElem_toArray, List.getElem_cons_zero, List.getElem_cons_succ, Act.put, List.setIfInBounds_toArray, List.set_cons_zero, List.set_cons_succ]
  refine wpAnyH_done (by kernel_rfl) ?_ _
  go_wp2_with fail
  have hdr : Below wn.heap.size wn wn.drew := (Below.refl _ wn).drew
  replace HT := Lib.hid (HT.out.keep hdr)
  replace HEb := Lib.hid (HEb.out.keep hdr)
  replace HA := Lib.hid (HA.out.keep hdr)
  replace HQ := Lib.hid (HQ.out.keep hdr)
  replace HV := Lib.hid (HV.out.keep hdr)
  have AB := AB.then (hdr.mono AB.size)
  clear hdr
  refine wp_region_held_drew (S := fun wx => wx.cell? ⟨w.heap.size, 0, none⟩ = some (ve) ∧ wx.cell? ⟨w.heap.size, 1, none⟩ = some (.int .i64 x) ∧ wx.cell? ⟨w.heap.size, 2, none⟩ = some (.int .i64 y) ∧ wx.cell? ⟨w.heap.size, 3, none⟩ = some (.int .i64 p) ∧ wx.cell? ⟨w.heap.size, 4, none⟩ = some (.int .i64 u) ∧ wx.cell? ⟨w.heap.size, 5, none⟩ = some (.int .i64 v) ∧ wx.cell? ⟨w.heap.size, 6, none⟩ = some (.int .i64 s) ∧ wx.cell? ⟨w.heap.size, 7, none⟩ = some (.slice (some ⟨gA, 0, none⟩) M M) ∧ wx.cell? ⟨w.heap.size, 8, none⟩ = some (.slice (some ⟨gQ, 0, none⟩) M M) ∧ wx.cell? ⟨w.heap.size + 1, 0, none⟩ = some (.int .i64 E.a.x) ∧ wx.cell? ⟨w.heap.size + 1, 1, none⟩ = some (.int .i64 E.a.y) ∧ wx.cell? ⟨w.heap.size + 1, 2, none⟩ = some (.int .i64 E.b.x) ∧ wx.cell? ⟨w.heap.size + 1, 3, none⟩ = some (.int .i64 E.b.y)) (by kernel_rfl) (⟨HT.out.cell 0 rfl, HT.out.cell 1 rfl, HT.out.cell 2 rfl, HT.out.cell 3 rfl, HT.out.cell 4 rfl, HT.out.cell 5 rfl, HT.out.cell 6 rfl, HT.out.cell 7 rfl, HT.out.cell 8 rfl, HEb.out.cell 0 rfl, HEb.out.cell 1 rfl, HEb.out.cell 2 rfl, HEb.out.cell 3 rfl⟩) (fun hHeld => ?_)
  generalize wn.drew = w2d at *
  refine wpAnyH_take (i := 0) (v := ?_) rfl (by kernel_rfl) (by kernel_rfl) (by kernel_rfl) (fun _ _ _ h => h) (Or.inl ⟨by rfl, ?_⟩) hHeld ?_
  rotate_left
  · intro w hSw
    (try dsimp only at hSw)
    (try simp only [List.getElem_toArray, List.getElem_cons_zero])
    go_simp
    all_goals with_reducible rfl
  try simp only [List.getElem_toArray, List.getElem_cons_zero, Act.put, List.setIfInBounds_toArray, List.set_cons_zero, List.set_cons_succ]
  refine wpAnyH_take (i := 1) (v := ?_) rfl (by kernel_rfl) (by kernel_rfl) (by kernel_rfl) (fun _ _ _ h => h) (Or.inl ⟨by rfl, ?_⟩) hHeld ?_
  rotate_left
  · intro w hSw
    (try dsimp only at hSw)
    (try simp only [List.getElem_toArray, List.getElem_cons_zero, List.getElem_cons_succ])
    go_simp
    all_goals with_reducible rfl
  try simp only [List.getElem_toArray, List.getElem_cons_zero, List.getElem_cons_succ, Act.put, List.setIfInBounds_toArray, List.set_cons_zero, List.set_cons_succ]
  refine wpAnyH_take (i := 2) (v := ?_) rfl (by kernel_rfl) (by kernel_rfl) (by kernel_rfl) (fun _ _ _ h => h) (Or.inl ⟨by rfl, ?_⟩) hHeld ?_
  rotate_left
  · intro w hSw
    (try dsimp only at hSw)
    (try simp only [List.getElem_toArray, List.getElem_cons_zero, List.getElem_cons_succ])
    go_simp
    all_goals with_reducible rfl
  try simp only [List.getElem_toArray, List.getElem_cons_zero, List.getElem_cons_succ, Act.put, List.setIfInBounds_toArray, List.set_cons_zero, List.set_cons_succ]
  refine wpAnyH_take (i := 3) (v := ?_) rfl (by kernel_rfl) (by kernel_rfl) (by kernel_rfl) (fun _ _ _ h => h) (Or.inl ⟨by rfl, ?_⟩) hHeld ?_
  rotate_left
  · intro w hSw
    (try dsimp only at hSw)
    (try simp only [List.getElem_toArray, List.getElem_cons_zero, List.getElem_cons_succ])
    go_simp
    all_goals with_reducible rfl
  try simp only [List.getElem_toArray, List.getElem_cons_zero, List.getElem_cons_succ, Act.put, List.setIfInBounds_toArray, List.set_cons_zero, List.set_cons_succ]
  refine wpAnyH_take (i := 4) (v := ?_) rfl (by kernel_rfl) (by kernel_rfl) (by kernel_rfl) (fun _ _ _ h => h) (Or.inl ⟨by rfl, ?_⟩) hHeld ?_
  rotate_left
  · intro w hSw
    (try dsimp only at hSw)
    (try simp only [List.getElem_toArray, List.getElem_cons_zero, List.getElem_cons_succ])
    go_simp
    all_goals with_reducible rfl
  try simp only [List.getElem_toArray, List.getElem_cons_zero, List.getElem_cons_succ, Act.put, List.setIfInBounds_toArray, List.set_cons_zero, List.set_cons_succ]
  refine wpAnyH_take (i := 5) (v := ?_) rfl (by kernel_rfl) (by kernel_rfl) (by kernel_rfl) (fun _ _ _ h => h) (Or.inl ⟨by rfl, ?_⟩) hHeld ?_
  rotate_left
  · intro w hSw
    (try dsimp only at hSw)
    (try simp only [List.getElem_toArray, List.getElem_cons_zero, List.getElem_cons_succ])
    go_simp
    all_goals with_reducible rfl
  try simp only [List.getElem_toArray, List.getElem_cons_zero, List.getElem_cons_succ, Act.put, List.setIfInBounds_toArray, List.set_cons_zero, List.set_cons_succ]
  refine wpAnyH_take (i := 6) (v := ?_) rfl (by kernel_rfl) (by kernel_rfl) (by kernel_rfl) (fun _ _ _ h => h) (Or.inl ⟨by rfl, ?_⟩) hHeld ?_
  rotate_left
  · intro w hSw
    (try dsimp only at hSw)
    (try simp only [List.getElem_toArray, List.getElem_cons_zero, List.getElem_cons_succ])
    go_simp
    all_goals with_reducible rfl
  try simp only [List.getElem_toArray, List.getElem_cons_zero, List.getElem_cons_succ, Act.put, List.setIfInBounds_toArray, List.set_cons_zero, List.set_cons_succ]
  refine wpAnyH_take (i := 7) (v := ?_) rfl (by kernel_rfl) (by kernel_rfl) (by kernel_rfl) (fun _ _ _ h => h) (Or.inl ⟨by rfl, ?_⟩) hHeld ?_
  rotate_left
  · intro w hSw
    (try dsimp only at hSw)
    (try simp only [List.getElem_toArray, List.getElem_cons_zero, List.getElem_cons_succ])
    go_simp
    all_goals with_reducible rfl
  try simp only [List.getElem_toArray, List.getElem_cons_zero, List.getElem_cons_succ, Act.put, List.setIfInBounds_toArray, List.set_cons_zero, List.set_cons_succ]
  refine wpAnyH_take (i := 8) (v := ?_) rfl (by kernel_rfl) (by kernel_rfl) (by kernel_rfl) (fun _ _ _ h => h) (Or.inl ⟨by rfl, ?_⟩) hHeld ?_
  rotate_left
  · intro w hSw
    (try dsimp only at hSw)
    (try simp only [List.getElem_toArray, List.getElem_cons_zero, List.getElem_cons_succ])
    go_simp
    all_goals with_reducible rfl
  try simp only [List.getElem_toArray, List.getElem_cons_zero, List.getElem_cons_succ, Act.put, List.setIfInBounds_toArray, List.set_cons_zero, List.set_cons_succ]
  refine wpAnyH_take (i := 9) (v := ?_) rfl (by kernel_rfl) (by kernel_rfl) (by kernel_rfl) (fun _ _ _ h => h) (Or.inl ⟨by rfl, ?_⟩) hHeld ?_
  rotate_left
  · intro w hSw
    (try dsimp only at hSw)
    (try simp only [List.getElem_toArray, List.getElem_cons_zero, List.getElem_cons_succ])
    go_simp
    all_goals with_reducible rfl
  try simp only [List.getElem_toArray, List.getElem_cons_zero, List.getElem_cons_succ, Act.put, List.setIfInBounds_toArray, List.set_cons_zero, List.set_cons_succ]
  refine wpAnyH_take (i := 10) (v := ?_) rfl (by kernel_rfl) (by kernel_rfl) (by kernel_rfl) (fun _ _ _ h => h) (Or.inl ⟨by rfl, ?_⟩) hHeld ?_
  rotate_left
  · intro w hSw
    (try dsimp only at hSw)
    (try simp only [List.getElem_toArray, List.getElem_cons_zero, List.getElem_cons_succ])
    go_simp
    all_goals with_reducible rfl
  try simp only [List.getElem_toArray, List.getElem_cons_zero, List.getElem_cons_succ, Act.put, List.setIfInBounds_toArray, List.set_cons_zero, List.set_cons_succ]
  refine wpAnyH_take (i := 11) (v := ?_) rfl (by kernel_rfl) (by kernel_rfl) (by kernel_rfl) (fun _ _ _ h => h) (Or.inl ⟨by rfl, ?_⟩) hHeld ?_
  rotate_left
  · intro w hSw
    (try dsimp only at hSw)
    (try simp only [List.getElem_toArray, List.getElem_cons_zero, List.getElem_cons_succ])
    go_simp
    all_goals with_reducible rfl
  try simp only [List.getElem_toArray, List.getElem_cons_zero, List.getElem_cons_succ, Act.put, List.setIfInBounds_toArray, List.set_cons_zero, List.set_cons_succ]
  refine wpAnyH_take (i := 12) (v := ?_) rfl (by kernel_rfl) (by kernel_rfl) (by kernel_rfl) (fun _ _ _ h => h) (Or.inl ⟨by rfl, ?_⟩) hHeld ?_
  rotate_left
  · intro w hSw
    (try dsimp only at hSw)
    (try simp only [List.getElem_toArray, List.getElem_cons_zero, List.getElem_cons_succ])
    go_simp
    all_goals with_reducible rfl
  try simp only [List.getElem_toArray, List.getElem_cons_zero, List.getElem_cons_succ, Act.put, List.setIfInBounds_toArray, List.set_cons_zero, List.set_cons_succ]
  refine wpAnyH_take (i := 13) (v := ?_) rfl (by kernel_rfl) (by kernel_rfl) (by kernel_rfl) (fun _ _ _ h => h) (Or.inl ⟨by rfl, ?_⟩) hHeld ?_
  rotate_left
  · intro w hSw
    (try dsimp only at hSw)
    (try simp only [List.getElem_toArray, List.getElem_cons_zero, List.getElem_cons_succ])
    go_simp
    all_goals with_reducible rfl
  try simp only [List.getElem_toArray, List.getElem_cons_zero, List.getElem_cons_succ, Act.put, List.setIfInBounds_toArray, List.set_cons_zero, List.set_cons_succ]
  refine wpAnyH_take (i := 14) (v := ?_) rfl (by kernel_rfl) (by kernel_rfl) (by kernel_rfl) (fun _ _ _ h => h) (Or.inl ⟨by rfl, ?_⟩) hHeld ?_
  rotate_left
  · intro w hSw
    (try dsimp only at hSw)
    (try simp only [List.getElem_toArray, List.getElem_cons_zero, List.getElem_cons_succ])
    go_simp
    all_goals with_reducible rfl
  try simp only [List.getElem_toArray, List.getElem_cons_zero, List.getElem_cons_succ, Act.put, List.setIfInBounds_toArray, List.set_cons_zero, List.set_cons_succ]
  refine wpAnyH_take (i := 15) (v := ?_) rfl (by kernel_rfl) (by kernel_rfl) (by kernel_rfl) (fun _ _ _ h => h) (Or.inl ⟨by rfl, ?_⟩) hHeld ?_
  rotate_left
  · intro w hSw
    (try dsimp only at hSw)
    (try simp only [List.getElem_toArray, List.getElem_cons_zero, List.getElem_cons_succ])
    go_simp
    all_goals with_reducible rfl
  try simp only [List.getElem_toArray, List.getElem_cons_zero, List.getElem_cons_succ, Act.put, List.setIfInBounds_toArray, List.set_cons_zero, List.set_cons_succ]
  refine wpAnyH_take (i := 16) (v := ?_) rfl (by kernel_rfl) (by kernel_rfl) (by kernel_rfl) (fun _ _ _ h => h) (Or.inl ⟨by rfl, ?_⟩) hHeld ?_
  rotate_left
  · intro w hSw
    (try dsimp only at hSw)
    (try simp only [List.getElem_toArray, List.getElem_cons_zero, List.getElem_cons_succ])
    go_simp
    all_goals with_reducible rfl
  try simp only [List.getElem_toArray, List.getElem_cons_zero, List.getElem_cons_succ, Act.put, List.setIfInBounds_toArray, List.set_cons_zero, List.set_cons_succ]
  refine wpAnyH_take (i := 17) (v := ?_) rfl (by kernel_rfl) (by kernel_rfl) (by kernel_rfl) (fun _ _ _ h => h) (Or.inl ⟨by rfl, ?_⟩) hHeld ?_
  rotate_left
  · intro w hSw
    (try dsimp only at hSw)
    (try simp only [List.getElem_toArray, List.getElem_cons_zero, List.getElem_cons_succ])
    go_simp
    all_goals with_reducible rfl
  try simp only [List.getElem_toArray, List.getElem_cons_zero, List.getElem_cons_succ, Act.put, List.setIfInBounds_toArray, List.set_cons_zero, List.set_cons_succ]
  refine wpAnyH_take (i := 18) (v := ?_) rfl (by kernel_rfl) (by kernel_rfl) (by kernel_rfl) (fun _ _ _ h => h) (Or.inl ⟨by rfl, ?_⟩) hHeld ?_
  rotate_left
  · intro w hSw
    (try dsimp only at hSw)
    (try simp only [List.getElem_toArray, List.getElem_cons_zero, List.getElem_cons_succ])
    go_simp
    all_goals with_reducible rfl
  try simp only [List.getElem_toArray, List.getElem_cons_zero, List.getElem_cons_succ, Act.put, List.setIfInBounds_toArray, List.set_cons_zero, List.set_cons_succ]
  refine wpAnyH_take (i := 20) (v := ?_) rfl (by kernel_rfl) (by kernel_rfl) (by kernel_rfl) (fun _ _ _ h => h) (Or.inl ⟨by rfl, ?_⟩) hHeld ?_
  rotate_left
  · intro w hSw
    (try dsimp only at hSw)
    (try simp only [List.getElem_toArray, List.getElem_cons_zero, List.getElem_cons_succ])
    go_simp
    all_goals with_reducible rfl
  try simp only [List.getElem_toArray, List.getElem_cons_zero, List.getElem_cons_succ, Act.put, List.setIfInBounds_toArray, List.set_cons_zero, List.set_cons_succ]
  refine wpAnyH_ready (rs := [19]) (by kernel_rfl) (by simp) ?_
  refine AllReadyH.cons rfl (fun K hK => ?_) AllReadyH.nil
  try simp only [List.getElem_toArray, List.getElem_cons_zero, List.getElem_cons_succ]
  go_simp
  refine (HH1.out _).mono ?_
  rintro e wn ⟨rfl, hbn⟩
  have AB := AB.then (hbn.mono AB.size)
  replace HT := Lib.hid (HT.out.keep hbn)
  replace HEb := Lib.hid (HEb.out.keep hbn)
  replace HA := Lib.hid (HA.out.keep hbn)
  replace HQ := Lib.hid (HQ.out.keep hbn)
  replace HV := Lib.hid (HV.out.keep hbn)
  clear hbn
  go_wp2_with fail
  refine hK.out _ _ (⟨HT.out.cell 0 rfl, HT.out.cell 1 rfl, HT.out.cell 2 rfl, HT.out.cell 3 rfl, HT.out.cell 4 rfl, HT.out.cell 5 rfl, HT.out.cell 6 rfl, HT.out.cell 7 rfl, HT.out.cell 8 rfl, HEb.out.cell 0 rfl, HEb.out.cell 1 rfl, HEb.out.cell 2 rfl, HEb.out.cell 3 rfl⟩) (fun hHeld => ?_)
  clear hK K
  try simp only [List.getElem_toArray, List.getElem_cons_zero, List.getElem_cons_succ, Act.put, List.setIfInBounds_toArray, List.set_cons_zero, List.set_cons_succ]
  refine wpAnyH_ready (rs := [21]) (by kernel_rfl) (by simp) ?_
  refine AllReadyH.cons rfl (fun K hK => ?_) AllReadyH.nil
  try simp only [List.getElem_toArray, List.getElem_cons_zero, List.getElem_cons_succ]
  go_simp
  refine (HO1.out _ HA.out HQ.out HV.out).mono ?_
  rintro e wn ⟨⟨V, rfl⟩, hA, hQ, hbn⟩
  have AB := AB.trans hbn
  replace HT := Lib.hid (HT.out.but hbn hTk)
  replace HEb := Lib.hid (HEb.out.but hbn hEk)
  replace HV := Lib.hid (erd_but HV.out hbn HVE.out)
  replace HA := Lib.hid hA
  replace HQ := Lib.hid hQ
  clear hbn hA hQ
  go_wp2_with fail
  refine hK.out _ _ (⟨HT.out.cell 0 rfl, HT.out.cell 1 rfl, HT.out.cell 2 rfl, HT.out.cell 3 rfl, HT.out.cell 4 rfl, HT.out.cell 5 rfl, HT.out.cell 6 rfl, HT.out.cell 7 rfl, HT.out.cell 8 rfl, HEb.out.cell 0 rfl, HEb.out.cell 1 rfl, HEb.out.cell 2 rfl, HEb.out.cell 3 rfl⟩) (fun hHeld => ?_)
  clear hK K
  try simp only [List.getElem_toArray, List.getElem_cons_zero, List.getElem_cons_succ, Act.put, List.setIfInBounds_toArray, List.set_cons_zero, List.set_cons_succ]
  refine wpAnyH_done (by kernel_rfl) ?_ _
  go_wp2_with fail
  have hdr : Below wn.heap.size wn wn.drew := (Below.refl _ wn).drew
  replace HT := Lib.hid (HT.out.keep hdr)
  replace HEb := Lib.hid (HEb.out.keep hdr)
  replace HA := Lib.hid (HA.out.keep hdr)
  replace HQ := Lib.hid (HQ.out.keep hdr)
  replace HV := Lib.hid (HV.out.keep hdr)
  have AB := AB.then (hdr.mono AB.size)
  clear hdr
  refine wp_region_held_drew (S := fun wx => wx.cell? ⟨w.heap.size, 0, none⟩ = some (ve) ∧ wx.cell? ⟨w.heap.size, 1, none⟩ = some (.int .i64 x) ∧ wx.cell? ⟨w.heap.size, 2, none⟩ = some (.int .i64 y) ∧ wx.cell? ⟨w.heap.size, 3, none⟩ = some (.int .i64 p) ∧ wx.cell? ⟨w.heap.size, 4, none⟩ = some (.int .i64 u) ∧ wx.cell? ⟨w.heap.size, 5, none⟩ = some (.int .i64 v) ∧ wx.cell? ⟨w.heap.size, 6, none⟩ = some (.int .i64 s) ∧ wx.cell? ⟨w.heap.size, 7, none⟩ = some (.slice (some ⟨gA, 0, none⟩) M M) ∧ wx.cell? ⟨w.heap.size, 8, none⟩ = some (.slice (some ⟨gQ, 0, none⟩) M M) ∧ wx.cell? ⟨w.heap.size + 1, 0, none⟩ = some (.int .i64 E.a.x) ∧ wx.cell? ⟨w.heap.size + 1, 1, none⟩ = some (.int .i64 E.a.y) ∧ wx.cell? ⟨w.heap.size + 1, 2, none⟩ = some (.int .i64 E.b.x) ∧ wx.cell? ⟨w.heap.size + 1, 3, none⟩ = some (.int .i64 E.b.y)) (by kernel_rfl) (⟨HT.out.cell 0 rfl, HT.out.cell 1 rfl, HT.out.cell 2 rfl, HT.out.cell 3 rfl, HT.out.cell 4 rfl, HT.out.cell 5 rfl, HT.out.cell 6 rfl, HT.out.cell 7 rfl, HT.out.cell 8 rfl, HEb.out.cell 0 rfl, HEb.out.cell 1 rfl, HEb.out.cell 2 rfl, HEb.out.cell 3 rfl⟩) (fun hHeld => ?_)
  generalize wn.drew = w2d at *
  refine wpAnyH_take (i := 0) (v := ?_) rfl (by kernel_rfl) (by kernel_rfl) (by kernel_rfl) (fun _ _ _ h => h) (Or.inl ⟨by rfl, ?_⟩) hHeld ?_
  rotate_left
  · intro w hSw
    (try dsimp only at hSw)
    (try simp only [List.getElem_toArray, List.getElem_cons_zero])
    go_simp
    all_goals with_reducible rfl
  try simp only [List.getElem_toArray, List.getElem_cons_zero, Act.put, List.setIfInBounds_toArray, List.set_cons_zero, List.set_cons_succ]
  refine wpAnyH_take (i := 1) (v := ?_) rfl (by kernel_rfl) (by kernel_rfl) (by kernel_rfl) (fun _ _ _ h => h) (Or.inl ⟨by rfl, ?_⟩) hHeld ?_
  rotate_left
  · intro w hSw
    (try dsimp only at hSw)
    (try simp only [List.getElem_toArray, List.getElem_cons_zero, List.getElem_cons_succ])
    go_simp
    all_goals with_reducible rfl
  try simp only [List.getElem_toArray, List.getElem_cons_zero, List.getElem_cons_succ, Act.put, List.setIfInBounds_toArray, List.set_cons_zero, List.set_cons_succ]
  refine wpAnyH_take (i := 2) (v := ?_) rfl (by kernel_rfl) (by kernel_rfl) (by kernel_rfl) (fun _ _ _ h => h) (Or.inl ⟨by rfl, ?_⟩) hHeld ?_
  rotate_left
  · intro w hSw
    (try dsimp only at hSw)
    (try simp only [List.getElem_toArray, List.getElem_cons_zero, List.getElem_cons_succ])
    go_simp
    all_goals with_reducible rfl
  try simp only [List.getElem_toArray, List.getElem_cons_zero, List.getElem_cons_succ, Act.put, List.setIfInBounds_toArray, List.set_cons_zero, List.set_cons_succ]
  refine wpAnyH_take (i := 3) (v := ?_) rfl (by kernel_rfl) (by kernel_rfl) (by kernel_rfl) (fun _ _ _ h => h) (Or.inl ⟨by rfl, ?_⟩) hHeld ?_
  rotate_left
  · intro w hSw
    (try dsimp only at hSw)
    (try simp only [List.getElem_toArray, List.getElem_cons_zero, List.getElem_cons_succ])
    go_simp
    all_goals with_reducible rfl
  try simp only [List.getElem_toArray, List.getElem_cons_zero, List.getElem_cons_succ, Act.put, List.setIfInBounds_toArray, List.set_cons_zero, List.set_cons_succ]
  refine wpAnyH_take (i := 5) (v := ?_) rfl (by kernel_rfl) (by kernel_rfl) (by kernel_rfl) (fun _ _ _ h => h) (Or.inl ⟨by rfl, ?_⟩) hHeld ?_
  rotate_left
  · intro w hSw
    (try dsimp only at hSw)
    (try simp only [List.getElem_toArray, List.getElem_cons_zero, List.getElem_cons_succ])
    go_simp
    all_goals with_reducible rfl
  try simp only [List.getElem_toArray, List.getElem_cons_zero, List.getElem_cons_succ, Act.put, List.setIfInBounds_toArray, List.set_cons_zero, List.set_cons_succ]
  refine wpAnyH_ready (rs := [4]) (by kernel_rfl) (by simp) ?_
  refine AllReadyH.cons rfl (fun K hK => ?_) AllReadyH.nil
  try simp only [List.getElem_toArray, List.getElem_cons_zero, List.getElem_cons_succ]
  go_simp
  refine (HH2.out _).mono ?_
  rintro e wn ⟨rfl, hbn⟩
  have AB := AB.then (hbn.mono AB.size)
  replace HT := Lib.hid (HT.out.keep hbn)
  replace HEb := Lib.hid (HEb.out.keep hbn)
  replace HA := Lib.hid (HA.out.keep hbn)
  replace HQ := Lib.hid (HQ.out.keep hbn)
  replace HV := Lib.hid (HV.out.keep hbn)
  clear hbn
  go_wp2_with fail
  refine hK.out _ _ (⟨HT.out.cell 0 rfl, HT.out.cell 1 rfl, HT.out.cell 2 rfl, HT.out.cell 3 rfl, HT.out.cell 4 rfl, HT.out.cell 5 rfl, HT.out.cell 6 rfl, HT.out.cell 7 rfl, HT.out.cell 8 rfl, HEb.out.cell 0 rfl, HEb.out.cell 1 rfl, HEb.out.cell 2 rfl, HEb.out.cell 3 rfl⟩) (fun hHeld => ?_)
  clear hK K
  try simp only [List.getElem_toArray, List.getElem_cons_zero, List.getElem_cons_succ, Act.put, List.setIfInBounds_toArray, List.set_cons_zero, List.set_cons_succ]
  refine wpAnyH_ready (rs := [6]) (by kernel_rfl) (by simp) ?_
  refine AllReadyH.cons rfl (fun K hK => ?_) AllReadyH.nil
  try simp only [List.getElem_toArray, List.getElem_cons_zero, List.getElem_cons_succ]
  go_simp
  refine (HO2.out _ HA.out HQ.out HV.out).mono ?_
  rintro e wn ⟨⟨V, rfl⟩, hA, hQ, hbn⟩
  have AB := AB.trans hbn
  replace HT := Lib.hid (HT.out.but hbn hTk)
  replace HEb := Lib.hid (HEb.out.but hbn hEk)
  replace HV := Lib.hid (erd_but HV.out hbn HVE.out)
  replace HA := Lib.hid hA
  replace HQ := Lib.hid hQ
  clear hbn hA hQ
  go_wp2_with fail
  refine hK.out _ _ (⟨HT.out.cell 0 rfl, HT.out.cell 1 rfl, HT.out.cell 2 rfl, HT.out.cell 3 rfl, HT.out.cell 4 rfl, HT.out.cell 5 rfl, HT.out.cell 6 rfl, HT.out.cell 7 rfl, HT.out.cell 8 rfl, HEb.out.cell 0 rfl, HEb.out.cell 1 rfl, HEb.out.cell 2 rfl, HEb.out.cell 3 rfl⟩) (fun hHeld => ?_)
  clear hK K
  try simp only [List.getElem_toArray, List.getElem_cons_zero, List.getElem_cons_succ, Act.put, List.setIfInBounds_toArray, List.set_cons_zero, List.set_cons_succ]
  refine wpAnyH_done (by kernel_rfl) ?_ _
  go_wp2_with fail
  refine bodyPost_end (v := .tuple #[]) (by simp [results, Try.results30, go_sem]) rfl ?_
  exact ⟨⟨_, rfl⟩, HA.out, HQ.out, AB⟩


end Go.Proofs.Yteiildeaccngjaa
