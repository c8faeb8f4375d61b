/-
  What the law's full of layer 5 does to any world (no claim is made here).
-/
import Derived.Test.YthipookenpmfpaaPth7
import Derived.Test.YthipookenpmfpaaAppNil
namespace Go.Proofs.Ythipookenpmfpaa
open Go.RowKit

theorem exp_step {c : List Vtx} {k : Nat} {v : Vtx} (h : c[k]? = some v) (w : Vtx) : exp (c.take (k + 1)) w = exp (c.take k) v ++ both v w := by
  rw [take_push c k v h, exp_append]
  rfl
theorem both_len (v w : Vtx) : (both v w).length ≤ 2 := by unfold both; split <;> simp
theorem exp_len : ∀ (c : List Vtx) (w : Vtx), (exp c w).length ≤ 2 * c.length
  | [], _ => Nat.le_refl _
  | v :: c, w => by
    rw [exp_cons, List.length_append, List.length_cons]
    have h1 := both_len v (c.headD w)
    have h2 := exp_len c w
    omega
theorem vtx_get {c : List Vtx} {k : Nat} (h : k < c.length) : c[k]? = some (vtxAt c k) := by
  rw [List.getElem?_eq_getElem h]; simp [vtxAt, List.getD, h]
theorem both_on (v w : Vtx) (h : v.on = true) : both v w = [⟨2 * v.x, 2 * v.y, true⟩] := by simp [both, h]
theorem both_off_on (v w : Vtx) (h : v.on = false) (h' : w.on = true) : both v w = [⟨2 * v.x, 2 * v.y, false⟩] := by simp [both, h, h']
theorem both_off (v w : Vtx) (h : v.on = false) (h' : w.on = false) : both v w = [⟨2 * v.x, 2 * v.y, false⟩, ⟨v.x + w.x, v.y + w.y, true⟩] := by simp [both, h, h']
theorem VRow.push1 {w1 : World} {base g n cp : Nat} {l : List Vtx} {x y : Int} {b : Bool} (hn : l.length = n) (h : w1.ownsRow base 36 3 (.slice (some ⟨g, 0, none⟩) (n + 1) cp) (n + 1) (vcells l ++ [.int .i64 x, .int .i64 y, .bool b])) : VRow w1 base (.slice (some ⟨g, 0, none⟩) (n + 1) cp) (l ++ [⟨x, y, b⟩]) := by
  unfold VRow
  rw [List.length_append, hn, vcells_push]
  exact h

/-- All points that are meant, up to a place. -/
def upto (c : List Vtx) (k : Nat) : List Vtx := exp (c.take k) (vtxAt c (k % c.length))
theorem upto_succ {c : List Vtx} {k : Nat} {v : Vtx} (h : c[k]? = some v) : upto c (k + 1) = upto c k ++ both v (vtxAt c ((k + 1) % c.length)) := by
  have hk := (List.getElem?_eq_some_iff.1 h).1
  unfold upto
  rw [exp_step h, Nat.mod_eq_of_lt hk, getD_of h]
theorem upto_all (c : List Vtx) : upto c c.length = fullAll c := by
  unfold upto fullAll
  rw [List.take_length, Nat.mod_self]
theorem upto_len (c : List Vtx) (k : Nat) : (upto c k).length ≤ 2 * k := by
  have h := exp_len (c.take k) (vtxAt c (k % c.length))
  rw [List.length_take] at h
  unfold upto
  omega

theorem add0 (g k j : Nat) : (⟨g, k, none⟩ : Addr).add j = ⟨g, k + j, none⟩ := by unfold Addr.add; by_cases h : j = 0 <;> simp [h]
theorem rd_drop_news {w : World} {g n cap : Nat} {l : List Vtx} (h : VRd w (.slice (some ⟨g, 0, none⟩) n cap) l) (k : Nat) : ∀ j u, (vcells (l.drop k))[j]? = some u → w.cell? ((⟨g, k * 3, none⟩ : Addr).add j) = some u := by
  have hd := vrd_drop h k ⟨g, k * 3, none⟩ (.inl (by rw [add0, Nat.zero_add])) (l.length - k) (l.length - k) rfl (Nat.le_refl _)
  refine vrd_news (fun i hi => ?_)
  obtain ⟨A, c, e, _, h3⟩ := hd
  simp only [Value.slice.injEq] at e
  obtain ⟨rfl, -, -⟩ := e
  obtain ⟨a, ha, _, q⟩ := h3 i hi
  cases ha
  exact q
theorem rd_take_news {w : World} {g n cap : Nat} {l : List Vtx} (h : VRd w (.slice (some ⟨g, 0, none⟩) n cap) l) (k : Nat) : ∀ j u, (vcells (l.take k))[j]? = some u → w.cell? ((⟨g, 0, none⟩ : Addr).add j) = some u := by
  refine vrd_news (fun i hi => ?_)
  obtain ⟨A, c, e, _, h3⟩ := h
  simp only [Value.slice.injEq] at e
  obtain ⟨rfl, -, -⟩ := e
  rw [List.length_take] at hi
  obtain ⟨a, ha, _, q⟩ := h3 i (by omega)
  cases ha
  rw [List.getElem_take]
  exact q
theorem news_grown {w w' : World} {g k : Nat} {xs : List Value} (hg : w.grownBy w' none) (hlt : g < w.heap.size) (h : ∀ j u, xs[j]? = some u → w.cell? ((⟨g, k, none⟩ : Addr).add j) = some u) : ∀ j u, xs[j]? = some u → w'.cell? ((⟨g, k, none⟩ : Addr).add j) = some u := fun j u hu => by
  rw [hg.cell_far _ (by rw [block_add]; exact hlt) (by simp)]
  exact h j u hu

/-- What the law knows of the first point on the line, so far. -/
def Fst (c : List Vtx) (k : Nat) (bb : Bool) (f' : Nat) : Prop :=
  (bb = false ∧ f' = 0 ∧ ∀ u ∈ c.take k, u.on = false) ∨ (bb = true ∧ ∃ f, firstOn c = some f ∧ f' = (exp (c.take f) (vtxAt c f)).length)
theorem Fst.skip {c : List Vtx} {k f' : Nat} {bb : Bool} {v : Vtx} (h : Fst c k bb f') (hv : c[k]? = some v) (hn : ¬ (v.on = true ∧ bb = false)) : Fst c (k + 1) bb f' := by
  rcases h with ⟨rfl, rfl, h⟩ | h
  · refine .inl ⟨rfl, rfl, fun u hu => ?_⟩
    rw [take_push c k v hv] at hu
    rcases List.mem_append.1 hu with hu | hu
    · exact h u hu
    · rw [List.mem_singleton] at hu
      subst hu
      cases hb : u.on with
      | false => rfl
      | true => exact absurd ⟨hb, rfl⟩ hn
  · exact .inr h
theorem Fst.found {c : List Vtx} {k f' : Nat} {v : Vtx} (h : Fst c k false f') (hv : c[k]? = some v) (hn : v.on = true) (m : Nat) (hm : (upto c k).length = m) : Fst c (k + 1) true m := by
  rcases h with ⟨_, _, h⟩ | ⟨h, _⟩
  · refine .inr ⟨rfl, k, firstOn_is hv hn h, ?_⟩
    have hk := (List.getElem?_eq_some_iff.1 hv).1
    rw [← hm]
    unfold upto
    rw [Nat.mod_eq_of_lt hk]
  · cases h

theorem Fst.first_true {c : List Vtx} {k f' : Nat} {bb : Bool} (h : Fst c k bb f') (hb : bb = true) : f' = fullFirst c := by
  rcases h with ⟨rfl, _, _⟩ | ⟨_, f, hf, h⟩
  · cases hb
  · unfold fullFirst; rw [hf]; exact h
theorem Fst.first_false {c : List Vtx} {k f' : Nat} {bb : Bool} (h : Fst c k bb f') (hk : c.length = k) (hb : bb = false) : fullFirst c = (fullAll c).length - 1 := by
  rcases h with ⟨_, _, h⟩ | ⟨rfl, _⟩
  · rw [List.take_of_length_le (by omega)] at h
    unfold fullFirst; rw [firstOn_off h]
  · cases hb
theorem both_pos (v w : Vtx) : 0 < (both v w).length := by unfold both; simp
theorem exp_pos : ∀ {c : List Vtx} (w : Vtx), c ≠ [] → 0 < (exp c w).length
  | [], _, h => absurd rfl h
  | v :: c, w, _ => by rw [exp_cons, List.length_append]; have := both_pos v (c.headD w); omega
theorem fullFirst_lt (c : List Vtx) (hc : c ≠ []) : fullFirst c < (fullAll c).length := by
  have h0 : 0 < (fullAll c).length := exp_pos _ hc
  cases hf : firstOn c with
  | none => unfold fullFirst; rw [hf]; simp only []; omega
  | some f =>
    obtain ⟨v, h1, _, _⟩ := firstOn_some hf
    have hfl := (List.getElem?_eq_some_iff.1 h1).1
    have hv := getD_of h1
    have hsplit : c = c.take f ++ v :: c.drop (f + 1) := by
      obtain ⟨hf', rfl⟩ := List.getElem?_eq_some_iff.1 h1
      rw [← List.drop_eq_getElem_cons hf', List.take_append_drop]
    have e : exp c (vtxAt c 0) = exp (c.take f ++ v :: c.drop (f + 1)) (vtxAt c 0) := by rw [← hsplit]
    unfold fullFirst fullAll
    rw [hf, e, exp_append]
    simp only [List.headD_cons, List.length_append, hv]
    have := exp_pos (c := v :: c.drop (f + 1)) (vtxAt c 0) (by simp)
    omega

set_option maxRecDepth 100000 in
set_option maxHeartbeats 3200000 in
theorem full_any (v : Value) (c : List Vtx) (w : World) (hv : VRd w v c) (hc : c ≠ []) (hl : c.length ≤ 1000) (hs : ∀ u ∈ c, smallV u) :
    Calls Try.prog 21 #[v] w fun e w' => ∃ u, e = .returned u ∧ VRow w' w.heap.size u (fullS c) ∧ Below w.heap.size w w' := by
  have HV := Lib.hid hv
  obtain ⟨A, cap, rfl, hcap, -⟩ := hv
  obtain ⟨n, hn⟩ : ∃ n, c.length = n := ⟨_, rfl⟩
  have hn0 : 0 < n := by rw [← hn]; exact List.length_pos_iff.2 hc
  rw [hn] at HV hcap hl
  rw [hn]
  have HN := Lib.hid hn
  have HS := Lib.hid hs
  have HC := Lib.hid hc
  have HU : Hid (∀ k v, c[k]? = some v → upto c (k + 1) = upto c k ++ both v (vtxAt c ((k + 1) % n))) := Lib.hid (fun k v h => by rw [← hn]; exact upto_succ h)
  have hnz : ¬ (n : Int) = 0 := by omega
  have hnz' : ((n : Int) == 0) = false := by simp; omega
  clear hn hs hc
  go_enter Try.func21, Try.ntmps21
  go_wp2_with fail
  go_loopw [15, 3] (fun i u wr => ∃ k : Nat, k ≤ n ∧ i = .int .i64 k ∧ Hid (VRow wr w.heap.size u (upto c k)) ∧ Hid (Below w.heap.size w wr)) (fun i _ _ => n - (intOf i).toNat)
  case atStart => exact ⟨0, Nat.zero_le _, rfl, Lib.hid (by unfold upto; exact World.ownsRow_nil _ _ _ _), Lib.hid (Below.refl _ _)⟩
  case round =>
    obtain ⟨k, hk, rfl, HW, HB⟩ := hrel
    by_cases hkn : k < n
    · have hkb : decide ((k : Int) < n) = true := by simp; omega
      obtain ⟨d, hd⟩ : ∃ d, c[k]? = some d := ⟨_, List.getElem?_eq_getElem (by rw [HN.out]; exact hkn)⟩
      obtain ⟨q, hq⟩ : ∃ q, (k + 1) % n = q := ⟨_, rfl⟩
      have hqn : q < n := by rw [← hq]; exact Nat.mod_lt _ (by omega)
      obtain ⟨b, hb⟩ : ∃ b, c[q]? = some b := ⟨_, List.getElem?_eq_getElem (by rw [HN.out]; exact hqn)⟩
      obtain ⟨a, rfl, ha, x0, x1, x2⟩ := (HV.out.keep HB.out).at k d hd
      obtain ⟨a', e', -, y⟩ := (HV.out.keep HB.out).at q b hb
      cases e'
      have hqI : (((k : Int) + 1).tmod (n : Int)) = q := by rw [← hq]; exact (Int.ofNat_tmod (k + 1) n).symm
      have hqE : ((k : Int) + 1) % (n : Int) = q := by rw [← hq]; exact (Int.natCast_emod (k + 1) n).symm
      have hqb : (q : Int) < n := by omega
      have hup := HU.out k d hd
      rw [hq, getD_of hb] at hup
      obtain ⟨⟨hd1, hd2⟩, hd3, hd4⟩ := HS.out d (List.mem_of_getElem? hd)
      obtain ⟨⟨hb1, hb2⟩, hb3, hb4⟩ := HS.out b (List.mem_of_getElem? hb)
      obtain ⟨dx, dy, don⟩ := d
      obtain ⟨bx, by', bon⟩ := b
      simp only [] at x0 x1 x2 hd1 hd2 hd3 hd4 hb1 hb2 hb3 hb4
      obtain ⟨y0, y1, y2⟩ := y.keep ((Below.refl _ wr).alloc (Nat.le_refl _) (.cells #[.int .i64 dx, .int .i64 dy, .bool don] 36))
      simp only [] at y0 y1 y2
      obtain ⟨m, hm⟩ : ∃ m, (upto c k).length = m := ⟨_, rfl⟩
      have hm2 : m ≤ 2000 := by have := upto_len c k; omega
      have HM := Lib.hid hm
      obtain ⟨i0, hi0, hz0, hz1, hz2⟩ := infos vinfo
      have hbz := HB.out.size
      have HUP := Lib.hid hup
      have HWm := Lib.hid (VRow.own HW.out hm)
      have T5 := ((Blk.new wr 36 [.int .i64 dx, .int .i64 dy, .bool don] rfl).alloc (.cells #[.int .i64 bx, .int .i64 by', .bool bon] 36)).alloc (.cells #[.int .i64 (2 * dx), .int .i64 (2 * dy), .bool don] 36)
      have T6 := (Blk.new (wr.alloc (.cells #[.int .i64 dx, .int .i64 dy, .bool don] 36)) 36 [.int .i64 bx, .int .i64 by', .bool bon] (g := wr.heap.size + 1) (by simp)).alloc (.cells #[.int .i64 (2 * dx), .int .i64 (2 * dy), .bool don] 36)
      have T7 := Blk.new ((wr.alloc (.cells #[.int .i64 dx, .int .i64 dy, .bool don] 36)).alloc (.cells #[.int .i64 bx, .int .i64 by', .bool bon] 36)) 36 [.int .i64 (2 * dx), .int .i64 (2 * dy), .bool don] (g := wr.heap.size + 2) (by simp)
      have T8 := ((HWm.out.alloc (.cells #[.int .i64 dx, .int .i64 dy, .bool don] 36)).alloc (.cells #[.int .i64 bx, .int .i64 by', .bool bon] 36)).alloc (.cells #[.int .i64 (2 * dx), .int .i64 (2 * dy), .bool don] 36)
      have T9 := (((HB.out.alloc HB.out.size (.cells #[.int .i64 dx, .int .i64 dy, .bool don] 36)).alloc (Nat.le_trans HB.out.size (by simp)) (.cells #[.int .i64 bx, .int .i64 by', .bool bon] 36))).alloc (Nat.le_trans HB.out.size (by simp; omega)) (.cells #[.int .i64 (2 * dx), .int .i64 (2 * dy), .bool don] 36)
      have HT5 := Lib.hid T5
      have HT6 := Lib.hid T6
      have HT7 := Lib.hid T7
      have HT8 := Lib.hid T8
      have HT9 := Lib.hid T9
      clear hd hb hq hup y hm T5 T6 T7 T8 T9 HW HB HU
      cases don with
      | true =>
        rw [both_on _ _ rfl] at HUP
        go_wp2_with (at_builtin; refine wpList_append_lies _ rfl _ _ _ (by rfl) w.heap.size 36 i0 _ 3 24 Try.underlying28 hi0 hz0 hz1 hz2 (by rfl) (by omega) _ m _ (by rfl) HT8.out ⟨wr.heap.size + 2, 0, none⟩ 1 1 [.int .i64 (2 * dx), .int .i64 (2 * dy), .bool true] (by rfl) (by rfl) (World.news_of_block HT7.out) (by simp [Value.oneCell']) (by omega) (by simp [maxLen]; omega) (by omega) (by simp; omega) (wr.heap.size + 3) (by simp) ?_; intro g cp w1 hown hgrow hat hlt; have G5 := HT5.out.grown hgrow (fun e => by have := (HWm.out.lt _ e.symm).2; omega); have q2 := G5.cell 2 rfl; have qz := G5.lt)
        have VN := VRow.push1 HM.out hown
        rw [← HUP.out] at VN
        have BN := HT9.out.grown hgrow (by simp; omega) (fun q hq => (HWm.out.lt q hq).1)
        exact ⟨⟨k + 1, by omega, by go_num, Lib.hid VN, Lib.hid BN⟩, by simp [intOf]; omega⟩
      | false =>
        cases bon with
        | true =>
          rw [both_off_on _ _ rfl rfl] at HUP
          go_wp2_with (at_builtin; refine wpList_append_lies _ rfl _ _ _ (by rfl) w.heap.size 36 i0 _ 3 24 Try.underlying28 hi0 hz0 hz1 hz2 (by rfl) (by omega) _ m _ (by rfl) HT8.out ⟨wr.heap.size + 2, 0, none⟩ 1 1 [.int .i64 (2 * dx), .int .i64 (2 * dy), .bool false] (by rfl) (by rfl) (World.news_of_block HT7.out) (by simp [Value.oneCell']) (by omega) (by simp [maxLen]; omega) (by omega) (by simp; omega) (wr.heap.size + 3) (by simp) ?_; intro g cp w1 hown hgrow hat hlt; have G5 := HT5.out.grown hgrow (fun e => by have := (HWm.out.lt _ e.symm).2; omega); have G6 := HT6.out.grown hgrow (fun e => by have := (HWm.out.lt _ e.symm).2; omega); have q0 := G5.cell 0 rfl; have q1 := G5.cell 1 rfl; have q2 := G5.cell 2 rfl; have qz := G5.lt; have r0 := G6.cell 0 rfl; have r1 := G6.cell 1 rfl; have r2 := G6.cell 2 rfl; have rz := G6.lt)
          have VN := VRow.push1 HM.out hown
          rw [← HUP.out] at VN
          have BN := HT9.out.grown hgrow (by simp; omega) (fun q hq => (HWm.out.lt q hq).1)
          exact ⟨⟨k + 1, by omega, by go_num, Lib.hid VN, Lib.hid BN⟩, by simp [intOf]; omega⟩
        | false =>
          rw [both_off _ _ rfl rfl] at HUP
          go_wp2_with (first
            | (at_builtin; refine wpList_append_lies _ rfl _ _ _ (by rfl) w.heap.size 36 i0 _ 3 24 Try.underlying28 hi0 hz0 hz1 hz2 (by rfl) (by omega) _ m _ (by rfl) HT8.out ⟨wr.heap.size + 2, 0, none⟩ 1 1 [.int .i64 (2 * dx), .int .i64 (2 * dy), .bool false] (by rfl) (by rfl) (World.news_of_block HT7.out) (by simp [Value.oneCell']) (by omega) (by simp [maxLen]; omega) (by omega) (by simp; omega) (wr.heap.size + 3) (by simp) ?_; intro g cp w1 hown hgrow hat hlt; have G5 := HT5.out.grown hgrow (fun e => by have := (HWm.out.lt _ e.symm).2; omega); have G6 := HT6.out.grown hgrow (fun e => by have := (HWm.out.lt _ e.symm).2; omega); have q0 := G5.cell 0 rfl; have q1 := G5.cell 1 rfl; have q2 := G5.cell 2 rfl; have qz := G5.lt; have r0 := G6.cell 0 rfl; have r1 := G6.cell 1 rfl; have r2 := G6.cell 2 rfl; have rz := G6.lt; have VN := Lib.hid (VRow.push1 HM.out hown); have BN := Lib.hid (HT9.out.grown hgrow (by simp; omega) (fun q hq => (HWm.out.lt q hq).1)); have HO1 := Lib.hid (hown.alloc (.cells #[.int .i64 (dx + bx), .int .i64 (dy + by'), .bool true] 36)); have hz1w := hgrow.size; have HT11 := Lib.hid (Blk.new w1 36 [.int .i64 (dx + bx), .int .i64 (dy + by'), .bool true] rfl); clear hown hgrow hat hlt G5 G6)
            | (at_builtin; refine wpList_append_lies _ rfl _ _ _ (by rfl) w.heap.size 36 i0 _ 3 24 Try.underlying28 hi0 hz0 hz1 hz2 (by rfl) (by omega) _ (m + 1) _ (by rfl) HO1.out ⟨w1.heap.size, 0, none⟩ 1 1 [.int .i64 (dx + bx), .int .i64 (dy + by'), .bool true] (by rfl) (by rfl) (World.news_of_block HT11.out) (by simp [Value.oneCell']) (by omega) (by simp [maxLen]; omega) (by omega) (by simp at hz1w ⊢; omega) (w1.heap.size + 1) (by simp) ?_; intro g' cp' w2 hown2 hgrow2 hat2 hlt2))
          have VN2 : VRow w2 w.heap.size (.slice (some ⟨g', 0, none⟩) (m + 1 + 1) cp') (upto c (k + 1)) := by
            rw [HUP.out, show ([⟨2 * dx, 2 * dy, false⟩, ⟨dx + bx, dy + by', true⟩] : List Vtx) = [⟨2 * dx, 2 * dy, false⟩] ++ [⟨dx + bx, dy + by', true⟩] from rfl, ← List.append_assoc]
            refine VRow.push1 (by rw [List.length_append, HM.out]; rfl) ?_
            rw [vcells_push]
            exact hown2
          have BN2 := (BN.out.alloc BN.out.size (.cells #[.int .i64 (dx + bx), .int .i64 (dy + by'), .bool true] 36)).grown hgrow2 (Nat.le_trans BN.out.size (by simp)) (fun q hq => (HO1.out.lt q hq).1)
          exact ⟨⟨k + 1, by omega, by go_num, Lib.hid VN2, Lib.hid BN2⟩, by simp [intOf]; omega⟩
    · obtain rfl : k = n := by omega
      have HW' : Hid (VRow wr w.heap.size u3 (fullAll c)) := Lib.hid (by have h := HW.out; rw [← HN.out, upto_all] at h; exact h)
      clear HW hkn
      obtain ⟨w0, rfl⟩ : ∃ w0, w0 = wr := ⟨_, rfl⟩
      go_wp2_with fail
      go_loopw [65, 7, 8] (fun i f b wr => ∃ (j f' : Nat) (bb : Bool), j ≤ k ∧ i = .int .i64 j ∧ f = .int .i64 f' ∧ b = .bool bb ∧ f' ≤ 2000 ∧ Hid (Fst c j bb f') ∧ Hid (Below w0.heap.size w0 wr)) (fun i _ _ _ => k - (intOf i).toNat)
      case atStart => exact ⟨0, 0, false, Nat.zero_le _, rfl, rfl, rfl, Nat.zero_le _, Lib.hid (.inl ⟨rfl, rfl, fun u hu => by cases hu⟩), Lib.hid (Below.refl _ _)⟩
      case round =>
        obtain ⟨j, f', bb, hj, rfl, rfl, rfl, hf', HF, HB2⟩ := hrel
        by_cases hjk : j < k
        · have hjb : decide ((j : Int) < k) = true := by simp; omega
          obtain ⟨d, hd⟩ : ∃ d, c[j]? = some d := ⟨_, List.getElem?_eq_getElem (by rw [HN.out]; exact hjk)⟩
          obtain ⟨a, rfl, ha, x0, x1, x2⟩ := (HV.out.keep (HB.out.trans (HB2.out.mono HB.out.size))).at j d hd
          have HD := Lib.hid hd
          obtain ⟨dx, dy, don⟩ := d
          simp only [] at x0 x1 x2
          have HB3 := Lib.hid (HB2.out.alloc HB2.out.size (.cells #[.int .i64 dx, .int .i64 dy, .bool don] 36))
          clear hd
          by_cases hin : don = true ∧ bb = false
          · obtain ⟨rfl, rfl⟩ := hin
            have HV2 := Lib.hid ((HV.out.keep (HB.out.trans (HB2.out.mono HB.out.size))).keep ((Below.refl _ wr).alloc (Nat.le_refl _) (.cells #[.int .i64 dx, .int .i64 dy, .bool true] 36)))
            go_wp2_with fail
            generalize wr.alloc (.cells #[.int .i64 dx, .int .i64 dy, .bool true] 36) = W2 at *
            clear x0 x1 x2
            go_loop [12, 11] (fun i t => ∃ (p s : Nat), p ≤ j ∧ i = .int .i64 p ∧ t = .int .i64 s ∧ s ≤ 2000 ∧ Hid ((upto c p).length = s)) (fun i _ => j - (intOf i).toNat)
            case atStart => exact ⟨0, 0, Nat.zero_le _, rfl, rfl, Nat.zero_le _, Lib.hid (by unfold upto; rfl)⟩
            case round =>
              obtain ⟨p, s, hp, rfl, rfl, hs2, HS2⟩ := hrel
              by_cases hpj : p < j
              · have hpb : decide ((p : Int) < j) = true := by simp; omega
                obtain ⟨e, he⟩ : ∃ e, c[p]? = some e := ⟨_, List.getElem?_eq_getElem (by rw [HN.out]; omega)⟩
                obtain ⟨q, hq⟩ : ∃ q, (p + 1) % k = q := ⟨_, rfl⟩
                have hqn : q < k := by rw [← hq]; exact Nat.mod_lt _ (by omega)
                obtain ⟨b, hb⟩ : ∃ b, c[q]? = some b := ⟨_, List.getElem?_eq_getElem (by rw [HN.out]; exact hqn)⟩
                obtain ⟨a1, e1, -, x0, x1, x2⟩ := HV2.out.at p e he
                cases e1
                obtain ⟨a2, e2, -, y0, y1, y2⟩ := HV2.out.at q b hb
                cases e2
                have hqI : (((p : Int) + 1).tmod (k : Int)) = q := by rw [← hq]; exact (Int.ofNat_tmod (p + 1) k).symm
                have hqE : ((p : Int) + 1) % (k : Int) = q := by rw [← hq]; exact (Int.natCast_emod (p + 1) k).symm
                have hqb : (q : Int) < k := by omega
                have hpb2 : (p : Int) < k := by omega
                have hup := HU.out p e he
                rw [hq, getD_of hb] at hup
                have hlen := congrArg List.length hup
                rw [List.length_append, HS2.out] at hlen
                have hle : (upto c (p + 1)).length ≤ 2000 := by have := upto_len c (p + 1); omega
                obtain ⟨ex, ey, eon⟩ := e
                obtain ⟨bx, by', bon⟩ := b
                simp only [] at x0 x1 x2 y0 y1 y2
                have HLN := Lib.hid hlen
                have HLE := Lib.hid hle
                clear he hb hq hup hlen hle
                cases eon with
                | true =>
                  rw [both_on _ _ rfl] at HLN
                  have hs3 : s + 1 ≤ 2000 := by have h1 := HLN.out; have h2 := HLE.out; simp at h1; omega
                  go_wp2_with fail
                  exact ⟨⟨p + 1, s + 1, by omega, by go_num, by go_num, hs3, Lib.hid (by rw [HLN.out]; rfl)⟩, by simp [intOf]; omega⟩
                | false =>
                  cases bon with
                  | true =>
                    rw [both_off_on _ _ rfl rfl] at HLN
                    have hs3 : s + 1 ≤ 2000 := by have h1 := HLN.out; have h2 := HLE.out; simp at h1; omega
                    go_wp2_with fail
                    exact ⟨⟨p + 1, s + 1, by omega, by go_num, by go_num, hs3, Lib.hid (by rw [HLN.out]; rfl)⟩, by simp [intOf]; omega⟩
                  | false =>
                    rw [both_off _ _ rfl rfl] at HLN
                    have hs3 : s + 2 ≤ 2000 := by have h1 := HLN.out; have h2 := HLE.out; simp at h1; omega
                    go_wp2_with fail
                    exact ⟨⟨p + 1, s + 2, by omega, by go_num, by go_num, hs3, Lib.hid (by rw [HLN.out]; rfl)⟩, by simp [intOf]; omega⟩
              · obtain rfl : p = j := by omega
                have HF' : Hid (Fst c (p + 1) true s) := Lib.hid (HF.out.found HD.out rfl s HS2.out)
                go_wp2_with fail
                exact ⟨⟨p + 1, s, true, by omega, by go_num, rfl, rfl, hs2, HF', HB3⟩, by simp [intOf]; omega⟩
          · have HF' : Hid (Fst c (j + 1) bb f') := Lib.hid (HF.out.skip HD.out (fun h => hin h))
            cases don with
            | true =>
              cases bb with
              | true =>
                go_wp2_with fail
                exact ⟨⟨j + 1, f', true, by omega, by go_num, rfl, rfl, hf', HF', HB3⟩, by simp [intOf]; omega⟩
              | false => exact absurd ⟨rfl, rfl⟩ hin
            | false =>
              go_wp2_with fail
              exact ⟨⟨j + 1, f', bb, by omega, by go_num, rfl, rfl, hf', HF', HB3⟩, by simp [intOf]; omega⟩
        · obtain rfl : j = k := by omega
          have HW2 := Lib.hid (VRow.below HW'.out HB2.out)
          have HBF := Lib.hid (HB.out.trans (HB2.out.mono HB.out.size))
          obtain ⟨F, hF⟩ : ∃ F, fullFirst c = F := ⟨_, rfl⟩
          obtain ⟨N, hNl⟩ : ∃ N, (fullAll c).length = N := ⟨_, rfl⟩
          have hFN : F < N := by rw [← hF, ← hNl]; exact fullFirst_lt c HC.out
          have hN2 : N ≤ 2000 := by rw [← hNl]; have := exp_len c (vtxAt c 0); have := HN.out; unfold fullAll; omega
          have HFF : Hid (bb = true → f' = F) := Lib.hid (fun h => by rw [← hF]; exact HF.out.first_true h)
          have HFN : Hid (bb = false → F = N - 1) := Lib.hid (fun h => by rw [← hF, ← hNl]; exact HF.out.first_false HN.out h)
          obtain ⟨Au, capu, rfl⟩ := own_form HW2.out
          rw [hNl] at HW2
          rw [hNl]
          have HFS : Hid (fullS c = (fullAll c).drop F ++ (fullAll c).take F) := Lib.hid (by unfold fullS; rw [hF])
          have HNL := Lib.hid hNl
          generalize fullAll c = al at *
          clear hF hNl HF HU HW' HB HB2 HV HS HC
          obtain ⟨gu, capu', eu, hgu1, hgu2⟩ := World.ownsRow.form HW2.out (by rw [HNL.out]; omega)
          rw [HNL.out] at eu
          simp only [Value.slice.injEq] at eu
          obtain ⟨rfl, -, rfl⟩ := eu
          have hNc : N ≤ capu := by
            rcases HW2.out.2 with ⟨h, _⟩ | ⟨g, cap2, cur, h, _, _, hl2, _⟩
            · cases h
            · simp only [Value.slice.injEq] at h
              obtain ⟨-, rfl, rfl⟩ := h
              exact hl2
          have hrd := VRow.read HW2.out
          have hn1 := rd_drop_news hrd F
          have hn2 := rd_take_news hrd F
          have HN1 := Lib.hid hn1
          have HN2 := Lib.hid hn2
          have k1 : (F : Int) ≤ N := by omega
          have k2 : (0 : Int) ≤ F := by omega
          have k3 : (N : Int) ≤ capu := by omega
          have k4 : (F : Int) ≤ capu := by omega
          have k5 : ¬ capu = F := by omega
          have k6 : ¬ capu = 0 := by omega
          have L1 : Hid ((vcells (al.drop F)).length = (N - F) * 3) := Lib.hid (by rw [vcells_length, List.length_drop, HNL.out])
          have L2 : Hid ((vcells (al.take F)).length = F * 3) := Lib.hid (by rw [vcells_length, List.length_take, HNL.out, Nat.min_eq_left (by omega)])
          have hw0 := HBF.out.size
          obtain ⟨i0, hi0, hz0, hz1, hz2⟩ := infos vinfo
          clear hrd hn1 hn2
          have hFin : ∀ (g cp : Nat) (w6 : World), w6.ownsRow w.heap.size 36 3 (.slice (some ⟨g, 0, none⟩) (N - F + F) cp) (N - F + F) (vcells (al.drop F) ++ vcells (al.take F)) → VRow w6 w.heap.size (.slice (some ⟨g, 0, none⟩) (N - F + F) cp) (fullS c) := fun g cp w6 h => by
            unfold VRow
            rw [HFS.out, List.length_append, List.length_drop, List.length_take, HNL.out, Nat.min_eq_left (by omega)]
            have : vcells (al.drop F ++ al.take F) = vcells (al.drop F) ++ vcells (al.take F) := by simp [vcells]
            rw [this]
            exact h
          have HFin := Lib.hid hFin
          clear hFin
          have HF1 : bb = false → (N : Int) - 1 = F := fun h => by have := HFN.out h; omega
          cases bb
          case' true => obtain rfl : F = f' := (HFF.out rfl).symm
          case' false => have hF1 : (N : Int) - 1 = F := HF1 rfl
          all_goals
            clear HF1 HFF HFN
            go_wp2_with fail
            by_cases hF0 : F = 0
            · subst hF0
              have HN1' : Hid (∀ j u, (vcells al)[j]? = some u → wr.cell? ((⟨gu, 0, none⟩ : Addr).add j) = some u) := HN1
              have L1' : Hid ((vcells al).length = N * 3) := Lib.hid (by rw [vcells_length, HNL.out])
              go_region_law (first
                | (refine step_append_nil ?_ (.tmp 112) 28 ?_ w.heap.size 36 i0 _ 3 24 Try.underlying28 hi0 hz0 hz1 hz2 ?_ ?_ ⟨gu, 0, none⟩ N capu (vcells al) ?_ ?_ ?_ (vcells_one _) ?_ ?_ ?_ ?_ ?_
                   rfl
                   rfl
                   rfl
                   omega
                   kernel_rfl
                   exact L1'.out
                   exact HN1'.out
                   omega
                   (unfold maxLen; omega)
                   omega
                   exact hw0
                   intro gy capy w5 hown5 hgrow5 hgy
                   have HO5 := Lib.hid hown5
                   have HG5 := Lib.hid hgrow5
                   clear hown5 hgrow5 hgy)
                | (refine step_append_run ?_ (.tmp 113) (.tmp 116) 28 28 ?_ (.slice (some ⟨gy, 0, none⟩) N capy) (.slice (some ⟨gu, 0, none⟩) 0 capu) ?_ ?_ (.slice (some ⟨gy, 0, none⟩) N capy) w5 (append_empty (P := Try.prog) w.heap.size 28 _ 36 i0 3 Try.underlying28 hi0 _ _ _ HO5.out _ _) ?_
                   rfl
                   rfl
                   kernel_rfl
                   kernel_rfl))
              all_goals
                have BE := Lib.hid (HBF.out.drew.grown HG5.out hw0 (fun q hq => by cases hq))
                go_wp2_with fail
                go_ret
                refine ⟨_, rfl, HFin.out _ _ _ ?_, BE.out⟩
                simp only [Nat.sub_zero, Nat.add_zero, List.drop_zero, List.take_zero]
                exact (List.append_nil (vcells al)).symm ▸ HO5.out
            · go_region_law (first
                | (refine step_append_nil ?_ (.tmp 112) 28 ?_ w.heap.size 36 i0 _ 3 24 Try.underlying28 hi0 hz0 hz1 hz2 ?_ ?_ ⟨gu, F * 3, none⟩ (N - F) (capu - F) (vcells (al.drop F)) ?_ ?_ ?_ (vcells_one _) ?_ ?_ ?_ ?_ ?_
                   rfl
                   rfl
                   rfl
                   omega
                   kernel_rfl
                   exact L1.out
                   exact HN1.out
                   omega
                   (unfold maxLen; omega)
                   omega
                   exact hw0
                   intro gy capy w5 hown5 hgrow5 hgy
                   have HO5 := Lib.hid hown5
                   have HG5 := Lib.hid hgrow5
                   clear hown5 hgrow5 hgy)
                | (refine step_append_lies _ ?_ (.tmp 113) (.tmp 116) 28 ?_ w.heap.size 36 i0 _ 3 24 Try.underlying28 hi0 hz0 hz1 hz2 ?_ ?_ (.slice (some ⟨gy, 0, none⟩) (N - F) capy) (N - F) (vcells (al.drop F)) ?_ HO5.out ⟨gu, 0, none⟩ F capu (vcells (al.take F)) ?_ ?_ ?_ (vcells_one _) ?_ ?_ ?_ ?_ _ rfl ?_
                   rfl
                   rfl
                   rfl
                   omega
                   kernel_rfl
                   kernel_rfl
                   exact L2.out
                   exact news_grown HG5.out hgu2 HN2.out
                   omega
                   (unfold maxLen; omega)
                   omega
                   exact Nat.le_trans hw0 HG5.out.size
                   intro gz capz w6 hown6 hgrow6 _ _
                   have HO6 := Lib.hid hown6
                   have HG6 := Lib.hid hgrow6
                   clear hown6 hgrow6))
              all_goals
                have BE := Lib.hid ((HBF.out.drew.grown HG5.out hw0 (fun q hq => by cases hq)).grown HG6.out (Nat.le_trans hw0 HG5.out.size) (fun q hq => (HO5.out.lt q hq).1))
                go_wp2_with fail
                go_ret
                exact ⟨_, rfl, HFin.out _ _ _ HO6.out, BE.out⟩

end Go.Proofs.Ythipookenpmfpaa
