/-
  Rows of pairs; what the law's over and steps of layer 14 do to any world: contracts (no claim is made here).
-/
import Derived.Test.YtklajpadnbeplaaNrow
import Derived.Test.YtklajpadnbeplaaSkyMath
import Derived.Deep.AppendLies
namespace Go.Proofs.Ytklajpadnbeplaa
open Go.RowKit

/-- A pair's cells; a row of pairs that is ours, one that is read. -/
def pr2 (s : Nat × Nat) : List Value := [.int .i64 (s.1 : Int), .int .i64 (s.2 : Int)]
def pr2s (l : List (Nat × Nat)) : List Value := l.flatMap pr2
theorem pr2s_push (l : List (Nat × Nat)) (s : Nat × Nat) : pr2s (l ++ [s]) = pr2s l ++ pr2 s := by simp [pr2s]
def PRow (w : World) (base : Nat) (u : Value) (l : List (Nat × Nat)) : Prop := w.ownsRow base 44 2 u l.length (pr2s l)
def PRd (w : World) (v : Value) (l : List (Nat × Nat)) : Prop :=
  ∃ A cap, v = .slice A l.length cap ∧ l.length ≤ cap ∧ ∀ i (h : i < l.length), ∃ a, A = some a ∧ a.block < w.heap.size ∧ w.cell? (a.add (i * 2)) = some (.int .i64 ((l[i]).1 : Nat)) ∧ w.cell? (a.add (i * 2 + 1)) = some (.int .i64 ((l[i]).2 : Nat))
theorem PRd.keep {w w' : World} {v : Value} {l : List (Nat × Nat)} (h : PRd w v l) (hb : Below w.heap.size w w') : PRd w' v l := by
  obtain ⟨A, cap, e, h1, h3⟩ := h
  refine ⟨A, cap, e, h1, fun i hi => ?_⟩
  obtain ⟨a, ha, hlt, x0, x1⟩ := h3 i hi
  have k : ∀ j, w'.cell? (a.add j) = w.cell? (a.add j) := fun j => hb.cell (by rw [block_add]; exact hlt)
  exact ⟨a, ha, Nat.lt_of_lt_of_le hlt hb.size, (k _).trans x0, (k _).trans x1⟩
theorem PRd.at {w : World} {A : Option Addr} {n cap : Nat} {l : List (Nat × Nat)} (h : PRd w (.slice A n cap) l) (i : Nat) (s : Nat × Nat) (hs : l[i]? = some s) : ∃ a, A = some a ∧ a.block < w.heap.size ∧ w.cell? (a.add (i * 2)) = some (.int .i64 (s.1 : Nat)) ∧ w.cell? ⟨(a.add (i * 2)).block, (a.add (i * 2)).off + 1, none⟩ = some (.int .i64 (s.2 : Nat)) := by
  obtain ⟨A', cap', e, _, h3⟩ := h
  simp only [Value.slice.injEq] at e
  obtain ⟨rfl, -, -⟩ := e
  obtain ⟨hi, rfl⟩ := List.getElem?_eq_some_iff.1 hs
  obtain ⟨a, ha, hlt, p0, p1⟩ := h3 i hi
  rw [add_spell _ _ _ (by omega)] at p1
  exact ⟨a, ha, hlt, p0, p1⟩
theorem PRd.form {w : World} {v : Value} {l : List (Nat × Nat)} (h : PRd w v l) : ∃ A cap, v = .slice A l.length cap := by obtain ⟨A, cap, e, _⟩ := h; exact ⟨A, cap, e⟩
theorem pr2s_at : ∀ (l : List (Nat × Nat)) (i j : Nat) (h : i < l.length), j < 2 → (pr2s l)[i * 2 + j]? = (pr2 (l[i]))[j]?
  | s :: l, 0, j, _, hj => by
    have e : pr2s (s :: l) = pr2 s ++ pr2s l := by simp [pr2s]
    rw [e, Nat.zero_mul, Nat.zero_add, List.getElem?_append_left (by simp [pr2]; omega)]
    rfl
  | s :: l, i + 1, j, h, hj => by
    have e : pr2s (s :: l) = pr2 s ++ pr2s l := by simp [pr2s]
    rw [e, List.getElem?_append_right (by simp [pr2]; omega)]
    have := pr2s_at l i j (by simpa using h) hj
    rw [show (i + 1) * 2 + j - (pr2 s).length = i * 2 + j by simp [pr2]; omega, this]
    rfl
theorem PRow.read {w : World} {base : Nat} {u : Value} {l : List (Nat × Nat)} (h : PRow w base u l) : PRd w u l := by
  rcases h.2 with ⟨rfl, h0⟩ | ⟨g, cap, cur, rfl, _, hg, hl, _, _, _⟩
  · have : l = [] := List.eq_nil_of_length_eq_zero h0
    subst this
    exact ⟨none, 0, rfl, Nat.le_refl _, fun i hi => absurd hi (Nat.not_lt_zero _)⟩
  · refine ⟨_, cap, rfl, hl, fun i hi => ⟨_, rfl, (World.ownsRow.lt h g rfl).2, ?_⟩⟩
    have k := fun j hj => pr2s_at l i j hi hj
    exact ⟨World.ownsRow.cells h rfl _ _ (k 0 (by omega)), World.ownsRow.cells h rfl _ _ (k 1 (by omega))⟩
theorem PRow.below {w w' : World} {base : Nat} {u : Value} {l : List (Nat × Nat)} (h : PRow w base u l) (hb : Below w.heap.size w w') : PRow w' base u l :=
  own_blocks h fun g hg => hb.block g (h.lt g hg).2
theorem PRow.own {w : World} {base : Nat} {u : Value} {l : List (Nat × Nat)} {j : Nat} (h : PRow w base u l) (hl : l.length = j) : w.ownsRow base 44 2 u j (pr2s l) := hl ▸ h
theorem PRow.nil (w : World) (base : Nat) : PRow w base (.slice none 0 0) [] := World.ownsRow_nil _ _ _ _
theorem PRow.form {w : World} {base : Nat} {u : Value} {l : List (Nat × Nat)} (h : PRow w base u l) : ∃ A cap, u = .slice A l.length cap := own_form h
theorem pr2info : (Try.prog.info? 44).map (fun i => (i.zero, i.size, i.bytes)) = some (some (.agg #[.int .i64 0, .int .i64 0]), 2, 16) := by kernel_rfl

set_option maxRecDepth 100000 in
theorem lover_any (vl : Value) (l : List Nat) (x wd : Nat) (w : World) (hv : NRd w vl l) (hx : x ≤ 1000) (hwd : wd ≤ 1000) (hh : ∀ y ∈ l, y ≤ 1000) :
    Calls Try.prog 14 #[vl, .int .i64 x, .int .i64 wd] w fun e w' => e = .returned (.int .i64 (overL l x wd : Nat)) ∧ Below w.heap.size w w' := by
  have HL := Lib.hid hv
  obtain ⟨Al, capl, rfl, hcl, -⟩ := id hv
  obtain ⟨N, hN⟩ : ∃ N, l.length = N := ⟨_, rfl⟩
  have HN := Lib.hid hN
  rw [hN] at HL hcl
  rw [hN]
  clear hN hv
  obtain ⟨E, hE⟩ : ∃ E, x + wd = E := ⟨_, rfl⟩
  have hEw : IntKind.i64.wrap ((x : Int) + wd) = (E : Int) := by rw [← hE, Int.natCast_add]; exact wI (by omega) (by omega)
  have HE := Lib.hid hE
  have HH := Lib.hid hh
  clear hE hh
  go_enter Try.func14, Try.ntmps14
  go_wp2_with fail
  go_loopw [8, 7] (fun i o wr => ∃ r k : Nat, Hid (r ≤ wd ∧ x + r = k) ∧ i = .int .i64 k ∧ o = .int .i64 (overL l x r : Nat) ∧ wr = w) (fun i _ _ => E - (intOf i).toNat)
  case atStart => exact ⟨0, x, Lib.hid ⟨Nat.zero_le _, rfl⟩, rfl, rfl, rfl⟩
  case round =>
    obtain ⟨r, k, HR, rfl, rfl, hw⟩ := hrel
    subst hw
    have hkE : k ≤ E := by have := HR.out; have := HE.out; omega
    have hk0 : k ≤ 2000 := by have := HR.out; omega
    by_cases hk : k < E
    · have hkb : decide ((k : Int) < E) = true := by simp; omega
      by_cases hkn : k < N
      · have hknb : decide ((k : Int) < N) = true := by simp; omega
        have hc := at_hgt (l := l) (x := k) (by rw [HN.out]; exact hkn)
        obtain ⟨a, rfl, _, a0⟩ := HL.out.at k _ hc
        have hst : overL l x (r + 1) = max (overL l x r) (hgt l k) := by rw [← HR.out.2]; rfl
        have hm := fun w => run_max2i (P := Try.prog) #[3, 3] 3 (overL l x r : Nat) (hgt l k : Nat) w
        have HST := Lib.hid hst
        have hk1 : IntKind.i64.wrap ((k : Int) + 1) = ((k + 1 : Nat) : Int) := wI (by omega) (by omega)
        clear hc hst
        generalize overL l x r = o at *
        generalize hgt l k = y at *
        go_wp2_with fail
        exact ⟨⟨r + 1, k + 1, Lib.hid ⟨by have := HR.out; have := HE.out; omega, by have := HR.out; omega⟩, by go_num, by rw [HST.out]; congr 1; omega, trivial⟩, by simp [intOf]; omega⟩
      · have hknb : decide ((k : Int) < N) = false := by simp; omega
        have hcut : overL l x wd = overL l x r := by
          obtain ⟨h1, h2⟩ := HR.out
          have := over_cut l x r (by rw [HN.out]; omega) (wd - r)
          rw [show r + (wd - r) = wd by omega] at this
          exact this
        have HC := Lib.hid hcut
        clear hcut
        go_wp2_with fail
        go_ret
        exact ⟨by rw [HC.out]; rfl, Below.refl _ _⟩
    · have hkb : decide ((k : Int) < E) = false := by simp; omega
      obtain rfl : r = wd := by have := HR.out; have := HE.out; omega
      go_wp2_with fail
      go_ret
      exact ⟨rfl, Below.refl _ _⟩

set_option maxRecDepth 100000 in
theorem lsteps_any (vl : Value) (l : List Nat) (w : World) (hv : NRd w vl l) (hl : l.length ≤ 1000) :
    Calls Try.prog 24 #[vl] w fun e w' => ∃ V, e = .returned V ∧ PRow w' w.heap.size V (stepsL l) ∧ Below w.heap.size w w' := by
  have HL := Lib.hid hv
  obtain ⟨Al, capl, rfl, hcl, -⟩ := id hv
  obtain ⟨N, hN⟩ : ∃ N, l.length = N := ⟨_, rfl⟩
  have HN := Lib.hid hN
  rw [hN] at HL hl hcl
  rw [hN]
  clear hN hv
  obtain ⟨i0, hi0, hz0, hz1, hz2⟩ := infos pr2info
  go_enter Try.func24, Try.ntmps24
  go_wp2_with fail
  have HST0 := Lib.hid (show stepsTo l 0 = [] from rfl)
  go_loopw [8, 3] (fun i o wr => ∃ r : Nat, r ≤ N ∧ i = .int .i64 r ∧ Hid (PRow wr w.heap.size o (stepsTo l r)) ∧ Hid (Below w.heap.size w wr)) (fun i _ _ => N - (intOf i).toNat)
  case atStart => exact ⟨0, Nat.zero_le _, rfl, Lib.hid (PRow.nil _ _), Lib.hid (Below.refl _ _)⟩
  case round =>
    obtain ⟨r, hr, rfl, HO, HB⟩ := hrel
    by_cases hrn : r < N
    · have hrb : decide ((r : Int) < N) = true := by simp; omega
      have hc := at_hgt (l := l) (x := r) (by rw [HN.out]; exact hrn)
      obtain ⟨a, rfl, _, a0⟩ := (HL.out.keep HB.out).at r _ hc
      have hlen := stepsTo_len l r
      obtain ⟨K, hK⟩ : ∃ K, (stepsTo l r).length = K := ⟨_, rfl⟩
      rw [hK] at hlen
      have hnx : stepsTo l (r + 1) = if isStep l r = true then stepsTo l r ++ [(r, hgt l r)] else stepsTo l r := rfl
      have HOwn := Lib.hid (HO.out.own hK)
      have HLK := Lib.hid hK
      obtain ⟨Ao, co, e⟩ := HO.out.form
      rw [hK] at e
      subst e
      clear hK
      by_cases hr0 : r = 0
      · subst hr0
        have HNX : Hid (stepsTo l (0 + 1) = stepsTo l 0 ++ [(0, hgt l 0)]) := Lib.hid (by rw [hnx, if_pos (show isStep l 0 = true from rfl)])
        rw [show a.add 0 = a from rfl] at a0
        generalize hgt l 0 = y at *
        clear hc hnx
        have HNB := Lib.hid (heap_alloc_new wr (.cells #[.int .i64 0, .int .i64 (y : Int)] 44))
        have hsz := HB.out.size
        go_wp2_with (at_builtin; refine wpList_append_lies _ rfl _ _ _ (by rfl) w.heap.size 44 i0 _ 2 16 Try.underlying42 hi0 hz0 hz1 hz2 (by rfl) (by omega) _ K _ (by rfl) (HOwn.out.alloc _) ⟨wr.heap.size, 0, none⟩ 1 1 [.int .i64 0, .int .i64 (y : Int)] (by rfl) (by rfl) (World.news_of_block HNB.out) (by simp [Value.oneCell']) (by omega) (by simp [maxLen]; omega) (by omega) (by simp; omega) (wr.heap.size + 1) (by simp) ?_; intro g cp w4 hown hgrow hat hlt)
        refine ⟨⟨0 + 1, hrn, by go_num, Lib.hid ?_, Lib.hid ((HB.out.alloc hsz _).grown hgrow (by simp; omega) (fun q hq => (HO.out.lt q hq).1))⟩, by simp [intOf]; omega⟩
        rw [HNX.out]
        unfold PRow
        rw [List.length_append, HLK.out, pr2s_push]
        exact hown
      · obtain ⟨q, hrq⟩ : ∃ q, q + 1 = r := ⟨r - 1, by omega⟩
        have hcq := at_hgt (l := l) (x := q) (by rw [HN.out]; omega)
        obtain ⟨_, e, _, aq⟩ := (HL.out.keep HB.out).at q _ hcq
        cases e
        have hq1 : IntKind.i64.wrap ((r : Int) - 1) = (q : Int) := by rw [← hrq]; exact (wI (by omega) (by omega)).trans (by omega)
        have hq2 : (r : Int) - 1 = (q : Int) := by omega
        have hrz : ((r : Int) == 0) = false := by simp; omega
        have hqn : decide ((q : Int) < N) = true := by simp; omega
        have his : isStep l r = decide (hgt l q ≠ hgt l r) := by unfold isStep; rw [show r - 1 = q by omega]; simp [hr0]
        rw [his] at hnx
        by_cases hne : hgt l q = hgt l r
        · have HNX : Hid (stepsTo l (r + 1) = stepsTo l r) := Lib.hid (by rw [hnx, if_neg (by simp [hne])])
          have hb : ((hgt l q : Int) != (hgt l r : Int)) = false := by simp [hne]
          generalize hgt l r = y at *
          generalize hgt l q = yq at *
          clear hc hcq hnx his hne hrq
          go_wp2_with fail
          exact ⟨⟨r + 1, hrn, by go_num, Lib.hid (by rw [HNX.out]; exact HO.out), HB⟩, by simp [intOf]; omega⟩
        · have HNX : Hid (stepsTo l (r + 1) = stepsTo l r ++ [(r, hgt l r)]) := Lib.hid (by rw [hnx, if_pos (by simp [hne])])
          have hb : ((hgt l q : Int) != (hgt l r : Int)) = true := by simp; omega
          generalize hgt l r = y at *
          generalize hgt l q = yq at *
          clear hc hcq hnx his hne hrq
          have HNB := Lib.hid (heap_alloc_new wr (.cells #[.int .i64 (r : Int), .int .i64 (y : Int)] 44))
          have hsz := HB.out.size
          go_wp2_with (at_builtin; refine wpList_append_lies _ rfl _ _ _ (by rfl) w.heap.size 44 i0 _ 2 16 Try.underlying42 hi0 hz0 hz1 hz2 (by rfl) (by omega) _ K _ (by rfl) (HOwn.out.alloc _) ⟨wr.heap.size, 0, none⟩ 1 1 [.int .i64 (r : Int), .int .i64 (y : Int)] (by rfl) (by rfl) (World.news_of_block HNB.out) (by simp [Value.oneCell']) (by omega) (by simp [maxLen]; omega) (by omega) (by simp; omega) (wr.heap.size + 1) (by simp) ?_; intro g cp w4 hown hgrow hat hlt)
          refine ⟨⟨r + 1, hrn, by go_num, Lib.hid ?_, Lib.hid ((HB.out.alloc hsz _).grown hgrow (by simp; omega) (fun q hq => (HO.out.lt q hq).1))⟩, by simp [intOf]; omega⟩
          rw [HNX.out]
          unfold PRow
          rw [List.length_append, HLK.out, pr2s_push]
          exact hown
    · obtain rfl : r = N := by omega
      have HO2 : Hid (PRow wr w.heap.size u3 (stepsL l)) := Lib.hid (by unfold stepsL; rw [HN.out]; exact HO.out)
      go_wp2_with fail
      go_ret
      exact ⟨_, rfl, HO2.out, HB.out⟩

end Go.Proofs.Ytklajpadnbeplaa
