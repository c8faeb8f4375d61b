/-
  What the program's Parse of layer 4 does to any world (no claim is made here).
-/
import Derived.Test.YtgkhpnjfpahlgaaPCon
import Derived.Test.YtgkhpnjfpahlgaaPChk
namespace Go.Proofs.Ytgkhpnjfpahlgaa
open Go.RowKit

theorem parseS_short (bs : List Nat) (h : bs = [] ∨ bs.tail.length < bs.headD 0) : parseS bs = ([], 1) := by
  cases bs with
  | nil => rfl
  | cons k r =>
    rcases h with h | h
    · cases h
    · rw [parseS_cons]; exact if_pos h
theorem parseS_limit (bs : List Nat) (h0 : bs ≠ []) (h1 : bs.headD 0 ≤ bs.tail.length) (h2 : 64 < (bs.tail.take (bs.headD 0)).sum ∨ 8 < bs.headD 0) : parseS bs = ([], 3) := by
  cases bs with
  | nil => exact absurd rfl h0
  | cons k r =>
    simp only [List.headD_cons, List.tail_cons] at h1 h2
    rw [parseS_cons, if_neg (by omega), if_pos (by rw [List.length_take, Nat.min_eq_left h1]; exact h2)]
theorem parseS_rest (bs : List Nat) (h0 : bs ≠ []) (h1 : bs.headD 0 ≤ bs.tail.length) (h2 : ¬ (64 < (bs.tail.take (bs.headD 0)).sum ∨ 8 < bs.headD 0)) : parseS bs = parseT (bs.tail.take (bs.headD 0)) (bs.tail.drop (bs.headD 0)) := by
  cases bs with
  | nil => exact absurd rfl h0
  | cons k r =>
    simp only [List.headD_cons, List.tail_cons] at h1 h2 ⊢
    rw [parseS_cons, if_neg (by omega), if_neg (by rw [List.length_take, Nat.min_eq_left h1]; exact h2)]
theorem parseT_flags (ss X : List Nat) (er : Nat) (h : flagsS ss.sum 0 X = .error er) : parseT ss X = ([], er) := by unfold parseT; rw [h]
theorem parseT_points (ss X fs r rest : List Nat) (os : List (List Vtx)) (sh : Bool) (x y : Int) (h : flagsS ss.sum 0 X = .ok (fs.map (· % 8), r)) (hp : PS fs r fs.length os.flatten x y rest sh) (hs : os.map List.length = ss) :
    parseT ss X = if sh = true then ([], 1) else if rest ≠ [] then ([], 2) else if checkS os ≠ 0 then ([], checkS os) else (os, 0) := by
  unfold parseT
  rw [h]
  simp only []
  rw [pointsS_mod]
  rcases hp with ⟨rfl, hp, _⟩ | ⟨rfl, hp⟩
  · rw [List.take_of_length_le (Nat.le_refl _)] at hp
    rw [hp]
    simp only []
    rw [← hs, split_flatten]
    rw [if_neg (by decide : ¬ (false = true))]
  · rw [hp]
    rfl
theorem one_set {w W : World} {v : Value} (h : One W w.heap.size v) (x : Value) (hb : Below w.heap.size w W) : (W.setCell ⟨w.heap.size, 0, none⟩ x).cell? ⟨w.heap.size, 0, none⟩ = some x ∧ Below w.heap.size w (W.setCell ⟨w.heap.size, 0, none⟩ x) :=
  ⟨World.cell?_setCell_same _ _ _ h.1, hb.setCell (p := ⟨w.heap.size, 0, none⟩) (Nat.le_refl _) x⟩
theorem ORd.nil (w : World) : ORd w (.slice none 0 0) [] := ⟨none, 0, rfl, Nat.le_refl _, fun _ h => absurd h (Nat.not_lt_zero _)⟩

set_option maxRecDepth 100000 in
set_option maxHeartbeats 1600000 in
theorem pparse_any (v : Value) (bs : List Nat) (w : World) (hv : BRd w v bs) (hvl : bs ≠ [] → ∀ k, v.ownBlock = some k → k < w.heap.size) :
    Calls Try.prog 16 #[v] w fun e w' => ∃ (u : Value) (er : Nat), e = .returned (.tuple #[.agg #[u], .int .i64 er]) ∧ Below w.heap.size w w' ∧ er = (parseS bs).2 ∧ ORd w' u (parseS bs).1 := by
  have hB2 : Below w.heap.size w ((w.alloc (.cells #[.slice none 0 0] 29)).alloc (.cells #[v, .bool false] 65)) := ((Below.refl _ w).alloc (Nat.le_refl _) _).alloc (by simp) _
  have hO : One ((w.alloc (.cells #[.slice none 0 0] 29)).alloc (.cells #[v, .bool false] 65)) w.heap.size (.slice none 0 0) := (One.new _ _ rfl).alloc _
  have hRd : Rdr ((w.alloc (.cells #[.slice none 0 0] 29)).alloc (.cells #[v, .bool false] 65)) (w.heap.size + 1) w.heap.size bs false :=
    ⟨v, Two.new _ _ _ (by simp), hv.keep hB2, (fun h e => by have := hvl h _ e; omega), fun h k hk => hvl h k hk⟩
  have HC := Lib.hid (counts_any (w.heap.size + 1) w.heap.size bs _ (by omega) hRd)
  have HB2 := Lib.hid hB2
  have HO := Lib.hid hO
  have hvf : ∃ A n cap, v = .slice A n cap := by obtain ⟨A, cap, e, _⟩ := hv; exact ⟨A, _, cap, e⟩
  obtain ⟨Av, nv, capv, rfl⟩ := hvf
  clear hB2 hO hRd hv hvl
  obtain ⟨res, hres⟩ : ∃ res, parseS bs = res := ⟨_, rfl⟩
  have HRES := Lib.hid hres
  rw [hres]
  clear hres
  go_enter Try.func16, Try.ntmps16
  go_wp2_with fail
  refine HC.out.mono ?_
  rintro e w1 ⟨cv, p, er, rfl, hb1, hcase⟩
  have HB1 := Lib.hid (HB2.out.trans (hb1.mono (by omega)))
  have O1 : One w1 w.heap.size (.slice none 0 0) := ⟨(hb1.cell (p := ⟨w.heap.size, 0, none⟩) (by simp only []; omega)).trans HO.out.1, (hb1.frozen (p := ⟨w.heap.size, 0, none⟩) (by simp only []; omega)).trans HO.out.2⟩
  have HO1 := Lib.hid O1
  obtain ⟨oc, of⟩ := O1
  have oz := HO1.out.lt
  clear hb1 HC HO HB2
  rcases hcase with ⟨rfl, h⟩ | ⟨rfl, h0, h1, h2⟩ | ⟨rfl, ⟨h0, h1, h2⟩, hI, rfl, hR⟩
  · have e : res = ([], 1) := HRES.out.symm.trans (parseS_short bs h)
    subst e
    clear h
    go_wp2_with fail
    obtain ⟨c1, b1⟩ := one_set HO1.out (.slice none 0 0) HB1.out
    exact bodyPost_ret (v := .tuple #[.agg #[.slice none 0 0], .int .i64 ((1 : Nat) : Int)]) (by simp [results, Try.results16, go_sem, c1]) rfl ⟨_, 1, rfl, b1, rfl, ORd.nil _⟩
  · have e : res = ([], 3) := HRES.out.symm.trans (parseS_limit bs h0 h1 h2)
    subst e
    clear h0 h1 h2
    go_wp2_with fail
    obtain ⟨c1, b1⟩ := one_set HO1.out (.slice none 0 0) HB1.out
    exact bodyPost_ret (v := .tuple #[.agg #[.slice none 0 0], .int .i64 ((3 : Nat) : Int)]) (by simp [results, Try.results16, go_sem, c1]) rfl ⟨_, 3, rfl, b1, rfl, ORd.nil _⟩
  · have HP := Lib.hid (HRES.out.symm.trans (parseS_rest bs h0 h1 h2))
    have hp64 : (bs.tail.take (bs.headD 0)).sum ≤ 64 := by omega
    have hk8 : (bs.tail.take (bs.headD 0)).length ≤ 8 := by rw [List.length_take]; omega
    obtain ⟨ss, hss⟩ : ∃ ss, bs.tail.take (bs.headD 0) = ss := ⟨_, rfl⟩
    obtain ⟨X, hX⟩ : ∃ X, bs.tail.drop (bs.headD 0) = X := ⟨_, rfl⟩
    rw [hss] at hI hp64 hk8 HP
    rw [hss]
    rw [hX] at hR HP
    obtain ⟨S, hS⟩ : ∃ S, ss.sum = S := ⟨_, rfl⟩
    rw [hS] at hp64
    rw [hS]
    have HF := Lib.hid (flags_any (w.heap.size + 1) w.heap.size S X w1 (by omega) hp64 hR)
    have HI := Lib.hid hI
    have HS := Lib.hid hS
    have HR0 : Hid (w.heap.size + 1 < w1.heap.size) := Lib.hid hR.lt
    clear h0 h1 h2 hss hX hI hR hS
    go_wp2_with fail
    refine HF.out.mono ?_
    rintro e w2 ⟨fv, er, rfl, hg2, hcase⟩
    have O2 := HO1.out.grown hg2 (by intro e; injection e with e; omega)
    have HO2 := Lib.hid O2
    have HB2 : Hid (Below w.heap.size w w2) := Lib.hid (HB1.out.trans ⟨hg2.os, hg2.tape, hg2.output, hg2.size, fun q hq => hg2.block q (by omega) (by intro e; injection e with e; omega)⟩)
    have HI2 : Hid (IRow w2 (w.heap.size + 1 + 1) cv ss) := Lib.hid (World.ownsRow.kept HI.out hg2 (.inr (fun e => by have := (World.ownsRow.lt HI.out _ e).1; omega)))
    obtain ⟨oc2, of2⟩ := O2
    have oz2 := HO2.out.lt
    clear oc of oz HO1 HB1 HI HF
    rcases hcase with ⟨her, hfe⟩ | ⟨rfl, fs, r, hfo, h16, hfl, hfr, hR2⟩
    · have e : res = ([], er) := by rw [HP.out]; exact parseT_flags ss X er (by rw [HS.out]; exact hfe)
      subst e
      have her' : ((er : Int) == 0) = false := by simp; omega
      have her'' : ((er : Int) != 0) = true := by simp; omega
      clear hfe her
      go_wp2_with fail
      obtain ⟨c1, b1⟩ := one_set HO2.out (.slice none 0 0) HB2.out
      exact bodyPost_ret (v := .tuple #[.agg #[.slice none 0 0], .int .i64 (er : Int)]) (by simp [results, Try.results16, go_sem, c1]) rfl ⟨_, er, rfl, b1, rfl, ORd.nil _⟩
    · have hz12 : w1.heap.size ≤ w2.heap.size := hg2.size
      have HCN := Lib.hid (contours_any (w.heap.size + 1) w.heap.size ss fs r cv fv w2 (by omega) hR2 HI2.out (World.ownsRow.mono hfr (by have := HR0.out; omega)) (by rw [HS.out, hfl]) hk8 (by omega) h16)
      have HFO := Lib.hid hfo
      clear hfo h16 hfl hfr hR2 hg2
      go_wp2_with fail
      refine HCN.out.mono ?_
      rintro e w3 ⟨ov, os, rest, sh, x, y, rfl, hb3, hordW, hol, hR3, hps⟩
      have hord := hordW w3 (Nat.le_refl _) (fun _ _ _ => rfl)
      have HOW := Lib.hid hordW
      clear hordW
      have HT := Lib.hid (parseT_points ss X fs r rest os sh x y (by rw [HS.out]; exact HFO.out) hps hol)
      have O3 : One w3 w.heap.size (.slice none 0 0) := ⟨(hb3.cell (p := ⟨w.heap.size, 0, none⟩) (by simp only []; omega)).trans HO2.out.1, (hb3.frozen (p := ⟨w.heap.size, 0, none⟩) (by simp only []; omega)).trans HO2.out.2⟩
      have HB3 := Lib.hid (HB2.out.trans (hb3.mono (by omega)))
      have hovf : ∃ A n cap, ov = .slice A n cap := by obtain ⟨A, cap, e, _⟩ := hord; exact ⟨A, _, cap, e⟩
      have HORD := Lib.hid hord
      have hz3 : w.heap.size + 1 < w3.heap.size := hR3.lt
      obtain ⟨sv, hTwo, hBR, -, -⟩ := hR3
      have hsvf : ∃ A cap, sv = .slice A rest.length cap := by obtain ⟨A, cap, e, _⟩ := hBR; exact ⟨A, cap, e⟩
      obtain ⟨Ao, no, capo, rfl⟩ := hovf
      obtain ⟨As, caps, rfl⟩ := hsvf
      have hlens : os.length ≤ 8 ∧ ∀ c ∈ os, c.length ≤ 64 := by
        refine ⟨by have := congrArg List.length hol; rw [List.length_map] at this; omega, fun c hc => ?_⟩
        have h1 := le_flatten os c hc
        have h2 : os.flatten.length = ss.sum := by rw [List.length_flatten, hol]
        rw [HS.out] at h2
        omega
      have HL := Lib.hid hlens
      obtain ⟨tc0, tc1, -, -⟩ := hTwo.alloc (.cells #[.slice Ao no capo] 29)
      obtain ⟨oc, of⟩ := O3.alloc (.cells #[.slice Ao no capo] 29)
      have HOA := Lib.hid (O3.alloc (.cells #[.slice Ao no capo] 29))
      have HBA := Lib.hid (HB3.out.alloc HB3.out.size (.cells #[.slice Ao no capo] 29))
      have HNA : Hid (One (w3.alloc (.cells #[.slice Ao no capo] 29)) w3.heap.size (.slice Ao no capo)) := Lib.hid (One.new _ _ rfl)
      have HORA := Lib.hid (HORD.out.keep ((Below.refl _ w3).alloc (Nat.le_refl _) (.cells #[.slice Ao no capo] 29)))
      have HRT := Lib.hid (HP.out.trans HT.out)
      clear hps hol hb3 hord O3 hTwo hBR hlens oc2 of2 oz2 HO2 HB2 HI2 HCN HT HP
      have hz4 : w.heap.size + 1 < (w3.alloc (.cells #[.slice Ao no capo] 29)).heap.size := by simp; omega
      cases sh with
      | true =>
        have e : res = ([], 1) := HRT.out.trans (if_pos rfl)
        subst e
        clear HRT
        go_wp2_with fail
        obtain ⟨c1, b1⟩ := one_set HOA.out (.slice none 0 0) HBA.out
        exact bodyPost_ret (v := .tuple #[.agg #[.slice none 0 0], .int .i64 ((1 : Nat) : Int)]) (by simp [results, Try.results16, go_sem, c1]) rfl ⟨_, 1, rfl, b1, rfl, ORd.nil _⟩
      | false =>
        have HRT2 := Lib.hid (HRT.out.trans (if_neg (by decide)))
        cases rest with
        | cons b rest =>
          have e : res = ([], 2) := HRT2.out.trans (if_pos (by simp))
          subst e
          obtain ⟨L, hL⟩ : ∃ L, (b :: rest).length = L + 1 := ⟨rest.length, rfl⟩
          rw [hL] at tc0
          clear HRT HRT2 hL
          go_wp2_with fail
          obtain ⟨c1, b1⟩ := one_set HOA.out (.slice none 0 0) HBA.out
          exact bodyPost_ret (v := .tuple #[.agg #[.slice none 0 0], .int .i64 ((2 : Nat) : Int)]) (by simp [results, Try.results16, go_sem, c1]) rfl ⟨_, 2, rfl, b1, rfl, ORd.nil _⟩
        | nil =>
          have HRT3 := Lib.hid (HRT2.out.trans (if_neg (by simp)))
          have HCK := Lib.hid (pcheck_any _ os _ HORA.out (fun c hc => by have := HL.out.2 c hc; omega) (by have := HL.out.1; omega))
          obtain ⟨R, hR⟩ : ∃ R, checkS os = R := ⟨_, rfl⟩
          rw [hR] at HCK HRT3
          simp only [List.length_nil] at tc0
          clear HRT HRT2 hR
          go_wp2_with fail
          refine HCK.out.mono ?_
          rintro e w4 ⟨rfl, hb4⟩
          have O4 := HOA.out.keep hb4
          have N4 := HNA.out.keep hb4
          have HO4 := Lib.hid O4
          have HB4 := Lib.hid (HBA.out.trans (hb4.mono HBA.out.size))
          have HOR4 := Lib.hid (HORA.out.keep hb4)
          have oz := O4.lt
          have nz := N4.lt
          obtain ⟨oc4, of4⟩ := O4
          obtain ⟨nc4, nf4⟩ := N4
          have HKP : Hid (∀ k, k < w3.heap.size → w4.heap[k]? = w3.heap[k]?) := Lib.hid (fun k hk => (hb4.block k (by simp; omega)).trans (Below.heap_alloc _ _ _ hk))
          clear tc0 tc1 oc of HCK hb4
          by_cases hR0 : R = 0
          · subst hR0
            have e : res = (os, 0) := HRT3.out.trans (if_neg (by simp))
            subst e
            clear HRT3
            go_wp2_with fail
            obtain ⟨c1, b1⟩ := one_set HO4.out (.slice Ao no capo) HB4.out
            have ORF : ORd (w4.setCell ⟨w.heap.size, 0, none⟩ (.slice Ao no capo)) (.slice Ao no capo) os := by
              refine HOW.out _ ?_ (fun k h1 h2 => ?_)
              · simp only [World.size_setCell]; exact Nat.le_of_lt nz
              · rw [heap_set _ _ _ _ (by simp only []; have := HR0.out; omega)]
                exact HKP.out k h2
            exact bodyPost_ret (v := .tuple #[.agg #[.slice Ao no capo], .int .i64 ((0 : Nat) : Int)]) (by simp [results, Try.results16, go_sem, c1]) rfl ⟨_, 0, rfl, b1, rfl, ORF⟩
          · have e : res = ([], R) := HRT3.out.trans (if_pos hR0)
            subst e
            have her' : ((R : Int) == 0) = false := by simp; omega
            have her'' : ((R : Int) != 0) = true := by simp; omega
            clear HRT3 hR0
            go_wp2_with fail
            obtain ⟨c1, b1⟩ := one_set HO4.out (.slice none 0 0) HB4.out
            exact bodyPost_ret (v := .tuple #[.agg #[.slice none 0 0], .int .i64 (R : Int)]) (by simp [results, Try.results16, go_sem, c1]) rfl ⟨_, R, rfl, b1, rfl, ORd.nil _⟩

end Go.Proofs.Ytgkhpnjfpahlgaa
