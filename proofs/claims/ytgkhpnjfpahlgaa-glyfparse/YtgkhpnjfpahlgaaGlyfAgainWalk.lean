/-
  What the law GlyfAgain does to any world (no claim is made here).
-/
import Derived.Test.YtgkhpnjfpahlgaaPAwk
import Derived.Test.YtgkhpnjfpahlgaaOpen4
namespace Go.Proofs.Ytgkhpnjfpahlgaa
open Go.RowKit

theorem parseT_err (ss X : List Nat) : (parseT ss X).2 ≠ 0 → (parseT ss X).1 = [] := by
  unfold parseT
  split
  · intro _; rfl
  · split
    · intro _; rfl
    · split
      · intro _; rfl
      · split
        · intro _; rfl
        · intro h; exact absurd rfl h
theorem parse_err {x : List Nat} {o : List (List Vtx)} {er : Nat} (h : parseS x = (o, er)) (he : er ≠ 0) : o = [] := by
  have key : (parseS x).2 ≠ 0 → (parseS x).1 = [] := by
    cases x with
    | nil => intro _; rfl
    | cons k r =>
      rw [parseS_cons]
      split
      · intro _; rfl
      · split
        · intro _; rfl
        · exact parseT_err _ _
  rw [h] at key
  exact key he
theorem flags_use : ∀ (b : List Nat) (c n : Nat) (fs r : List Nat), flagsS n c b = .ok (fs, r) → b.length ≤ r.length + 2 * fs.length
  | [], _, _, _, _, _ => by simp
  | [f], c, n, fs, r, h => by
    unfold flagsS at h
    split at h
    · injection h with h; injection h with h1 h2; subst h1 h2; simp
    · split at h
      · cases h
      · split at h
        · cases h
        · obtain ⟨p, _, e⟩ := exMap_ok h
          injection e with e1 e2
          rw [← e1]
          simp
          omega
  | f :: t :: r0, c, n, fs, r, h => by
    unfold flagsS at h
    split at h
    · injection h with h; injection h with h1 h2; subst h1 h2; simp
    · split at h
      · split at h
        · cases h
        · obtain ⟨⟨p1, p2⟩, hp, e⟩ := exMap_ok h
          injection e with e1 e2
          have := flags_use r0 _ n p1 p2 hp
          simp only [] at e1 e2
          rw [← e1, ← e2, List.length_append, List.length_replicate]
          simp only [List.length_cons]
          omega
      · split at h
        · cases h
        · obtain ⟨⟨p1, p2⟩, hp, e⟩ := exMap_ok h
          injection e with e1 e2
          have := flags_use (t :: r0) _ n p1 p2 hp
          simp only [] at e1 e2
          rw [← e1, ← e2]
          simp only [List.length_cons] at this ⊢
          omega
theorem step_use {t : Bool} {b r : List Nat} {d : Int} (h : stepS t b = some (d, r)) : b.length ≤ r.length + 2 := by
  unfold stepS at h
  split at h
  · injection h with h; injection h with h1 h2; subst h2; simp
  · injection h with h; injection h with h1 h2; subst h2; simp
  · cases h
theorem points_use : ∀ (fs : List Nat) (x y : Int) (b : List Nat) (vs : List Vtx) (r : List Nat), pointsS x y fs b = some (vs, r) → b.length ≤ r.length + 4 * fs.length
  | [], x, y, b, vs, r, h => by injection h with h; injection h with h1 h2; subst h2; simp
  | f :: fs, x, y, b, vs, r, h => by
    unfold pointsS at h
    split at h
    · cases h
    · next dx b1 h1 =>
      split at h
      · cases h
      · next dy b2 h2 =>
        split at h
        · cases h
        · next vs' b3 h3 =>
          injection h with h
          injection h with e1 e2
          subst e2
          have u1 := step_use h1
          have u2 := step_use h2
          have u3 := points_use fs _ _ b2 vs' _ h3
          simp only [List.length_cons]
          omega
theorem parse_small {x : List Nat} {o : List (List Vtx)} (h : parseS x = (o, 0)) : x.length ≤ 1000 := by
  cases x with
  | nil => simp
  | cons k r =>
    rw [parseS_cons] at h
    split at h
    · cases h
    · next h1 =>
      split at h
      · cases h
      · next h2 =>
        have hk : (r.take k).length = k := by rw [List.length_take]; omega
        have h64 : (r.take k).sum ≤ 64 ∧ k ≤ 8 := by omega
        have hX : (r.drop k).length = r.length - k := List.length_drop
        unfold parseT at h
        split at h
        · next e he =>
          have := flags_err _ _ _ _ he
          injection h with h1 h2
          omega
        · next fs b hf =>
          split at h
          · cases h
          · next vs b2 hp =>
            split at h
            · cases h
            · next hb2 =>
              have e2 : b2 = [] := by simpa using hb2
              subst e2
              have u1 := flags_use _ _ _ _ _ hf
              have u2 := points_use _ _ _ _ _ _ hp
              have u3 := (flags_len _ _ _ _ _ (Nat.zero_le _) hf).1
              simp only [List.length_nil] at u2
              simp only [List.length_cons]
              omega
/-- A byte of a row that is ours, written over. -/
theorem BRow.put {w : World} {base g n cap : Nat} {bs : List Nat} (h : BRow w base (.slice (some ⟨g, 0, none⟩) n cap) bs) (hn : bs.length = n) (i x : Nat) : BRow (w.setCell ⟨g, i, none⟩ (.int .u8 (x : Int))) base (.slice (some ⟨g, 0, none⟩) n cap) (bs.set i x) := by
  have h1 := ((h.own hn).stored i (.int .u8 (x : Int))).1
  unfold BRow
  rw [List.length_set, hn]
  have e : bvals (bs.set i x) = (bvals bs).set i (.int .u8 (x : Int)) := by unfold bvals; rw [List.map_set]
  rw [e]
  exact h1

set_option maxRecDepth 100000 in
set_option maxHeartbeats 1600000 in
theorem glyfAgain_walk (A0 : Option Addr) (n0 cap0 : Nat) (bs0 : List Nat) (A : Option Addr) (n cap : Nat) (cs : List (List Dot)) (at' by' : Int) (w : World) (hb0 : BRd w (.slice A0 n0 cap0) bs0) (hl0 : bs0 ≠ [] → ∀ k, (Value.slice A0 n0 cap0).ownBlock = some k → k < w.heap.size) (hcs : DotRows w A n cap cs) (hat : 0 ≤ at' ∧ at' ≤ 255) (hby : 0 ≤ by' ∧ by' ≤ 255) :
    Calls Try.prog 7 #[.slice A0 n0 cap0, .slice A n cap, .int .u8 at', .int .u8 by'] w fun e w' => e = .returned (.bool true) ∧ Below w.heap.size w w' := by
  have HD := Lib.hid hcs
  have HB0 := Lib.hid hb0
  have HL0 := Lib.hid hl0
  have HCK := Lib.hid (outlineS_check cs)
  obtain ⟨o, ho⟩ : ∃ o, outlineS cs = o := ⟨_, rfl⟩
  rw [ho] at HCK
  have HO := Lib.hid ho
  obtain ⟨pos, rfl⟩ : ∃ pos : Nat, at' = pos := ⟨at'.toNat, by omega⟩
  obtain ⟨xr, rfl⟩ : ∃ xr : Nat, by' = xr := ⟨by'.toNat, by omega⟩
  have hpos : pos ≤ 255 := by omega
  have hxr : xr < 256 := by omega
  have hpw : IntKind.i64.wrap (pos : Int) = pos := by rw [IntKind.wrap_i64]; omega
  have hn0 : n0 = bs0.length ∧ n0 ≤ cap0 ∧ cap0 ≤ maxLen := by
    obtain ⟨_, _, e, h1, h2, _⟩ := hb0
    simp only [Value.slice.injEq] at e
    omega
  have HN0 := Lib.hid hn0
  have hn0c : n0 ≤ cap0 := hn0.2.1
  clear hcs ho hb0 hl0 hat hby hn0
  go_enter Try.func7, Try.ntmps7
  go_wp2_with fail
  refine (awake_any _).mono ?_
  rintro e w1 ⟨rfl, hb1⟩
  have HC := Lib.hid (outline_any A n cap cs w1 (HD.out.keep hb1))
  have HB1 := Lib.hid hb1
  clear hb1
  go_wp2_with fail
  refine HC.out.mono ?_
  rintro e w2 ⟨v, rfl, hol, hb2⟩
  rw [HO.out] at hol
  have HB2 := Lib.hid (HB1.out.trans (hb2.mono HB1.out.size))
  have HE := Lib.hid (penc_ok v o w2 hol.read HCK.out)
  have hmx := encode_max o HCK.out
  obtain ⟨L, hL⟩ : ∃ L, (encodeS o).length = L := ⟨_, rfl⟩
  rw [hL] at HE hmx
  have HL := Lib.hid hL
  obtain ⟨hm1, hm2⟩ := hmx
  obtain ⟨Ao, capo, rfl⟩ := hol.form
  clear hol hb2 HC HB1 hL
  go_wp2_with fail
  refine HE.out.mono ?_
  rintro e w3 ⟨Ab, capb, rfl, hb3, hrow⟩
  obtain ⟨gb, capb', hAb, hgb1, hgb2⟩ := World.ownsRow.form (hrow.own HL.out) (by omega)
  simp only [Value.slice.injEq] at hAb
  obtain ⟨rfl, -, rfl⟩ := hAb
  have hLp : decide ((0 : Int) < L) = true := by simp; omega
  have hLp' : (0 : Int) < L := by omega
  obtain ⟨m, hm⟩ : ∃ m : Nat, pos % L = m := ⟨_, rfl⟩
  have hmL : m < L := by rw [← hm]; exact Nat.mod_lt _ (by omega)
  have hmI : (pos : Int).tmod (L : Int) = m := by rw [← hm]; exact (Int.ofNat_tmod pos L).symm
  have hLz : ¬ (L : Int) = 0 := by omega
  have hbr := hrow.read (encode_bytes o HCK.out)
  obtain ⟨bm, hbm⟩ : ∃ bm, (encodeS o)[m]'(by rw [HL.out]; exact hmL) = bm := ⟨_, rfl⟩
  have hbm256 : bm < 256 := encode_bytes o HCK.out bm (by rw [← hbm]; exact List.getElem_mem _)
  have cm : w3.cell? ⟨gb, m, none⟩ = some (.int .u8 bm) := by
    rw [(hrow.own HL.out).cellAt m (by omega), ← hbm]
    simp [bvals, HL.out, hmL]
  have fm := (hrow.own HL.out).frozenAt m
  have hxo : bits .xor .u8 (bm : Int) (xr : Int) = ((bm ^^^ xr : Nat) : Int) := u8_xor_nat bm xr hbm256 hxr
  have hx256 : bm ^^^ xr < 2 ^ 8 := Nat.xor_lt_two_pow (by omega) (by omega)
  obtain ⟨x, hx⟩ : ∃ x, bm ^^^ xr = x := ⟨_, rfl⟩
  rw [hx] at hxo hx256
  have HRW := Lib.hid (hrow.put HL.out m x)
  have hLb : L ≤ capb := by
    obtain ⟨_, _, e, h, _⟩ := hbr
    simp only [Value.slice.injEq] at e
    have := HL.out
    omega
  have HB3 := Lib.hid ((HB2.out.trans (hb3.mono HB2.out.size)).setCell (p := ⟨gb, m, none⟩) (by have := HB2.out.size; simp only []; omega) (.int .u8 x))
  have HXB : Hid (∀ b ∈ (encodeS o).set m x, b < 256) := Lib.hid (fun b hb => by
    rcases List.mem_or_eq_of_mem_set hb with h | h
    · exact encode_bytes o HCK.out b h
    · subst h; omega)
  have hgz : gb < w3.heap.size := hgb2
  clear hrow hb3 hbr HE HB2 hm hbm hx
  go_wp2_with fail
  have hBG : Below (w3.setCell ⟨gb, m, none⟩ (.int .u8 x)).heap.size (w3.setCell ⟨gb, m, none⟩ (.int .u8 x)) ((w3.setCell ⟨gb, m, none⟩ (.int .u8 x)).alloc (.cells #[.slice A0 n0 cap0, .slice (some ⟨gb, 0, none⟩) L capb] 34)) := (Below.refl _ _).alloc (Nat.le_refl _) _
  have C0 : ((w3.setCell ⟨gb, m, none⟩ (.int .u8 x)).alloc (.cells #[.slice A0 n0 cap0, .slice (some ⟨gb, 0, none⟩) L capb] 34)).cell? ⟨w3.heap.size, 0, none⟩ = some (.slice A0 n0 cap0) := (Two.new (w := w3.setCell ⟨gb, m, none⟩ (.int .u8 x)) (g := w3.heap.size) _ _ _ (by simp)).1
  have C1 : ((w3.setCell ⟨gb, m, none⟩ (.int .u8 x)).alloc (.cells #[.slice A0 n0 cap0, .slice (some ⟨gb, 0, none⟩) L capb] 34)).cell? ⟨w3.heap.size, 1, none⟩ = some (.slice (some ⟨gb, 0, none⟩) L capb) := (Two.new (w := w3.setCell ⟨gb, m, none⟩ (.int .u8 x)) (g := w3.heap.size) _ _ _ (by simp)).2.1
  have R0 := (HB0.out.keep HB3.out).keep hBG
  have R1 := (HRW.out.read HXB.out).keep hBG
  have BW := HB3.out.alloc HB3.out.size (.cells #[.slice A0 n0 cap0, .slice (some ⟨gb, 0, none⟩) L capb] 34)
  have ZG : w3.heap.size < ((w3.setCell ⟨gb, m, none⟩ (.int .u8 x)).alloc (.cells #[.slice A0 n0 cap0, .slice (some ⟨gb, 0, none⟩) L capb] 34)).heap.size := by simp
  obtain ⟨G, hG⟩ : ∃ G, w3.heap.size = G := ⟨_, rfl⟩
  rw [hG] at C0 C1 ZG hgz
  rw [hG]
  generalize (w3.setCell ⟨gb, m, none⟩ (.int .u8 x)).alloc (.cells #[.slice A0 n0 cap0, .slice (some ⟨gb, 0, none⟩) L capb] 34) = W at *
  have HBW := Lib.hid BW
  have HIT : Hid (∀ j, j < 2 → ∃ (X : Option Addr) (N C : Nat) (xb : List Nat), W.cell? ⟨G, j, none⟩ = some (.slice X N C) ∧ BRd W (.slice X N C) xb ∧ (xb ≠ [] → ∀ k, (Value.slice X N C).ownBlock = some k → k < W.heap.size) ∧ xb.length = N) := Lib.hid (by
    intro j hj
    rcases (by omega : j = 0 ∨ j = 1) with rfl | rfl
    · exact ⟨A0, n0, cap0, bs0, C0, R0, fun h k hk => Nat.lt_of_lt_of_le (HL0.out h k hk) BW.size, HN0.out.1.symm⟩
    · exact ⟨_, L, capb, _, C1, R1, fun _ k hk => by simp only [Value.ownBlock, Option.some.injEq] at hk; omega, by rw [List.length_set]; exact HL.out⟩)
  clear hBG C0 C1 R0 R1 BW HRW HB3 HXB HB0 HL0 HN0 cm fm hxo hx256 hG
  have hdn : decide (0 < L) = true := by simp; omega
  rw [hdn]
  go_loopw [45] (fun i wr => ∃ j : Nat, j ≤ 2 ∧ i = .int .i64 j ∧ Hid (Below W.heap.size W wr)) (fun i _ => 2 - (intOf i).toNat)
  case atStart => exact ⟨0, Nat.zero_le _, rfl, Lib.hid (Below.refl _ _)⟩
  case round =>
    obtain ⟨j, hj, rfl, HW⟩ := hrel
    by_cases hj2 : j < 2
    · have hjb : decide ((j : Int) < 2) = true := by simp; omega
      obtain ⟨X, N, C, xb, hcell, hbrd, hown, hxl⟩ := HIT.out j hj2
      replace hcell := (HW.out.cell (p := ⟨G, j, none⟩) ZG).trans hcell
      have hGz : G < wr.heap.size := Nat.lt_of_lt_of_le ZG HW.out.size
      obtain ⟨oo, er, hpar⟩ : ∃ oo er, parseS xb = (oo, er) := ⟨_, _, rfl⟩
      have HP := Lib.hid (ppar_of (.slice X N C) xb wr (hbrd.keep HW.out) (fun h k hk => Nat.lt_of_lt_of_le (hown h k hk) HW.out.size) oo er hpar)
      have HXL := Lib.hid hxl
      have HPAR := Lib.hid hpar
      have HXB : Hid (∀ b ∈ xb, b < 256) := Lib.hid (by obtain ⟨_, _, _, _, _, h, _⟩ := hbrd; exact h)
      obtain ⟨K, hK⟩ : ∃ K, oo.length = K := ⟨_, rfl⟩
      have HK := Lib.hid hK
      rw [hK] at HP
      clear hbrd hown hxl hpar hK
      go_wp2_with fail
      refine HP.out.mono ?_
      rintro e w5 ⟨Ap, capp, rfl, hb5, hord⟩
      have HB5 := Lib.hid (HW.out.trans (hb5.mono HW.out.size))
      have hBa : Below w5.heap.size w5 (w5.alloc (.cells #[.slice Ap K capp] 29)) := (Below.refl _ w5).alloc (Nat.le_refl _) _
      have HB6 := Lib.hid (HB5.out.alloc HB5.out.size (.cells #[.slice Ap K capp] 29))
      have HO6 : Hid (One (w5.alloc (.cells #[.slice Ap K capp] 29)) w5.heap.size (.slice Ap K capp)) := Lib.hid (One.new _ _ rfl)
      have HR6 := Lib.hid (hord.keep hBa)
      clear hcell hb5 hord hBa HP
      by_cases her : er = 0
      · subst her
        obtain ⟨hck, hlen⟩ := parse_ok HXB.out HPAR.out
        have hsmall := parse_small HPAR.out
        rw [HXL.out] at hlen hsmall
        have HE := Lib.hid (penc_ok _ oo _ HR6.out hck)
        obtain ⟨M, hM⟩ : ∃ M, (encodeS oo).length = M := ⟨_, rfl⟩
        rw [hM] at HE hlen
        have HCK2 := Lib.hid hck
        have HM := Lib.hid hM
        clear hck hM
        go_wp2_with fail
        refine HE.out.mono ?_
        rintro e w7 ⟨Ac, capc, rfl, hb7, hrow⟩
        have HP2 := Lib.hid (ppar_of _ (encodeS oo) w7 (hrow.read (encode_bytes oo HCK2.out)) (fun _ k hk => (World.ownsRow.lt hrow k hk).2) oo 0 (parse_encode oo HCK2.out))
        rw [HK.out] at HP2
        have HO7 := Lib.hid (HO6.out.keep hb7)
        have HR7 := Lib.hid (HR6.out.keep hb7)
        have HB7 := Lib.hid (HB6.out.trans (hb7.mono HB6.out.size))
        clear hrow hb7 HE
        go_wp2_with fail
        refine HP2.out.mono ?_
        rintro e w8 ⟨Aq, capq, rfl, hb8, hord8⟩
        have hba : Below w8.heap.size w8 (w8.alloc (.cells #[.slice Aq K capq] 29)) := (Below.refl _ w8).alloc (Nat.le_refl _) _
        have O8 := (HO7.out.keep hb8).alloc (.cells #[.slice Aq K capq] 29)
        have HS := Lib.hid (psame_any (.slice Ap K capp) (.slice Aq K capq) oo oo true (by simp) (w8.alloc (.cells #[.slice Aq K capq] 29)) ((HR7.out.keep hb8).keep hba) (hord8.keep hba) (by have := (checkS_zero HCK2.out).1; omega) (fun c hc => by have h1 := le_flatten oo c hc; have h2 := (checkS_zero HCK2.out).2.1; omega))
        have HB8 := Lib.hid (have h := HB7.out.trans (hb8.mono HB7.out.size); h.alloc h.size (.cells #[.slice Aq K capq] 29))
        have oz := O8.lt
        obtain ⟨oc, of⟩ := O8
        have hcmp : decide ((N : Int) + N < M) = false := by simp; omega
        have hcmp' : (M : Int) ≤ (N : Int) + N := by omega
        have hNs : (N : Int) ≤ 1000 := by omega
        clear hb8 hord8 hba HP2 HR7 HO7 HB7
        go_wp2_with fail
        refine HS.out.mono ?_
        rintro e w9 ⟨rfl, hb9⟩
        have HB9 := Lib.hid (HB8.out.trans (hb9.mono HB8.out.size))
        go_wp2_with fail
        go_roundw
        case rel => exact ⟨j + 1, by omega, by go_num, HB9⟩
        case measure => simp [intOf]; omega
      · have h0 := parse_err HPAR.out her
        have hK0 : K = 0 := by rw [← HK.out, h0]; rfl
        subst hK0
        have her' : ((er : Int) == 0) = false := by simp; omega
        have her'' : ((er : Int) != 0) = true := by simp; omega
        clear h0 her
        obtain ⟨oc, of⟩ := HO6.out
        have oz := HO6.out.lt
        go_wp2_with fail
        go_roundw
        case rel => exact ⟨j + 1, by omega, by go_num, HB6⟩
        case measure => simp [intOf]; omega
    · obtain rfl : j = 2 := by omega
      go_wp2
      go_ret
      exact ⟨rfl, HBW.out.trans (HW.out.mono HBW.out.size)⟩

end Go.Proofs.Ytgkhpnjfpahlgaa
