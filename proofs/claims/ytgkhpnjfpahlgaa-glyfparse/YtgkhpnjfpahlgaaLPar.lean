/-
  What the law's parse of layer 4 does to any world (no claim is made here).
-/
import Derived.Test.YtgkhpnjfpahlgaaLPm
import Derived.Deep.CutRange
namespace Go.Proofs.Ytgkhpnjfpahlgaa
open Go.RowKit

/-- The variables that hold nothing, and what was there ahead of the call. -/
def Non (w wr : World) : Prop := One wr w.heap.size (.slice none 0 0) ∧ One wr (w.heap.size + 1) (.slice none 0 0) ∧ Below w.heap.size w wr
theorem Non.keep {w a b : World} (h : Non w a) (hb : Below (w.heap.size + 2) a b) : Non w b :=
  ⟨⟨(hb.cell (p := ⟨w.heap.size, 0, none⟩) (by simp only []; omega)).trans h.1.1, (hb.frozen (p := ⟨w.heap.size, 0, none⟩) (by simp only []; omega)).trans h.1.2⟩, ⟨(hb.cell (p := ⟨w.heap.size + 1, 0, none⟩) (by simp only []; omega)).trans h.2.1.1, (hb.frozen (p := ⟨w.heap.size + 1, 0, none⟩) (by simp only []; omega)).trans h.2.1.2⟩, h.2.2.trans (hb.mono (by omega))⟩
/-- One step of the flags, of either kind. -/
theorem flags_next (n c f R : Nat) (r rn : List Nat) (hc : c < n) (h : (f / 8 % 2 = 1 ∧ ∃ t, r = t :: rn ∧ R = t + 1) ∨ (¬ f / 8 % 2 = 1 ∧ r = rn ∧ R = 1)) : flagsS n c (f :: r) = if 15 < f ∨ n < c + R then .error 2 else (flagsS n (c + R) rn).map fun p => (List.replicate R (f % 8) ++ p.1, p.2) := by
  rcases h with ⟨h8, t, rfl, rfl⟩ | ⟨h8, rfl, rfl⟩
  · exact flags_rep n c f t rn hc h8
  · exact flags_one n c f r hc h8
/-- Bytes behind the first one. -/
theorem BRd.behind {w : World} {a : Addr} {n cap b : Nat} {r : List Nat} (h : BRd w (.slice (some a) n cap) (b :: r)) : BRd w (.slice (if cap = 1 then some a else some (a.add 1)) (n - 1) (cap - 1)) r ∧ ∀ q, (Value.slice (if cap = 1 then some a else some (a.add 1)) (n - 1) (cap - 1)).ownBlock = some q → (Value.slice (some a) n cap).ownBlock = some q :=
  h.dropO 1 (by simp)
theorem BRd.head {w : World} {A : Option Addr} {n cap b : Nat} {r : List Nat} (h : BRd w (.slice A n cap) (b :: r)) : ∃ a, A = some a ∧ a.block < w.heap.size ∧ w.cell? a = some (.int .u8 b) ∧ n = r.length + 1 ∧ n ≤ cap ∧ cap ≤ maxLen ∧ b < 256 := by
  obtain ⟨A', cap', e, h1, h2, h4, h3⟩ := h
  simp only [Value.slice.injEq] at e
  obtain ⟨rfl, hn, rfl⟩ := e
  obtain ⟨a, ha, hlt, hc⟩ := h3 0 (by simp)
  exact ⟨a, ha, hlt, by simpa [Addr.add] using hc, hn, by omega, h2, h4 b (List.mem_cons_self ..)⟩

/-- Bytes from a place on, up to another. -/
theorem BRd.mid {w : World} {a : Addr} {n cap k : Nat} {b : Nat} {r : List Nat} (h : BRd w (.slice (some a) n cap) (b :: r)) (hk : k ≤ r.length) : BRd w (.slice (if cap = 1 then some a else some (a.add 1)) k (cap - 1)) (r.take k) := by
  obtain ⟨h1, -⟩ := h.dropO 1 (by simp)
  have h2 := BRd.take h1 k (by simpa using hk)
  exact h2

set_option maxRecDepth 100000 in
set_option maxHeartbeats 12000000 in
theorem lparse_any (v : Value) (bs : List Nat) (w : World) (hv : BRd w v bs) (hvl : bs ≠ [] → ∀ k, v.ownBlock = some k → k < w.heap.size) :
    Calls Try.prog 17 #[v] w fun e w' => ∃ (u : Value) (er : Nat), e = .returned (.tuple #[.agg #[u], .int .i64 er]) ∧ Below w.heap.size w w' ∧ er = (parseS bs).2 ∧ ORd w' u (parseS bs).1 := by
  have hB2 : Below w.heap.size w ((w.alloc (.cells #[.slice none 0 0] 29)).alloc (.cells #[.slice none 0 0] 29)) := ((Below.refl _ w).alloc (Nat.le_refl _) _).alloc (by simp) _
  have hO0 : One ((w.alloc (.cells #[.slice none 0 0] 29)).alloc (.cells #[.slice none 0 0] 29)) w.heap.size (.slice none 0 0) := (One.new _ _ rfl).alloc _
  have hO1 : One ((w.alloc (.cells #[.slice none 0 0] 29)).alloc (.cells #[.slice none 0 0] 29)) (w.heap.size + 1) (.slice none 0 0) := One.new _ _ (by simp)
  have HRB := Lib.hid (hv.keep hB2)
  have HB2 := Lib.hid hB2
  have HO0 := Lib.hid hO0
  have HO1 := Lib.hid hO1
  have HVL := Lib.hid hvl
  obtain ⟨res, hres⟩ : ∃ res, parseS bs = res := ⟨_, rfl⟩
  have HRES := Lib.hid hres
  rw [hres]
  obtain ⟨Av, capv, rfl, hcv, hcm, hbb, hce⟩ := hv
  have HBB := Lib.hid hbb
  clear hres hvl hB2 hO0 hO1 hbb
  cases bs with
  | nil =>
    have e : res = ([], 1) := HRES.out.symm
    subst e
    clear hce
    simp only [List.length_nil] at hcv
    go_enter Try.func17, Try.ntmps17
    go_wp2_with fail
    exact bodyPost_ret (v := .tuple #[.agg #[.slice none 0 0], .int .i64 ((1 : Nat) : Int)]) (by simp [results, Try.results17, go_sem]) rfl ⟨_, 1, rfl, HB2.out, rfl, ORd.nil _⟩
  | cons k r =>
    obtain ⟨a, rfl, halt, hca⟩ := hce 0 (by simp)
    have hk256 : k < 256 := HBB.out k (List.mem_cons_self ..)
    have hca' : ((w.alloc (.cells #[.slice none 0 0] 29)).alloc (.cells #[.slice none 0 0] 29)).cell? a = some (.int .u8 k) := (HB2.out.cell (p := a) halt).trans (by simpa [Addr.add] using hca)
    have hza : a.block < ((w.alloc (.cells #[.slice none 0 0] 29)).alloc (.cells #[.slice none 0 0] 29)).heap.size := Nat.lt_of_lt_of_le halt HB2.out.size
    obtain ⟨nv, hnv⟩ : ∃ nv, (k :: r).length = nv := ⟨_, rfl⟩
    have hnr : nv = r.length + 1 := hnv.symm
    rw [hnv] at hcv HRB HVL
    rw [hnv]
    have hkw : IntKind.i64.wrap (k : Int) = k := by rw [IntKind.wrap_i64]; omega
    have HNR := Lib.hid hnr
    have hnz : ((nv : Int) == 0) = false := by simp; omega
    have hn0 : (0 : Int) < nv := by omega
    have hcm2 : (nv : Int) ≤ 9223372036854775807 := by have : maxLen = 9223372036854775807 := rfl; omega
    have hcm3 : capv ≤ 9223372036854775807 := hcm
    clear hca hnv hce
    by_cases hsh : r.length < k
    · have e : res = ([], 1) := HRES.out.symm.trans (parseS_short (k :: r) (.inr hsh))
      subst e
      have hlt : (nv : Int) < 1 + (k : Int) := by omega
      clear hsh hnr
      go_enter Try.func17, Try.ntmps17
      go_wp2_with fail
      exact bodyPost_ret (v := .tuple #[.agg #[.slice none 0 0], .int .i64 ((1 : Nat) : Int)]) (by simp [results, Try.results17, go_sem]) rfl ⟨_, 1, rfl, HB2.out, rfl, ORd.nil _⟩
    · have hge : (1 : Int) + (k : Int) ≤ nv := by omega
      have hgeb : decide ((nv : Int) < 1 + (k : Int)) = false := by simp; omega
      have hkn : 1 + k ≤ nv := by omega
      have HSH : Hid (k ≤ r.length) := Lib.hid (by omega)
      clear hsh hnr
      go_enter Try.func17, Try.ntmps17
      go_upto_region 4 with fail
      generalize (w.alloc (.cells #[.slice none 0 0] 29)).alloc (.cells #[.slice none 0 0] 29) = W at *
      have HBD : Hid (∀ q, (Value.slice (some a) nv capv).ownBlock = some q → q < w.heap.size) := Lib.hid (HVL.out (by simp))
      have HMID := Lib.hid (HRB.out.mid (k := k) HSH.out)
      have HDRP := Lib.hid (HRB.out.dropO (1 + k) (by have := HSH.out; simp; omega))
      have hnk : nv - (1 + k) = r.length - k := by have := HNR.out; omega
      have hcap1 : 1 + k ≤ capv := by omega
      have hkc : k ≤ capv - 1 := by omega
      go_cut [5] (fun s5 wx => s5 = .slice (if capv = 1 then some a else some (a.add 1)) k (capv - 1) ∧ wx = W)
      case first =>
        by_cases hc1 : capv = 1
        · go_wp2_with fail
          all_goals
            go_meet
            exact ⟨by rw [if_pos hc1, hc1, show 1 + k - 1 = k by omega], rfl⟩
        · go_wp2_with fail
          all_goals
            go_meet
            exact ⟨by rw [if_neg hc1, show 1 + k - 1 = k by omega]; rfl, rfl⟩
      case rest =>
        obtain ⟨rfl, hWW⟩ := hcut
        replace hWW := hWW.symm
        subst hWW
        have HML : Hid (∀ q, (Value.slice (if capv = 1 then some a else some (a.add 1)) k (capv - 1)).ownBlock = some q → q < w.heap.size) := Lib.hid (fun q hq => by rw [own_if] at hq; injection hq with hq; omega)
        obtain ⟨A5, hA5⟩ : ∃ A5, (if capv = 1 then some a else some (a.add 1)) = A5 := ⟨_, rfl⟩
        obtain ⟨c5, hc5⟩ : ∃ c5, capv - 1 = c5 := ⟨_, rfl⟩
        rw [hA5, hc5] at HMID HML
        rw [hA5, hc5]
        rw [hc5] at hkc
        clear hA5 hc5
        go_upto_region 5 with fail
        go_cut [0] (fun s0 wx' => s0 = .slice (if capv = 1 + k then some a else Option.map (fun x => x.add (1 + k)) (some a)) (nv - (1 + k)) (capv - (1 + k)) ∧ wx' = W)
        case first =>
          by_cases hc1 : capv = 1 + k
          · go_wp2_with fail
            all_goals
              go_meet
              exact ⟨by rw [if_pos hc1, hc1], rfl⟩
          · go_wp2_with fail
            all_goals
              go_meet
              exact ⟨by rw [if_neg hc1]; rfl, rfl⟩
        case rest =>
          obtain ⟨rfl, hWW⟩ := hcut
          replace hWW := hWW.symm
          subst hWW
          obtain ⟨Ab, hAb⟩ : ∃ Ab, (if capv = 1 + k then some a else Option.map (fun x => x.add (1 + k)) (some a)) = Ab := ⟨_, rfl⟩
          obtain ⟨nb, hnb⟩ : ∃ nb, nv - (1 + k) = nb := ⟨_, rfl⟩
          obtain ⟨cb, hcb⟩ : ∃ cb, capv - (1 + k) = cb := ⟨_, rfl⟩
          rw [hAb, hnb, hcb] at HDRP
          rw [hAb, hnb, hcb]
          have HXB : Hid (BRd W (.slice Ab nb cb) (r.drop k)) := Lib.hid (by have := HDRP.out.1; rwa [Nat.add_comm, List.drop_succ_cons] at this)
          have HXL : Hid (∀ q, (Value.slice Ab nb cb).ownBlock = some q → q < w.heap.size) := Lib.hid (fun q hq => HBD.out q (HDRP.out.2 q hq))
          have HP0 := Lib.hid (HRES.out.symm)
          obtain ⟨ss, hss⟩ : ∃ ss, r.take k = ss := ⟨_, rfl⟩
          obtain ⟨X, hX⟩ : ∃ X, r.drop k = X := ⟨_, rfl⟩
          have hsl : ss.length = k := by rw [← hss, List.length_take]; have := HSH.out; omega
          have HLIM : Hid (64 < ss.sum ∨ 8 < k → res = ([], 3)) := Lib.hid (fun h => HP0.out.trans (parseS_limit (k :: r) (by simp) HSH.out (by rw [← hss] at h; exact h)))
          have HRST : Hid (¬ (64 < ss.sum ∨ 8 < k) → res = parseT ss X) := Lib.hid (fun h => by
            have h1 := parseS_rest (k :: r) (by simp) HSH.out (by rw [← hss] at h; exact h)
            rw [HP0.out, h1, ← hss, ← hX]
            rfl)
          rw [hss] at HMID
          rw [hX] at HXB
          have HSL := Lib.hid hsl
          have HSB : Hid (∀ x ∈ ss, x < 256) := Lib.hid (by obtain ⟨_, _, _, _, _, h, _⟩ := HMID.out; exact h)
          clear hAb hnb hcb HDRP HBD HRB hss hX hsl HP0 HRES hca' hza halt hcv hn0 hnz hge hgeb hkn hnk hcap1 HVL HBB hcm2 hcm3 hcm HNR HSH
          go_wp2_with fail
          go_loopw [53, 6] (fun i p wr => ∃ (j sm : Nat), j ≤ k ∧ i = .int .i64 j ∧ p = .int .i64 sm ∧ Hid ((ss.take j).sum = sm) ∧ sm ≤ 255 * j ∧ wr = W) (fun i _ _ => k - (intOf i).toNat)
          case atStart => exact ⟨0, 0, Nat.zero_le _, rfl, rfl, Lib.hid rfl, Nat.le_refl _, rfl⟩
          case round =>
            obtain ⟨j, sm, hj, rfl, rfl, HSM, hsm, rfl⟩ := hrel
            by_cases hjk : j < k
            · have hjb : decide ((j : Int) < k) = true := by simp; omega
              obtain ⟨A', c', e, hcc, _, _, h3⟩ := HMID.out
              obtain ⟨a5, ha5, hlt5, hc5⟩ := h3 j (by rw [HSL.out]; exact hjk)
              simp only [Value.slice.injEq] at e
              obtain ⟨rfl, -, rfl⟩ := e
              subst ha5
              obtain ⟨x, hx⟩ : ∃ x, ss[j]'(by rw [HSL.out]; exact hjk) = x := ⟨_, rfl⟩
              rw [hx] at hc5
              have hx256 : x < 256 := HSB.out x (by rw [← hx]; exact List.getElem_mem _)
              have hxw : IntKind.i64.wrap (x : Int) = x := by rw [IntKind.wrap_i64]; omega
              have HSM' : Hid ((ss.take (j + 1)).sum = sm + x) := Lib.hid (by rw [sum_take_step ss j x (by rw [← hx]; exact List.getElem?_eq_getElem _), HSM.out])
              clear h3 hx
              go_wp2_with fail
              exact ⟨⟨j + 1, sm + x, by omega, by go_num, by go_num, HSM', by omega, trivial⟩, by simp [intOf]; omega⟩
            · obtain rfl : j = k := by omega
              have HS' : Hid (ss.sum = sm) := Lib.hid (by have := HSM.out; rwa [List.take_of_length_le (by rw [HSL.out]; omega)] at this)
              clear HSM
              by_cases hbig : 64 < sm ∨ 8 < j
              · have e : res = ([], 3) := HLIM.out (by rw [HS'.out]; exact hbig)
                subst e
                obtain ⟨oc0, of0⟩ := HO0.out
                obtain ⟨oc1, of1⟩ := HO1.out
                have oz0 := HO0.out.lt
                have oz1 := HO1.out.lt
                by_cases h1 : 64 < sm
                · have h1' : (64 : Int) < sm := by omega
                  clear hbig HLIM HRST
                  go_wp2_with fail
                  obtain ⟨c1, b1⟩ := one_set HO0.out (.slice none 0 0) HB2.out
                  exact bodyPost_ret (v := .tuple #[.agg #[.slice none 0 0], .int .i64 ((3 : Nat) : Int)]) (by simp [results, Try.results17, go_sem, c1]) rfl ⟨_, 3, rfl, b1, rfl, ORd.nil _⟩
                · have h1' : (sm : Int) ≤ 64 := by omega
                  have h2' : (8 : Int) < j := by omega
                  clear hbig HLIM HRST
                  go_wp2_with fail
                  obtain ⟨c1, b1⟩ := one_set HO0.out (.slice none 0 0) HB2.out
                  exact bodyPost_ret (v := .tuple #[.agg #[.slice none 0 0], .int .i64 ((3 : Nat) : Int)]) (by simp [results, Try.results17, go_sem, c1]) rfl ⟨_, 3, rfl, b1, rfl, ORd.nil _⟩
              · have h1' : (sm : Int) ≤ 64 := by omega
                have h2' : (j : Int) ≤ 8 := by omega
                have HRT := Lib.hid (HRST.out (by rw [HS'.out]; exact hbig))
                clear HLIM HRST hbig
                have HNO0 : Hid (Non w wr) := Lib.hid ⟨HO0.out, HO1.out, HB2.out⟩
                have hz0 : w.heap.size + 2 ≤ wr.heap.size := by have := HO1.out.lt; omega
                clear HO0 HO1 HB2 hsm
                obtain ⟨W, rfl⟩ : ∃ W, W = wr := ⟨_, rfl⟩
                have hnl0 : X.length = nb := by
                  obtain ⟨_, _, e, _⟩ := HXB.out
                  simp only [Value.slice.injEq] at e
                  exact e.2.1.symm
                go_wp2_with fail
                go_loopw [9, 0] (fun s9 s0 wr => ∃ (cur rst : List Nat) (A : Option Addr) (nc cc : Nat), s0 = .slice A nc cc ∧ Hid (BRd wr (.slice A nc cc) rst) ∧ Hid (∀ q, (Value.slice A nc cc).ownBlock = some q → q < w.heap.size) ∧ cur.length ≤ sm ∧ Hid (flagsS sm 0 X = (flagsS sm cur.length rst).map (fun p => (cur.map (· % 8) ++ p.1, p.2))) ∧ Hid (∀ f ∈ cur, f < 16) ∧ Hid (BRow wr (w.heap.size + 2) s9 cur) ∧ Hid (Non w wr) ∧ w.heap.size + 2 ≤ wr.heap.size ∧ Hid (Below (w.heap.size + 2) W wr)) (fun s9 _ _ => sm - lenV s9)
                case atStart => exact ⟨[], X, Ab, nb, cb, rfl, HXB, HXL, Nat.zero_le _, Lib.hid (by cases flagsS sm 0 X <;> rfl), Lib.hid (fun _ h => nomatch h), Lib.hid (BRow.nil _ _), HNO0, hz0, Lib.hid (Below.refl _ _)⟩
                case round =>
                  clear HXB HXL HNO0 hz0 hnl0
                  obtain ⟨cur, rst, Ac, nc, cc, rfl, HXB, HXL1, hcl, HF, H16, HFV, HNO, hzw, HBW⟩ := hrel
                  obtain ⟨c, hc⟩ : ∃ c, cur.length = c := ⟨_, rfl⟩
                  have HC := Lib.hid hc
                  obtain ⟨Af, capf, rfl⟩ := own_form (HFV.out.own hc)
                  have HFO := Lib.hid (HFV.out.own hc)
                  rw [hc] at hcl HF
                  clear hc
                  by_cases hcn : c < sm
                  · have hcb : decide ((c : Int) < sm) = true := by simp; omega
                    obtain ⟨⟨oc0, of0⟩, ⟨oc1, of1⟩, -⟩ := HNO.out
                    have oz0 := HNO.out.1.lt
                    have oz1 := HNO.out.2.1.lt
                    cases rst with
                    | nil =>
                      have e : res = ([], 1) := by rw [HRT.out]; exact parseT_flags ss X 1 (by rw [HS'.out, HF.out, flagsS_nil sm c hcn]; rfl)
                      have hn0 : nc = 0 := by
                        obtain ⟨_, _, e, _⟩ := HXB.out
                        simp only [Value.slice.injEq] at e
                        exact e.2.1
                      subst e
                      subst hn0
                      clear HRT HF
                      go_wp2_with fail
                      obtain ⟨c1, b1⟩ := one_set HNO.out.1 (.slice none 0 0) HNO.out.2.2
                      exact bodyPost_ret (v := .tuple #[.agg #[.slice none 0 0], .int .i64 ((1 : Nat) : Int)]) (by simp [results, Try.results17, go_sem, c1]) rfl ⟨_, 1, rfl, b1, rfl, ORd.nil _⟩
                    | cons f rst =>
                      obtain ⟨a, rfl, haz, hca, hnc, hncc, hccm, hf⟩ := HXB.out.head
                      have HBH := Lib.hid HXB.out.behind
                      have hand := and_pow f 3 hf (by omega)
                      have hnz : ((nc : Int) == 0) = false := by simp; omega
                      have hn0 : (0 : Int) < nc := by omega
                      have HNC := Lib.hid hnc
                      by_cases h8 : f / 8 % 2 = 1
                      · as_aux_lemma =>
                        have hand' : bits BinOp.and IntKind.u8 (f : Int) 8 = 8 := by have := hand; rw [if_pos h8] at this; exact this
                        clear hand
                        cases rst with
                        | nil =>
                          have e : res = ([], 1) := by rw [HRT.out]; exact parseT_flags ss X 1 (by rw [HS'.out, HF.out, (flags_after sm c f hcn).2 h8]; rfl)
                          have hn1 : nc = 1 := hnc
                          clear hnc
                          subst e
                          subst hn1
                          clear HRT HF
                          go_wp2_with fail
                          obtain ⟨c1, b1⟩ := one_set HNO.out.1 (.slice none 0 0) HNO.out.2.2
                          exact bodyPost_ret (v := .tuple #[.agg #[.slice none 0 0], .int .i64 ((1 : Nat) : Int)]) (by simp [results, Try.results17, go_sem, c1]) rfl ⟨_, 1, rfl, b1, rfl, ORd.nil _⟩
                        | cons t rst =>
                          have hn2 : (2 : Int) ≤ nc := by rw [hnc, List.length_cons]; omega
                          have hn2b : decide ((nc : Int) < 2) = false := by simp; omega
                          clear hnc
                          go_upto_region 19 with fail
                          go_cut [0] from 70 to 124 (fun s0 wx => ∃ (A1 : Option Addr) (c1 : Nat), s0 = .slice A1 (nc - 1) c1 ∧ Hid (BRd wr (.slice A1 (nc - 1) c1) (t :: rst)) ∧ Hid (∀ q, (Value.slice A1 (nc - 1) c1).ownBlock = some q → q < w.heap.size) ∧ wx = wr)
                          case first =>
                            by_cases hc1 : cc = 1
                            · go_wp2_with fail
                              all_goals
                                go_meet
                                exact ⟨some a, 0, rfl, Lib.hid (by have := HBH.out.1; rwa [if_pos hc1, hc1] at this), Lib.hid (fun q hq => HXL1.out q hq), rfl⟩
                            · go_wp2_with fail
                              all_goals
                                go_meet
                                exact ⟨some (a.add 1), cc - 1, rfl, Lib.hid (by have := HBH.out.1; rwa [if_neg hc1] at this), Lib.hid (fun q hq => HXL1.out q (HBH.out.2 q (by rw [if_neg hc1]; exact hq))), rfl⟩
                          case rest =>
                            obtain ⟨A1, cb1, rfl, HB1, HL1, hWW⟩ := hcut
                            replace hWW := hWW.symm
                            subst hWW
                            obtain ⟨a1, rfl, ha1z, hca1, hnc1, hncc1, hccm1, ht⟩ := HB1.out.head
                            have HBH1 := Lib.hid HB1.out.behind
                            have htw : IntKind.i64.wrap (t : Int) = t := by rw [IntKind.wrap_i64]; omega
                            have hn1p : (0 : Int) < ((nc - 1 : Nat) : Int) := by omega
                            obtain ⟨n1, hn1e⟩ : ∃ n1, nc - 1 = n1 := ⟨_, rfl⟩
                            rw [hn1e] at HB1 HL1 HBH1 hnc1 hncc1 hn1p
                            rw [hn1e]
                            obtain ⟨R, hR⟩ : ∃ R : Nat, t + 1 = R := ⟨_, rfl⟩
                            have hRI : (1 : Int) + (t : Int) = R := by omega
                            have hR1 : 1 ≤ R := by omega
                            have hR2 : R ≤ 256 := by omega
                            have HSTP := Lib.hid (flags_next sm c f R (t :: rst) rst hcn (.inl ⟨h8, t, rfl, hR.symm⟩))
                            clear hR hn1e hnc1
                            go_upto_if 97 with fail
                            go_cut [11, 0] from 70 to 124 (fun s11 s0 wx => s11 = .int .i64 R ∧ ∃ (A2 : Option Addr) (n2 c2 : Nat), s0 = .slice A2 n2 c2 ∧ Hid (BRd wr (.slice A2 n2 c2) rst) ∧ Hid (∀ q, (Value.slice A2 n2 c2).ownBlock = some q → q < w.heap.size) ∧ wx = wr)
                            case first =>
                              by_cases hc2 : cb1 = 1
                              · go_wp2_with fail
                                all_goals
                                  go_meet
                                  exact ⟨by go_num, some a1, _, 0, rfl, Lib.hid (by have := HBH1.out.1; rwa [if_pos hc2, hc2] at this), Lib.hid (fun q hq => HL1.out q hq), rfl⟩
                              · go_wp2_with fail
                                all_goals
                                  go_meet
                                  exact ⟨by go_num, some (a1.add 1), _, cb1 - 1, rfl, Lib.hid (by have := HBH1.out.1; rwa [if_neg hc2] at this), Lib.hid (fun q hq => HL1.out q (HBH1.out.2 q (by rw [if_neg hc2]; exact hq))), rfl⟩
                            case rest =>
                              obtain ⟨rfl, A2, n2, c2, rfl, HB2', HL2, hWW⟩ := hcut
                              replace hWW := hWW.symm
                              subst hWW
                              by_cases hbad : 15 < f ∨ sm < c + R
                              · have e : res = ([], 2) := by rw [HRT.out]; exact parseT_flags ss X 2 (by rw [HS'.out, HF.out, HSTP.out, if_pos hbad]; rfl)
                                subst e
                                clear HRT HF HSTP
                                by_cases h16 : 15 < f
                                · have h16' : (15 : Int) < f := by omega
                                  clear hbad
                                  go_wp2_with fail
                                  obtain ⟨c1, b1⟩ := one_set HNO.out.1 (.slice none 0 0) HNO.out.2.2
                                  exact bodyPost_ret (v := .tuple #[.agg #[.slice none 0 0], .int .i64 ((2 : Nat) : Int)]) (by simp [results, Try.results17, go_sem, c1]) rfl ⟨_, 2, rfl, b1, rfl, ORd.nil _⟩
                                · have h16' : (f : Int) ≤ 15 := by omega
                                  have hover : (sm : Int) < (c : Int) + (R : Int) := by omega
                                  clear hbad
                                  go_wp2_with fail
                                  obtain ⟨c1, b1⟩ := one_set HNO.out.1 (.slice none 0 0) HNO.out.2.2
                                  exact bodyPost_ret (v := .tuple #[.agg #[.slice none 0 0], .int .i64 ((2 : Nat) : Int)]) (by simp [results, Try.results17, go_sem, c1]) rfl ⟨_, 2, rfl, b1, rfl, ORd.nil _⟩
                              · have h16' : (f : Int) ≤ 15 := by omega
                                have hover : (c : Int) + (R : Int) ≤ sm := by omega
                                have hfit : c + R ≤ sm := by omega
                                have hf16 : f < 16 := by omega
                                have HSTP' := Lib.hid (HSTP.out.trans (if_neg hbad))
                                have HF' : Hid (flagsS sm 0 X = (flagsS sm (c + R) rst).map (fun p => ((cur ++ List.replicate R f).map (· % 8) ++ p.1, p.2))) := Lib.hid (by
                                  rw [HF.out, HSTP'.out, exMap_map]
                                  congr 1
                                  funext p
                                  simp)
                                obtain ⟨i0, hi0, hz0', hz1', hz2'⟩ := infos binfo
                                clear hbad HSTP HSTP' HF
                                obtain ⟨wi, rfl⟩ : ∃ wi, wi = wr := ⟨_, rfl⟩
                                go_wp2_with fail
                                go_loopw [12, 9] (fun s12 s9 wr => ∃ i : Nat, i ≤ R ∧ s12 = .int .i64 i ∧ Hid (BRow wr (w.heap.size + 2) s9 (cur ++ List.replicate i f)) ∧ Hid (Below (w.heap.size + 2) wi wr)) (fun s12 _ _ => R - (intOf s12).toNat)
                                case atStart => exact ⟨0, Nat.zero_le _, rfl, Lib.hid (by rw [List.replicate_zero, List.append_nil]; exact HFV.out), Lib.hid (Below.refl _ _)⟩
                                case round =>
                                  obtain ⟨i, hi, rfl, HFV3, HW3⟩ := hrel
                                  have hl3 : (cur ++ List.replicate i f).length = c + i := by rw [List.length_append, HC.out, List.length_replicate]
                                  have HO3 := Lib.hid (HFV3.out.own hl3)
                                  obtain ⟨Ag, capg, rfl⟩ := own_form HO3.out
                                  have hzr : w.heap.size + 2 ≤ wr.heap.size := Nat.le_trans hzw HW3.out.size
                                  by_cases hiR : i < R
                                  · have hib : decide ((i : Int) < R) = true := by simp; omega
                                    have hnb3 : (wr.alloc (.cells #[.int .u8 f] 5)).heap[wr.heap.size]? = some (.cells #[.int .u8 f] 5 (0, 0)) := heap_alloc_new _ _
                                    have HNB := Lib.hid hnb3
                                    have HL3 := Lib.hid hl3
                                    clear hnb3 hl3
                                    go_wp2_with (at_builtin; refine wpList_append_lies _ rfl _ _ _ (by rfl) (w.heap.size + 2) 5 i0 _ 1 1 Try.underlying34 hi0 hz0' hz1' hz2' (by rfl) (by omega) _ (c + i) _ (by rfl) (HO3.out.alloc _) ⟨wr.heap.size, 0, none⟩ 1 1 [.int .u8 f] (by rfl) (by rfl) (World.news_of_block HNB.out) (by simp [Value.oneCell']) (by omega) (by simp [maxLen]; omega) (by omega) (by simp; omega) (wr.heap.size + 1) (by simp) ?_; intro gq cp w4 hown hgrow hat hlt)
                                    have UN : BRow w4 (w.heap.size + 2) (.slice (some ⟨gq, 0, none⟩) (c + i + 1) cp) (cur ++ List.replicate (i + 1) f) := by
                                      have e : cur ++ List.replicate (i + 1) f = (cur ++ List.replicate i f) ++ [f] := by rw [List.append_assoc, ← List.replicate_succ']
                                      rw [e]
                                      unfold BRow
                                      rw [bvals_append, List.length_append, HL3.out]
                                      exact hown
                                    have BN := (HW3.out.alloc hzr (.cells #[.int .u8 f] 5)).grown hgrow (by simp; omega) (fun q hq => (HO3.out.lt q hq).1)
                                    exact ⟨⟨i + 1, by omega, by go_num, Lib.hid UN, Lib.hid BN⟩, by simp [intOf]; omega⟩
                                  · obtain rfl : i = R := by omega
                                    have BB := HBW.out.trans HW3.out
                                    go_wp2_with fail
                                    exact ⟨⟨cur ++ List.replicate i f, rst, A2, n2, c2, rfl, Lib.hid (HB2'.out.blocks HW3.out.size (fun q hq _ => HW3.out.block q (by have := HL2.out q hq; omega))), HL2, by rw [hl3]; omega, Lib.hid (by rw [hl3]; exact HF'.out), Lib.hid (fun x hx => (List.mem_append.1 hx).elim (H16.out x) (fun h => by rw [List.eq_of_mem_replicate h]; exact hf16)), HFV3, Lib.hid (HNO.out.keep HW3.out), hzr, Lib.hid BB⟩, by show sm - (c + i) < sm - c; omega⟩
                      · as_aux_lemma =>
                        have hand' : bits BinOp.and IntKind.u8 (f : Int) 8 = 0 := by have := hand; rw [if_neg h8] at this; exact this
                        clear hand hnc
                        go_upto_region 19 with fail
                        go_cut [0] from 70 to 124 (fun s0 wx => ∃ (A1 : Option Addr) (c1 : Nat), s0 = .slice A1 (nc - 1) c1 ∧ Hid (BRd wr (.slice A1 (nc - 1) c1) rst) ∧ Hid (∀ q, (Value.slice A1 (nc - 1) c1).ownBlock = some q → q < w.heap.size) ∧ wx = wr)
                        case first =>
                          by_cases hc1 : cc = 1
                          · go_wp2_with fail
                            all_goals
                              go_meet
                              exact ⟨some a, 0, rfl, Lib.hid (by have := HBH.out.1; rwa [if_pos hc1, hc1] at this), Lib.hid (fun q hq => HXL1.out q hq), rfl⟩
                          · go_wp2_with fail
                            all_goals
                              go_meet
                              exact ⟨some (a.add 1), cc - 1, rfl, Lib.hid (by have := HBH.out.1; rwa [if_neg hc1] at this), Lib.hid (fun q hq => HXL1.out q (HBH.out.2 q (by rw [if_neg hc1]; exact hq))), rfl⟩
                        case rest =>
                          obtain ⟨A1, cb1, rfl, HB1, HL1, hWW⟩ := hcut
                          replace hWW := hWW.symm
                          subst hWW
                          obtain ⟨n2, hn2e⟩ : ∃ n2, nc - 1 = n2 := ⟨_, rfl⟩
                          rw [hn2e] at HB1 HL1
                          rw [hn2e]
                          obtain ⟨A2, rfl⟩ : ∃ A2, A2 = A1 := ⟨_, rfl⟩
                          obtain ⟨c2, rfl⟩ : ∃ c2, c2 = cb1 := ⟨_, rfl⟩
                          have HB2' := HB1
                          have HL2 := HL1
                          have HSTP := Lib.hid (flags_next sm c f 1 rst rst hcn (.inr ⟨h8, rfl, rfl⟩))
                          clear hn2e
                          by_cases hbad : 15 < f ∨ sm < c + 1
                          · have e : res = ([], 2) := by rw [HRT.out]; exact parseT_flags ss X 2 (by rw [HS'.out, HF.out, HSTP.out, if_pos hbad]; rfl)
                            subst e
                            clear HRT HF HSTP
                            by_cases h16 : 15 < f
                            · have h16' : (15 : Int) < f := by omega
                              clear hbad
                              go_wp2_with fail
                              obtain ⟨c1, b1⟩ := one_set HNO.out.1 (.slice none 0 0) HNO.out.2.2
                              exact bodyPost_ret (v := .tuple #[.agg #[.slice none 0 0], .int .i64 ((2 : Nat) : Int)]) (by simp [results, Try.results17, go_sem, c1]) rfl ⟨_, 2, rfl, b1, rfl, ORd.nil _⟩
                            · exfalso
                              omega
                          · have h16' : (f : Int) ≤ 15 := by omega
                            have hover : (c : Int) + (1 : Int) ≤ sm := by omega
                            have hfit : c + 1 ≤ sm := by omega
                            have hf16 : f < 16 := by omega
                            have HSTP' := Lib.hid (HSTP.out.trans (if_neg hbad))
                            have HF' : Hid (flagsS sm 0 X = (flagsS sm (c + 1) rst).map (fun p => ((cur ++ List.replicate 1 f).map (· % 8) ++ p.1, p.2))) := Lib.hid (by
                              rw [HF.out, HSTP'.out, exMap_map]
                              congr 1
                              funext p
                              simp)
                            obtain ⟨i0, hi0, hz0', hz1', hz2'⟩ := infos binfo
                            clear hbad HSTP HSTP' HF
                            obtain ⟨wi, rfl⟩ : ∃ wi, wi = wr := ⟨_, rfl⟩
                            go_wp2_with fail
                            go_loopw [12, 9] (fun s12 s9 wr => ∃ i : Nat, i ≤ 1 ∧ s12 = .int .i64 i ∧ Hid (BRow wr (w.heap.size + 2) s9 (cur ++ List.replicate i f)) ∧ Hid (Below (w.heap.size + 2) wi wr)) (fun s12 _ _ => 1 - (intOf s12).toNat)
                            case atStart => exact ⟨0, Nat.zero_le _, rfl, Lib.hid (by rw [List.replicate_zero, List.append_nil]; exact HFV.out), Lib.hid (Below.refl _ _)⟩
                            case round =>
                              obtain ⟨i, hi, rfl, HFV3, HW3⟩ := hrel
                              have hl3 : (cur ++ List.replicate i f).length = c + i := by rw [List.length_append, HC.out, List.length_replicate]
                              have HO3 := Lib.hid (HFV3.out.own hl3)
                              obtain ⟨Ag, capg, rfl⟩ := own_form HO3.out
                              have hzr : w.heap.size + 2 ≤ wr.heap.size := Nat.le_trans hzw HW3.out.size
                              by_cases hi1 : i < 1
                              · have hib : decide ((i : Int) < 1) = true := by simp; omega
                                have hnb3 : (wr.alloc (.cells #[.int .u8 f] 5)).heap[wr.heap.size]? = some (.cells #[.int .u8 f] 5 (0, 0)) := heap_alloc_new _ _
                                have HNB := Lib.hid hnb3
                                have HL3 := Lib.hid hl3
                                clear hnb3 hl3
                                go_wp2_with (at_builtin; refine wpList_append_lies _ rfl _ _ _ (by rfl) (w.heap.size + 2) 5 i0 _ 1 1 Try.underlying34 hi0 hz0' hz1' hz2' (by rfl) (by omega) _ (c + i) _ (by rfl) (HO3.out.alloc _) ⟨wr.heap.size, 0, none⟩ 1 1 [.int .u8 f] (by rfl) (by rfl) (World.news_of_block HNB.out) (by simp [Value.oneCell']) (by omega) (by simp [maxLen]; omega) (by omega) (by simp; omega) (wr.heap.size + 1) (by simp) ?_; intro gq cp w4 hown hgrow hat hlt)
                                have UN : BRow w4 (w.heap.size + 2) (.slice (some ⟨gq, 0, none⟩) (c + i + 1) cp) (cur ++ List.replicate (i + 1) f) := by
                                  have e : cur ++ List.replicate (i + 1) f = (cur ++ List.replicate i f) ++ [f] := by rw [List.append_assoc, ← List.replicate_succ']
                                  rw [e]
                                  unfold BRow
                                  rw [bvals_append, List.length_append, HL3.out]
                                  exact hown
                                have BN := (HW3.out.alloc hzr (.cells #[.int .u8 f] 5)).grown hgrow (by simp; omega) (fun q hq => (HO3.out.lt q hq).1)
                                exact ⟨⟨i + 1, by omega, by go_num, Lib.hid UN, Lib.hid BN⟩, by simp [intOf]; omega⟩
                              · obtain rfl : i = 1 := by omega
                                have BB := HBW.out.trans HW3.out
                                go_wp2_with fail
                                exact ⟨⟨cur ++ List.replicate 1 f, rst, A2, n2, c2, rfl, Lib.hid (HB2'.out.blocks HW3.out.size (fun q hq _ => HW3.out.block q (by have := HL2.out q hq; omega))), HL2, by rw [hl3]; omega, Lib.hid (by rw [hl3]; exact HF'.out), Lib.hid (fun x hx => (List.mem_append.1 hx).elim (H16.out x) (fun h => by rw [List.eq_of_mem_replicate h]; exact hf16)), HFV3, Lib.hid (HNO.out.keep HW3.out), hzr, Lib.hid BB⟩, by show sm - (c + 1) < sm - c; omega⟩
                  · obtain rfl : c = sm := by omega
                    have HOK : Hid (flagsS c 0 X = .ok (cur.map (· % 8), rst)) := Lib.hid (by rw [HF.out, flagsS_done c c (Nat.le_refl _)]; simp [Except.map])
                    have HNC : Hid (rst.length = nc) := Lib.hid (by
                      obtain ⟨_, _, e, _⟩ := HXB.out
                      simp only [Value.slice.injEq] at e
                      exact e.2.1.symm)
                    have HBX : Hid (Below (w.heap.size + 2) W wr) := HBW
                    have HMD : Hid (BRd wr (.slice A5 j c5) ss) := Lib.hid (HMID.out.blocks HBW.out.size (fun q hq _ => HBW.out.block q (by have := HML.out q hq; omega)))
                    have HFR : Hid (BRd wr (.slice Af c capf) cur) := Lib.hid (HFV.out.read (fun b hb => by have := H16.out b hb; omega))
                    have HFB : Hid (∀ q, (Value.slice Af c capf).ownBlock = some q → w.heap.size + 2 ≤ q ∧ q < wr.heap.size) := Lib.hid (HFO.out.lt)
                    clear HF HMID HBW HFV HFO
                    go_wp2_with fail
                    obtain ⟨gA, hgA⟩ : ∃ gA, wr.heap.size = gA := ⟨_, rfl⟩
                    have hal : Below wr.heap.size wr ((wr.alloc (.cells #[.int .i64 0, .int .i64 0] 70)).alloc (.cells #[.slice none 0 0] 29)) := ((Below.refl _ wr).alloc (Nat.le_refl _) _).alloc (by simp) _
                    have HTA : Hid (Two ((wr.alloc (.cells #[.int .i64 0, .int .i64 0] 70)).alloc (.cells #[.slice none 0 0] 29)) gA (.int .i64 0) (.int .i64 0)) := Lib.hid ((Two.new _ _ _ hgA.symm).alloc _)
                    have HOO : Hid (One ((wr.alloc (.cells #[.int .i64 0, .int .i64 0] 70)).alloc (.cells #[.slice none 0 0] 29)) (gA + 1) (.slice none 0 0)) := Lib.hid (One.new _ _ (by simp [hgA]))
                    have HMD4 := Lib.hid (HMD.out.keep hal)
                    have HFR4 := Lib.hid (HFR.out.keep hal)
                    have HXB4 := Lib.hid (HXB.out.keep hal)
                    have HNO4 := Lib.hid (HNO.out.keep (hal.mono hzw))
                    have hz4 : gA + 2 ≤ ((wr.alloc (.cells #[.int .i64 0, .int .i64 0] 70)).alloc (.cells #[.slice none 0 0] 29)).heap.size := by simp [hgA]
                    rw [hgA] at HFB hzw
                    rw [hgA]
                    generalize (wr.alloc (.cells #[.int .i64 0, .int .i64 0] 70)).alloc (.cells #[.slice none 0 0] 29) = W4 at *
                    have HFR5 : Hid (BRd W4 (.slice Af (c - 0) capf) (cur.drop 0)) := HFR4
                    have HPS0 : Hid (PS cur rst 0 ([] : List (List Vtx)).flatten 0 0 rst false) := Lib.hid (.inl ⟨rfl, rfl, rfl⟩)
                    clear hal HMD HFR HXB HNO HBX HFR4 hgA
                    go_loopw [128, 9, 0] (fun i s9 s0 wr => ∃ (kk cx fc nc cc : Nat) (fA A : Option Addr) (rest : List Nat) (os : List (List Vtx)) (us : List Value) (ov : Value) (x y : Int),
                      kk ≤ j ∧ i = .int .i64 kk ∧ s9 = .slice fA (c - cx) fc ∧ s0 = .slice A nc cc ∧ cx ≤ c ∧ Hid ((ss.take kk).sum = cx) ∧ Hid (BRd W4 (.slice fA (c - cx) fc) (cur.drop cx)) ∧ Hid (∀ q, (Value.slice fA (c - cx) fc).ownBlock = some q → q < gA) ∧ Hid (BRd W4 (.slice A nc cc) rest) ∧ Hid (∀ q, (Value.slice A nc cc).ownBlock = some q → q < gA) ∧ Hid (Two wr gA (.int .i64 x) (.int .i64 y)) ∧ Hid (One wr (gA + 1) ov) ∧ Hid (ORows wr (gA + 2) ov us os) ∧ Hid (os.map List.length = ss.take kk) ∧ Hid (PS cur rst cx os.flatten x y rest false) ∧ (-32768 * (cx : Int) ≤ x ∧ x ≤ 32768 * (cx : Int)) ∧ (-32768 * (cx : Int) ≤ y ∧ y ≤ 32768 * (cx : Int)) ∧ gA + 2 ≤ wr.heap.size ∧ Hid (Below gA W4 wr)) (fun i _ _ _ => j - (intOf i).toNat)
                    case atStart => exact ⟨0, 0, capf, nc, cc, Af, Ac, rst, [], [], _, 0, 0, Nat.zero_le _, rfl, rfl, rfl, Nat.zero_le _, Lib.hid rfl, HFR5, Lib.hid (fun q hq => (HFB.out q hq).2), HXB4, Lib.hid (fun q hq => by have := HXL1.out q hq; omega), HTA, HOO, Lib.hid (ORows.nil _ _), Lib.hid rfl, HPS0, by omega, by omega, hz4, Lib.hid (Below.refl _ _)⟩
                    case round =>
                      clear HTA HOO HFR5 HXB4 HPS0
                      obtain ⟨kk, cx, fc, nd, cd, fA, Ad, rest, os, us, ov, x, y, hkk, rfl, rfl, rfl, hcx, HCX, HFX, HFL, HBD4, HBL, HTW, HON, HOR, HOL, HPS, hxb, hyb, hzr, HBW⟩ := hrel
                      by_cases hkj : kk < j
                      · have hkb : decide ((kk : Int) < j) = true := by simp; omega
                        obtain ⟨A', c', e, hcc5, _, _, h3⟩ := HMD4.out
                        obtain ⟨a5, ha5, hlt5, hc5⟩ := h3 kk (by rw [HSL.out]; exact hkj)
                        simp only [Value.slice.injEq] at e
                        obtain ⟨rfl, -, rfl⟩ := e
                        subst ha5
                        obtain ⟨sz, hsz⟩ : ∃ sz, ss[kk]'(by rw [HSL.out]; exact hkj) = sz := ⟨_, rfl⟩
                        rw [hsz] at hc5
                        have HSZ : Hid (ss[kk]? = some sz) := Lib.hid (by rw [← hsz]; exact List.getElem?_eq_getElem _)
                        have hsz256 : sz < 256 := HSB.out sz (by rw [← hsz]; exact List.getElem_mem _)
                        have h5b := HML.out a5.block rfl
                        replace hc5 := (HBW.out.cell (p := a5.add kk) (by rw [block_add]; omega)).trans hc5
                        have hz5 : a5.block < wr.heap.size := by omega
                        have hcs : cx + sz ≤ c := by
                          have h1 := sum_take_step ss kk sz HSZ.out
                          have h2 := sum_take_le ss (kk + 1)
                          have h4 := HCX.out
                          have h5 := HS'.out
                          omega
                        have hfcap : c - cx ≤ fc := by
                          obtain ⟨_, _, e, h1, _⟩ := HFX.out
                          simp only [Value.slice.injEq] at e
                          omega
                        have hsf : (sz : Int) ≤ fc := by omega
                        clear h3 hsz
                        go_wp2_with fail
                        obtain ⟨wi, rfl⟩ : ∃ wi, wi = wr := ⟨_, rfl⟩
                        have HPSs : Hid (PS cur rst (cx + 0) (os.flatten ++ []) x y rest false) := Lib.hid (by rw [List.append_nil]; exact HPS.out)
                        have hxb0 : -32768 * ((cx + 0 : Nat) : Int) ≤ x ∧ x ≤ 32768 * ((cx + 0 : Nat) : Int) := hxb
                        have hyb0 : -32768 * ((cx + 0 : Nat) : Int) ≤ y ∧ y ≤ 32768 * ((cx + 0 : Nat) : Int) := hyb
                        go_loopw [136, 17, 0] (fun i s17 s0 wx => ∃ (l nd cd : Nat) (Ad : Option Addr) (rest : List Nat) (cw : List Vtx) (x y : Int), l ≤ sz ∧ i = .int .i64 l ∧ s0 = .slice Ad nd cd ∧ Hid (BRd W4 (.slice Ad nd cd) rest) ∧ Hid (∀ q, (Value.slice Ad nd cd).ownBlock = some q → q < gA) ∧ Hid (cw.length = l) ∧ Hid (VRow wx wi.heap.size s17 cw) ∧ Hid (Two wx gA (.int .i64 x) (.int .i64 y)) ∧ Hid (PS cur rst (cx + l) (os.flatten ++ cw) x y rest false) ∧ (-32768 * ((cx + l : Nat) : Int) ≤ x ∧ x ≤ 32768 * ((cx + l : Nat) : Int)) ∧ (-32768 * ((cx + l : Nat) : Int) ≤ y ∧ y ≤ 32768 * ((cx + l : Nat) : Int)) ∧ Hid (wi.grownBy wx (some gA))) (fun i _ _ _ => sz - (intOf i).toNat)
                        case atStart => exact ⟨0, nd, cd, Ad, rest, [], x, y, Nat.zero_le _, rfl, rfl, HBD4, HBL, Lib.hid rfl, Lib.hid (World.ownsRow_nil _ _ _ _), HTW, HPSs, hxb0, hyb0, Lib.hid ⟨rfl, rfl, rfl, Nat.le_refl _, fun _ _ _ => rfl⟩⟩
                        case round =>
                          clear HPSs hxb0 hyb0 hc5
                          obtain ⟨l, nd1, cd1, Ad1, rest5, cw, x5, y5, hl, rfl, rfl, HB5, HL5, HCL, HVR, HTW5, HPS5, hxb5, hyb5, HG5⟩ := hrel
                          have BW5 : Below gA W4 wr := HBW.out.trans ⟨HG5.out.os, HG5.out.tape, HG5.out.output, HG5.out.size, fun q hq => HG5.out.block q (by omega) (by intro e; injection e with e; omega)⟩
                          by_cases hls : l < sz
                          · have hlb : decide ((l : Int) < sz) = true := by simp; omega
                            obtain ⟨A', c', e, hcf, _, _, h3⟩ := HFX.out
                            obtain ⟨af, haf, hltf, hcf2⟩ := h3 l (by rw [List.length_drop, HC.out]; omega)
                            simp only [Value.slice.injEq] at e
                            obtain ⟨rfl, -, rfl⟩ := e
                            subst haf
                            obtain ⟨f, hfe⟩ : ∃ f, cur[cx + l]'(by rw [HC.out]; omega) = f := ⟨_, rfl⟩
                            rw [List.getElem_drop, hfe] at hcf2
                            have HFF : Hid (cur[cx + l]? = some f) := Lib.hid (by rw [← hfe]; exact List.getElem?_eq_getElem _)
                            have hf16 : f < 16 := H16.out f (by rw [← hfe]; exact List.getElem_mem _)
                            have hafb := HFL.out af.block rfl
                            replace hcf2 := (BW5.cell (p := af.add l) (by rw [block_add]; exact hafb)).trans hcf2
                            have hzf : af.block < wr.heap.size := by have := BW5.size; omega
                            have qx0 := and_pow f 1 (by omega) (by omega)
                            have qy0 := and_pow f 2 (by omega) (by omega)
                            have qo0 := and_pow f 0 (by omega) (by omega)
                            obtain ⟨tx, htx⟩ : ∃ tx, decide (f / 2 % 2 = 1) = tx := ⟨_, rfl⟩
                            obtain ⟨ty, hty⟩ : ∃ ty, decide (f / 4 % 2 = 1) = ty := ⟨_, rfl⟩
                            obtain ⟨on, hon⟩ : ∃ on, decide (f % 2 = 1) = on := ⟨_, rfl⟩
                            have qx : bits BinOp.and IntKind.u8 (f : Int) 2 = if tx = true then 2 else 0 := by
                              rw [← htx]; simp only [decide_eq_true_eq]; exact qx0
                            have qy : bits BinOp.and IntKind.u8 (f : Int) 4 = if ty = true then 4 else 0 := by
                              rw [← hty]; simp only [decide_eq_true_eq]; exact qy0
                            have qo : bits BinOp.and IntKind.u8 (f : Int) 1 = if on = true then 1 else 0 := by
                              rw [← hon]; simp only [decide_eq_true_eq]; rw [Nat.pow_zero, Nat.div_one] at qo0; exact qo0
                            have HTX := Lib.hid htx
                            have HTY := Lib.hid hty
                            have HONF := Lib.hid hon
                            have HQX := Lib.hid qx
                            have HQY := Lib.hid qy
                            have HQO := Lib.hid qo
                            have hx5 : -2097152 ≤ x5 ∧ x5 ≤ 2097152 := by omega
                            have hy5 : -2097152 ≤ y5 ∧ y5 ≤ 2097152 := by omega
                            have HBW5 := Lib.hid BW5
                            clear h3 hfe qx0 qy0 qo0 htx hty hon qx qy qo BW5
                            go_wp2_with fail
                            obtain ⟨wl, rfl⟩ : ∃ wl, wl = wr := ⟨_, rfl⟩
                            clear hcf2
                            go_loopw [20, 0] (fun s20 s0 wy => ∃ (k nd cd : Nat) (Ad : Option Addr) (rest : List Nat) (x1 y1 : Int), k ≤ 2 ∧ s20 = .int .i64 k ∧ s0 = .slice Ad nd cd ∧ Hid (BRd W4 (.slice Ad nd cd) rest) ∧ Hid (∀ q, (Value.slice Ad nd cd).ownBlock = some q → q < gA) ∧ Hid (Two wy gA (.int .i64 x1) (.int .i64 y1)) ∧ Hid (At6 tx ty rest5 x5 y5 k rest x1 y1) ∧ Hid (Nigh gA wl wy)) (fun s20 _ _ => 2 - (intOf s20).toNat)
                            case atStart => exact ⟨0, nd1, cd1, Ad1, rest5, x5, y5, by omega, rfl, rfl, HB5, HL5, HTW5, Lib.hid (.inl ⟨rfl, rfl, rfl, rfl⟩), Lib.hid (Nigh.refl _ _)⟩
                            case round =>
                              obtain ⟨k6, nd1, cd1, Ad6, rest1, x1, y1, hk6, rfl, rfl, HB6, HL6, HTW6, HAT, HNG⟩ := hrel
                              have hbnd := HAT.out.bounds
                              have hx1 : -2200000 ≤ x1 ∧ x1 ≤ 2200000 := by omega
                              have hy1 : -2200000 ≤ y1 ∧ y1 ≤ 2200000 := by omega
                              clear hbnd
                              have BWy : Below gA W4 wr := HBW5.out.trans (HNG.out.below (Nat.le_refl _))
                              by_cases hk2 : k6 < 2
                              · obtain ⟨tc0, tc1, tf0, tf1⟩ := HTW6.out
                                have tz := HTW6.out.lt
                                rcases (by omega : k6 = 0 ∨ k6 = 1) with rfl | rfl
                                · as_aux_lemma =>
                                  have qx := HQX.out
                                  cases rest1 with
                                  | nil =>
                                    have e : res = ([], 1) := by
                                      rw [HRT.out]
                                      exact parseT_none ss X cur rst (by rw [HS'.out]; exact HOK.out) (HAT.out.short (by omega) (by simp [stepS]) HPS5.out HFF.out HTX.out HTY.out)
                                    have HNOy : Hid (Non w wr) := Lib.hid (HNO4.out.keep (BWy.mono hzw))
                                    obtain ⟨⟨oc0, of0⟩, ⟨oc1, of1⟩, -⟩ := HNOy.out
                                    have oz0 := HNOy.out.1.lt
                                    have oz1 := HNOy.out.2.1.lt
                                    subst e
                                    have hn0 : nd1 = 0 := by
                                      obtain ⟨_, _, e, _⟩ := HB6.out
                                      simp only [Value.slice.injEq] at e
                                      exact e.2.1
                                    subst hn0
                                    clear HRT
                                    go_wp2_with fail
                                    obtain ⟨d1', b1'⟩ := one_set HNOy.out.1 (.slice none 0 0) HNOy.out.2.2
                                    exact bodyPost_ret (v := .tuple #[.agg #[.slice none 0 0], .int .i64 ((1 : Nat) : Int)]) (by simp [results, Try.results17, go_sem, d1']) rfl ⟨_, 1, rfl, b1', rfl, ORd.nil _⟩
                                  | cons b0 r1 =>
                                    obtain ⟨a, rfl, haz, hca, hnc1, hncc1, hccm1, hb0⟩ := HB6.out.head
                                    have HBH := Lib.hid HB6.out.behind
                                    have hab := HL6.out a.block rfl
                                    replace hca := (BWy.cell (p := a) (by omega)).trans hca
                                    have hay : a.block < wr.heap.size := by omega
                                    obtain ⟨hi1, hi2, hi3⟩ := int8_in b0 hb0
                                    obtain ⟨n8, hn8⟩ : ∃ n8, int8 b0 = n8 := ⟨_, rfl⟩
                                    rw [hn8] at hi1 hi2 hi3
                                    have HN8 := Lib.hid hn8
                                    have hnz : ((nd1 : Int) == 0) = false := by simp; omega
                                    have hnp : (0 : Int) < nd1 := by omega
                                    cases tx with
                                    | false =>
                                      simp only [Bool.false_eq_true, if_false] at qx
                                      have HSTEP : Hid (stepS false (b0 :: r1) = some (n8, r1)) := Lib.hid (by simp [stepS, HN8.out])
                                      clear hn8 hnc1
                                      by_cases hc1 : cd1 = 1
                                      · go_wp2_with fail
                                        exact ⟨⟨0+1, _, 0, some a, r1, x1 + n8, y1, by omega, by first | rfl | go_num, rfl, Lib.hid (by have := HBH.out.1; rwa [if_pos hc1, hc1] at this), Lib.hid (fun q hq => HL6.out q hq), Lib.hid (HTW6.out.set0 (.int .i64 (x1 + n8))), Lib.hid (HAT.out.next0 (HSTEP.out) (by omega)), Lib.hid (HNG.out.trans (Nigh.set ⟨gA, 0, none⟩ rfl _))⟩, by simp [intOf]⟩
                                      · go_wp2_with fail
                                        exact ⟨⟨0+1, _, cd1 - 1, some (a.add 1), r1, x1 + n8, y1, by omega, by first | rfl | go_num, rfl, Lib.hid (by have := HBH.out.1; rwa [if_neg hc1] at this), Lib.hid (fun q hq => HL6.out q (HBH.out.2 q (by rw [if_neg hc1]; exact hq))), Lib.hid (HTW6.out.set0 (.int .i64 (x1 + n8))), Lib.hid (HAT.out.next0 (HSTEP.out) (by omega)), Lib.hid (HNG.out.trans (Nigh.set ⟨gA, 0, none⟩ rfl _))⟩, by simp [intOf]⟩
                                    | true =>
                                      simp only [if_true] at qx
                                      cases r1 with
                                      | nil =>
                                        have e : res = ([], 1) := by
                                          rw [HRT.out]
                                          exact parseT_none ss X cur rst (by rw [HS'.out]; exact HOK.out) (HAT.out.short (by omega) (by simp [stepS]) HPS5.out HFF.out HTX.out HTY.out)
                                        have HNOy : Hid (Non w wr) := Lib.hid (HNO4.out.keep (BWy.mono hzw))
                                        obtain ⟨⟨oc0, of0⟩, ⟨oc1, of1⟩, -⟩ := HNOy.out
                                        have oz0 := HNOy.out.1.lt
                                        have oz1 := HNOy.out.2.1.lt
                                        subst e
                                        have hn1 : nd1 = 1 := hnc1
                                        clear hnc1 hn8
                                        subst hn1
                                        clear HRT
                                        go_wp2_with fail
                                        obtain ⟨d1', b1'⟩ := one_set HNOy.out.1 (.slice none 0 0) HNOy.out.2.2
                                        exact bodyPost_ret (v := .tuple #[.agg #[.slice none 0 0], .int .i64 ((1 : Nat) : Int)]) (by simp [results, Try.results17, go_sem, d1']) rfl ⟨_, 1, rfl, b1', rfl, ORd.nil _⟩
                                      | cons b1 r2 =>
                                        have hn2 : (2 : Int) ≤ nd1 := by rw [hnc1, List.length_cons]; omega
                                        have hn2b : decide ((nd1 : Int) < 2) = false := by simp; omega
                                        have HN2E : Hid (nd1 - 1 - 1 = r2.length) := Lib.hid (by rw [hnc1, List.length_cons]; omega)
                                        have hcd : ¬ cd1 = 1 := by rw [List.length_cons] at hnc1; omega
                                        have HB7 : Hid (BRd W4 (.slice (some (a.add 1)) (nd1 - 1) (cd1 - 1)) (b1 :: r2)) := Lib.hid (by have := HBH.out.1; rwa [if_neg hcd] at this)
                                        obtain ⟨a', ha', _, hca1, _, hncc2, _, hb1⟩ := HB7.out.head
                                        injection ha' with ha'
                                        subst ha'
                                        have HBH2 := Lib.hid HB7.out.behind
                                        have hca1' : wr.cell? ⟨a.block, a.off + 1, none⟩ = some (.int .u8 b1) := (BWy.cell (p := a.add 1) (by rw [block_add]; omega)).trans hca1
                                        have hbw : IntKind.i64.wrap (b1 : Int) = b1 := by rw [IntKind.wrap_i64]; omega
                                        have HSTEP : Hid (stepS true (b0 :: b1 :: r2) = some (256 * n8 + b1, r2)) := Lib.hid (by simp [stepS, HN8.out])
                                        clear hn8 hnc1 hca1
                                        by_cases hc1 : cd1 = 2
                                        · go_wp2_with fail
                                          exact ⟨⟨0+1, r2.length, 0, some (a.add 1), r2, x1 + (256 * n8 + b1), y1, by omega, by first | rfl | go_num, rfl, Lib.hid (by have := HBH2.out.1; rwa [if_pos (by omega), HN2E.out, show cd1 - 1 - 1 = 0 by omega] at this), Lib.hid (fun q hq => by have h : some a.block = some q := hq; injection h with h; omega), Lib.hid (HTW6.out.set0 (.int .i64 (x1 + (256 * n8 + b1)))), Lib.hid (HAT.out.next0 HSTEP.out (by omega)), Lib.hid (HNG.out.trans (Nigh.set ⟨gA, 0, none⟩ rfl _))⟩, by simp [intOf]⟩
                                        · go_wp2_with fail
                                          exact ⟨⟨0+1, r2.length, cd1 - 1 - 1, some ((a.add 1).add 1), r2, x1 + (256 * n8 + b1), y1, by omega, by first | rfl | go_num, rfl, Lib.hid (by have := HBH2.out.1; rwa [if_neg (by omega), HN2E.out] at this), Lib.hid (fun q hq => by have h : some a.block = some q := hq; injection h with h; omega), Lib.hid (HTW6.out.set0 (.int .i64 (x1 + (256 * n8 + b1)))), Lib.hid (HAT.out.next0 HSTEP.out (by omega)), Lib.hid (HNG.out.trans (Nigh.set ⟨gA, 0, none⟩ rfl _))⟩, by simp [intOf]⟩
                                · as_aux_lemma =>
                                  have qy := HQY.out
                                  cases rest1 with
                                  | nil =>
                                    have e : res = ([], 1) := by
                                      rw [HRT.out]
                                      exact parseT_none ss X cur rst (by rw [HS'.out]; exact HOK.out) (HAT.out.short (by omega) (by simp [stepS]) HPS5.out HFF.out HTX.out HTY.out)
                                    have HNOy : Hid (Non w wr) := Lib.hid (HNO4.out.keep (BWy.mono hzw))
                                    obtain ⟨⟨oc0, of0⟩, ⟨oc1, of1⟩, -⟩ := HNOy.out
                                    have oz0 := HNOy.out.1.lt
                                    have oz1 := HNOy.out.2.1.lt
                                    subst e
                                    have hn0 : nd1 = 0 := by
                                      obtain ⟨_, _, e, _⟩ := HB6.out
                                      simp only [Value.slice.injEq] at e
                                      exact e.2.1
                                    subst hn0
                                    clear HRT
                                    go_wp2_with fail
                                    obtain ⟨d1', b1'⟩ := one_set HNOy.out.1 (.slice none 0 0) HNOy.out.2.2
                                    exact bodyPost_ret (v := .tuple #[.agg #[.slice none 0 0], .int .i64 ((1 : Nat) : Int)]) (by simp [results, Try.results17, go_sem, d1']) rfl ⟨_, 1, rfl, b1', rfl, ORd.nil _⟩
                                  | cons b0 r1 =>
                                    obtain ⟨a, rfl, haz, hca, hnc1, hncc1, hccm1, hb0⟩ := HB6.out.head
                                    have HBH := Lib.hid HB6.out.behind
                                    have hab := HL6.out a.block rfl
                                    replace hca := (BWy.cell (p := a) (by omega)).trans hca
                                    have hay : a.block < wr.heap.size := by omega
                                    obtain ⟨hi1, hi2, hi3⟩ := int8_in b0 hb0
                                    obtain ⟨n8, hn8⟩ : ∃ n8, int8 b0 = n8 := ⟨_, rfl⟩
                                    rw [hn8] at hi1 hi2 hi3
                                    have HN8 := Lib.hid hn8
                                    have hnz : ((nd1 : Int) == 0) = false := by simp; omega
                                    have hnp : (0 : Int) < nd1 := by omega
                                    cases ty with
                                    | false =>
                                      simp only [Bool.false_eq_true, if_false] at qy
                                      have HSTEP : Hid (stepS false (b0 :: r1) = some (n8, r1)) := Lib.hid (by simp [stepS, HN8.out])
                                      clear hn8 hnc1
                                      by_cases hc1 : cd1 = 1
                                      · go_wp2_with fail
                                        exact ⟨⟨1+1, _, 0, some a, r1, x1, y1 + n8, by omega, by first | rfl | go_num, rfl, Lib.hid (by have := HBH.out.1; rwa [if_pos hc1, hc1] at this), Lib.hid (fun q hq => HL6.out q hq), Lib.hid (HTW6.out.set1 (.int .i64 (y1 + n8))), Lib.hid (HAT.out.next1 (HSTEP.out) (by omega)), Lib.hid (HNG.out.trans (Nigh.set ⟨gA, 1, none⟩ rfl _))⟩, by simp [intOf]⟩
                                      · go_wp2_with fail
                                        exact ⟨⟨1+1, _, cd1 - 1, some (a.add 1), r1, x1, y1 + n8, by omega, by first | rfl | go_num, rfl, Lib.hid (by have := HBH.out.1; rwa [if_neg hc1] at this), Lib.hid (fun q hq => HL6.out q (HBH.out.2 q (by rw [if_neg hc1]; exact hq))), Lib.hid (HTW6.out.set1 (.int .i64 (y1 + n8))), Lib.hid (HAT.out.next1 (HSTEP.out) (by omega)), Lib.hid (HNG.out.trans (Nigh.set ⟨gA, 1, none⟩ rfl _))⟩, by simp [intOf]⟩
                                    | true =>
                                      simp only [if_true] at qy
                                      cases r1 with
                                      | nil =>
                                        have e : res = ([], 1) := by
                                          rw [HRT.out]
                                          exact parseT_none ss X cur rst (by rw [HS'.out]; exact HOK.out) (HAT.out.short (by omega) (by simp [stepS]) HPS5.out HFF.out HTX.out HTY.out)
                                        have HNOy : Hid (Non w wr) := Lib.hid (HNO4.out.keep (BWy.mono hzw))
                                        obtain ⟨⟨oc0, of0⟩, ⟨oc1, of1⟩, -⟩ := HNOy.out
                                        have oz0 := HNOy.out.1.lt
                                        have oz1 := HNOy.out.2.1.lt
                                        subst e
                                        have hn1 : nd1 = 1 := hnc1
                                        clear hnc1 hn8
                                        subst hn1
                                        clear HRT
                                        go_wp2_with fail
                                        obtain ⟨d1', b1'⟩ := one_set HNOy.out.1 (.slice none 0 0) HNOy.out.2.2
                                        exact bodyPost_ret (v := .tuple #[.agg #[.slice none 0 0], .int .i64 ((1 : Nat) : Int)]) (by simp [results, Try.results17, go_sem, d1']) rfl ⟨_, 1, rfl, b1', rfl, ORd.nil _⟩
                                      | cons b1 r2 =>
                                        have hn2 : (2 : Int) ≤ nd1 := by rw [hnc1, List.length_cons]; omega
                                        have hn2b : decide ((nd1 : Int) < 2) = false := by simp; omega
                                        have HN2E : Hid (nd1 - 1 - 1 = r2.length) := Lib.hid (by rw [hnc1, List.length_cons]; omega)
                                        have hcd : ¬ cd1 = 1 := by rw [List.length_cons] at hnc1; omega
                                        have HB7 : Hid (BRd W4 (.slice (some (a.add 1)) (nd1 - 1) (cd1 - 1)) (b1 :: r2)) := Lib.hid (by have := HBH.out.1; rwa [if_neg hcd] at this)
                                        obtain ⟨a', ha', _, hca1, _, hncc2, _, hb1⟩ := HB7.out.head
                                        injection ha' with ha'
                                        subst ha'
                                        have HBH2 := Lib.hid HB7.out.behind
                                        have hca1' : wr.cell? ⟨a.block, a.off + 1, none⟩ = some (.int .u8 b1) := (BWy.cell (p := a.add 1) (by rw [block_add]; omega)).trans hca1
                                        have hbw : IntKind.i64.wrap (b1 : Int) = b1 := by rw [IntKind.wrap_i64]; omega
                                        have HSTEP : Hid (stepS true (b0 :: b1 :: r2) = some (256 * n8 + b1, r2)) := Lib.hid (by simp [stepS, HN8.out])
                                        clear hn8 hnc1 hca1
                                        by_cases hc1 : cd1 = 2
                                        · go_wp2_with fail
                                          exact ⟨⟨1+1, r2.length, 0, some (a.add 1), r2, x1, y1 + (256 * n8 + b1), by omega, by first | rfl | go_num, rfl, Lib.hid (by have := HBH2.out.1; rwa [if_pos (by omega), HN2E.out, show cd1 - 1 - 1 = 0 by omega] at this), Lib.hid (fun q hq => by have h : some a.block = some q := hq; injection h with h; omega), Lib.hid (HTW6.out.set1 (.int .i64 (y1 + (256 * n8 + b1)))), Lib.hid (HAT.out.next1 HSTEP.out (by omega)), Lib.hid (HNG.out.trans (Nigh.set ⟨gA, 1, none⟩ rfl _))⟩, by simp [intOf]⟩
                                        · go_wp2_with fail
                                          exact ⟨⟨1+1, r2.length, cd1 - 1 - 1, some ((a.add 1).add 1), r2, x1, y1 + (256 * n8 + b1), by omega, by first | rfl | go_num, rfl, Lib.hid (by have := HBH2.out.1; rwa [if_neg (by omega), HN2E.out] at this), Lib.hid (fun q hq => by have h : some a.block = some q := hq; injection h with h; omega), Lib.hid (HTW6.out.set1 (.int .i64 (y1 + (256 * n8 + b1)))), Lib.hid (HAT.out.next1 HSTEP.out (by omega)), Lib.hid (HNG.out.trans (Nigh.set ⟨gA, 1, none⟩ rfl _))⟩, by simp [intOf]⟩
                              · as_aux_lemma =>
                                obtain rfl : k6 = 2 := by omega
                                obtain ⟨hPSd, hbx, hby⟩ := HAT.out.done HPS5.out HFF.out HTX.out HTY.out
                                rw [HONF.out, List.append_assoc] at hPSd
                                have HPSd := Lib.hid hPSd
                                obtain ⟨tc0, tc1, tf0, tf1⟩ := HTW6.out
                                have tz := HTW6.out.lt
                                have hzi : wi.heap.size ≤ wr.heap.size := by rw [HNG.out.size]; exact HG5.out.size
                                have HVO : Hid (wr.ownsRow wi.heap.size 25 3 u17 l (vcells cw)) := Lib.hid (HNG.out.own (HVR.out.own HCL.out) (fun e => by have := (World.ownsRow.lt HVR.out _ e).1; omega))
                                have HNEA : Hid (some gA ≠ u17.ownBlock) := Lib.hid (fun e => by have := (HVO.out.lt _ e.symm).1; omega)
                                have HGy := Lib.hid (grown_nigh HG5.out HNG.out)
                                have hnb8 : (wr.alloc (.cells #[.int .i64 x1, .int .i64 y1, .bool on] 25)).heap[wr.heap.size]? = some (.cells #[.int .i64 x1, .int .i64 y1, .bool on] 25 (0, 0)) := heap_alloc_new _ _
                                have HNB := Lib.hid hnb8
                                have qo := HQO.out
                                obtain ⟨i0, hi0, hz0', hz1', hz2'⟩ := infos vinfo
                                have huf := own_form HVO.out
                                clear hPSd hnb8 HAT
                                obtain ⟨Au, capu, rfl⟩ := huf
                                have hqd : decide ((0 : Int) < bits BinOp.and IntKind.u8 (f : Int) 1) = on := by rw [qo]; cases on <;> simp
                                clear qo
                                go_wp2_with (at_builtin; refine wpList_append_lies _ rfl _ _ _ (by rfl) wi.heap.size 25 i0 _ 3 24 Try.underlying27 hi0 hz0' hz1' hz2' (by rfl) (by omega) _ l _ (by rfl) (HVO.out.alloc _) ⟨wr.heap.size, 0, none⟩ 1 1 [.int .i64 x1, .int .i64 y1, .bool on] (by rfl) (by rfl) (World.news_of_block HNB.out) (by simp [Value.oneCell']) (by omega) (by simp [maxLen]; omega) (by omega) (by simp; omega) (wr.heap.size + 1) (by simp) ?_; intro gq cp w8 hown hgrow hat hlt)
                                have VN : VRow w8 wi.heap.size (.slice (some ⟨gq, 0, none⟩) (l + 1) cp) (cw ++ [⟨x1, y1, on⟩]) := by
                                  unfold VRow
                                  rw [vcells_push, List.length_append, HCL.out]
                                  exact hown
                                have B8 : Below wi.heap.size wr w8 := ((Below.refl _ wr).alloc hzi _).grown hgrow (by simp; omega) (fun q hq => (HVO.out.lt q hq).1)
                                exact ⟨⟨l + 1, nd1, cd1, Ad6, rest1, cw ++ [⟨x1, y1, on⟩], x1, y1, by omega, by go_num, rfl, HB6, HL6, Lib.hid (by rw [List.length_append, HCL.out]; rfl), Lib.hid VN, Lib.hid ((HTW6.out.alloc _).grown hgrow HNEA.out), HPSd, by omega, by omega, Lib.hid (grown_below HGy.out B8)⟩, by simp [intOf]; omega⟩
                          · as_aux_lemma =>
                            obtain rfl : l = sz := by omega
                            obtain ⟨hdr1, hdr2⟩ := HFX.out.dropO l (by rw [List.length_drop, HC.out]; omega)
                            rw [List.drop_drop, Nat.sub_sub] at hdr1
                            rw [Nat.sub_sub] at hdr2
                            have hzi : wi.heap.size ≤ wr.heap.size := HG5.out.size
                            have HORw : Hid (ORows wr (gA + 2) ov us os) := Lib.hid (HOR.out.blocks hzi (fun q h1 h2 => HG5.out.block q h2 (by intro e; injection e with e; omega)))
                            have HOVB : Hid (∀ q, ov.ownBlock = some q → q < wi.heap.size) := Lib.hid (fun q hq => (HOR.out.2.1.lt q hq).2)
                            have O5 := HON.out.grown HG5.out (by intro e; injection e with e; omega)
                            have HON5 := Lib.hid O5
                            obtain ⟨no, hno⟩ : ∃ no, os.length = no := ⟨_, rfl⟩
                            have hno8 : no ≤ 8 := by
                              have h1 := congrArg List.length HOL.out
                              rw [List.length_map, List.length_take, HSL.out] at h1
                              omega
                            have HOWo : Hid (wr.ownsRow (gA + 2) 27 1 ov no us) := Lib.hid (by rw [← hno]; exact HORw.out.2.1)
                            obtain ⟨Ao, capo, rfl⟩ := own_form HOWo.out
                            obtain ⟨Au, capu, rfl⟩ := own_form (HVR.out.own HCL.out)
                            have HVD := Lib.hid HVR.out.read
                            have HVB : Hid (∀ q, (Value.slice Au l capu).ownBlock = some q → wi.heap.size ≤ q ∧ q < wr.heap.size) := Lib.hid (fun q hq => World.ownsRow.lt HVR.out q hq)
                            have hnb9 : (wr.alloc (.cells #[.slice Au l capu] 27)).heap[wr.heap.size]? = some (.cells #[.slice Au l capu] 27 (0, 0)) := heap_alloc_new _ _
                            have HNB := Lib.hid hnb9
                            have HNO := Lib.hid hno
                            have HA1 := Lib.hid (O5.alloc (.cells #[.slice Au l capu] 27))
                            have HNE1 : Hid (some (gA + 1) ≠ (Value.slice Ao no capo).ownBlock) := Lib.hid (fun e => by have := (HOWo.out.lt _ e.symm).1; omega)
                            have HNEA : Hid (some gA ≠ (Value.slice Ao no capo).ownBlock) := Lib.hid (fun e => by have := (HOWo.out.lt _ e.symm).1; omega)
                            obtain ⟨i0, hi0, hz0', hz1', hz2'⟩ := infos rinfo
                            have HDR1 := Lib.hid hdr1
                            have HDR2 := Lib.hid hdr2
                            have zO := O5.lt
                            obtain ⟨oc, of⟩ := O5
                            clear hno hnb9 hdr1 hdr2
                            go_wp2_with (at_builtin; refine wpList_append_lies _ rfl _ _ _ (by rfl) (gA + 2) 27 i0 _ 1 24 Try.underlying22 hi0 hz0' hz1' hz2' (by rfl) (by omega) _ no _ (by rfl) (HOWo.out.alloc _) ⟨wr.heap.size, 0, none⟩ 1 1 [.slice Au l capu] (by rfl) (by rfl) (World.news_of_block HNB.out) (by simp [Value.oneCell']) (by omega) (by simp [maxLen]; omega) (by omega) (by simp; omega) (wr.heap.size + 1) (by simp) ?_; intro gq cp w8 hown hgrow hat hlt; have O1n := HA1.out.grown hgrow HNE1.out; have HO1n := Lib.hid O1n; have oc1n := O1n.1; have of1n := O1n.2; have oz1n := O1n.lt)
                            have ORa := HORw.out.blocks (w' := wr.alloc (.cells #[.slice Au l capu] 27)) (by simp) (fun q _ h2 => Below.heap_alloc _ _ _ h2)
                            have ORn := ORows.push (c := cw) ORa (by omega : gA + 2 ≤ wi.heap.size) (HVD.out.keep ((Below.refl _ wr).alloc (Nat.le_refl _) _)) (fun q hq => ⟨(HVB.out q hq).1, by have := (HVB.out q hq).2; simp; omega⟩) HOVB.out hgrow hat (by simp) HNO.out hown
                            have ORs := ORn.blocks (w' := w8.setCell ⟨gA + 1, 0, none⟩ (.slice (some ⟨gq, 0, none⟩) (no + 1) cp)) (by simp) (fun q h1 _ => heap_set _ _ _ _ (by simp only []; omega))
                            have B8 : Below gA W4 w8 := (BW5.alloc (by omega) _).grown hgrow (by simp; omega) (fun q hq => by have := (HOWo.out.lt q hq).1; omega)
                            have T8 : Two (w8.setCell ⟨gA + 1, 0, none⟩ (.slice (some ⟨gq, 0, none⟩) (no + 1) cp)) gA (.int .i64 x5) (.int .i64 y5) := ((HTW5.out.alloc _).grown hgrow HNEA.out).block (heap_set _ _ _ _ (by simp only []; omega))
                            have z8 : gA + 2 ≤ w8.heap.size := by have := hgrow.size; simp at this; omega
                            exact ⟨⟨kk + 1, cx + l, fc - l, nd1, cd1, _, Ad1, rest5, os ++ [cw], us ++ [.slice Au l capu], .slice (some ⟨gq, 0, none⟩) (no + 1) cp, x5, y5, by omega, by go_num, by rw [Nat.sub_sub], rfl, by omega, Lib.hid (by rw [sum_take_step ss kk l HSZ.out, HCX.out]), HDR1, Lib.hid (fun q hq => HFL.out q (HDR2.out q hq)), HB5, HL5, Lib.hid T8, Lib.hid (HO1n.out.set _ (by simp [of1n])), Lib.hid ORs, Lib.hid (by rw [List.map_append, HOL.out, take_push ss kk l HSZ.out]; simp [HCL.out]), Lib.hid (by rw [List.flatten_append]; simpa using HPS5.out), hxb5, hyb5, by simpa using z8, Lib.hid (B8.setCell (p := ⟨gA + 1, 0, none⟩) (by simp only []; omega) _)⟩, by simp [intOf]; omega⟩
                      · as_aux_lemma =>
                        obtain rfl : kk = j := by omega
                        have hcc : cx = c := by
                          have h1 := HCX.out
                          rw [List.take_of_length_le (by rw [HSL.out]; omega), HS'.out] at h1
                          exact h1.symm
                        subst hcc
                        have HOLs : Hid (os.map List.length = ss) := Lib.hid (by have := HOL.out; rwa [List.take_of_length_le (by rw [HSL.out]; omega)] at this)
                        have HT := Lib.hid (parseT_points ss X cur rst rest os false x y (by rw [HS'.out]; exact HOK.out) (by rw [HC.out]; exact HPS.out) HOLs.out)
                        have HRT2 := Lib.hid ((HRT.out.trans HT.out).trans (if_neg (by decide)))
                        have HNOy : Hid (Non w wr) := Lib.hid (HNO4.out.keep (HBW.out.mono hzw))
                        obtain ⟨⟨oc0, of0⟩, ⟨oc1, of1⟩, -⟩ := HNOy.out
                        have oz0 := HNOy.out.1.lt
                        have oz1 := HNOy.out.2.1.lt
                        obtain ⟨oc, of⟩ := HON.out
                        have oz := HON.out.lt
                        have hnd : rest.length = nd := by
                          obtain ⟨_, _, e, _⟩ := HBD4.out
                          simp only [Value.slice.injEq] at e
                          exact e.2.1.symm
                        obtain ⟨no, hno⟩ : ∃ no, os.length = no := ⟨_, rfl⟩
                        have HOWo : Hid (wr.ownsRow (gA + 2) 27 1 ov no us) := Lib.hid (by rw [← hno]; exact HOR.out.2.1)
                        obtain ⟨Ao, capo, rfl⟩ := own_form HOWo.out
                        clear HT HRT HOK HPS
                        cases rest with
                        | cons b rest =>
                          have e : res = ([], 2) := HRT2.out.trans (if_pos (by simp))
                          subst e
                          have hndp : (0 : Int) < nd := by rw [← hnd, List.length_cons]; omega
                          have hndb : decide ((0 : Int) < nd) = true := by simp; omega
                          clear hnd HRT2
                          go_wp2_with fail
                          obtain ⟨d1', b1'⟩ := one_set HNOy.out.1 (.slice none 0 0) HNOy.out.2.2
                          exact bodyPost_ret (v := .tuple #[.agg #[.slice none 0 0], .int .i64 ((2 : Nat) : Int)]) (by simp [results, Try.results17, go_sem, d1']) rfl ⟨_, 2, rfl, b1', rfl, ORd.nil _⟩
                        | nil =>
                          have hnd0 : nd = 0 := hnd.symm
                          subst hnd0
                          have HRT3 := Lib.hid (HRT2.out.trans (if_neg (by simp)))
                          have hlens : (∀ c ∈ os, c.length ≤ 1000) ∧ os.length ≤ 1000 := by
                            have h2 : os.flatten.length = ss.sum := by rw [List.length_flatten, HOLs.out]
                            rw [HS'.out] at h2
                            refine ⟨fun d hd => by have := le_flatten os d hd; omega, ?_⟩
                            have h1 := congrArg List.length HOLs.out
                            rw [List.length_map, HSL.out] at h1
                            omega
                          have HCK := Lib.hid (check_any _ os wr HOR.out.read hlens.1 hlens.2)
                          obtain ⟨R, hR⟩ : ∃ R, checkS os = R := ⟨_, rfl⟩
                          rw [hR] at HCK HRT3
                          clear HRT2 hR hlens hnd
                          go_wp2_with fail
                          refine HCK.out.mono ?_
                          rintro e w9 ⟨rfl, hb9⟩
                          have HNO9 := Lib.hid (HNOy.out.keep (hb9.mono (by omega)))
                          have HON9 := Lib.hid (HON.out.keep hb9)
                          have HOR9 := Lib.hid (HOR.out.blocks hb9.size (fun q _ h2 => hb9.block q h2))
                          clear oc0 of0 oc1 of1 oz0 oz1 oc of oz hb9 HCK
                          obtain ⟨⟨oc0, of0⟩, ⟨oc1, of1⟩, -⟩ := HNO9.out
                          have oz0 := HNO9.out.1.lt
                          have oz1 := HNO9.out.2.1.lt
                          obtain ⟨oc, of⟩ := HON9.out
                          have oz := HON9.out.lt
                          by_cases hR0 : R = 0
                          · subst hR0
                            have e : res = (os, 0) := HRT3.out.trans (if_neg (by simp))
                            subst e
                            clear HRT3
                            go_wp2_with fail
                            obtain ⟨d1', b1'⟩ := one_set HNO9.out.1 (.slice Ao no capo) HNO9.out.2.2
                            have ORF := (HOR9.out.blocks (w' := w9.setCell ⟨w.heap.size, 0, none⟩ (.slice Ao no capo)) (by simp) (fun q h1 _ => heap_set _ _ _ _ (by simp only []; omega))).read
                            exact bodyPost_ret (v := .tuple #[.agg #[.slice Ao no capo], .int .i64 ((0 : Nat) : Int)]) (by simp [results, Try.results17, go_sem, d1']) rfl ⟨_, 0, rfl, b1', rfl, ORF⟩
                          · have e : res = ([], R) := HRT3.out.trans (if_pos hR0)
                            subst e
                            have her' : ((R : Int) == 0) = false := by simp; omega
                            have her'' : ((R : Int) != 0) = true := by simp; omega
                            clear HRT3 hR0
                            go_wp2_with fail
                            obtain ⟨d1', b1'⟩ := one_set HNO9.out.1 (.slice none 0 0) HNO9.out.2.2
                            exact bodyPost_ret (v := .tuple #[.agg #[.slice none 0 0], .int .i64 (R : Int)]) (by simp [results, Try.results17, go_sem, d1']) rfl ⟨_, R, rfl, b1', rfl, ORd.nil _⟩

end Go.Proofs.Ytgkhpnjfpahlgaa
