/-
  What the program's contours of layer 4 does to any world (no claim is made here).
-/
import Derived.Test.YtgkhpnjfpahlgaaPCm
namespace Go.Proofs.Ytgkhpnjfpahlgaa
open Go.RowKit

theorem IRow.at {w : World} {base : Nat} {v : Value} {cs : List Nat} (h : IRow w base v cs) : ∃ A cap, v = .slice A cs.length cap ∧ ∀ i (hi : i < cs.length), ∃ a, A = some a ∧ base ≤ a.block ∧ a.block < w.heap.size ∧ cs.length ≤ cap ∧ w.cell? (a.add i) = some (.int .i64 (cs[i] : Nat)) := by
  rcases h.2 with ⟨rfl, h0⟩ | ⟨g, cap, cur, rfl, hb, hg, hl, _, _, _⟩
  · have : cs = [] := List.eq_nil_of_length_eq_zero h0
    subst this
    exact ⟨none, 0, rfl, fun i hi => absurd hi (Nat.not_lt_zero _)⟩
  · exact ⟨_, cap, rfl, fun i hi => ⟨_, rfl, hb, (World.ownsRow.lt h g rfl).2, hl, World.ownsRow.cells h rfl _ _ (by simp [ivals, hi])⟩⟩
theorem grown_cell {w w' : World} {g : Nat} (h : w.grownBy w' (some g)) {a : Addr} {i : Nat} {v : Value} (hlt : a.block < w.heap.size) (hne : g + 1 ≤ a.block) (hc : w.cell? (a.add i) = some v) : w'.cell? (a.add i) = some v :=
  (h.cell_far (a.add i) (by rw [block_add]; exact hlt) (fun e => by rw [block_add] at e; injection e with e; omega)).trans hc
theorem sum_take_step (ss : List Nat) (k s : Nat) (h : ss[k]? = some s) : (ss.take (k + 1)).sum = (ss.take k).sum + s := by rw [take_push ss k s h, List.sum_append]; simp
theorem sum_take_le (ss : List Nat) (k : Nat) : (ss.take k).sum ≤ ss.sum := by
  have : ss.sum = (ss.take k).sum + (ss.drop k).sum := by rw [← List.sum_append, List.take_append_drop]
  omega
theorem flatten_sum (os : List (List Vtx)) : os.flatten.length = (os.map List.length).sum := by rw [List.length_flatten]

/-- The rows that are filled already. -/
def FRows (w : World) (q : Nat) (us : List Value) (os : List (List Vtx)) : Prop := us.length = os.length ∧ ∀ i (h : i < us.length) (h' : i < os.length), VRd w us[i] os[i] ∧ ∃ p, us[i].ownBlock = some p ∧ q < p ∧ p < w.heap.size
theorem FRows.push {w : World} {q : Nat} {us : List Value} {os : List (List Vtx)} {u : Value} {c : List Vtx} {p : Nat} (h : FRows w q us os) (hu : VRd w u c) (hp : u.ownBlock = some p) (hq : q < p) (hz : p < w.heap.size) : FRows w q (us ++ [u]) (os ++ [c]) := by
  refine ⟨by simp [h.1], fun i h1 h2 => ?_⟩
  by_cases hi : i < us.length
  · rw [List.getElem_append_left hi, List.getElem_append_left (by rw [← h.1]; exact hi)]
    exact h.2 i hi (by rw [← h.1]; exact hi)
  · obtain rfl : i = us.length := by simp at h1; omega
    have e1 : (us ++ [u])[us.length] = u := by simp
    have e2 : (os ++ [c])[us.length]'h2 = c := by simp [h.1]
    rw [e1, e2]
    exact ⟨hu, p, hp, hq, hz⟩
theorem FRows.keep {w w' : World} {q : Nat} {us : List Value} {os : List (List Vtx)} (h : FRows w q us os) (hz : w.heap.size ≤ w'.heap.size) (hb : ∀ k, q < k → k < w.heap.size → w'.heap[k]? = w.heap[k]?) : FRows w' q us os := by
  refine ⟨h.1, fun i h1 h2 => ?_⟩
  obtain ⟨a, p, hp, hq, hpz⟩ := h.2 i h1 h2
  exact ⟨a.blocks hz (fun k hk hlt => hb k (by rw [hp] at hk; injection hk with hk; omega) hlt), p, hp, hq, by omega⟩

theorem FRows.blocks' {w w' : World} {g p q : Nat} {us : List Value} {os : List (List Vtx)} (h : FRows w q us os) (hd : Duo g p w w') (hg : g ≤ q) (hp : ∀ i (h : i < us.length), us[i].ownBlock ≠ some p) : FRows w' q us os := by
  refine ⟨h.1, fun i h1 h2 => ?_⟩
  obtain ⟨a, r, hr, hq, hz⟩ := h.2 i h1 h2
  exact ⟨a.blocks (Nat.le_of_eq hd.size.symm) (fun k hk hlt => hd.block k (by rw [hr] at hk; injection hk with hk; omega) (fun e => hp i h1 (by rw [hk, e]))), r, hr, hq, by rw [hd.size]; exact hz⟩
theorem BRd.dropO {w : World} {A : Option Addr} {n cap : Nat} {c : List Nat} (h : BRd w (.slice A n cap) c) (k : Nat) (hk : k ≤ c.length) :
    BRd w (.slice (if cap = k then A else Option.map (fun x => x.add k) A) (n - k) (cap - k)) (c.drop k) ∧ ∀ q, (Value.slice (if cap = k then A else Option.map (fun x => x.add k) A) (n - k) (cap - k)).ownBlock = some q → (Value.slice A n cap).ownBlock = some q := by
  have hl : n = c.length ∧ c.length ≤ cap ∧ cap ≤ maxLen := by
    obtain ⟨_, _, e, h1, h2, _⟩ := h
    simp only [Value.slice.injEq] at e
    omega
  cases A with
  | none =>
    have hc : c = [] := by
      cases c with
      | nil => rfl
      | cons b r =>
        obtain ⟨_, _, e, _, _, _, h3⟩ := h
        obtain ⟨a, ha, _⟩ := h3 0 (by simp)
        simp only [Value.slice.injEq] at e
        rw [ha] at e
        exact nomatch e.1
    subst hc
    simp only [List.length_nil] at hl hk
    have e1 : n - k = 0 := by omega
    have e2 : (if cap = k then Option.none else Option.map (fun x : Addr => x.add k) (Option.none : Option Addr)) = Option.none := by split <;> rfl
    rw [e1, e2, List.drop_nil]
    exact ⟨BRd.none _ _ (by omega), fun q hq => by cases hq⟩
  | some a =>
    by_cases hck : cap = k
    · have e1 : n - k = 0 := by omega
      rw [if_pos hck, e1, List.drop_eq_nil_of_le (by omega)]
      exact ⟨BRd.none _ _ (by omega), fun q hq => hq⟩
    · rw [if_neg hck]
      exact ⟨h.drop k hk, fun q hq => by have : some (a.add k).block = some q := hq; rw [block_add] at this; exact this⟩
theorem bit_of (b q : Int) (t : Prop) [Decidable t] (hq : q ≠ 0) (h : b = if t then q else 0) : (b != 0) = decide t ∧ (b == 0) = !decide t := by
  subst h
  by_cases ht : t
  · simp [ht, hq]
  · simp [ht]
theorem and1 (f : Nat) (h : f < 256) : ∃ b : Int, bits .and .u8 (f : Int) 1 = b ∧ (b != 0) = decide (f % 2 = 1) ∧ (b == 0) = !decide (f % 2 = 1) := by
  have q := and_pow f 0 h (by omega)
  rw [Nat.pow_zero, Nat.div_one] at q
  exact ⟨_, rfl, bit_of _ _ _ (by decide) q⟩
theorem and2' (f : Nat) (h : f < 256) : ∃ b : Int, bits .and .u8 (f : Int) 2 = b ∧ (b != 0) = decide (f / 2 % 2 = 1) ∧ (b == 0) = !decide (f / 2 % 2 = 1) := ⟨_, rfl, bit_of _ _ _ (by decide) (and_pow f 1 h (by omega))⟩
theorem and4' (f : Nat) (h : f < 256) : ∃ b : Int, bits .and .u8 (f : Int) 4 = b ∧ (b != 0) = decide (f / 4 % 2 = 1) ∧ (b == 0) = !decide (f / 4 % 2 = 1) := ⟨_, rfl, bit_of _ _ _ (by decide) (and_pow f 2 h (by omega))⟩

set_option maxRecDepth 100000 in
set_option maxHeartbeats 3200000 in
theorem contours_any (g B : Nat) (ss fs bs : List Nat) (cv fv : Value) (w : World) (hB : B ≤ g) (hR : Rdr w g B bs false) (hI : IRow w (g + 1) cv ss) (hF : BRow w (g + 1) fv fs) (hs : ss.sum = fs.length) (hs8 : ss.length ≤ 8) (hs64 : fs.length ≤ 64) (h16 : ∀ f ∈ fs, f < 16) :
    Calls Try.prog 28 #[.pointer (some ⟨g, 0, none⟩), cv, fv] w fun e w' => ∃ (ov : Value) (os : List (List Vtx)) (rest : List Nat) (sh : Bool) (x y : Int), e = .returned ov ∧ Below g w w' ∧ (∀ W : World, w'.heap.size ≤ W.heap.size → (∀ k, w.heap.size ≤ k → k < w'.heap.size → W.heap[k]? = w'.heap[k]?) → ORd W ov os) ∧ os.map List.length = ss ∧ Rdr w' g B rest sh ∧ PS fs bs fs.length os.flatten x y rest sh := by
  obtain ⟨A, cap, rfl, hIA⟩ := hI.at
  have HIA := Lib.hid hIA
  have HR0 := Lib.hid hR
  have HFR := Lib.hid (hF.read (fun b hb => by have := h16 b hb; omega))
  have hFL := hF.lt
  have HFL : Hid (∀ k, fv.ownBlock = some k → g + 1 ≤ k ∧ k < w.heap.size) := Lib.hid (World.ownsRow.lt hF)
  have H16 := Lib.hid h16
  have hgz := hR.lt
  obtain ⟨n, hn⟩ : ∃ n, ss.length = n := ⟨_, rfl⟩
  obtain ⟨F, hFn⟩ : ∃ F, fs.length = F := ⟨_, rfl⟩
  rw [hn] at hs8
  rw [hFn] at hs hs64
  have HN := Lib.hid hn
  have HFN := Lib.hid hFn
  have HS := Lib.hid hs
  obtain ⟨Af, capf, rfl⟩ := own_form (hF.own hFn)
  rw [hn]
  clear hIA hR hF hFL h16 hn hs
  obtain ⟨i0, hi0, hz0, hz1, hz2⟩ := infos oinfo
  go_enter Try.func28, Try.ntmps28
  go_wp2_with (at_make; refine wpList_make_full _ rfl _ _ 22 rfl w.heap.size 27 i0 _ 1 Try.underlying22 hi0 hz0 hz1 .i64 .i64 _ _ n rfl rfl rfl rfl (by rw [hz2]; omega) (by simp [maxLen]; omega) (Nat.le_refl _) ?_; intro w2 hown hgrow)
  rw [made_rows] at hown
  have HR2 : Hid (Rdr w2 g B bs false) := Lib.hid (HR0.out.keep hB (below_of_grown hgrow (by omega) (fun _ h => nomatch h)))
  have HW2 := Lib.hid hown
  have HG2 : Hid (w.grownBy w2 (some g)) := Lib.hid ⟨hgrow.os, hgrow.tape, hgrow.output, hgrow.size, fun k hk _ => hgrow.block k hk (fun h => nomatch h)⟩
  have HF2 : Hid (BRd w2 (.slice Af (F - 0) capf) (fs.drop 0)) := Lib.hid (HFR.out.blocks hgrow.size (fun k _ hk => hgrow.block k hk (fun h => nomatch h)))
  have HP2 : Hid (PS fs bs 0 ([] : List (List Vtx)).flatten 0 0 bs false) := Lib.hid (.inl ⟨rfl, rfl, rfl⟩)
  clear hown hgrow hi0 hz0 hz1 hz2 HR0 HFR
  go_loopw [19, 8, 9, 2] (fun i sx sy sf wr => ∃ (k c fcap : Nat) (fA : Option Addr) (x y : Int) (rest : List Nat) (sh : Bool) (us : List Value) (os : List (List Vtx)),
    k ≤ n ∧ i = .int .i64 k ∧ sx = .int .i64 x ∧ sy = .int .i64 y ∧ sf = .slice fA (F - c) fcap ∧ c ≤ F ∧ Hid ((ss.take k).sum = c) ∧ (-32768 * (c : Int) ≤ x ∧ x ≤ 32768 * (c : Int)) ∧ (-32768 * (c : Int) ≤ y ∧ y ≤ 32768 * (c : Int)) ∧ Hid (os.map List.length = ss.take k) ∧ Hid (BRd wr (.slice fA (F - c) fcap) (fs.drop c)) ∧ Hid (∀ q, (Value.slice fA (F - c) fcap).ownBlock = some q → g + 1 ≤ q ∧ q < w.heap.size) ∧ Hid (FRows wr w.heap.size us os) ∧ Hid (wr.ownsRow w.heap.size 27 1 (.slice (some ⟨w.heap.size, 0, none⟩) n n) n (us ++ List.replicate (n - k) (.slice none 0 0))) ∧ Hid (PS fs bs c os.flatten x y rest sh) ∧ Hid (Rdr wr g B rest sh) ∧ Hid (w.grownBy wr (some g))) (fun i _ _ _ _ => n - (intOf i).toNat)
  case atStart => exact ⟨0, 0, capf, Af, 0, 0, bs, false, [], [], Nat.zero_le _, rfl, rfl, rfl, rfl, Nat.zero_le _, Lib.hid rfl, by omega, by omega, Lib.hid rfl, HF2, HFL, Lib.hid ⟨rfl, fun i h => absurd h (Nat.not_lt_zero _)⟩, HW2, HP2, HR2, HG2⟩
  case round =>
    clear HR2 HW2 HG2 HF2 HP2 HFL
    obtain ⟨k, c, fcap, fA, x, y, rest, sh, us, os, hk, rfl, rfl, rfl, rfl, hcF, HC, hx, hy, HOL, HFR, HFL, HRW, HOW, HPS, HR, HG⟩ := hrel
    have HUL : Hid (us.length = k) := Lib.hid (by
      have h1 := congrArg List.length HOL.out
      rw [List.length_map, List.length_take] at h1
      rw [HRW.out.1]
      have := HN.out
      omega)
    by_cases hkn : k < n
    · have hkb : decide ((k : Int) < n) = true := by simp; omega
      obtain ⟨a, rfl, hab, haz, hacap, hac⟩ := HIA.out k (by have := HN.out; omega)
      obtain ⟨s, hse⟩ : ∃ s, ss[k]'(by have := HN.out; omega) = s := ⟨_, rfl⟩
      rw [hse] at hac
      have HSK : Hid (ss[k]? = some s) := Lib.hid (by rw [← hse]; exact List.getElem?_eq_getElem _)
      have hcs : c + s ≤ F := by
        have h1 := sum_take_step ss k s HSK.out
        have h2 := sum_take_le ss (k + 1)
        have h3 := HC.out
        have h4 := HS.out
        omega
      replace hac := grown_cell HG.out haz hab hac
      have hncap : n ≤ cap := by have := HN.out; omega
      have hfcap : F - c ≤ fcap := by
        obtain ⟨_, _, e, h1, _⟩ := HFR.out
        simp only [Value.slice.injEq] at e
        omega
      have hqz : w.heap.size < wr.heap.size := (HOW.out.lt _ rfl).2
      obtain ⟨i0, hi0, hz0, hz1, hz2⟩ := infos vinfo
      have HMK : Hid (∀ w3 : World, wr.grownBy w3 none → w3.ownsRow w.heap.size 27 1 (.slice (some ⟨w.heap.size, 0, none⟩) n n) n (us ++ List.replicate (n - k) (.slice none 0 0))) := Lib.hid (fun w3 hg => HOW.out.kept hg (.inr (fun h => nomatch h)))
      have HCX : Hid (∀ w3 : World, wr.grownBy w3 none → w3.cell? ⟨w.heap.size, k, none⟩ = some (.slice none 0 0) ∧ w3.frozen? ⟨w.heap.size, k, none⟩ = false ∧ w.heap.size < w3.heap.size) := Lib.hid (fun w3 hg => by
        have h := HMK.out w3 hg
        refine ⟨?_, h.frozenAt k, (h.lt _ rfl).2⟩
        rw [h.cellAt k (by omega), List.getElem?_append_right (by rw [HUL.out]; omega), HUL.out, Nat.sub_self, List.getElem?_replicate, if_pos (by omega)])
      clear hse
      go_wp2_with (at_make; refine wpList_make_full _ rfl _ _ 27 rfl w.heap.size 25 i0 _ 3 Try.underlying27 hi0 hz0 hz1 .i64 .i64 _ _ s rfl rfl rfl rfl (by rw [hz2]; omega) (by simp [maxLen]; omega) (by omega) ?_; intro w3 hown hgrow; have hcx := HCX.out w3 hgrow; obtain ⟨cx, fx, zx⟩ := hcx)
      rw [made_vtx] at hown
      obtain ⟨p, hp⟩ : ∃ p, wr.heap.size = p := ⟨_, rfl⟩
      rw [hp] at hown hqz
      rw [hp]
      have hz3 : wr.heap.size ≤ w3.heap.size := hgrow.size
      have hOs := (HMK.out w3 hgrow).stored k (.slice (some ⟨p, 0, none⟩) s s)
      have hset : (us ++ List.replicate (n - k) (Value.slice none 0 0)).set k (.slice (some ⟨p, 0, none⟩) s s) = (us ++ [.slice (some ⟨p, 0, none⟩) s s]) ++ List.replicate (n - (k + 1)) (.slice none 0 0) := by
        obtain ⟨m, hm⟩ : ∃ m, n - k = m + 1 := ⟨n - k - 1, by omega⟩
        rw [hm, show n - (k + 1) = m by omega, List.replicate_succ, List.set_append_right _ _ (by rw [HUL.out]; omega), HUL.out, Nat.sub_self]
        simp
      rw [hset] at hOs
      have hblk : ∀ q, q < wr.heap.size → q ≠ w.heap.size → (w3.setCell ⟨w.heap.size, k, none⟩ (.slice (some ⟨p, 0, none⟩) s s)).heap[q]? = wr.heap[q]? := fun q hq hne => (heap_set _ _ _ _ (by simpa using hne)).trans (hgrow.block q hq (fun h => nomatch h))
      have HOWi := Lib.hid hOs.1
      have HRO : Hid ((w3.setCell ⟨w.heap.size, k, none⟩ (.slice (some ⟨p, 0, none⟩) s s)).ownsRow w.heap.size 25 3 (.slice (some ⟨p, 0, none⟩) s s) s (vcells ([] ++ List.replicate (s - 0) zeroV))) := Lib.hid (own_blocks hown fun q hq => heap_set _ _ _ _ (by simp only [Value.ownBlock, Option.some.injEq] at hq; simp only []; omega))
      have hBi : Below (g + 1) wr (w3.setCell ⟨w.heap.size, k, none⟩ (.slice (some ⟨p, 0, none⟩) s s)) := (below_of_grown hgrow (by omega) (fun _ h => nomatch h)).setCell (p := ⟨w.heap.size, k, none⟩) (by simp only []; omega) _
      have HRi := Lib.hid (HR.out.keep hB hBi)
      have hZi : wr.heap.size < (w3.setCell ⟨w.heap.size, k, none⟩ (.slice (some ⟨p, 0, none⟩) s s)).heap.size := by
        have := (HRO.out.lt p rfl).2
        omega
      have HFRi := Lib.hid (HFR.out.blocks (Nat.le_of_lt hZi) (fun q hq hlt => hblk q hlt (by have := (HFL.out q hq).2; omega)))
      have HRWi := Lib.hid (HRW.out.keep (Nat.le_of_lt hZi) (fun q h1 h2 => hblk q h2 (by omega)))
      have HGi : Hid (w.grownBy (w3.setCell ⟨w.heap.size, k, none⟩ (.slice (some ⟨p, 0, none⟩) s s)) (some g)) := Lib.hid ⟨hBi.os.trans HG.out.os, hBi.tape.trans HG.out.tape, hBi.output.trans HG.out.output, Nat.le_trans HG.out.size (Nat.le_of_lt hZi), fun q hq hne => (hblk q (Nat.lt_of_lt_of_le hq HG.out.size) (by omega)).trans (HG.out.block q hq hne)⟩
      have HPN : Hid (∀ i (h : i < us.length), us[i].ownBlock ≠ some p) := Lib.hid (fun i h e => by
        obtain ⟨_, r, hr, _, hz⟩ := HRW.out.2 i h (by rw [← HRW.out.1]; exact h)
        rw [hr] at e
        injection e with e
        omega)
      rw [hp] at hZi
      have HPSi : Hid (PS fs bs (c + 0) (os.flatten ++ []) x y rest sh) := Lib.hid (by rw [List.append_nil]; exact HPS.out)
      generalize w3.setCell ⟨w.heap.size, k, none⟩ (.slice (some ⟨p, 0, none⟩) s s) = wi at *
      clear hown hgrow cx fx zx hOs hset hblk hBi HMK HCX HR HFR HRW HG HPS HOW hi0 hz0 hz1 hz2 hac HIA hz3 hp
      go_loopw [33, 8, 9] (fun i sx sy wr => ∃ (j : Nat) (x y : Int) (rest : List Nat) (sh : Bool) (cw : List Vtx), j ≤ s ∧ i = .int .i64 j ∧ sx = .int .i64 x ∧ sy = .int .i64 y ∧ (-32768 * ((c + j : Nat) : Int) ≤ x ∧ x ≤ 32768 * ((c + j : Nat) : Int)) ∧ (-32768 * ((c + j : Nat) : Int) ≤ y ∧ y ≤ 32768 * ((c + j : Nat) : Int)) ∧ Hid (cw.length = j) ∧ Hid (PS fs bs (c + j) (os.flatten ++ cw) x y rest sh) ∧ Hid (Rdr wr g B rest sh) ∧ Hid (wr.ownsRow w.heap.size 25 3 (.slice (some ⟨p, 0, none⟩) s s) s (vcells (cw ++ List.replicate (s - j) zeroV))) ∧ Hid (Duo g p wi wr)) (fun i _ _ _ => s - (intOf i).toNat)
      case atStart => exact ⟨0, x, y, rest, sh, [], Nat.zero_le _, rfl, rfl, rfl, hx, hy, Lib.hid rfl, HPSi, HRi, HRO, Lib.hid (Duo.refl _ _ _)⟩
      case round =>
        clear HPSi HRi HRO hx hy
        obtain ⟨j, x, y, rest, sh, cw, hj, rfl, rfl, rfl, hx, hy, HCL, HPS, HR, HRO, HDU⟩ := hrel
        by_cases hjs : j < s
        · have hjb : decide ((j : Int) < s) = true := by simp; omega
          obtain ⟨fA', fcap', e, hfl, _, _, h3⟩ := HFRi.out
          obtain ⟨af, hAf, haf, cf⟩ := h3 j (by rw [List.length_drop, HFN.out]; omega)
          simp only [Value.slice.injEq] at e
          obtain ⟨rfl, -, rfl⟩ := e
          subst hAf
          obtain ⟨f, hfe⟩ : ∃ f, fs[c + j]'(by rw [HFN.out]; omega) = f := ⟨_, rfl⟩
          rw [List.getElem_drop, hfe] at cf
          have HFJ : Hid (fs[c + j]? = some f) := Lib.hid (by rw [← hfe]; exact List.getElem?_eq_getElem _)
          have hf16 : f < 16 := H16.out f (by rw [← hfe]; exact List.getElem_mem _)
          have hafb := HFL.out af.block rfl
          replace cf : wr.cell? (af.add j) = some (.int .u8 f) := (World.cell?_of_block (a := af.add j) (HDU.out.block _ (by rw [block_add]; omega) (by rw [block_add]; omega))).trans cf
          obtain ⟨b1, q1, q1a, q1b⟩ := and1 f (by omega)
          obtain ⟨b2, q2, q2a, q2b⟩ := and2' f (by omega)
          obtain ⟨b4, q4, q4a, q4b⟩ := and4' f (by omega)
          obtain ⟨tx, htx⟩ : ∃ tx, decide (f / 2 % 2 = 1) = tx := ⟨_, rfl⟩
          obtain ⟨ty, hty⟩ : ∃ ty, decide (f / 4 % 2 = 1) = ty := ⟨_, rfl⟩
          obtain ⟨on, hon⟩ : ∃ on, decide (f % 2 = 1) = on := ⟨_, rfl⟩
          rw [htx] at q2a q2b
          rw [hty] at q4a q4b
          rw [hon] at q1a q1b
          have HTX := Lib.hid htx
          have HTY := Lib.hid hty
          have HON := Lib.hid hon
          have HC1 := Lib.hid (rstep_any g B rest sh tx wr HR.out)
          have hxb : -2097152 ≤ x ∧ x ≤ 2097152 := by omega
          have hyb : -2097152 ≤ y ∧ y ≤ 2097152 := by omega
          have HX := Lib.hid hx
          have HY := Lib.hid hy
          clear htx hty hon hfe h3 hx hy
          go_wp2_with fail
          refine HC1.out.mono ?_
          rintro e w5 ⟨d1, r1, sh1, rfl, hd1, hN5, hR5, hst1⟩
          have HC2 := Lib.hid (rstep_any g B r1 sh1 ty w5 hR5)
          have HN5 := Lib.hid hN5
          have HS1 := Lib.hid hst1
          clear hN5 hR5 hst1 HC1
          go_wp2_with fail
          refine HC2.out.mono ?_
          rintro e w6 ⟨d2, r2, sh2, rfl, hd2, hN6, hR6, hst2⟩
          have HR6 := Lib.hid hR6
          have HS2 := Lib.hid hst2
          have hDu := (HDU.out.trans ((HN5.out.trans hN6).duo p))
          have HDU6 := Lib.hid hDu
          have HRO6 := Lib.hid ((HN5.out.trans hN6).own HRO.out (fun e => by simp only [Value.ownBlock, Option.some.injEq] at e; omega))
          have HOW6 := Lib.hid (hDu.own HOWi.out (fun e => by simp only [Value.ownBlock, Option.some.injEq] at e; omega) (fun e => by simp only [Value.ownBlock, Option.some.injEq] at e; omega))
          have oc : w6.cell? ⟨w.heap.size, k, none⟩ = some (.slice (some ⟨p, 0, none⟩) s s) := by
            rw [HOW6.out.cellAt k (by omega), List.append_assoc, List.getElem?_append_right (by rw [HUL.out]; omega), HUL.out, Nat.sub_self]
            rfl
          have oz : w.heap.size < w6.heap.size := (HOW6.out.lt _ rfl).2
          have pz : p < w6.heap.size := (HRO6.out.lt _ rfl).2
          have hvl : (vcells (cw ++ List.replicate (s - j) zeroV)).length = s * 3 := by rw [vcells_length, List.length_append, HCL.out, List.length_replicate]; omega
          have rc : ∀ i, i < s * 3 → ∃ u, w6.cell? ⟨p, i, none⟩ = some u := fun i hi => ⟨_, (HRO6.out.cellAt i hi).trans (List.getElem?_eq_getElem (by omega))⟩
          obtain ⟨v0, rc0⟩ := rc (j * 3) (by omega)
          obtain ⟨v1, rc1⟩ := rc (j * 3 + 1) (by omega)
          obtain ⟨v2, rc2⟩ := rc (j * 3 + 2) (by omega)
          have rf0 := HRO6.out.frozenAt (j * 3)
          have rf1 := HRO6.out.frozenAt (j * 3 + 1)
          have rf2 := HRO6.out.frozenAt (j * 3 + 2)
          clear hN6 hR6 hst2 HC2 hDu hvl rc
          go_wp2_with fail
          have PSn := HPS.out.step HFJ.out (by rw [HTX.out]; exact HS1.out) (by rw [HTY.out]; exact HS2.out)
          rw [HON.out, List.append_assoc] at PSn
          have ROn := (((HRO6.out.stored (j * 3) (.int .i64 (x + d1))).1.stored (j * 3 + 1) (.int .i64 (y + d2))).1.stored (j * 3 + 2) (.bool on)).1
          have er : List.replicate (s - j) zeroV = zeroV :: List.replicate (s - (j + 1)) zeroV := by
            obtain ⟨m, hm⟩ : ∃ m, s - j = m + 1 := ⟨s - j - 1, by omega⟩
            rw [hm, show s - (j + 1) = m by omega, List.replicate_succ]
          rw [er, vcells_set cw _ zeroV ⟨x + d1, y + d2, on⟩ j HCL.out] at ROn
          have Bn : Below (g + 1) w6 (((w6.setCell ⟨p, j * 3, none⟩ (.int .i64 (x + d1))).setCell ⟨p, j * 3 + 1, none⟩ (.int .i64 (y + d2))).setCell ⟨p, j * 3 + 2, none⟩ (.bool on)) := (((Below.refl _ _).setCell (p := ⟨p, j * 3, none⟩) (by simp only []; omega) _).setCell (p := ⟨p, j * 3 + 1, none⟩) (by simp only []; omega) _).setCell (p := ⟨p, j * 3 + 2, none⟩) (by simp only []; omega) _
          have Dn := ((HDU6.out.trans (Duo.set ⟨p, j * 3, none⟩ rfl (.int .i64 (x + d1)))).trans (Duo.set ⟨p, j * 3 + 1, none⟩ rfl (.int .i64 (y + d2)))).trans (Duo.set ⟨p, j * 3 + 2, none⟩ rfl (.bool on))
          have hX := HX.out
          have hY := HY.out
          exact ⟨⟨j + 1, x + d1, y + d2, r2, sh2, cw ++ [⟨x + d1, y + d2, on⟩], by omega, by go_num, rfl, rfl, by omega, by omega, Lib.hid (by rw [List.length_append, HCL.out]; rfl), Lib.hid PSn, Lib.hid (HR6.out.keep hB Bn), Lib.hid ROn, Lib.hid Dn⟩, by simp [intOf]; omega⟩
        · obtain rfl : j = s := by omega
          have HFRn : Hid (BRd wr (.slice fA (F - c) fcap) (fs.drop c)) := Lib.hid (HFRi.out.blocks (Nat.le_of_eq HDU.out.size.symm) (fun q hq _ => by have := HFL.out q hq; exact HDU.out.block q (by omega) (by omega)))
          go_wp2_with fail
          have hdr := HFRn.out.dropO j (by rw [List.length_drop, HFN.out]; omega)
          have VR : VRow wr w.heap.size (.slice (some ⟨p, 0, none⟩) j j) cw := by
            have := HRO.out
            rw [Nat.sub_self, List.replicate_zero, List.append_nil] at this
            unfold VRow
            rw [HCL.out]
            exact this
          have hsz : wr.heap.size = wi.heap.size := HDU.out.size
          have RWn := (HRWi.out.blocks' HDU.out (by omega) (fun i h e => HPN.out i h e)).push VR.read (p := p) rfl hqz (by omega)
          have OWn := HDU.out.own HOWi.out (fun e => by simp only [Value.ownBlock, Option.some.injEq] at e; omega) (fun e => by simp only [Value.ownBlock, Option.some.injEq] at e; omega)
          have Gn : w.grownBy wr (some g) := ⟨HDU.out.os.trans HGi.out.os, HDU.out.tape.trans HGi.out.tape, HDU.out.output.trans HGi.out.output, by rw [hsz]; exact HGi.out.size, fun q hq hne => (HDU.out.block q (fun e => hne (by rw [e])) (by omega)).trans (HGi.out.block q hq hne)⟩
          have eF : F - c - j = F - (c + j) := by omega
          rw [eF] at hdr ⊢
          exact ⟨⟨k + 1, c + j, fcap - j, _, x, y, rest, sh, us ++ [.slice (some ⟨p, 0, none⟩) j j], os ++ [cw], by omega, by go_num, rfl, rfl, rfl, by omega, Lib.hid (by rw [sum_take_step ss k j HSK.out, HC.out]), hx, hy, Lib.hid (by rw [List.map_append, HOL.out, take_push ss k j HSK.out]; simp [HCL.out]), Lib.hid (by have := hdr.1; rwa [List.drop_drop] at this), Lib.hid (fun q hq => HFL.out q (hdr.2 q hq)), Lib.hid RWn, Lib.hid OWn, Lib.hid (by rw [List.flatten_append]; simpa using HPS.out), HR, Lib.hid Gn⟩, by simp [intOf]; omega⟩
    · obtain rfl : k = n := by omega
      have hcF' : c = F := by
        have h1 := HC.out
        rw [List.take_of_length_le (by rw [HN.out]; omega), HS.out] at h1
        exact h1.symm
      subst hcF'
      have HOS : Hid (os.map List.length = ss) := Lib.hid (by have := HOL.out; rwa [List.take_of_length_le (by rw [HN.out]; omega)] at this)
      have hol : os.length = k := by rw [← HRW.out.1, HUL.out]
      have HORD : Hid (∀ W : World, wr.heap.size ≤ W.heap.size → (∀ k, w.heap.size ≤ k → k < wr.heap.size → W.heap[k]? = wr.heap[k]?) → ORd W (.slice (some ⟨w.heap.size, 0, none⟩) k k) os) := Lib.hid (by
        intro W hz hb
        have hOW := own_blocks HOW.out (w' := W) fun q hq => hb q (HOW.out.lt q hq).1 (HOW.out.lt q hq).2
        have hRW := HRW.out.keep hz (fun q h1 h2 => hb q (by omega) h2)
        refine ⟨_, k, by rw [hol], by omega, fun r hr => ⟨_, us[r]'(by rw [HUL.out]; omega), rfl, (hOW.lt _ rfl).2, ?_, (hRW.2 r (by rw [HUL.out]; omega) hr).1⟩⟩
        refine hOW.cells rfl r _ ?_
        rw [List.getElem?_append_left (by rw [HUL.out]; omega)]
        exact List.getElem?_eq_getElem _)
      have HBG : Hid (Below g w wr) := Lib.hid ⟨HG.out.os, HG.out.tape, HG.out.output, HG.out.size, fun q hq => HG.out.block q (by omega) (by intro e; injection e with e; omega)⟩
      have HFN' := Lib.hid hFn
      clear hol hFn
      go_wp2
      go_ret
      exact ⟨_, os, rest, sh, x, y, rfl, HBG.out, HORD.out, HOS.out, HR.out, by rw [HFN'.out]; exact HPS.out⟩

end Go.Proofs.Ytgkhpnjfpahlgaa
