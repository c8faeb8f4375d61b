/-
  What slices.Repeat of one int does to any world: a contract (no claim is made here).
-/
import Derived.Test.YtbnjajhhbcnepaaNrow
import Derived.Test.YtbnjajhhbcnepaaMwid
import Derived.Laws.CopyOwn
namespace Go.Proofs.Ytbnjajhhbcnepaa
open Go.RowKit

set_option maxHeartbeats 400000 in
set_option maxRecDepth 100000 in
theorem bmul_any (x y : Nat) (hx : x < 18446744073709551616) (hy : y < 18446744073709551616) (w : World) :
    Calls Try.prog 35 #[.int .u64 x, .int .u64 y] w fun e w' => e = .returned (.tuple #[.int .u64 ((x * y / 18446744073709551616 : Nat) : Int), .int .u64 ((x * y % 18446744073709551616 : Nat) : Int)]) ∧ w = w' := by
  go_enter Try.func35, Try.ntmps35
  go_wp2_with (go_at_call 44; refine (mul64_any _ _ hx hy _).mono ?_; rintro e w' ⟨rfl, rfl⟩)
  go_ret2
  exact ⟨rfl, rfl⟩

/-- A row of which the first k are written. -/
def mixR (n k : Nat) (c : Int) : List Value := List.replicate k (.int .i64 c) ++ List.replicate (n - k) (.int .i64 0)
theorem mixR_len (n k : Nat) (c : Int) (h : k ≤ n) : (mixR n k c).length = n := by unfold mixR; simp; omega
theorem mixR_zero (n : Nat) (c : Int) : mixR n 0 c = List.replicate n (.int .i64 0) := by unfold mixR; simp
theorem mixR_full (n : Nat) (c : Int) : mixR n n c = List.replicate n (.int .i64 c) := by unfold mixR; simp
theorem mixR_splice (n k m : Nat) (c : Int) (h : k + m ≤ n) : splice (mixR n k c) k (List.replicate m (.int .i64 c)) = mixR n (k + m) c := by
  unfold splice mixR
  rw [List.take_append_of_le_length (by simp), List.take_of_length_le (by simp), List.length_replicate, List.drop_append, List.drop_of_length_le (by simp), List.nil_append, List.length_replicate, List.drop_replicate, ← List.append_assoc, List.replicate_append_replicate]
  congr 2
  omega
theorem mixR_at (n k j : Nat) (c : Int) (h : j < k) : (mixR n k c)[j]? = some (.int .i64 c) := by
  unfold mixR
  rw [List.getElem?_append_left (by simpa using h)]
  simp [h]
theorem row_blk {w : World} {g n : Nat} {xs : List Value} (h : w.ownsRow g 3 1 (.slice (some ⟨g, 0, none⟩) n n) n xs) : Blk w g 3 xs := by
  obtain ⟨h0, ⟨h1, -⟩ | ⟨g', cap, cur, h1, -, hg, -, -, hs, ht⟩⟩ := h
  · cases h1
  · simp only [Value.slice.injEq, Option.some.injEq, Addr.mk.injEq] at h1
    obtain ⟨⟨rfl, -, -⟩, -, rfl⟩ := h1
    rw [List.take_of_length_le (by rw [Array.length_toList]; omega)] at ht
    subst ht
    exact hg
theorem blk_row {w : World} {g n base : Nat} {l : List Nat} (h : Blk w g 3 (nvals l)) (hl : l.length = n) (hn : n ≤ 1000000) (hb : base ≤ g) : NRow w base (.slice (some ⟨g, 0, none⟩) n n) l := by
  subst hl
  refine ⟨by rw [nvals_length, Nat.mul_one], .inr ⟨g, _, _, rfl, hb, h, Nat.le_refl _, by unfold maxLen; omega, by simp [nvals_length], ?_⟩⟩
  rw [Nat.mul_one]
  simp only [List.take_of_length_le (show (nvals l).length ≤ l.length by rw [nvals_length]; exact Nat.le_refl _)]

theorem rstep_if {c : Bool} (hc : c = true) {P Q : Prop} (h : P) : if c = true then P else Q := by rw [if_pos hc]; exact h
/-- copy of ints that are all the same, into a block that is known whole. -/
theorem ncopy_wp {w : World} {o : Oper} {a : Act} {K : Act → World → Prop} {Q : Exit → Act → World → Prop} (hgd : o.guard = none) (d s : Operand)
    (ho : o.op = .call { callee := .builtin .copy, args := #[d, s], argTypes := #[38, 38] })
    (g off dLen dCap : Nat) (sp : Addr) (sLen sCap : Nat) (hd : a.eval d = .slice (some ⟨g, off, none⟩) dLen dCap) (hs : a.eval s = .slice (some sp) sLen sCap)
    (cur : List Value) (hg : Blk w g 3 cur) (m : Nat) (c : Int) (hm : m = Nat.min sLen dLen) (hsrc : ∀ j, j < m → w.cell? (sp.add j) = some (.int .i64 c)) (hfit : off + m ≤ cur.length) (B : Nat) (w0 : World) (hb : Below B w0 w) (hBg : B ≤ g)
    (h : ∀ w', Hid (Blk w' g 3 (splice cur off (List.replicate m (.int .i64 c)))) → Hid (Below B w0 w') → K (a.put o.dst (.int .i64 m)) w') :
    Oper.wp Try.prog o a w K Q := by
  have hw : Region.wanted o (yielded #[] a.tmps) = true := by simp [Region.wanted, hgd]
  have := step_copy_splice (P := Try.prog) (ops := #[]) (w := w) (o := o) (a := a) (K := K) (Q := Q) (E := True) hgd d s 38 38 ho 3 Try.underlying38 (by kernel_rfl) (some ⟨g, off, none⟩) (some sp) dLen dCap sLen sCap hd hs g off cur 3 hg (List.replicate m (.int .i64 c)) (by rw [List.length_replicate]; exact hm) (fun _ => ⟨rfl, sp, rfl, fun j v hj => by
    obtain ⟨h1, h2⟩ := List.getElem?_eq_some_iff.1 hj
    rw [List.length_replicate] at h1
    rw [List.getElem_replicate] at h2
    rw [← h2]
    exact hsrc j h1⟩) (by rw [List.length_replicate]; exact hfit) (fun v hv => by rw [(List.mem_replicate.1 hv).2]; rfl) B w0 hb hBg (fun w' h1 h2 => by
    rw [List.length_replicate]
    exact h w' (Lib.hid h1.out) (Lib.hid h2))
  rw [if_pos hw] at this
  exact this
theorem ncopy_list {w : World} {ops : Array Oper} {rest : List Oper} {o : Oper} {a : Act} {Q : Exit → Act → World → Prop} (hgd : o.guard = none) (d s : Operand)
    (ho : o.op = .call { callee := .builtin .copy, args := #[d, s], argTypes := #[38, 38] })
    (g off dLen dCap : Nat) (sp : Addr) (sLen sCap : Nat) (hd : a.eval d = .slice (some ⟨g, off, none⟩) dLen dCap) (hs : a.eval s = .slice (some sp) sLen sCap)
    (cur : List Value) (hg : Blk w g 3 cur) (m : Nat) (c : Int) (hm : m = Nat.min sLen dLen) (hsrc : ∀ j, j < m → w.cell? (sp.add j) = some (.int .i64 c)) (hfit : off + m ≤ cur.length) (B : Nat) (w0 : World) (hb : Below B w0 w) (hBg : B ≤ g)
    (h : ∀ w', Hid (Blk w' g 3 (splice cur off (List.replicate m (.int .i64 c)))) → Hid (Below B w0 w') → wpList Try.prog ops Q rest (a.put o.dst (.int .i64 m)) w') :
    wpList Try.prog ops Q (o :: rest) a w :=
  wpList_plain hgd fun _ hK => ncopy_wp hgd d s ho g off dLen dCap sp sLen sCap hd hs cur hg m c hm hsrc hfit B w0 hb hBg fun w' h1 h2 => hK _ _ (h w' h1 h2)

set_option maxHeartbeats 1600000 in
set_option maxRecDepth 100000 in
theorem repeat_any (n : Nat) (hn : n ≤ 200000) (a : Addr) (c : Nat) (w : World) (ha : w.cell? a = some (.int .i64 (c : Int))) :
    Calls Try.prog 28 #[.slice (some a) 1 1, .int .i64 n] w fun e w' => ∃ V, e = .returned V ∧ NRow w' w.heap.size V (List.replicate n c) ∧ Below w.heap.size w w' := by
  obtain ⟨i0, hi0, hz0, hz1, hz2⟩ := infos ninfo
  have HM := Lib.hid (fun w => bmul_any 1 n (by omega) (by omega) w)
  rw [show 1 * n / 18446744073709551616 = 0 by omega, show 1 * n % 18446744073709551616 = n by omega] at HM
  have hu : IntKind.u64.wrap (n : Int) = n := by rw [IntKind.wrap_u64]; omega
  have hi : IntKind.i64.wrap (n : Int) = n := wI (by omega) (by omega)
  obtain ⟨wm, hr, hown, hg⟩ := run_make_full (P := Try.prog) w w.heap.size 38 3 i0 _ 1 Try.underlying38 hi0 hz0 hz1 .i64 .i64 n (by rw [hz2]; omega) (by unfold maxLen; omega) (Nat.le_refl _)
  have Bm : Below w.heap.size w wm := (Below.refl _ w).grown hg (Nat.le_refl _) (fun q hq => by cases hq)
  have M0 : Hid (Blk wm w.heap.size 3 (mixR n 0 c)) := Lib.hid (by
    rw [show (Value.int IntKind.i64 0).cells = #[.int .i64 0] from rfl, Nat.mul_one, toList_madeCells_one] at hown
    rw [mixR_zero]
    exact row_blk hown)
  have HBm := Lib.hid Bm
  have HA := Lib.hid (keep Bm ha)
  have H1 := Lib.hid (show (Try.prog.info? 3).map (·.size) = some 1 by kernel_rfl)
  clear hown hg hi0 hz0 hz1 hz2 Bm
  go_enter Try.func28, Try.ntmps28
  go_wp2_with fail
  refine (HM.out _).mono ?_
  rintro e w1 ⟨rfl, rfl⟩
  have hb1 : decide ((9223372036854775807 : Int) < n) = false := by simp; omega
  have hb0 : decide ((n : Int) < 0) = false := by simp
  clear HM
  obtain ⟨k0, hk0, hk0n, hk1⟩ : ∃ k0 : Nat, min 1 n = k0 ∧ k0 ≤ n ∧ (n = 0 ∨ 1 ≤ k0) := ⟨_, rfl, by omega, by omega⟩
  have HN0 := Lib.hid (show k0 = Nat.min 1 n from hk0.symm)
  have HP0 := Lib.hid (show ∀ j, j < k0 → wm.cell? (a.add j) = some (.int .i64 (c : Int)) from fun j hj => by
    obtain rfl : j = 0 := by omega
    exact HA.out)
  have HF0 := Lib.hid (show 0 + k0 ≤ (mixR n 0 c).length by rw [mixR_len n 0 c (Nat.zero_le _)]; omega)
  clear hk0
  go_wp2_with (refine ncopy_list (o := ⟨some 33, _, _, _, _, _⟩) rfl (.tmp 31) (.tmp 32) rfl w.heap.size 0 n n a 1 1 rfl rfl (mixR n 0 c) M0.out k0 c HN0.out HP0.out HF0.out w.heap.size w HBm.out (Nat.le_refl _) ?_; intro w2 HG2 HB2)
  have HR2 := Lib.hid (show Blk w2 w.heap.size 3 (mixR n k0 c) from by have h := HG2.out; rw [mixR_splice n 0 k0 c (by omega), Nat.zero_add] at h; exact h)
  clear HG2 HN0 HP0 HF0 M0 HBm HA ha hu hi hr hb1 hb0
  go_loopw [8] (fun i wr => ∃ k : Nat, k ≤ n ∧ i = .int .i64 k ∧ (n = 0 ∨ 1 ≤ k) ∧ Hid (Blk wr w.heap.size 3 (mixR n k c)) ∧ Hid (Below w.heap.size w wr)) (fun i _ => n - (intOf i).toNat)
  case atStart => exact ⟨k0, hk0n, rfl, hk1, HR2, HB2⟩
  case round =>
    clear HR2 HB2 hk0n hk1
    obtain ⟨k, hk, rfl, hk1, HG, HB⟩ := hrel
    by_cases hkn : k < n
    · have hkb : decide ((k : Int) < n) = true := by simp; omega
      obtain ⟨m, hm, hm1, hmn, hmk⟩ : ∃ m, m = Nat.min k (n - k) ∧ 0 < m ∧ k + m ≤ n ∧ m ≤ k := ⟨_, rfl, by have : Nat.min k (n - k) = min k (n - k) := rfl; omega, by have : Nat.min k (n - k) = min k (n - k) := rfl; omega, by have : Nat.min k (n - k) = min k (n - k) := rfl; omega⟩
      have HM := Lib.hid hm
      have hsm : IntKind.i64.wrap ((k : Int) + m) = k + m := wI (by omega) (by omega)
      have hk0 : decide ((k : Int) < 0) = false := by simp
      have hk2 : decide ((n : Int) < k) = false := by simp; omega
      have hk3 : (n : Int) - k = ((n - k : Nat) : Int) := by omega
      clear hm
      go_upto_region 9 with fail
      have hd : Below wr.heap.size wr wr.drew := (Below.refl _ wr).drew
      have AB := HB.out.drew
      replace HG := Lib.hid (HG.out.keep hd)
      clear hd HB
      refine wp_region_held_drew (S := fun _ => True) (by kernel_rfl) (trivial) (fun hHeld => ?_)
      refine wpAnyH_take (i := 0) (v := ?_) rfl (by kernel_rfl) (by kernel_rfl) (by kernel_rfl) (fun _ _ _ h => h) (Or.inl ⟨by rfl, ?_⟩) hHeld ?_
      rotate_left
      · intro w hSw
        (try dsimp only at hSw)
        (try simp only [List.getElem_toArray, List.getElem_cons_zero])
        go_simp
        all_goals with_reducible rfl
      try simp only [List.getElem_toArray, List.getElem_cons_zero, Act.put, List.setIfInBounds_toArray, List.set_cons_zero, List.set_cons_succ]
      refine wpAnyH_take (i := 1) (v := ?_) rfl (by kernel_rfl) (by kernel_rfl) (by kernel_rfl) (fun _ _ _ h => h) (Or.inl ⟨by rfl, ?_⟩) hHeld ?_
      rotate_left
      · intro w hSw
        (try dsimp only at hSw)
        (try simp only [List.getElem_toArray, List.getElem_cons_zero, List.getElem_cons_succ])
        go_simp
        all_goals with_reducible rfl
      try simp only [List.getElem_toArray, List.getElem_cons_zero, List.getElem_cons_succ, Act.put, List.setIfInBounds_toArray, List.set_cons_zero, List.set_cons_succ]
      refine wpAnyH_take (i := 2) (v := ?_) rfl (by kernel_rfl) (by kernel_rfl) (by kernel_rfl) (fun _ _ _ h => h) (Or.inl ⟨by rfl, ?_⟩) hHeld ?_
      rotate_left
      · intro w hSw
        (try dsimp only at hSw)
        (try simp only [List.getElem_toArray, List.getElem_cons_zero, List.getElem_cons_succ])
        go_simp
        all_goals with_reducible rfl
      try simp only [List.getElem_toArray, List.getElem_cons_zero, List.getElem_cons_succ, Act.put, List.setIfInBounds_toArray, List.set_cons_zero, List.set_cons_succ]
      refine wpAnyH_take (i := 3) (v := ?_) rfl (by kernel_rfl) (by kernel_rfl) (by kernel_rfl) (fun _ _ _ h => h) (Or.inl ⟨by rfl, ?_⟩) hHeld ?_
      rotate_left
      · intro w hSw
        (try dsimp only at hSw)
        (try simp only [List.getElem_toArray, List.getElem_cons_zero, List.getElem_cons_succ])
        go_simp
        all_goals with_reducible rfl
      try simp only [List.getElem_toArray, List.getElem_cons_zero, List.getElem_cons_succ, Act.put, List.setIfInBounds_toArray, List.set_cons_zero, List.set_cons_succ]
      refine wpAnyH_take (i := 4) (v := ?_) rfl (by kernel_rfl) (by kernel_rfl) (by kernel_rfl) (fun _ _ _ h => h) (Or.inl ⟨by rfl, ?_⟩) hHeld ?_
      rotate_left
      · intro w hSw
        (try dsimp only at hSw)
        (try simp only [List.getElem_toArray, List.getElem_cons_zero, List.getElem_cons_succ])
        go_simp
        all_goals with_reducible rfl
      try simp only [List.getElem_toArray, List.getElem_cons_zero, List.getElem_cons_succ, Act.put, List.setIfInBounds_toArray, List.set_cons_zero, List.set_cons_succ]
      refine wpAnyH_take (i := 5) (v := ?_) rfl (by kernel_rfl) (by kernel_rfl) (by kernel_rfl) (fun _ _ _ h => h) (Or.inl ⟨by rfl, ?_⟩) hHeld ?_
      rotate_left
      · intro w hSw
        (try dsimp only at hSw)
        (try simp only [List.getElem_toArray, List.getElem_cons_zero, List.getElem_cons_succ])
        go_simp
        all_goals with_reducible rfl
      try simp only [List.getElem_toArray, List.getElem_cons_zero, List.getElem_cons_succ, Act.put, List.setIfInBounds_toArray, List.set_cons_zero, List.set_cons_succ]
      refine wpAnyH_take (i := 6) (v := ?_) rfl (by kernel_rfl) (by kernel_rfl) (by kernel_rfl) (fun _ _ _ h => h) (Or.inl ⟨by rfl, ?_⟩) hHeld ?_
      rotate_left
      · intro w hSw
        (try dsimp only at hSw)
        (try simp only [List.getElem_toArray, List.getElem_cons_zero, List.getElem_cons_succ])
        go_simp
        all_goals with_reducible rfl
      try simp only [List.getElem_toArray, List.getElem_cons_zero, List.getElem_cons_succ, Act.put, List.setIfInBounds_toArray, List.set_cons_zero, List.set_cons_succ]
      refine wpAnyH_ready (rs := [7]) (by kernel_rfl) (by simp) ?_
      refine AllReadyH.cons rfl (fun K hK => ?_) AllReadyH.nil
      try simp only [List.getElem_toArray, List.getElem_cons_zero, List.getElem_cons_succ]
      refine rstep_if (by kernel_rfl) ?_
      refine ncopy_wp rfl (.tmp 41) (.tmp 44) ?_ w.heap.size k (n - k) (n - k) ⟨w.heap.size, 0, none⟩ k n ?_ ?_ (mixR n k c) HG.out m c HM.out ?_ ?_ w.heap.size w AB (Nat.le_refl _) ?_
      · rfl
      · show Value.slice (if n = k then some (⟨w.heap.size, 0, none⟩ : Addr) else some ⟨w.heap.size, k, none⟩) (n - k) (n - k) = _
        rw [if_neg (by omega)]
      · rfl
      · intro j hj
        rw [show ((⟨w.heap.size, 0, none⟩ : Addr).add j) = ⟨w.heap.size, j, none⟩ by simp [Addr.add]; omega]
        exact HG.out.cell _ (mixR_at n k j c (by omega))
      · rw [mixR_len n k c hk]; omega
      intro wn HG3 HB3
      have AB := HB3.out
      replace HG : Hid (Blk wn w.heap.size 3 (mixR n (k + m) c)) := Lib.hid (by have h := HG3.out; rw [mixR_splice n k m c hmn] at h; exact h)
      clear HG3 HB3
      refine hK.out _ _ (trivial) (fun hHeld => ?_)
      clear hK K
      try simp only [Act.put, List.setIfInBounds_toArray, List.set_cons_zero, List.set_cons_succ]
      refine wpAnyH_take (i := 8) (v := ?_) rfl (by kernel_rfl) (by kernel_rfl) (by kernel_rfl) (fun _ _ _ h => h) (Or.inl ⟨by rfl, ?_⟩) hHeld ?_
      rotate_left
      · intro w hSw
        (try dsimp only at hSw)
        (try simp only [List.getElem_toArray, List.getElem_cons_zero, List.getElem_cons_succ])
        go_simp
        all_goals with_reducible rfl
      try simp only [List.getElem_toArray, List.getElem_cons_zero, List.getElem_cons_succ, Act.put, List.setIfInBounds_toArray, List.set_cons_zero, List.set_cons_succ]
      refine wpAnyH_take (i := 9) (v := ?_) rfl (by kernel_rfl) (by kernel_rfl) (by kernel_rfl) (fun _ _ _ h => h) (Or.inl ⟨by rfl, ?_⟩) hHeld ?_
      rotate_left
      · intro w hSw
        (try dsimp only at hSw)
        (try simp only [List.getElem_toArray, List.getElem_cons_zero, List.getElem_cons_succ])
        go_simp
        all_goals with_reducible rfl
      try simp only [List.getElem_toArray, List.getElem_cons_zero, List.getElem_cons_succ, Act.put, List.setIfInBounds_toArray, List.set_cons_zero, List.set_cons_succ]
      refine wpAnyH_done (by kernel_rfl) ?_ _
      go_wp2_with fail
      exact ⟨⟨k + m, hmn, by go_num, .inr (by omega), HG, Lib.hid AB⟩, by simp [intOf]; omega⟩
    · obtain rfl : k = n := by omega
      go_wp2_with fail
      go_ret
      refine ⟨_, rfl, ?_, HB.out⟩
      have h := HG.out
      rw [mixR_full] at h
      exact blk_row (l := List.replicate k c) (by unfold nvals; rw [List.map_replicate]; exact h) (by simp) (by omega) (Nat.le_refl _)

end Go.Proofs.Ytbnjajhhbcnepaa
