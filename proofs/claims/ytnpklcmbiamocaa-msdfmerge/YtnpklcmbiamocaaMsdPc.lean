/-
  What the program's Median and Merge of layer 12 do to any world: contracts (no claim is made here).
-/
import Derived.Test.YtnpklcmbiamocaaMsd7
import Derived.Test.YtnpklcmbiamocaaMsd0
import Derived.Test.YtnpklcmbiamocaaMsdq
namespace Go.Proofs.Ytnpklcmbiamocaa
open Go.RowKit

theorem run_min2b {P : Program} (ats : Array TypeId) (ty : TypeId) (a b : Int) (w : World) : Sem.run P (Builtin.min_ ats ty #[.int .u8 a, .int .u8 b]) w = .ok (.int .u8 (min a b)) w := by
  simp [Builtin.min_, Builtin.min2, Int.min_def]; split <;> split <;> (try omega) <;> (try rfl) <;> (congr 2; omega)
theorem run_max2b {P : Program} (ats : Array TypeId) (ty : TypeId) (a b : Int) (w : World) : Sem.run P (Builtin.max_ ats ty #[.int .u8 a, .int .u8 b]) w = .ok (.int .u8 (max a b)) w := by
  simp [Builtin.max_, Builtin.max2, Int.max_def]; split <;> split <;> (try omega) <;> (try rfl) <;> (congr 2; omega)

set_option maxRecDepth 100000 in
theorem pmedian_any (a b c : Nat) (w : World) :
    Calls Try.prog 18 #[.int .u8 a, .int .u8 b, .int .u8 c] w fun e w' => e = .returned (.int .u8 (medN a b c : Nat)) ∧ Below w.heap.size w w' := by
  have h : ((medN a b c : Nat) : Int) = max (min (a : Int) b) (min (max (a : Int) b) c) := by unfold medN; omega
  rw [h]
  have h1 := fun w => run_min2b (P := Try.prog) #[5, 5] 5 a b w
  have h2 := fun w => run_max2b (P := Try.prog) #[5, 5] 5 a b w
  have h3 := fun w => run_min2b (P := Try.prog) #[5, 5] 5 (max (a : Int) b) c w
  have h4 := fun w => run_max2b (P := Try.prog) #[5, 5] 5 (min (a : Int) b) (min (max (a : Int) b) c) w
  clear h
  go_enter Try.func18, Try.ntmps18
  go_wp2_with fail
  go_ret
  exact ⟨rfl, Below.refl _ _⟩

/-- Columns, rows and texels of the three. -/
def threeT (u0 v0 n0 u1 v1 n1 u2 v2 n2 : Nat) : Nat → Nat × Nat × Nat
  | 0 => (u0, v0, n0)
  | 1 => (u1, v1, n1)
  | _ => (u2, v2, n2)
/-- The three are of one size, and have their texels. -/
def alikeT (u0 v0 n0 u1 v1 n1 u2 v2 n2 : Nat) : Prop := u1 = u0 ∧ u2 = u0 ∧ v1 = v0 ∧ v2 = v0 ∧ n0 = u0 * v0 ∧ n1 = u0 * v0 ∧ n2 = u0 * v0
theorem alike_iff (u0 v0 n0 u1 v1 n1 u2 v2 n2 : Nat) : alikeT u0 v0 n0 u1 v1 n1 u2 v2 n2 ↔ ∀ j, j < 3 → threeT u0 v0 n0 u1 v1 n1 u2 v2 n2 j = (u0, v0, u0 * v0) := by
  constructor
  · rintro ⟨rfl, rfl, rfl, rfl, rfl, rfl, rfl⟩ j hj
    obtain rfl | rfl | rfl : j = 0 ∨ j = 1 ∨ j = 2 := by omega
    all_goals rfl
  · intro h
    have h0 := h 0 (by decide)
    have h1 := h 1 (by decide)
    have h2 := h 2 (by decide)
    simp only [threeT, Prod.mk.injEq] at h0 h1 h2
    exact ⟨h1.1, h2.1, h1.2.1, h2.2.1, h0.2.2, h1.2.2, h2.2.2⟩

/-- A byte of a row that is read, for as long as its block stays. -/
theorem bat {w : World} {A : Option Addr} {n cap : Nat} {c : List Nat} (h : BRd w (.slice A n cap) c) (i b : Nat) (hi : c[i]? = some b) : ∃ a, A = some a ∧ ∀ w', Below w.heap.size w w' → w'.cell? (a.add i) = some (.int .u8 (b : Nat)) := by
  obtain ⟨A, cap, e, h1, _, _, h2⟩ := h
  simp only [Value.slice.injEq] at e
  obtain ⟨rfl, rfl, rfl⟩ := e
  obtain ⟨hlt, hb⟩ := List.getElem?_eq_some_iff.1 hi
  obtain ⟨a, ha, hl, hc⟩ := h2 i hlt
  rw [hb] at hc
  exact ⟨a, ha, fun w' hw => keep hw hc⟩

set_option maxRecDepth 100000 in
set_option maxHeartbeats 1600000 in
theorem pmerge_core (u0 v0 u1 v1 u2 v2 : Nat) (T0 T1 T2 : Value) (a b c : List Nat) (w : World) (hu0 : u0 ≤ 24) (hv0 : v0 ≤ 24) (hta : BRd w T0 a) (htb : BRd w T1 b) (htc : BRd w T2 c) :
    Calls Try.prog 20 #[.agg #[.int .i64 u0, .int .i64 v0, T0, .int .i64 u1, .int .i64 v1, T1, .int .i64 u2, .int .i64 v2, T2]] w fun e w' =>
      (alikeT u0 v0 a.length u1 v1 b.length u2 v2 c.length ∧ ∃ T, e = .returned (.tuple #[.agg #[.int .i64 u0, .int .i64 v0, T], .int .i64 0]) ∧ BRow w' w.heap.size T (medL a b c) ∧ Below w.heap.size w w') ∨
      (¬alikeT u0 v0 a.length u1 v1 b.length u2 v2 c.length ∧ e = .returned (.tuple #[.agg #[.int .i64 0, .int .i64 0, .slice none 0 0], .int .i64 6]) ∧ Below w.heap.size w w') := by
  have HA := Lib.hid hta
  have HB := Lib.hid htb
  have HC := Lib.hid htc
  obtain ⟨A0, ca, rfl, qa, qa2, -⟩ := hta
  obtain ⟨A1, cb, rfl, qb, qb2, -⟩ := htb
  obtain ⟨A2, cc, rfl, qc, qc2, -⟩ := htc
  rw [alike_iff]
  have hN : u0 * v0 ≤ 576 := Nat.mul_le_mul hu0 hv0
  obtain ⟨N, hNe⟩ : ∃ N, u0 * v0 = N := ⟨_, rfl⟩
  have hNw : IntKind.i64.wrap ((u0 : Int) * v0) = (N : Int) := by rw [← hNe, Int.natCast_mul]; exact wI (by rw [← Int.natCast_mul]; omega) (by rw [← Int.natCast_mul]; omega)
  rw [hNe] at hN ⊢
  obtain ⟨na, hna⟩ : ∃ N, a.length = N := ⟨_, rfl⟩
  obtain ⟨nb, hnb⟩ : ∃ N, b.length = N := ⟨_, rfl⟩
  obtain ⟨nc, hnc⟩ : ∃ N, c.length = N := ⟨_, rfl⟩
  rw [hna] at HA qa ⊢
  rw [hnb] at HB qb ⊢
  rw [hnc] at HC qc ⊢
  have HLA := Lib.hid hna
  have HLB := Lib.hid hnb
  have HLC := Lib.hid hnc
  have hB0 := alloc2 w (.cells #[.int .i64 u0, .int .i64 v0, .slice A0 na ca, .int .i64 u1, .int .i64 v1, .slice A1 nb cb, .int .i64 u2, .int .i64 v2, .slice A2 nc cc] 39) (.cells #[.int .i64 0, .int .i64 0, .slice none 0 0] 38)
  have HB0 := Lib.hid hB0
  have HF0 := Lib.hid (Blk.new (w.alloc (.cells #[.int .i64 u0, .int .i64 v0, .slice A0 na ca, .int .i64 u1, .int .i64 v1, .slice A1 nb cb, .int .i64 u2, .int .i64 v2, .slice A2 nc cc] 39)) 38 [.int .i64 0, .int .i64 0, .slice none 0 0] (g := w.heap.size + 1) (by simp))
  have HS0 := Lib.hid ((Blk.new w 39 [.int .i64 u0, .int .i64 v0, .slice A0 na ca, .int .i64 u1, .int .i64 v1, .slice A1 nb cb, .int .i64 u2, .int .i64 v2, .slice A2 nc cc] rfl).alloc (.cells #[.int .i64 0, .int .i64 0, .slice none 0 0] 38))
  replace HA := Lib.hid (HA.out.keep hB0)
  replace HB := Lib.hid (HB.out.keep hB0)
  replace HC := Lib.hid (HC.out.keep hB0)
  have hx := fun w => fields_at (.int .i64 u0) (.int .i64 v0) (.slice A0 na ca) (.int .i64 u1) (.int .i64 v1) (.slice A1 nb cb) (.int .i64 u2) (.int .i64 v2) (.slice A2 nc cc) w
  have HX := Lib.hid hx
  clear hna hnb hnc hNe hx hB0
  go_enter Try.func20, Try.ntmps20
  go_wp2_with fail
  generalize (w.alloc (.cells #[.int .i64 u0, .int .i64 v0, .slice A0 na ca, .int .i64 u1, .int .i64 v1, .slice A1 nb cb, .int .i64 u2, .int .i64 v2, .slice A2 nc cc] 39)).alloc (.cells #[.int .i64 0, .int .i64 0, .slice none 0 0] 38) = w0 at *
  have AB := HB0.out.drew
  replace HS0 := Lib.hid (HS0.out.drew)
  replace HF0 := Lib.hid (HF0.out.drew)
  replace HA := Lib.hid (HA.out.keep (Below.refl _ _).drew)
  replace HB := Lib.hid (HB.out.keep (Below.refl _ _).drew)
  replace HC := Lib.hid (HC.out.keep (Below.refl _ _).drew)
  clear HB0
  refine wp_region_held_drew (S := fun wx => wx.cell? ⟨w.heap.size, 0, none⟩ = some (.int .i64 u0) ∧ wx.cell? ⟨w.heap.size, 1, none⟩ = some (.int .i64 v0) ∧ wx.cell? ⟨w.heap.size, 2, none⟩ = some (.slice A0 na ca) ∧ wx.cell? ⟨w.heap.size, 3, none⟩ = some (.int .i64 u1) ∧ wx.cell? ⟨w.heap.size, 4, none⟩ = some (.int .i64 v1) ∧ wx.cell? ⟨w.heap.size, 5, none⟩ = some (.slice A1 nb cb) ∧ wx.cell? ⟨w.heap.size, 6, none⟩ = some (.int .i64 u2) ∧ wx.cell? ⟨w.heap.size, 7, none⟩ = some (.int .i64 v2) ∧ wx.cell? ⟨w.heap.size, 8, none⟩ = some (.slice A2 nc cc)) (by kernel_rfl) (⟨HS0.out.cell 0 rfl, HS0.out.cell 1 rfl, HS0.out.cell 2 rfl, HS0.out.cell 3 rfl, HS0.out.cell 4 rfl, HS0.out.cell 5 rfl, HS0.out.cell 6 rfl, HS0.out.cell 7 rfl, HS0.out.cell 8 rfl⟩) (fun hHeld => ?_)
  refine wpAnyH_take (i := 0) (v := ?_) rfl (by kernel_rfl) (by kernel_rfl) (by kernel_rfl) (fun _ _ _ h => h) (Or.inl ⟨by rfl, ?_⟩) hHeld ?_
  rotate_left
  · intro w hSw
    (try dsimp only at hSw)
    (try simp only [List.getElem_toArray, List.getElem_cons_zero])
    go_simp
    all_goals with_reducible rfl
  try simp only [List.getElem_toArray, List.getElem_cons_zero, Act.put, List.setIfInBounds_toArray, List.set_cons_zero, List.set_cons_succ]
  refine wpAnyH_take (i := 1) (v := ?_) rfl (by kernel_rfl) (by kernel_rfl) (by kernel_rfl) (fun _ _ _ h => h) (Or.inl ⟨by rfl, ?_⟩) hHeld ?_
  rotate_left
  · intro w hSw
    (try dsimp only at hSw)
    (try simp only [List.getElem_toArray, List.getElem_cons_zero, List.getElem_cons_succ])
    go_simp
    all_goals with_reducible rfl
  try simp only [List.getElem_toArray, List.getElem_cons_zero, List.getElem_cons_succ, Act.put, List.setIfInBounds_toArray, List.set_cons_zero, List.set_cons_succ]
  refine wpAnyH_take (i := 2) (v := ?_) rfl (by kernel_rfl) (by kernel_rfl) (by kernel_rfl) (fun _ _ _ h => h) (Or.inl ⟨by rfl, ?_⟩) hHeld ?_
  rotate_left
  · intro w hSw
    (try dsimp only at hSw)
    (try simp only [List.getElem_toArray, List.getElem_cons_zero, List.getElem_cons_succ])
    go_simp
    all_goals with_reducible rfl
  try simp only [List.getElem_toArray, List.getElem_cons_zero, List.getElem_cons_succ, Act.put, List.setIfInBounds_toArray, List.set_cons_zero, List.set_cons_succ]
  refine wpAnyH_take (i := 3) (v := ?_) rfl (by kernel_rfl) (by kernel_rfl) (by kernel_rfl) (fun _ _ _ h => h) (Or.inl ⟨by rfl, ?_⟩) hHeld ?_
  rotate_left
  · intro w hSw
    (try dsimp only at hSw)
    (try simp only [List.getElem_toArray, List.getElem_cons_zero, List.getElem_cons_succ])
    go_simp
    all_goals with_reducible rfl
  try simp only [List.getElem_toArray, List.getElem_cons_zero, List.getElem_cons_succ, Act.put, List.setIfInBounds_toArray, List.set_cons_zero, List.set_cons_succ]
  refine wpAnyH_take (i := 4) (v := ?_) rfl (by kernel_rfl) (by kernel_rfl) (by kernel_rfl) (fun _ _ _ h => h) (Or.inl ⟨by rfl, ?_⟩) hHeld ?_
  rotate_left
  · intro w hSw
    (try dsimp only at hSw)
    (try simp only [List.getElem_toArray, List.getElem_cons_zero, List.getElem_cons_succ])
    go_simp
    all_goals with_reducible rfl
  try simp only [List.getElem_toArray, List.getElem_cons_zero, List.getElem_cons_succ, Act.put, List.setIfInBounds_toArray, List.set_cons_zero, List.set_cons_succ]
  refine wpAnyH_take (i := 5) (v := ?_) rfl (by kernel_rfl) (by kernel_rfl) (by kernel_rfl) (fun _ _ _ h => h) (Or.inl ⟨by rfl, ?_⟩) hHeld ?_
  rotate_left
  · intro w hSw
    (try dsimp only at hSw)
    (try simp only [List.getElem_toArray, List.getElem_cons_zero, List.getElem_cons_succ])
    go_simp
    all_goals with_reducible rfl
  try simp only [List.getElem_toArray, List.getElem_cons_zero, List.getElem_cons_succ, Act.put, List.setIfInBounds_toArray, List.set_cons_zero, List.set_cons_succ]
  refine wpAnyH_take (i := 6) (v := ?_) rfl (by kernel_rfl) (by kernel_rfl) (by kernel_rfl) (fun _ _ _ h => h) (Or.inl ⟨by rfl, ?_⟩) hHeld ?_
  rotate_left
  · intro w hSw
    (try dsimp only at hSw)
    (try simp only [List.getElem_toArray, List.getElem_cons_zero, List.getElem_cons_succ])
    go_simp
    all_goals with_reducible rfl
  try simp only [List.getElem_toArray, List.getElem_cons_zero, List.getElem_cons_succ, Act.put, List.setIfInBounds_toArray, List.set_cons_zero, List.set_cons_succ]
  refine wpAnyH_take (i := 7) (v := ?_) rfl (by kernel_rfl) (by kernel_rfl) (by kernel_rfl) (fun _ _ _ h => h) (Or.inl ⟨by rfl, ?_⟩) hHeld ?_
  rotate_left
  · intro w hSw
    (try dsimp only at hSw)
    (try simp only [List.getElem_toArray, List.getElem_cons_zero, List.getElem_cons_succ])
    go_simp
    all_goals with_reducible rfl
  try simp only [List.getElem_toArray, List.getElem_cons_zero, List.getElem_cons_succ, Act.put, List.setIfInBounds_toArray, List.set_cons_zero, List.set_cons_succ]
  refine wpAnyH_done (by kernel_rfl) ?_ _
  have HB1 := Lib.hid AB
  clear AB
  go_wp2_with fail
  go_loopw [17] (fun i wr => ∃ r : Nat, r ≤ 3 ∧ i = .int .i64 r ∧ Hid (∀ j, j < r → threeT u0 v0 na u1 v1 nb u2 v2 nc j = (u0, v0, N)) ∧ Hid (Below w0.drew.heap.size w0.drew wr)) (fun i _ => 3 - (intOf i).toNat)
  case atStart => exact ⟨0, Nat.zero_le _, rfl, Lib.hid (fun j hj => absurd hj (Nat.not_lt_zero _)), Lib.hid (Below.refl _ _)⟩
  case round =>
    obtain ⟨r, hr, rfl, HT, HW⟩ := hrel
    by_cases hrn : r < 3
    · have hrb : decide ((r : Int) < 3) = true := by simp; omega
      obtain ⟨ur, vr, Ar, nr, cr, hX, hLK⟩ : ∃ (ur vr : Nat) (Ar : Option Addr) (nr cr : Nat), (∀ w, Sem.run Try.prog (Instr.index 39 (.agg #[.int .i64 u0, .int .i64 v0, .slice A0 na ca, .int .i64 u1, .int .i64 v1, .slice A1 nb cb, .int .i64 u2, .int .i64 v2, .slice A2 nc cc]) (.int .i64 (r : Int))) w = .ok (.agg #[.int .i64 ur, .int .i64 vr, .slice Ar nr cr]) w) ∧ threeT u0 v0 na u1 v1 nb u2 v2 nc r = (ur, vr, nr) := by
        obtain rfl | rfl | rfl : r = 0 ∨ r = 1 ∨ r = 2 := by omega
        · exact ⟨u0, v0, A0, na, ca, fun w => (HX.out w).1, rfl⟩
        · exact ⟨u1, v1, A1, nb, cb, fun w => (HX.out w).2.1, rfl⟩
        · exact ⟨u2, v2, A2, nc, cc, fun w => (HX.out w).2.2, rfl⟩
      have HLK := Lib.hid hLK
      have HST : Hid (ur = u0 → vr = v0 → nr = N → ∀ j, j < r + 1 → threeT u0 v0 na u1 v1 nb u2 v2 nc j = (u0, v0, N)) := Lib.hid (fun e1 e2 e3 j hj => by
        by_cases h : j < r
        · exact HT.out j h
        · obtain rfl : j = r := by omega
          rw [HLK.out, e1, e2, e3])
      have HNO : Hid (¬(ur = u0 ∧ vr = v0 ∧ nr = N) → ¬∀ j, j < 3 → threeT u0 v0 na u1 v1 nb u2 v2 nc j = (u0, v0, N)) := Lib.hid (fun hn h => hn (by
        have := h r hrn
        rw [HLK.out] at this
        simpa only [Prod.mk.injEq] using this))
      have HBr := Lib.hid (HB1.out.trans (HW.out.mono HB1.out.size))
      have HFr := Lib.hid (HF0.out.keep HW.out)
      have r0 := HFr.out.cell 0 rfl
      have r1 := HFr.out.cell 1 rfl
      have r2 := HFr.out.cell 2 rfl
      have rf := HFr.out.frozen
      have rl := HFr.out.lt
      have HF5 := Lib.hid (fun o => (((HFr.out.set 0 (.int .i64 0)).set 1 (.int .i64 0)).set 2 (.slice none 0 0)).alloc o)
      have HB5 := Lib.hid (fun o => (((HBr.out.setCell (p := ⟨w.heap.size + 1, 0, none⟩) (by simp) (.int .i64 0)).setCell (p := ⟨w.heap.size + 1, 1, none⟩) (by simp) (.int .i64 0)).setCell (p := ⟨w.heap.size + 1, 2, none⟩) (by simp) (.slice none 0 0)).alloc (by simpa using HBr.out.size) o)
      clear hLK
      go_wp2_with fail
      all_goals first
        | exact ⟨⟨r + 1, hrn, by go_num, Lib.hid (HST.out (by omega) (by omega) (by rename_i hne; simp at hne; omega)), Lib.hid (HW.out.alloc HW.out.size _)⟩, by simp [intOf]; omega⟩
        | (have hno := HNO.out (by rintro ⟨e1, e2, e3⟩; first | omega | (rename_i hne _; simp at hne; omega) | (rename_i hne; simp at hne; omega))
           have q0 := fun o => (HF5.out o).cell 0 rfl
           have q1 := fun o => (HF5.out o).cell 1 rfl
           have q2 := fun o => (HF5.out o).cell 2 rfl
           exact bodyPost_ret (v := .tuple #[.agg #[.int .i64 0, .int .i64 0, .slice none 0 0], .int .i64 6]) (by simp [results, Try.results20, go_sem, q0, q1, q2]) rfl (.inr ⟨hno, rfl, HB5.out _⟩))
    · obtain rfl : r = 3 := by omega
      have h0 := HT.out 0 (by decide)
      have h1 := HT.out 1 (by decide)
      have h2 := HT.out 2 (by decide)
      simp only [threeT, Prod.mk.injEq] at h0 h1 h2
      obtain ⟨-, -, rfl⟩ := h0
      obtain ⟨rfl, rfl, rfl⟩ := h1
      obtain ⟨rfl, rfl, rfl⟩ := h2
      obtain ⟨w5, rfl⟩ : ∃ x, x = wr := ⟨wr, rfl⟩
      have HSr := Lib.hid (HS0.out.keep HW.out)
      have HFr := Lib.hid (HF0.out.keep HW.out)
      have HAr := Lib.hid (HA.out.keep HW.out)
      have HBr := Lib.hid (HB.out.keep HW.out)
      have HCr := Lib.hid (HC.out.keep HW.out)
      have HLr := Lib.hid (HB1.out.trans (HW.out.mono HB1.out.size))
      have s2 := HSr.out.cell 2 rfl
      have sl := HSr.out.lt
      obtain ⟨i0, hi0, hz0, hz1, hz2⟩ := infos binfo
      obtain ⟨wm, hr, hown, hg⟩ := run_make_full (P := Try.prog) w5 w5.heap.size 25 5 i0 _ 1 Try.underlying25 hi0 hz0 hz1 .i64 .i64 nc (by rw [hz2]; omega) (by unfold maxLen; omega) (Nat.le_refl _)
      have Bm : Below w5.heap.size w5 wm := (Below.refl _ w5).grown hg (Nat.le_refl _) (fun q hq => by cases hq)
      obtain ⟨t, ht⟩ : ∃ t : Nat → Nat, (fun j => medN (a.getD j 0) (b.getD j 0) (c.getD j 0)) = t := ⟨_, rfl⟩
      have HTJ := Lib.hid (fun j => congrFun ht j)
      have HML : Hid (medL a b c = (List.range nc).map t) := Lib.hid (by unfold medL; rw [HLA.out, ht])
      have M0 : Fill wm w5.heap.size nc t 0 := by
        rw [show (Value.int IntKind.u8 0).cells = #[.int .u8 0] from rfl, Nat.mul_one, toList_madeCells_one] at hown
        unfold Fill; rw [fillN_zero]; exact hown
      have hal : Below wm.heap.size wm (wm.alloc (.cells #[.int .i64 u2, .int .i64 v2, .slice (some ⟨w5.heap.size, 0, none⟩) nc nc] 38)) := (Below.refl _ _).alloc (Nat.le_refl _) _
      have HM0 := Lib.hid (M0.keep hal)
      have HX0 := Lib.hid (Blk.new wm 38 [.int .i64 u2, .int .i64 v2, .slice (some ⟨w5.heap.size, 0, none⟩) nc nc] rfl)
      have HW0 := Lib.hid (below2 Bm hal)
      have hgs : Hid (w.heap.size + 1 < w5.heap.size) := Lib.hid HFr.out.lt
      have hgm : Hid (w5.heap.size < wm.heap.size) := Lib.hid M0.lt
      clear hown hg hi0 hz0 hz1 hz2 Bm HT HW HA HB HC HS0 HF0 HB1 ht M0 hal
      go_wp2_with fail
      clear hr
      generalize wm.alloc (.cells #[.int .i64 u2, .int .i64 v2, .slice (some ⟨w5.heap.size, 0, none⟩) nc nc] 38) = w6 at *
      generalize wm.heap.size = M at *
      go_loopw [52] (fun i wq => ∃ r : Nat, r ≤ nc ∧ i = .int .i64 r ∧ Hid (Fill wq w5.heap.size nc t r) ∧ Hid (Blk wq M 38 [.int .i64 u2, .int .i64 v2, .slice (some ⟨w5.heap.size, 0, none⟩) nc nc]) ∧ Hid (Below w5.heap.size w5 wq)) (fun i _ => nc - (intOf i).toNat)
      case atStart => exact ⟨0, Nat.zero_le _, rfl, HM0, HX0, HW0⟩
      case round =>
        clear HM0 HX0 HW0
        obtain ⟨r, hr, rfl, HM, HX1, HW⟩ := hrel
        by_cases hrn : r < nc
        · have hrb : decide ((r : Int) < nc) = true := by simp; omega
          obtain ⟨x0, hx0⟩ : ∃ x, a[r]? = some x := ⟨_, List.getElem?_eq_getElem (by rw [HLA.out]; exact hrn)⟩
          obtain ⟨y0, hy0⟩ : ∃ x, b[r]? = some x := ⟨_, List.getElem?_eq_getElem (by rw [HLB.out]; exact hrn)⟩
          obtain ⟨z0, hz0⟩ : ∃ x, c[r]? = some x := ⟨_, List.getElem?_eq_getElem (by rw [HLC.out]; exact hrn)⟩
          have htr : medN x0 y0 z0 = t r := by
            rw [← HTJ.out r]
            simp only [List.getD_eq_getElem?_getD, hx0, hy0, hz0, Option.getD_some]
          obtain ⟨xa, rfl, hxa⟩ := bat HAr.out r x0 hx0
          obtain ⟨xb, rfl, hxb⟩ := bat HBr.out r y0 hy0
          obtain ⟨xc, rfl, hxc⟩ := bat HCr.out r z0 hz0
          have HXA := Lib.hid hxa
          have HXB := Lib.hid hxb
          have HXC := Lib.hid hxc
          have HMD := Lib.hid (fun w => pmedian_any x0 y0 z0 w)
          rw [htr] at HMD
          clear hx0 hy0 hz0 htr hxa hxb hxc
          go_wp2_with fail
          have AB := HW.out.drew
          replace HX1 := Lib.hid (HX1.out.drew)
          replace HM := Lib.hid (HM.out.keep (Below.refl _ _).drew)
          clear HW
          refine wp_region_held_drew (S := fun wx => wx.cell? ⟨M, 2, none⟩ = some (.slice (some ⟨w5.heap.size, 0, none⟩) nc nc) ∧ wx.cell? ⟨w.heap.size, 2, none⟩ = some (.slice (some xa) nc ca) ∧ wx.cell? ⟨w.heap.size, 5, none⟩ = some (.slice (some xb) nc cb) ∧ wx.cell? ⟨w.heap.size, 8, none⟩ = some (.slice (some xc) nc cc) ∧ wx.cell? (xa.add r) = some (.int .u8 (x0 : Nat)) ∧ wx.cell? (xb.add r) = some (.int .u8 (y0 : Nat)) ∧ wx.cell? (xc.add r) = some (.int .u8 (z0 : Nat))) (by kernel_rfl) (⟨HX1.out.cell 2 rfl, (HSr.out.keep AB).cell 2 rfl, (HSr.out.keep AB).cell 5 rfl, (HSr.out.keep AB).cell 8 rfl, HXA.out _ AB, HXB.out _ AB, HXC.out _ AB⟩) (fun hHeld => ?_)
          refine wpAnyH_take (i := 0) (v := ?_) rfl (by kernel_rfl) (by kernel_rfl) (by kernel_rfl) (fun _ _ _ h => h) (Or.inl ⟨by rfl, ?_⟩) hHeld ?_
          rotate_left
          · intro w hSw
            (try dsimp only at hSw)
            (try simp only [List.getElem_toArray, List.getElem_cons_zero])
            go_simp
            all_goals with_reducible rfl
          try simp only [List.getElem_toArray, List.getElem_cons_zero, Act.put, List.setIfInBounds_toArray, List.set_cons_zero, List.set_cons_succ]
          refine wpAnyH_take (i := 1) (v := ?_) rfl (by kernel_rfl) (by kernel_rfl) (by kernel_rfl) (fun _ _ _ h => h) (Or.inl ⟨by rfl, ?_⟩) hHeld ?_
          rotate_left
          · intro w hSw
            (try dsimp only at hSw)
            (try simp only [List.getElem_toArray, List.getElem_cons_zero, List.getElem_cons_succ])
            go_simp
            all_goals with_reducible rfl
          try simp only [List.getElem_toArray, List.getElem_cons_zero, List.getElem_cons_succ, Act.put, List.setIfInBounds_toArray, List.set_cons_zero, List.set_cons_succ]
          refine wpAnyH_take (i := 2) (v := ?_) rfl (by kernel_rfl) (by kernel_rfl) (by kernel_rfl) (fun _ _ _ h => h) (Or.inl ⟨by rfl, ?_⟩) hHeld ?_
          rotate_left
          · intro w hSw
            (try dsimp only at hSw)
            (try simp only [List.getElem_toArray, List.getElem_cons_zero, List.getElem_cons_succ])
            go_simp
            all_goals with_reducible rfl
          try simp only [List.getElem_toArray, List.getElem_cons_zero, List.getElem_cons_succ, Act.put, List.setIfInBounds_toArray, List.set_cons_zero, List.set_cons_succ]
          refine wpAnyH_take (i := 3) (v := ?_) rfl (by kernel_rfl) (by kernel_rfl) (by kernel_rfl) (fun _ _ _ h => h) (Or.inl ⟨by rfl, ?_⟩) hHeld ?_
          rotate_left
          · intro w hSw
            (try dsimp only at hSw)
            (try simp only [List.getElem_toArray, List.getElem_cons_zero, List.getElem_cons_succ])
            go_simp
            all_goals with_reducible rfl
          try simp only [List.getElem_toArray, List.getElem_cons_zero, List.getElem_cons_succ, Act.put, List.setIfInBounds_toArray, List.set_cons_zero, List.set_cons_succ]
          refine wpAnyH_take (i := 4) (v := ?_) rfl (by kernel_rfl) (by kernel_rfl) (by kernel_rfl) (fun _ _ _ h => h) (Or.inl ⟨by rfl, ?_⟩) hHeld ?_
          rotate_left
          · intro w hSw
            (try dsimp only at hSw)
            (try simp only [List.getElem_toArray, List.getElem_cons_zero, List.getElem_cons_succ])
            go_simp
            all_goals with_reducible rfl
          try simp only [List.getElem_toArray, List.getElem_cons_zero, List.getElem_cons_succ, Act.put, List.setIfInBounds_toArray, List.set_cons_zero, List.set_cons_succ]
          refine wpAnyH_take (i := 5) (v := ?_) rfl (by kernel_rfl) (by kernel_rfl) (by kernel_rfl) (fun _ _ _ h => h) (Or.inl ⟨by rfl, ?_⟩) hHeld ?_
          rotate_left
          · intro w hSw
            (try dsimp only at hSw)
            (try simp only [List.getElem_toArray, List.getElem_cons_zero, List.getElem_cons_succ])
            go_simp
            all_goals with_reducible rfl
          try simp only [List.getElem_toArray, List.getElem_cons_zero, List.getElem_cons_succ, Act.put, List.setIfInBounds_toArray, List.set_cons_zero, List.set_cons_succ]
          refine wpAnyH_take (i := 6) (v := ?_) rfl (by kernel_rfl) (by kernel_rfl) (by kernel_rfl) (fun _ _ _ h => h) (Or.inl ⟨by rfl, ?_⟩) hHeld ?_
          rotate_left
          · intro w hSw
            (try dsimp only at hSw)
            (try simp only [List.getElem_toArray, List.getElem_cons_zero, List.getElem_cons_succ])
            go_simp
            all_goals with_reducible rfl
          try simp only [List.getElem_toArray, List.getElem_cons_zero, List.getElem_cons_succ, Act.put, List.setIfInBounds_toArray, List.set_cons_zero, List.set_cons_succ]
          refine wpAnyH_take (i := 7) (v := ?_) rfl (by kernel_rfl) (by kernel_rfl) (by kernel_rfl) (fun _ _ _ h => h) (Or.inl ⟨by rfl, ?_⟩) hHeld ?_
          rotate_left
          · intro w hSw
            (try dsimp only at hSw)
            (try simp only [List.getElem_toArray, List.getElem_cons_zero, List.getElem_cons_succ])
            go_simp
            all_goals with_reducible rfl
          try simp only [List.getElem_toArray, List.getElem_cons_zero, List.getElem_cons_succ, Act.put, List.setIfInBounds_toArray, List.set_cons_zero, List.set_cons_succ]
          refine wpAnyH_take (i := 8) (v := ?_) rfl (by kernel_rfl) (by kernel_rfl) (by kernel_rfl) (fun _ _ _ h => h) (Or.inl ⟨by rfl, ?_⟩) hHeld ?_
          rotate_left
          · intro w hSw
            (try dsimp only at hSw)
            (try simp only [List.getElem_toArray, List.getElem_cons_zero, List.getElem_cons_succ])
            go_simp
            all_goals with_reducible rfl
          try simp only [List.getElem_toArray, List.getElem_cons_zero, List.getElem_cons_succ, Act.put, List.setIfInBounds_toArray, List.set_cons_zero, List.set_cons_succ]
          refine wpAnyH_take (i := 9) (v := ?_) rfl (by kernel_rfl) (by kernel_rfl) (by kernel_rfl) (fun _ _ _ h => h) (Or.inl ⟨by rfl, ?_⟩) hHeld ?_
          rotate_left
          · intro w hSw
            (try dsimp only at hSw)
            (try simp only [List.getElem_toArray, List.getElem_cons_zero, List.getElem_cons_succ])
            go_simp
            all_goals with_reducible rfl
          try simp only [List.getElem_toArray, List.getElem_cons_zero, List.getElem_cons_succ, Act.put, List.setIfInBounds_toArray, List.set_cons_zero, List.set_cons_succ]
          refine wpAnyH_take (i := 10) (v := ?_) rfl (by kernel_rfl) (by kernel_rfl) (by kernel_rfl) (fun _ _ _ h => h) (Or.inl ⟨by rfl, ?_⟩) hHeld ?_
          rotate_left
          · intro w hSw
            (try dsimp only at hSw)
            (try simp only [List.getElem_toArray, List.getElem_cons_zero, List.getElem_cons_succ])
            go_simp
            all_goals with_reducible rfl
          try simp only [List.getElem_toArray, List.getElem_cons_zero, List.getElem_cons_succ, Act.put, List.setIfInBounds_toArray, List.set_cons_zero, List.set_cons_succ]
          refine wpAnyH_take (i := 11) (v := ?_) rfl (by kernel_rfl) (by kernel_rfl) (by kernel_rfl) (fun _ _ _ h => h) (Or.inl ⟨by rfl, ?_⟩) hHeld ?_
          rotate_left
          · intro w hSw
            (try dsimp only at hSw)
            (try simp only [List.getElem_toArray, List.getElem_cons_zero, List.getElem_cons_succ])
            go_simp
            all_goals with_reducible rfl
          try simp only [List.getElem_toArray, List.getElem_cons_zero, List.getElem_cons_succ, Act.put, List.setIfInBounds_toArray, List.set_cons_zero, List.set_cons_succ]
          refine wpAnyH_take (i := 12) (v := ?_) rfl (by kernel_rfl) (by kernel_rfl) (by kernel_rfl) (fun _ _ _ h => h) (Or.inl ⟨by rfl, ?_⟩) hHeld ?_
          rotate_left
          · intro w hSw
            (try dsimp only at hSw)
            (try simp only [List.getElem_toArray, List.getElem_cons_zero, List.getElem_cons_succ])
            go_simp
            all_goals with_reducible rfl
          try simp only [List.getElem_toArray, List.getElem_cons_zero, List.getElem_cons_succ, Act.put, List.setIfInBounds_toArray, List.set_cons_zero, List.set_cons_succ]
          refine wpAnyH_take (i := 13) (v := ?_) rfl (by kernel_rfl) (by kernel_rfl) (by kernel_rfl) (fun _ _ _ h => h) (Or.inl ⟨by rfl, ?_⟩) hHeld ?_
          rotate_left
          · intro w hSw
            (try dsimp only at hSw)
            (try simp only [List.getElem_toArray, List.getElem_cons_zero, List.getElem_cons_succ])
            go_simp
            all_goals with_reducible rfl
          try simp only [List.getElem_toArray, List.getElem_cons_zero, List.getElem_cons_succ, Act.put, List.setIfInBounds_toArray, List.set_cons_zero, List.set_cons_succ]
          refine wpAnyH_take (i := 14) (v := ?_) rfl (by kernel_rfl) (by kernel_rfl) (by kernel_rfl) (fun _ _ _ h => h) (Or.inl ⟨by rfl, ?_⟩) hHeld ?_
          rotate_left
          · intro w hSw
            (try dsimp only at hSw)
            (try simp only [List.getElem_toArray, List.getElem_cons_zero, List.getElem_cons_succ])
            go_simp
            all_goals with_reducible rfl
          try simp only [List.getElem_toArray, List.getElem_cons_zero, List.getElem_cons_succ, Act.put, List.setIfInBounds_toArray, List.set_cons_zero, List.set_cons_succ]
          refine wpAnyH_take (i := 15) (v := ?_) rfl (by kernel_rfl) (by kernel_rfl) (by kernel_rfl) (fun _ _ _ h => h) (Or.inl ⟨by rfl, ?_⟩) hHeld ?_
          rotate_left
          · intro w hSw
            (try dsimp only at hSw)
            (try simp only [List.getElem_toArray, List.getElem_cons_zero, List.getElem_cons_succ])
            go_simp
            all_goals with_reducible rfl
          try simp only [List.getElem_toArray, List.getElem_cons_zero, List.getElem_cons_succ, Act.put, List.setIfInBounds_toArray, List.set_cons_zero, List.set_cons_succ]
          refine wpAnyH_take (i := 16) (v := ?_) rfl (by kernel_rfl) (by kernel_rfl) (by kernel_rfl) (fun _ _ _ h => h) (Or.inl ⟨by rfl, ?_⟩) hHeld ?_
          rotate_left
          · intro w hSw
            (try dsimp only at hSw)
            (try simp only [List.getElem_toArray, List.getElem_cons_zero, List.getElem_cons_succ])
            go_simp
            all_goals with_reducible rfl
          try simp only [List.getElem_toArray, List.getElem_cons_zero, List.getElem_cons_succ, Act.put, List.setIfInBounds_toArray, List.set_cons_zero, List.set_cons_succ]
          refine wpAnyH_take (i := 17) (v := ?_) rfl (by kernel_rfl) (by kernel_rfl) (by kernel_rfl) (fun _ _ _ h => h) (Or.inl ⟨by rfl, ?_⟩) hHeld ?_
          rotate_left
          · intro w hSw
            (try dsimp only at hSw)
            (try simp only [List.getElem_toArray, List.getElem_cons_zero, List.getElem_cons_succ])
            go_simp
            all_goals with_reducible rfl
          try simp only [List.getElem_toArray, List.getElem_cons_zero, List.getElem_cons_succ, Act.put, List.setIfInBounds_toArray, List.set_cons_zero, List.set_cons_succ]
          refine wpAnyH_take (i := 18) (v := ?_) rfl (by kernel_rfl) (by kernel_rfl) (by kernel_rfl) (fun _ _ _ h => h) (Or.inl ⟨by rfl, ?_⟩) hHeld ?_
          rotate_left
          · intro w hSw
            (try dsimp only at hSw)
            (try simp only [List.getElem_toArray, List.getElem_cons_zero, List.getElem_cons_succ])
            go_simp
            all_goals with_reducible rfl
          try simp only [List.getElem_toArray, List.getElem_cons_zero, List.getElem_cons_succ, Act.put, List.setIfInBounds_toArray, List.set_cons_zero, List.set_cons_succ]
          refine wpAnyH_take (i := 19) (v := ?_) rfl (by kernel_rfl) (by kernel_rfl) (by kernel_rfl) (fun _ _ _ h => h) (Or.inl ⟨by rfl, ?_⟩) hHeld ?_
          rotate_left
          · intro w hSw
            (try dsimp only at hSw)
            (try simp only [List.getElem_toArray, List.getElem_cons_zero, List.getElem_cons_succ])
            go_simp
            all_goals with_reducible rfl
          try simp only [List.getElem_toArray, List.getElem_cons_zero, List.getElem_cons_succ, Act.put, List.setIfInBounds_toArray, List.set_cons_zero, List.set_cons_succ]
          refine wpAnyH_take (i := 20) (v := ?_) rfl (by kernel_rfl) (by kernel_rfl) (by kernel_rfl) (fun _ _ _ h => h) (Or.inl ⟨by rfl, ?_⟩) hHeld ?_
          rotate_left
          · intro w hSw
            (try dsimp only at hSw)
            (try simp only [List.getElem_toArray, List.getElem_cons_zero, List.getElem_cons_succ])
            go_simp
            all_goals with_reducible rfl
          try simp only [List.getElem_toArray, List.getElem_cons_zero, List.getElem_cons_succ, Act.put, List.setIfInBounds_toArray, List.set_cons_zero, List.set_cons_succ]
          refine wpAnyH_ready (rs := [21]) (by kernel_rfl) (by simp) ?_
          refine AllReadyH.cons rfl (fun K hK => ?_) AllReadyH.nil
          try simp only [List.getElem_toArray, List.getElem_cons_zero, List.getElem_cons_succ]
          go_simp
          refine (HMD.out _).mono ?_
          rintro e wn ⟨rfl, hbn⟩
          have AB := AB.trans (hbn.mono (AB.size))
          replace HX1 := Lib.hid (HX1.out.keep hbn)
          replace HM := Lib.hid (HM.out.keep hbn)
          clear hbn
          go_wp2_with fail
          refine hK.out _ _ (⟨HX1.out.cell 2 rfl, (HSr.out.keep AB).cell 2 rfl, (HSr.out.keep AB).cell 5 rfl, (HSr.out.keep AB).cell 8 rfl, HXA.out _ AB, HXB.out _ AB, HXC.out _ AB⟩) (fun hHeld => ?_)
          clear hK K
          try simp only [List.getElem_toArray, List.getElem_cons_zero, List.getElem_cons_succ, Act.put, List.setIfInBounds_toArray, List.set_cons_zero, List.set_cons_succ]
          refine wpAnyH_take (i := 22) (v := ?_) rfl (by kernel_rfl) (by kernel_rfl) (by kernel_rfl) (fun _ _ _ h => h) (Or.inl ⟨by rfl, ?_⟩) hHeld ?_
          rotate_left
          · intro w hSw
            (try dsimp only at hSw)
            (try simp only [List.getElem_toArray, List.getElem_cons_zero, List.getElem_cons_succ])
            go_simp
            all_goals with_reducible rfl
          try simp only [List.getElem_toArray, List.getElem_cons_zero, List.getElem_cons_succ, Act.put, List.setIfInBounds_toArray, List.set_cons_zero, List.set_cons_succ]
          refine wpAnyH_ready (rs := [23]) (by kernel_rfl) (by simp) ?_
          refine AllReadyH.cons rfl (fun K hK => ?_) AllReadyH.nil
          try simp only [List.getElem_toArray, List.getElem_cons_zero, List.getElem_cons_succ]
          have m0 := HM.out.lt
          obtain ⟨⟨xx, m1⟩, m2⟩ := HM.out.cell r hrn
          go_simp
          have AB := AB.setCell (p := ⟨w5.heap.size, r, none⟩) (Nat.le_refl _) (.int .u8 (t r : Nat))
          replace HX1 := Lib.hid (HX1.out.other (k := w5.heap.size) r (.int .u8 (t r : Nat)) (by have := hgm.out; omega))
          replace HM := Lib.hid HM.out.store
          clear m0 m1 m2
          refine hK.out _ _ (⟨HX1.out.cell 2 rfl, (HSr.out.keep AB).cell 2 rfl, (HSr.out.keep AB).cell 5 rfl, (HSr.out.keep AB).cell 8 rfl, HXA.out _ AB, HXB.out _ AB, HXC.out _ AB⟩) (fun hHeld => ?_)
          clear hK K
          try simp only [List.getElem_toArray, List.getElem_cons_zero, List.getElem_cons_succ, Act.put, List.setIfInBounds_toArray, List.set_cons_zero, List.set_cons_succ]
          refine wpAnyH_done (by kernel_rfl) ?_ _
          have HW := Lib.hid AB
          clear AB
          go_wp2_with fail
          exact ⟨⟨_, _, _, _, _, _, _, _, _, _, _, _, _, _, _, _, _, _, _, _, _, _, _, _, _, _, _, _, ⟨r + 1, hrn, by go_num, HM, HX1, HW⟩, rfl⟩, by simp [intOf]; omega⟩
        · obtain rfl : r = nc := by omega
          have hg := hgs.out
          have HR := Lib.hid (((HM.out.row.set (p := ⟨w.heap.size + 1, 0, none⟩) hg (.int .i64 u2)).set (p := ⟨w.heap.size + 1, 1, none⟩) hg (.int .i64 v2)).set (p := ⟨w.heap.size + 1, 2, none⟩) hg (.slice (some ⟨w5.heap.size, 0, none⟩) r r))
          have HF := Lib.hid (HFr.out.keep HW.out)
          have HL := Lib.hid (HLr.out.trans (HW.out.mono HLr.out.size))
          have HF5 := Lib.hid (((HF.out.set 0 (.int .i64 u2)).set 1 (.int .i64 v2)).set 2 (.slice (some ⟨w5.heap.size, 0, none⟩) r r))
          have HB5 := Lib.hid (((HL.out.setCell (p := ⟨w.heap.size + 1, 0, none⟩) (by simp) (.int .i64 u2)).setCell (p := ⟨w.heap.size + 1, 1, none⟩) (by simp) (.int .i64 v2)).setCell (p := ⟨w.heap.size + 1, 2, none⟩) (by simp) (.slice (some ⟨w5.heap.size, 0, none⟩) r r))
          have m0 := HX1.out.cell 0 rfl
          have m1 := HX1.out.cell 1 rfl
          have m2 := HX1.out.cell 2 rfl
          have ml := HX1.out.lt
          have r0 := HF.out.cell 0 rfl
          have r1 := HF.out.cell 1 rfl
          have r2 := HF.out.cell 2 rfl
          have rf := HF.out.frozen
          have rl := HF.out.lt
          have hnm : M ≠ w.heap.size + 1 := by have := hgm.out; omega
          go_wp2_with fail
          have q0 := HF5.out.cell 0 rfl
          have q1 := HF5.out.cell 1 rfl
          have q2 := HF5.out.cell 2 rfl
          refine bodyPost_ret (v := .tuple #[.agg #[.int .i64 u2, .int .i64 v2, .slice (some ⟨w5.heap.size, 0, none⟩) r r], .int .i64 0]) (by simp [results, Try.results20, go_sem, q0, q1, q2]) rfl (.inl ⟨?_, _, rfl, ?_, HB5.out⟩)
          · intro j hj
            obtain rfl | rfl | rfl : j = 0 ∨ j = 1 ∨ j = 2 := by omega
            all_goals rfl
          · rw [HML.out]
            exact HR.out.mono (by omega)

end Go.Proofs.Ytnpklcmbiamocaa
