/-
  What slices.Grow and slices.Concat do to any world, of contours (no claim is made here).
-/
import Derived.Test.YtglmgenifjaakaaPth1
import Derived.Lib.AppendZeros
namespace Go.Proofs.Ytglmgenifjaakaa
open Go.RowKit

theorem append_empty {P : Program} {w : World} (base : Nat) (t ty e : TypeId) (i : TypeInfo) (size : Nat) (ht : P.underlying t = some (.slice e)) (hi : P.info? e = some i)
    (v : Value) (n : Nat) (xs : List Value) (hown : w.ownsRow base e size v n xs) (A : Option Addr) (c : Nat) :
    (Builtin.append_ #[t, t] ty #[v, .slice A 0 c]).run P w = .ok v w := by
  cases A with
  | none => rcases hown.2 with ⟨rfl, rfl⟩ | ⟨g, cap, cur, rfl, _, _, hnc, _⟩
            · simp [Builtin.append_, run_underlying ht, sizeOf, typeInfo, hi, Builtin.lenOf, Builtin.firstCells]
            · simp [Builtin.append_, run_underlying ht, sizeOf, typeInfo, hi, Builtin.lenOf, Builtin.firstCells, hnc, storeCells]
  | some a => rcases hown.2 with ⟨rfl, rfl⟩ | ⟨g, cap, cur, rfl, _, _, hnc, _⟩
              · simp [Builtin.append_, run_underlying ht, sizeOf, typeInfo, hi, Builtin.lenOf, Builtin.firstCells, loadCells, loadCellsFrom]
              · simp [Builtin.append_, run_underlying ht, sizeOf, typeInfo, hi, Builtin.lenOf, Builtin.firstCells, hnc, storeCells, loadCells, loadCellsFrom]

theorem vcells_one (c : List Vtx) : ∀ u ∈ vcells c, u.oneCell' = true := by
  intro u hu
  unfold vcells at hu
  rw [List.mem_flatMap] at hu
  obtain ⟨v, _, hv⟩ := hu
  simp only [List.mem_cons, List.not_mem_nil, or_false] at hv
  rcases hv with rfl | rfl | rfl <;> rfl
/-- A contour that is read, as the cells of an append's source. -/
theorem vrd_news {w : World} {a : Addr} {c : List Vtx} (h : ∀ i (h : i < c.length), w.cell? (a.add (i * 3)) = some (.int .i64 (c[i]).x) ∧ w.cell? (a.add (i * 3 + 1)) = some (.int .i64 (c[i]).y) ∧ w.cell? (a.add (i * 3 + 2)) = some (.bool (c[i]).on)) :
    ∀ j u, (vcells c)[j]? = some u → w.cell? (a.add j) = some u := by
  intro j u hu
  have hj : j < c.length * 3 := by rw [← vcells_length]; exact (List.getElem?_eq_some_iff.1 hu).1
  have hi : j / 3 < c.length := by omega
  obtain ⟨h0, h1, h2⟩ := h (j / 3) hi
  obtain ⟨k0, k1, k2⟩ := vcells_at c (j / 3) hi
  have : j = j / 3 * 3 ∨ j = j / 3 * 3 + 1 ∨ j = j / 3 * 3 + 2 := by omega
  rcases this with e | e | e
  · rw [← e] at h0 k0; rw [h0, ← hu, k0]
  · rw [← e] at h1 k1; rw [h1, ← hu, k1]
  · rw [← e] at h2 k2; rw [h2, ← hu, k2]

set_option maxHeartbeats 800000 in
theorem grow_any (n : Nat) (hn : n ≤ 1000) (w : World) :
    Calls Try.prog 45 #[.slice none 0 0, .int .i64 n] w fun e w' => ∃ v, e = .returned v ∧ VRow w' w.heap.size v [] ∧ Below w.heap.size w w' := by
  by_cases h0 : n = 0
  · subst h0
    go_enter Try.func45, Try.ntmps45
    go_wp2
    go_ret
    exact ⟨_, rfl, World.ownsRow_nil _ _ _ _, Below.refl _ _⟩
  · obtain ⟨i0, hi0, hz0, hz1, hz2⟩ := infos vinfo
    have hr := Lib.run_append_nil_zeros (P := Try.prog) w 61 3 61 66 i0 _ .i64 .i64 Try.underlying61 Try.underlying3 hi0 hz0 n (by omega) (by omega) (by omega) (by rw [hz2]; omega)
    have hge := grownCap_ge w n 0 66
    have hle := grownCap_le_maxLen w n 0 66 (by unfold maxLen; omega)
    obtain ⟨cp, hcp⟩ : ∃ cp, grownCap w n 0 66 = cp := ⟨_, rfl⟩
    rw [hcp] at hr hge hle
    have HR := Lib.hid hr
    have hn1 : (0 : Int) < n := by omega
    have hn2 : decide ((n : Int) < 0) = false := by simp
    clear hr hcp
    go_enter Try.func45, Try.ntmps45
    go_wp2_with (at_builtin; refine Lib.wpList_append_run _ rfl _ _ _ _ rfl _ _ rfl rfl _ _ HR.out ?_)
    go_ret
    refine ⟨_, rfl, ⟨rfl, .inr ⟨w.heap.size, cp, _, rfl, Nat.le_refl _, heap_alloc_new w.drew _, Nat.zero_le _, hle, ?_, by simp [vcells]⟩⟩, ((Below.refl _ w).drew).alloc (Nat.le_refl _) _⟩
    rw [Array.size_append, size_zeroCells, size_zeroCells]
    simp only [List.size_toArray, List.length_cons, List.length_nil]
    omega

theorem flat_take {o : List (List Vtx)} {r : Nat} {c : List Vtx} (h : o[r]? = some c) : (o.take (r + 1)).flatten = (o.take r).flatten ++ c := by
  rw [take_push o r c h, List.flatten_append]; simp
theorem flat_le (o : List (List Vtx)) (r : Nat) : (o.take r).flatten.length ≤ o.flatten.length := by
  have : o.flatten = (o.take r).flatten ++ (o.drop r).flatten := by rw [← List.flatten_append, List.take_append_drop]
  rw [this, List.length_append]; omega

set_option maxHeartbeats 1600000 in
theorem concat_any (v : Value) (o : List (List Vtx)) (w : World) (ho : ORd w v o) (hl : o.length ≤ 1000) (hf : o.flatten.length ≤ 1000) :
    Calls Try.prog 43 #[v] w fun e w' => ∃ u, e = .returned u ∧ VRow w' w.heap.size u o.flatten ∧ Below w.heap.size w w' := by
  obtain ⟨A, cap, rfl, hc, h3⟩ := ho
  have H3 := Lib.hid h3
  obtain ⟨n, hn⟩ : ∃ n : Nat, o.length = n := ⟨_, rfl⟩
  rw [hn] at hc hl
  rw [hn]
  have HN := Lib.hid hn
  have HF := Lib.hid hf
  clear h3 hn hf
  go_enter Try.func43, Try.ntmps43
  go_wp2_with fail
  go_loop [11, 3] (fun i s => ∃ (r t : Nat), r ≤ n ∧ i = .int .i64 r ∧ s = .int .i64 t ∧ t ≤ 1000 ∧ Hid ((o.take r).flatten.length = t)) (fun i _ => n - (intOf i).toNat)
  case atStart => exact ⟨0, 0, Nat.zero_le _, rfl, rfl, by omega, Lib.hid rfl⟩
  case round =>
    obtain ⟨r, t, hr, rfl, rfl, ht, HT⟩ := hrel
    by_cases hrn : r < n
    · have hrb : decide ((r : Int) < n) = true := by simp; omega
      obtain ⟨a, u, rfl, hal, hac, hrow⟩ := H3.out r (by have := HN.out; omega)
      obtain ⟨A1, cap1, rfl, hcl, hd⟩ := hrow
      obtain ⟨c, hcr⟩ : ∃ c, c = o[r]'(by have := HN.out; omega) := ⟨_, rfl⟩
      rw [← hcr] at hac hcl hd
      have HCR : Hid (o[r]? = some c) := Lib.hid (by rw [hcr]; exact List.getElem?_eq_getElem _)
      obtain ⟨L, hL⟩ : ∃ L : Nat, c.length = L := ⟨_, rfl⟩
      rw [hL] at hac hcl
      have hsum : (o.take (r + 1)).flatten.length = t + L := by rw [flat_take HCR.out, List.length_append, HT.out, hL]
      have hle : t + L ≤ 1000 := by have := flat_le o (r + 1); have := HF.out; omega
      have HS := Lib.hid hsum
      have hneg : decide ((t : Int) + L < 0) = false := by simp; omega
      clear hsum hL hcr hd
      go_wp2_with fail
      exact ⟨⟨r + 1, t + L, by omega, by go_num, by go_num, hle, HS⟩, by simp [intOf]; omega⟩
    · obtain rfl : r = n := by omega
      clear hrn
      go_wp2_with fail
      refine (grow_any t ht _).mono ?_
      rintro e w1 ⟨v1, rfl, hv1, hb1⟩
      have HV1 := Lib.hid hv1
      have HB1 := Lib.hid hb1
      clear hv1 hb1 HT
      go_wp2_with fail
      go_loopw [27, 6] (fun i u wr => ∃ (s : Nat), s ≤ r ∧ i = .int .i64 s ∧ Hid (VRow wr w.heap.size u (o.take s).flatten) ∧ Hid (Below w.heap.size w wr)) (fun i _ _ => r - (intOf i).toNat)
      case atStart => exact ⟨0, Nat.zero_le _, rfl, HV1, HB1⟩
      case round =>
        obtain ⟨s, hs, rfl, HV, HB⟩ := hrel
        clear HV1 HB1
        by_cases hsn : s < r
        · have hsb : decide ((s : Int) < r) = true := by simp; omega
          obtain ⟨a, u, rfl, hal, hac, hrow⟩ := H3.out s (by have := HN.out; omega)
          have hac' := (HB.out.cell (p := a.add s) (by rw [block_add]; exact hal)).trans hac
          obtain ⟨A1, cap1, rfl, hcl, hd⟩ := hrow.keep HB.out
          clear hac hrow
          obtain ⟨c, hcr⟩ : ∃ c, c = o[s]'(by have := HN.out; omega) := ⟨_, rfl⟩
          rw [← hcr] at hac' hcl hd
          have HCR : Hid (o[s]? = some c) := Lib.hid (by rw [hcr]; exact List.getElem?_eq_getElem _)
          obtain ⟨L, hL⟩ : ∃ L : Nat, c.length = L := ⟨_, rfl⟩
          rw [hL] at hac' hcl
          have HLn := Lib.hid hL
          have HFT := Lib.hid (flat_take HCR.out)
          obtain ⟨i0, hi0, hz0, hz1, hz2⟩ := infos vinfo
          have hbz := HB.out.size
          obtain ⟨m, hm⟩ : ∃ m, (o.take s).flatten.length = m := ⟨_, rfl⟩
          have hmL : m + L ≤ 1000 := by have h1 := flat_le o (s + 1); have h2 := HF.out; rw [HFT.out, List.length_append, hm, hL] at h1; omega
          have HVm := Lib.hid (VRow.own HV.out hm)
          have HM := Lib.hid hm
          have HD := Lib.hid hd
          clear hcr hL hm hd
          by_cases hL0 : L = 0
          · subst hL0
            have hr := append_empty (P := Try.prog) w.heap.size 61 61 66 i0 3 Try.underlying61 hi0 _ _ _ HVm.out A1 cap1
            have HR := Lib.hid hr
            have HV' : Hid (VRow wr w.heap.size _ (o.take (s + 1)).flatten) := Lib.hid (by rw [HFT.out, List.eq_nil_of_length_eq_zero HLn.out, List.append_nil]; exact HV.out)
            clear hr
            go_wp2_with (at_builtin; refine Lib.wpList_append_run _ rfl _ _ _ _ rfl _ _ rfl rfl _ _ HR.out ?_)
            exact ⟨⟨s + 1, by omega, by go_num, HV', HB⟩, by simp [intOf]; omega⟩
          · obtain ⟨a1, ha1, -⟩ := HD.out 0 (by have := HLn.out; omega)
            subst ha1
            have hnews : ∀ j u, (vcells c)[j]? = some u → wr.cell? (a1.add j) = some u := vrd_news (fun i hi => by
              obtain ⟨a2, e2, _, q⟩ := HD.out i hi
              cases e2
              exact q)
            have HNW := Lib.hid hnews
            clear hnews
            go_wp2_with (at_builtin; refine wpList_append_lies _ rfl _ _ _ (by rfl) w.heap.size 66 i0 _ 3 24 Try.underlying61 hi0 hz0 hz1 hz2 (by rfl) (by omega) _ m _ (by rfl) HVm.out a1 L cap1 (vcells c) (by rfl) (by rw [vcells_length, HLn.out]) HNW.out (vcells_one c) (by omega) (by simp [maxLen]; omega) (by omega) (by omega) wr.heap.size rfl ?_; intro g cp w1 hown hgrow hat hlt)
            have VN : VRow w1 w.heap.size (.slice (some ⟨g, 0, none⟩) (m + L) cp) (o.take (s + 1)).flatten := by
              unfold VRow
              rw [HFT.out, List.length_append, HM.out, HLn.out]
              have : vcells ((o.take s).flatten ++ c) = vcells (o.take s).flatten ++ vcells c := by simp [vcells]
              rw [this]
              exact hown
            have BN : Below w.heap.size w w1 := HB.out.grown hgrow (by omega) (fun q hq => (HVm.out.lt q hq).1)
            exact ⟨⟨s + 1, by omega, by go_num, Lib.hid VN, Lib.hid BN⟩, by simp [intOf]; omega⟩
        · obtain rfl : s = r := by omega
          have HV' := HV.out
          rw [List.take_of_length_le (by rw [HN.out]; omega)] at HV'
          have HVV := Lib.hid HV'
          clear HV'
          go_wp2
          go_ret
          exact ⟨_, rfl, HVV.out, HB.out⟩

end Go.Proofs.Ytglmgenifjaakaa
