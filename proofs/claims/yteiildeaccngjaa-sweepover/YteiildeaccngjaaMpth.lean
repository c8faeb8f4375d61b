/-
  Pth1 Pth2 Pth3 Pth4 Pth5 PthS PthO PthA AppNil in one text (no claim is made here).
-/
import Derived.Test.YteiildeaccngjaaMdot
import Derived.Lib.AppendZeros
import Derived.Deep.RegionHeld3
import Derived.Deep.Slices
import Derived.Deep.RegionLaw
namespace Go.Proofs.Yteiildeaccngjaa
open Go.RowKit

/-- A number of a contour that is small. -/
def smallV (v : Vtx) : Prop := (-1000 ≤ v.x ∧ v.x ≤ 1000) ∧ -1000 ≤ v.y ∧ v.y ≤ 1000
set_option maxHeartbeats 400000 in
set_option maxRecDepth 100000 in
theorem middle_any (x y : Int) (b : Bool) (x' y' : Int) (b' : Bool) (h : (-1000 ≤ x ∧ x ≤ 1000) ∧ -1000 ≤ y ∧ y ≤ 1000) (h' : (-1000 ≤ x' ∧ x' ≤ 1000) ∧ -1000 ≤ y' ∧ y' ≤ 1000) (w : World) :
    Calls Try.prog 68 #[.agg #[.int .i64 x, .int .i64 y, .bool b], .agg #[.int .i64 x', .int .i64 y', .bool b']] w fun e w' => e = .returned (.agg #[.int .i64 (x + x'), .int .i64 (y + y')]) ∧ Below w.heap.size w w' := by
  obtain ⟨⟨h1, h2⟩, h3, h4⟩ := h
  obtain ⟨⟨h5, h6⟩, h7, h8⟩ := h'
  go_enter Try.func68, Try.ntmps68
  go_wp2
  exact bodyPost_ret (v := .agg #[.int .i64 (x + x'), .int .i64 (y + y')]) (by simp [results, Try.results68, go_sem]) rfl ⟨rfl, below3 _ _ _ _⟩

set_option maxHeartbeats 400000 in
set_option maxRecDepth 100000 in
theorem pointOf_any (x y : Int) (b : Bool) (h : (-1000 ≤ x ∧ x ≤ 1000) ∧ -1000 ≤ y ∧ y ≤ 1000) (w : World) :
    Calls Try.prog 67 #[.agg #[.int .i64 x, .int .i64 y, .bool b]] w fun e w' => e = .returned (.agg #[.int .i64 (x + x), .int .i64 (y + y)]) ∧ Below w.heap.size w w' := by
  have HM := Lib.hid (fun w => middle_any x y b x y b h h w)
  go_enter Try.func67, Try.ntmps67
  go_wp2_with fail
  refine (HM.out _).mono ?_
  rintro e w1 ⟨rfl, hb1⟩
  have B := Blk.keep (Blk.new (w.alloc (.cells #[.int .i64 x, .int .i64 y, .bool b] 106)) 41 [.int .i64 0, .int .i64 0] (g := w.heap.size + 1) (by simp)) hb1
  have hB : Below w.heap.size w w1 := (((Below.refl _ w).alloc (Nat.le_refl _) _).alloc (by simp) _).trans (hb1.mono (by simp; omega))
  have c0 := B.cell 0 rfl
  have c1 := B.cell 1 rfl
  have f0 := B.frozen 0
  have f1 := B.frozen 1
  have z := B.lt
  have HB := Lib.hid hB
  have HBk := Lib.hid B
  clear hb1 hB B
  go_wp2_with fail
  have R := (HBk.out.set 0 (.int .i64 (x + x))).set 1 (.int .i64 (y + y))
  have q0 := R.cell 0 rfl
  have q1 := R.cell 1 rfl
  exact bodyPost_ret (v := .agg #[.int .i64 (x + x), .int .i64 (y + y)]) (by simp [results, Try.results67, go_sem, q0, q1]) rfl ⟨rfl, (HB.out.setCell (by simp) _).setCell (by simp) _⟩

set_option maxHeartbeats 400000 in
set_option maxRecDepth 100000 in
theorem lineFrom_any (x y : Int) (w : World) :
    Calls Try.prog 65 #[.agg #[.int .i64 x, .int .i64 y]] w fun e w' => e = .returned (.agg #[.int .i64 x, .int .i64 y, .int .i64 x, .int .i64 y, .int .i64 0, .int .i64 0, .bool false]) ∧ Below w.heap.size w w' := by
  go_enter Try.func65, Try.ntmps65
  go_wp2
  exact bodyPost_ret (v := .agg #[.int .i64 x, .int .i64 y, .int .i64 x, .int .i64 y, .int .i64 0, .int .i64 0, .bool false]) (by simp [results, Try.results65, go_sem]) rfl ⟨rfl, ((Below.refl _ w).alloc (Nat.le_refl _) _).alloc (by simp) _⟩

set_option maxHeartbeats 400000 in
set_option maxRecDepth 100000 in
theorem isOn_any (x y : Int) (b : Bool) (w : World) :
    Calls Try.prog 77 #[.agg #[.int .i64 x, .int .i64 y, .bool b]] w fun e w' => e = .returned (.bool b) ∧ Below w.heap.size w w' := by
  go_enter Try.func77, Try.ntmps77
  go_wp2
  go_ret
  exact ⟨rfl, (Below.refl _ w).alloc (Nat.le_refl _) _⟩

/-- Where the first point on the line is, as slices.IndexFunc tells it. -/
def firstI (c : List Vtx) : Int := match firstOn c with | none => -1 | some f => f
theorem firstI_at {c : List Vtx} {k : Nat} {v : Vtx} (h : c[k]? = some v) (hv : v.on = true) (h0 : ∀ u ∈ c.take k, u.on = false) : firstI c = k := by
  unfold firstI; rw [firstOn_is h hv h0]
theorem firstI_none {c : List Vtx} (h : ∀ u ∈ c, u.on = false) : firstI c = -1 := by unfold firstI; rw [firstOn_off h]

set_option maxHeartbeats 800000 in
set_option maxRecDepth 100000 in
theorem indexFunc_any (v : Value) (c : List Vtx) (w : World) (hv : VRd w v c) (hl : c.length ≤ 1000) :
    Calls Try.prog 76 #[v, .func (.func 77) #[] #[]] w fun e w' => e = .returned (.int .i64 (firstI c)) ∧ Below w.heap.size w w' := by
  obtain ⟨A, cap, rfl, hc, h3⟩ := hv
  have H3 := Lib.hid h3
  obtain ⟨n, hn⟩ : ∃ n : Nat, c.length = n := ⟨_, rfl⟩
  rw [hn] at hc hl
  rw [hn]
  have HN := Lib.hid hn
  obtain ⟨R, hR⟩ : ∃ R : Int, firstI c = R := ⟨_, rfl⟩
  rw [hR]
  have HR := Lib.hid hR
  clear h3 hn hR
  go_enter Try.func76, Try.ntmps76
  go_wp2_with fail
  go_loopw [8] (fun i wr => ∃ r : Nat, r ≤ n ∧ i = .int .i64 r ∧ Hid (∀ u ∈ c.take r, u.on = false) ∧ Hid (Below w.heap.size w wr)) (fun i _ => n - (intOf i).toNat)
  case atStart => exact ⟨0, Nat.zero_le _, rfl, Lib.hid (fun u hu => by cases hu), Lib.hid (Below.refl _ _)⟩
  case round =>
    obtain ⟨r, hr, rfl, HT, HB⟩ := hrel
    by_cases hrn : r < n
    · have hrb : decide ((r : Int) < n) = true := by simp; omega
      obtain ⟨a, rfl, hal, x0, x1, x2⟩ := H3.out r (by have := HN.out; omega)
      have kp : ∀ p : Addr, p.block = a.block → wr.cell? p = w.cell? p := fun p hp => HB.out.cell (by rw [hp]; exact hal)
      replace x0 := (kp _ (block_add _ _)).trans x0
      replace x1 := (kp _ (block_add _ _)).trans x1
      replace x2 := (kp _ (block_add _ _)).trans x2
      obtain ⟨d, hdd⟩ : ∃ d, d = c[r]'(by have := HN.out; omega) := ⟨_, rfl⟩
      rw [← hdd] at x0 x1 x2
      have HDJ : Hid (c[r]? = some d) := Lib.hid (by rw [hdd]; exact List.getElem?_eq_getElem _)
      obtain ⟨dx, dy, don⟩ := d
      simp only [] at x0 x1 x2
      rw [add_spell _ _ _ (by omega)] at x1 x2
      clear hdd kp
      go_wp2_with fail
      refine (isOn_any dx dy don _).mono ?_
      rintro e w1 ⟨rfl, hb1⟩
      have HB1 := Lib.hid (HB.out.trans (hb1.mono HB.out.size))
      clear hb1 HB x0 x1 x2
      cases don with
      | true =>
        have e : R = r := by rw [← HR.out]; exact firstI_at HDJ.out rfl HT.out
        subst e
        go_wp2
        go_ret
        exact ⟨rfl, HB1.out⟩
      | false =>
        have HT' : Hid (∀ u ∈ c.take (r + 1), u.on = false) := Lib.hid (by
          rw [take_push c r _ HDJ.out]
          intro u hu
          rcases List.mem_append.1 hu with hu | hu
          · exact HT.out u hu
          · rw [List.mem_singleton] at hu; subst hu; rfl)
        go_wp2_with fail
        exact ⟨⟨r + 1, by omega, by go_num, HT', HB1⟩, by simp [intOf]; omega⟩
    · obtain rfl : r = n := by omega
      have e : R = -1 := by
        rw [← HR.out]
        refine firstI_none ?_
        have h := HT.out
        rwa [List.take_of_length_le (by rw [HN.out]; omega)] at h
      subst e
      go_wp2
      go_ret
      exact ⟨rfl, HB.out⟩

end Go.Proofs.Yteiildeaccngjaa

namespace Go.Proofs.Yteiildeaccngjaa
open Go.RowKit

theorem append_empty {P : Program} {w : World} (base : Nat) (t ty e : TypeId) (i : TypeInfo) (size : Nat) (ht : P.underlying t = some (.slice e)) (hi : P.info? e = some i)
    (v : Value) (n : Nat) (xs : List Value) (hown : w.ownsRow base e size v n xs) (A : Option Addr) (c : Nat) :
    (Builtin.append_ #[t, t] ty #[v, .slice A 0 c]).run P w = .ok v w := by
  cases A with
  | none => rcases hown.2 with ⟨rfl, rfl⟩ | ⟨g, cap, cur, rfl, _, _, hnc, _⟩
            · simp [Builtin.append_, run_underlying ht, sizeOf, typeInfo, hi, Builtin.lenOf, Builtin.firstCells]
            · simp [Builtin.append_, run_underlying ht, sizeOf, typeInfo, hi, Builtin.lenOf, Builtin.firstCells, hnc, storeCells]
  | some a => rcases hown.2 with ⟨rfl, rfl⟩ | ⟨g, cap, cur, rfl, _, _, hnc, _⟩
              · simp [Builtin.append_, run_underlying ht, sizeOf, typeInfo, hi, Builtin.lenOf, Builtin.firstCells, loadCells, loadCellsFrom]
              · simp [Builtin.append_, run_underlying ht, sizeOf, typeInfo, hi, Builtin.lenOf, Builtin.firstCells, hnc, storeCells, loadCells, loadCellsFrom]

theorem vcells_one (c : List Vtx) : ∀ u ∈ vcells c, u.oneCell' = true := by
  intro u hu
  unfold vcells at hu
  rw [List.mem_flatMap] at hu
  obtain ⟨v, _, hv⟩ := hu
  simp only [List.mem_cons, List.not_mem_nil, or_false] at hv
  rcases hv with rfl | rfl | rfl <;> rfl
/-- A contour that is read, as the cells of an append's source. -/
theorem vrd_news {w : World} {a : Addr} {c : List Vtx} (h : ∀ i (h : i < c.length), w.cell? (a.add (i * 3)) = some (.int .i64 (c[i]).x) ∧ w.cell? (a.add (i * 3 + 1)) = some (.int .i64 (c[i]).y) ∧ w.cell? (a.add (i * 3 + 2)) = some (.bool (c[i]).on)) :
    ∀ j u, (vcells c)[j]? = some u → w.cell? (a.add j) = some u := by
  intro j u hu
  have hj : j < c.length * 3 := by rw [← vcells_length]; exact (List.getElem?_eq_some_iff.1 hu).1
  have hi : j / 3 < c.length := by omega
  obtain ⟨h0, h1, h2⟩ := h (j / 3) hi
  obtain ⟨k0, k1, k2⟩ := vcells_at c (j / 3) hi
  have : j = j / 3 * 3 ∨ j = j / 3 * 3 + 1 ∨ j = j / 3 * 3 + 2 := by omega
  rcases this with e | e | e
  · rw [← e] at h0 k0; rw [h0, ← hu, k0]
  · rw [← e] at h1 k1; rw [h1, ← hu, k1]
  · rw [← e] at h2 k2; rw [h2, ← hu, k2]

set_option maxHeartbeats 800000 in
set_option maxRecDepth 100000 in
theorem grow_any (n : Nat) (hn : n ≤ 1000) (w : World) :
    Calls Try.prog 83 #[.slice none 0 0, .int .i64 n] w fun e w' => ∃ v, e = .returned v ∧ VRow w' w.heap.size v [] ∧ Below w.heap.size w w' := by
  by_cases h0 : n = 0
  · subst h0
    go_enter Try.func83, Try.ntmps83
    go_wp2
    go_ret
    exact ⟨_, rfl, World.ownsRow_nil _ _ _ _, Below.refl _ _⟩
  · obtain ⟨i0, hi0, hz0, hz1, hz2⟩ := infos vinfo
    have hr := Lib.run_append_nil_zeros (P := Try.prog) w 101 3 101 106 i0 _ .i64 .i64 Try.underlying101 Try.underlying3 hi0 hz0 n (by omega) (by omega) (by omega) (by rw [hz2]; omega)
    have hge := grownCap_ge w n 0 106
    have hle := grownCap_le_maxLen w n 0 106 (by unfold maxLen; omega)
    obtain ⟨cp, hcp⟩ : ∃ cp, grownCap w n 0 106 = cp := ⟨_, rfl⟩
    rw [hcp] at hr hge hle
    have HR := Lib.hid hr
    have hn1 : (0 : Int) < n := by omega
    have hn2 : decide ((n : Int) < 0) = false := by simp
    clear hr hcp
    go_enter Try.func83, Try.ntmps83
    go_wp2_with (at_builtin; refine Lib.wpList_append_run _ rfl _ _ _ _ rfl _ _ rfl rfl _ _ HR.out ?_)
    go_ret
    refine ⟨_, rfl, ⟨rfl, .inr ⟨w.heap.size, cp, _, rfl, Nat.le_refl _, heap_alloc_new w.drew _, Nat.zero_le _, hle, ?_, by simp [vcells]⟩⟩, ((Below.refl _ w).drew).alloc (Nat.le_refl _) _⟩
    rw [Array.size_append, size_zeroCells, size_zeroCells]
    simp only [List.size_toArray, List.length_cons, List.length_nil]
    omega

theorem flat_take {o : List (List Vtx)} {r : Nat} {c : List Vtx} (h : o[r]? = some c) : (o.take (r + 1)).flatten = (o.take r).flatten ++ c := by
  rw [take_push o r c h, List.flatten_append]; simp
theorem flat_le (o : List (List Vtx)) (r : Nat) : (o.take r).flatten.length ≤ o.flatten.length := by
  have : o.flatten = (o.take r).flatten ++ (o.drop r).flatten := by rw [← List.flatten_append, List.take_append_drop]
  rw [this, List.length_append]; omega

set_option maxHeartbeats 1600000 in
set_option maxRecDepth 100000 in
theorem concat_any (v : Value) (o : List (List Vtx)) (w : World) (ho : ORd w v o) (hl : o.length ≤ 1000) (hf : o.flatten.length ≤ 1000) :
    Calls Try.prog 78 #[v] w fun e w' => ∃ u, e = .returned u ∧ VRow w' w.heap.size u o.flatten ∧ Below w.heap.size w w' := by
  obtain ⟨A, cap, rfl, hc, h3⟩ := ho
  have H3 := Lib.hid h3
  obtain ⟨n, hn⟩ : ∃ n : Nat, o.length = n := ⟨_, rfl⟩
  rw [hn] at hc hl
  rw [hn]
  have HN := Lib.hid hn
  have HF := Lib.hid hf
  clear h3 hn hf
  go_enter Try.func78, Try.ntmps78
  go_wp2_with fail
  go_loop [11, 3] (fun i s => ∃ (r t : Nat), r ≤ n ∧ i = .int .i64 r ∧ s = .int .i64 t ∧ t ≤ 1000 ∧ Hid ((o.take r).flatten.length = t)) (fun i _ => n - (intOf i).toNat)
  case atStart => exact ⟨0, 0, Nat.zero_le _, rfl, rfl, by omega, Lib.hid rfl⟩
  case round =>
    obtain ⟨r, t, hr, rfl, rfl, ht, HT⟩ := hrel
    by_cases hrn : r < n
    · have hrb : decide ((r : Int) < n) = true := by simp; omega
      obtain ⟨a, u, rfl, hal, hac, hrow⟩ := H3.out r (by have := HN.out; omega)
      obtain ⟨A1, cap1, rfl, hcl, hd⟩ := hrow
      obtain ⟨c, hcr⟩ : ∃ c, c = o[r]'(by have := HN.out; omega) := ⟨_, rfl⟩
      rw [← hcr] at hac hcl hd
      have HCR : Hid (o[r]? = some c) := Lib.hid (by rw [hcr]; exact List.getElem?_eq_getElem _)
      obtain ⟨L, hL⟩ : ∃ L : Nat, c.length = L := ⟨_, rfl⟩
      rw [hL] at hac hcl
      have hsum : (o.take (r + 1)).flatten.length = t + L := by rw [flat_take HCR.out, List.length_append, HT.out, hL]
      have hle : t + L ≤ 1000 := by have := flat_le o (r + 1); have := HF.out; omega
      have HS := Lib.hid hsum
      have hneg : decide ((t : Int) + L < 0) = false := by simp; omega
      clear hsum hL hcr hd
      go_wp2_with fail
      exact ⟨⟨r + 1, t + L, by omega, by go_num, by go_num, hle, HS⟩, by simp [intOf]; omega⟩
    · obtain rfl : r = n := by omega
      clear hrn
      go_wp2_with fail
      refine (grow_any t ht _).mono ?_
      rintro e w1 ⟨v1, rfl, hv1, hb1⟩
      have HV1 := Lib.hid hv1
      have HB1 := Lib.hid hb1
      clear hv1 hb1 HT
      go_wp2_with fail
      go_loopw [27, 6] (fun i u wr => ∃ (s : Nat), s ≤ r ∧ i = .int .i64 s ∧ Hid (VRow wr w.heap.size u (o.take s).flatten) ∧ Hid (Below w.heap.size w wr)) (fun i _ _ => r - (intOf i).toNat)
      case atStart => exact ⟨0, Nat.zero_le _, rfl, HV1, HB1⟩
      case round =>
        obtain ⟨s, hs, rfl, HV, HB⟩ := hrel
        clear HV1 HB1
        by_cases hsn : s < r
        · have hsb : decide ((s : Int) < r) = true := by simp; omega
          obtain ⟨a, u, rfl, hal, hac, hrow⟩ := H3.out s (by have := HN.out; omega)
          have hac' := (HB.out.cell (p := a.add s) (by rw [block_add]; exact hal)).trans hac
          obtain ⟨A1, cap1, rfl, hcl, hd⟩ := hrow.keep HB.out
          clear hac hrow
          obtain ⟨c, hcr⟩ : ∃ c, c = o[s]'(by have := HN.out; omega) := ⟨_, rfl⟩
          rw [← hcr] at hac' hcl hd
          have HCR : Hid (o[s]? = some c) := Lib.hid (by rw [hcr]; exact List.getElem?_eq_getElem _)
          obtain ⟨L, hL⟩ : ∃ L : Nat, c.length = L := ⟨_, rfl⟩
          rw [hL] at hac' hcl
          have HLn := Lib.hid hL
          have HFT := Lib.hid (flat_take HCR.out)
          obtain ⟨i0, hi0, hz0, hz1, hz2⟩ := infos vinfo
          have hbz := HB.out.size
          obtain ⟨m, hm⟩ : ∃ m, (o.take s).flatten.length = m := ⟨_, rfl⟩
          have hmL : m + L ≤ 1000 := by have h1 := flat_le o (s + 1); have h2 := HF.out; rw [HFT.out, List.length_append, hm, hL] at h1; omega
          have HVm := Lib.hid (VRow.own HV.out hm)
          have HM := Lib.hid hm
          have HD := Lib.hid hd
          clear hcr hL hm hd
          by_cases hL0 : L = 0
          · subst hL0
            have hr := append_empty (P := Try.prog) w.heap.size 101 101 106 i0 3 Try.underlying101 hi0 _ _ _ HVm.out A1 cap1
            have HR := Lib.hid hr
            have HV' : Hid (VRow wr w.heap.size _ (o.take (s + 1)).flatten) := Lib.hid (by rw [HFT.out, List.eq_nil_of_length_eq_zero HLn.out, List.append_nil]; exact HV.out)
            clear hr
            go_wp2_with (at_builtin; refine Lib.wpList_append_run _ rfl _ _ _ _ rfl _ _ rfl rfl _ _ HR.out ?_)
            exact ⟨⟨s + 1, by omega, by go_num, HV', HB⟩, by simp [intOf]; omega⟩
          · obtain ⟨a1, ha1, -⟩ := HD.out 0 (by have := HLn.out; omega)
            subst ha1
            have hnews : ∀ j u, (vcells c)[j]? = some u → wr.cell? (a1.add j) = some u := vrd_news (fun i hi => by
              obtain ⟨a2, e2, _, q⟩ := HD.out i hi
              cases e2
              exact q)
            have HNW := Lib.hid hnews
            clear hnews
            go_wp2_with (at_builtin; refine wpList_append_lies _ rfl _ _ _ (by rfl) w.heap.size 106 i0 _ 3 24 Try.underlying101 hi0 hz0 hz1 hz2 (by rfl) (by omega) _ m _ (by rfl) HVm.out a1 L cap1 (vcells c) (by rfl) (by rw [vcells_length, HLn.out]) HNW.out (vcells_one c) (by omega) (by simp [maxLen]; omega) (by omega) (by omega) wr.heap.size rfl ?_; intro g cp w1 hown hgrow hat hlt)
            have VN : VRow w1 w.heap.size (.slice (some ⟨g, 0, none⟩) (m + L) cp) (o.take (s + 1)).flatten := by
              unfold VRow
              rw [HFT.out, List.length_append, HM.out, HLn.out]
              have : vcells ((o.take s).flatten ++ c) = vcells (o.take s).flatten ++ vcells c := by simp [vcells]
              rw [this]
              exact hown
            have BN : Below w.heap.size w w1 := HB.out.grown hgrow (by omega) (fun q hq => (HVm.out.lt q hq).1)
            exact ⟨⟨s + 1, by omega, by go_num, Lib.hid VN, Lib.hid BN⟩, by simp [intOf]; omega⟩
        · obtain rfl : s = r := by omega
          have HV' := HV.out
          rw [List.take_of_length_le (by rw [HN.out]; omega)] at HV'
          have HVV := Lib.hid HV'
          clear HV'
          go_wp2
          go_ret
          exact ⟨_, rfl, HVV.out, HB.out⟩

end Go.Proofs.Yteiildeaccngjaa

namespace Go.Proofs.Yteiildeaccngjaa
open Go.RowKit

/-- A point of a contour that is read. -/
def VAt (w : World) (a : Addr) (i : Nat) (v : Vtx) : Prop := w.cell? (a.add (i * 3)) = some (.int .i64 v.x) ∧ w.cell? ⟨(a.add (i * 3)).block, (a.add (i * 3)).off + 1, none⟩ = some (.int .i64 v.y) ∧ w.cell? ⟨(a.add (i * 3)).block, (a.add (i * 3)).off + 2, none⟩ = some (.bool v.on)
theorem VAt.keep {w w' : World} {a : Addr} {i : Nat} {v : Vtx} (h : VAt w a i v) (hb : Below w.heap.size w w') : VAt w' a i v := ⟨keepc hb h.1, keepc hb h.2.1, keepc hb h.2.2⟩
abbrev VAtS (w : World) (a : Addr) (i : Nat) (x y : Int) (b : Bool) : Prop := w.cell? (a.add (i * 3)) = some (.int .i64 x) ∧ w.cell? ⟨(a.add (i * 3)).block, (a.add (i * 3)).off + 1, none⟩ = some (.int .i64 y) ∧ w.cell? ⟨(a.add (i * 3)).block, (a.add (i * 3)).off + 2, none⟩ = some (.bool b)
theorem VRd.at {w : World} {A : Option Addr} {n cap : Nat} {c : List Vtx} (h : VRd w (.slice A n cap) c) (i : Nat) (v : Vtx) (hv : c[i]? = some v) : ∃ a, A = some a ∧ a.block < w.heap.size ∧ VAt w a i v := by
  obtain ⟨A', cap', e, _, h3⟩ := h
  simp only [Value.slice.injEq] at e
  obtain ⟨rfl, -, -⟩ := e
  obtain ⟨hi, rfl⟩ := List.getElem?_eq_some_iff.1 hv
  obtain ⟨a, ha, hlt, p0, p1, p2⟩ := h3 i hi
  rw [add_spell _ _ _ (by omega)] at p1 p2
  exact ⟨a, ha, hlt, p0, p1, p2⟩

set_option maxHeartbeats 1600000 in
set_option maxRecDepth 100000 in
theorem begin_none (A : Option Addr) (n cap : Nat) (c : List Vtx) (u0 u1 : Vtx) (w : World) (hv : VRd w (.slice A n cap) c) (hn : c.length = n) (hl : n ≤ 1000) (h0 : c[0]? = some u0) (h1 : c[n - 1]? = some u1) (s0 : smallV u0) (s1 : smallV u1) (hf : firstI c = -1) :
    Calls Try.prog 64 #[.slice A n cap] w fun e w' => e = .returned (.tuple #[.agg #[.int .i64 (u1.x + u0.x), .int .i64 (u1.y + u0.y)], .slice A n cap]) ∧ Below w.heap.size w w' := by
  have hn0 : 0 < n := by have := (List.getElem?_eq_some_iff.1 h0).1; omega
  have hV1 := hv.keep ((Below.refl _ w).alloc (Nat.le_refl _) (.cells #[.int .i64 0, .int .i64 0] 41))
  have HI := Lib.hid (indexFunc_any (.slice A n cap) c (w.alloc (.cells #[.int .i64 0, .int .i64 0] 41)) hV1 (by omega))
  rw [hf] at HI
  have HW := Lib.hid hv
  have H0 := Lib.hid h0
  have H1 := Lib.hid h1
  obtain ⟨x0, y0, b0⟩ := u0
  obtain ⟨x1, y1, b1⟩ := u1
  have HM := Lib.hid (fun w => middle_any x1 y1 b1 x0 y0 b0 s1 s0 w)
  clear hV1 hv hf hn h0 h1 s0 s1
  go_enter Try.func64, Try.ntmps64
  go_wp2_with fail
  refine HI.out.mono ?_
  rintro e w1 ⟨rfl, hb1⟩
  have B1 := Blk.keep (Blk.new w 41 [.int .i64 0, .int .i64 0] rfl) hb1
  obtain ⟨a, rfl, hal, q⟩ := HW.out.at 0 _ H0.out
  obtain ⟨a', e', -, p⟩ := HW.out.at (n - 1) _ H1.out
  cases e'
  have hB : Below w.heap.size w w1 := ((Below.refl _ w).alloc (Nat.le_refl _) _).trans (hb1.mono (by simp))
  obtain ⟨k, hkn⟩ : ∃ k, n - 1 = k := ⟨_, rfl⟩
  rw [hkn] at p
  have hk : IntKind.i64.wrap ((n : Int) - 1) = k := by rw [IntWalk.i64_in _ (by omega)]; omega
  have hk1 : (k : Int) < n := by omega
  have hk2 : (0 : Int) ≤ k := by omega
  have hk3 : (0 : Int) < n := by omega
  have q' := q
  unfold VAt at q'
  rw [Nat.zero_mul, show a.add 0 = a from rfl] at q'
  have SO : ∀ wx, Below w.heap.size w wx → ((wx.cell? a = some (.int .i64 x0) ∧ wx.cell? ⟨a.block, a.off + 1, none⟩ = some (.int .i64 y0) ∧ wx.cell? ⟨a.block, a.off + 2, none⟩ = some (.bool b0)) ∧ VAtS wx a k x1 y1 b1) ∧ Below w.heap.size w wx := fun wx hb => ⟨⟨⟨keepc hb q'.1, keepc hb q'.2.1, keepc hb q'.2.2⟩, p.keep hb⟩, hb⟩
  have HSO := Lib.hid SO
  have hD := SO w1.drew hB.drew
  have HB1 := Lib.hid B1
  have HBB := Lib.hid hB
  unfold VAtS at hD
  clear hb1 HI HW H0 H1 p q q' SO B1 hB hkn
  go_wp2_with fail
  unfold VAtS at HSO
  go_region_held3 (fun wx => ((wx.cell? a = some (.int .i64 x0) ∧ wx.cell? ⟨a.block, a.off + 1, none⟩ = some (.int .i64 y0) ∧ wx.cell? ⟨a.block, a.off + 2, none⟩ = some (.bool b0)) ∧ (wx.cell? (a.add (k * 3)) = some (.int .i64 x1) ∧ wx.cell? ⟨(a.add (k * 3)).block, (a.add (k * 3)).off + 1, none⟩ = some (.int .i64 y1) ∧ wx.cell? ⟨(a.add (k * 3)).block, (a.add (k * 3)).off + 2, none⟩ = some (.bool b1))) ∧ Below w.heap.size w wx)
    (first
      | with_reducible assumption
      | with_reducible exact HSO.out _ ((A2.setCell (Nat.le_refl _) _).setCell (Nat.le_refl _) _))
    (first
      | (go_at_call 68; (with_reducible refine (HM.out _).mono ?_); rintro e w2 ⟨rfl, hb2⟩; replace hb2 := undrew0 hb2; have A2 := HBB.out.trans (hb2.mono HBB.out.size); have hS2 := HSO.out _ A2; have B2 := HB1.out.keep hb2; have zr := B2.lt; have r0 := B2.cell 0 rfl; have r1 := B2.cell 1 rfl; have k0 := B2.frozen 0; have k1 := B2.frozen 1))
  have R := (B2.set 0 (.int .i64 (x1 + x0))).set 1 (.int .i64 (y1 + y0))
  have HR := Lib.hid R
  have q0 := R.cell 0 rfl
  have q1 := R.cell 1 rfl
  have BF := Lib.hid ((A2.setCell (p := ⟨w.heap.size, 0, none⟩) (Nat.le_refl _) (.int .i64 (x1 + x0))).setCell (p := ⟨w.heap.size, 1, none⟩) (Nat.le_refl _) (.int .i64 (y1 + y0)))
  clear hb2 A2 hS2 B2 zr r0 r1 k0 k1 hD R
  go_wp2_with fail
  exact bodyPost_ret (v := .tuple #[.agg #[.int .i64 (x1 + x0), .int .i64 (y1 + y0)], .slice (some a) n cap]) (by simp [results, Try.results64, go_sem, q0, q1]) rfl ⟨rfl, BF.out⟩

theorem vrd_drop {w : World} {a : Addr} {n cap : Nat} {c : List Vtx} (h : VRd w (.slice (some a) n cap) c) (k : Nat) (a' : Addr) (ha : a' = a.add (k * 3) ∨ c.length ≤ k) (m cap' : Nat) (hm : m = c.length - k) (hc : m ≤ cap') : VRd w (.slice (some a') m cap') (c.drop k) := by
  obtain ⟨A', cap'', e, _, h3⟩ := h
  simp only [Value.slice.injEq] at e
  obtain ⟨rfl, -, -⟩ := e
  subst hm
  refine ⟨some a', cap', by rw [List.length_drop], by rw [List.length_drop]; exact hc, fun i hi => ?_⟩
  rw [List.length_drop] at hi
  rcases ha with rfl | ha
  · obtain ⟨a2, e2, hlt, p0, p1, p2⟩ := h3 (k + i) (by omega)
    cases e2
    have ei : (c.drop k)[i]'(by rw [List.length_drop]; exact hi) = c[k + i]'(by omega) := by simp
    rw [ei]
    refine ⟨_, rfl, by rw [block_add]; exact hlt, ?_, ?_, ?_⟩ <;> rw [Go.Deep.add_add]
    · rw [show k * 3 + i * 3 = (k + i) * 3 by omega]; exact p0
    · rw [show k * 3 + (i * 3 + 1) = (k + i) * 3 + 1 by omega]; exact p1
    · rw [show k * 3 + (i * 3 + 2) = (k + i) * 3 + 2 by omega]; exact p2
  · omega
theorem vrd_take {w : World} {A : Option Addr} {n cap : Nat} {c : List Vtx} (h : VRd w (.slice A n cap) c) (k cap' : Nat) (hk : k ≤ c.length) (hc : k ≤ cap') : VRd w (.slice A k cap') (c.take k) := by
  obtain ⟨A', cap'', e, _, h3⟩ := h
  simp only [Value.slice.injEq] at e
  obtain ⟨rfl, -, -⟩ := e
  have hl : (c.take k).length = k := by rw [List.length_take]; omega
  refine ⟨A, cap', by rw [hl], by rw [hl]; exact hc, fun i hi => ?_⟩
  rw [hl] at hi
  obtain ⟨a, e, hlt, p⟩ := h3 i (by omega)
  have ei : (c.take k)[i]'(by rw [hl]; exact hi) = c[i]'(by omega) := by simp
  rw [ei]
  exact ⟨a, e, hlt, p⟩
theorem ord_two {w : World} {B : Nat} {t : TypeId} {va vb : Value} {a b : List Vtx} (hB : Blk w B t [va, vb]) (ha : VRd w va a) (hb : VRd w vb b) : ORd w (.slice (some ⟨B, 0, none⟩) 2 2) [a, b] := by
  refine ⟨_, 2, rfl, Nat.le_refl _, fun r hr => ?_⟩
  match r, hr with
  | 0, _ => exact ⟨_, va, rfl, hB.lt, hB.cell 0 rfl, ha⟩
  | 1, _ => exact ⟨_, vb, rfl, hB.lt, hB.cell 1 rfl, hb⟩

theorem below_w {w a b : World} {B : Nat} (h : Below w.heap.size w a) (k : Below B a b) (hB : w.heap.size ≤ B) : Below w.heap.size w b := h.trans (k.mono hB)
theorem undrewA {W w' : World} {o : Obj} (hb : Below (W.alloc o).drew.heap.size (W.alloc o).drew w') : Below W.heap.size W w' := ((Below.refl _ W).alloc (Nat.le_refl _) o).trans (Below.mono ⟨hb.os, hb.tape, hb.output, hb.size, hb.block⟩ (by simp))
theorem VRow.set {w : World} {base : Nat} {u : Value} {c : List Vtx} (h : VRow w base u c) {p : Addr} (hp : p.block < base) (x : Value) : VRow (w.setCell p x) base u c := own_blocks h fun g hg => heap_set w p x g (by have := (World.ownsRow.lt h g hg).1; omega)
theorem blk_drew_new {W w' : World} {t : TypeId} {vs : List Value} (hb : Below (W.alloc (.cells vs.toArray t)).drew.heap.size (W.alloc (.cells vs.toArray t)).drew w') : Blk w' W.heap.size t vs := (Blk.new W t vs rfl).keep (undrew0 hb)

set_option maxHeartbeats 1600000 in
set_option maxRecDepth 100000 in
theorem begin_some (a a2 : Addr) (n cap f g : Nat) (c : List Vtx) (u0 : Vtx) (w : World) (hv : VRd w (.slice (some a) n cap) c) (hn : c.length = n) (hl : n ≤ 1000) (hcap : n ≤ cap) (h0 : c[f]? = some u0) (s0 : smallV u0) (hf : firstI c = f) (hg : f + 1 = g)
    (ha2 : (if cap = g then some a else some (a.add (g * 3))) = some a2) :
    Calls Try.prog 64 #[.slice (some a) n cap] w fun e w' => ∃ u, e = .returned (.tuple #[.agg #[.int .i64 (u0.x + u0.x), .int .i64 (u0.y + u0.y)], u]) ∧ VRd w' u (c.drop (f + 1) ++ c.take f) ∧ Below w.heap.size w w' := by
  have hn0 : f < n := by have := (List.getElem?_eq_some_iff.1 h0).1; omega
  have hV1 := hv.keep ((Below.refl _ w).alloc (Nat.le_refl _) (.cells #[.int .i64 0, .int .i64 0] 41))
  have HI := Lib.hid (indexFunc_any (.slice (some a) n cap) c (w.alloc (.cells #[.int .i64 0, .int .i64 0] 41)) hV1 (by omega))
  rw [hf] at HI
  have HW := Lib.hid hv
  have H0 := Lib.hid h0
  obtain ⟨x0, y0, b0⟩ := u0
  have HM := Lib.hid (fun w => pointOf_any x0 y0 b0 s0 w)
  have hfn : (f : Int) < n := by omega
  have hf0 : (0 : Int) ≤ f := by omega
  have hf1 : decide ((f : Int) < 0) = false := by simp
  have hgn : (g : Int) ≤ n := by omega
  have hg0 : (0 : Int) ≤ g := by omega
  have hnc : (n : Int) ≤ cap := by omega
  have hfc : (f : Int) ≤ cap := by omega
  have HD1 := vrd_drop hv g a2 (by
    by_cases hcg : cap = g
    · exact .inr (by omega)
    · rw [if_neg hcg] at ha2
      exact .inl (by injection ha2 with h; exact h.symm)) (n - g) (cap - g) (by omega) (by omega)
  have HD2 := vrd_take hv f cap (by omega) (by omega)
  have HCC : ∀ (wx : World) (B : Nat), Below w.heap.size w wx → Blk wx B 101 [.slice (some a2) (n - g) (cap - g), .slice (some a) f cap] → w.heap.size < wx.heap.size →
      Calls Try.prog 78 #[.slice (some ⟨B, 0, none⟩) 2 2] wx fun e w' => ∃ u, e = .returned u ∧ VRow w' (w.heap.size + 1) u (c.drop g ++ c.take f) ∧ Below wx.heap.size wx w' := by
    intro wx B hb hB hz
    refine (concat_any _ _ wx (ord_two hB (HD1.keep hb) (HD2.keep hb)) (by simp) (by simp; omega)).mono ?_
    rintro e w' ⟨u, rfl, hu, hb'⟩
    refine ⟨u, rfl, ?_, hb'⟩
    have e : [c.drop g, c.take f].flatten = c.drop g ++ c.take f := by simp
    rw [e] at hu
    exact World.ownsRow.mono hu hz
  have HC := Lib.hid HCC
  have hk : IntKind.i64.wrap ((f : Int) + 1) = g := by rw [IntWalk.i64_in _ (by omega)]; omega
  have HG := Lib.hid hg
  clear hV1 hv hf hn h0 s0 HD1 HD2 HCC hg
  go_enter Try.func64, Try.ntmps64
  go_wp2_with fail
  refine HI.out.mono ?_
  rintro e w1 ⟨rfl, hb1⟩
  have B1 := Blk.keep (Blk.new w 41 [.int .i64 0, .int .i64 0] rfl) hb1
  obtain ⟨a', e', -, p⟩ := HW.out.at f _ H0.out
  cases e'
  have hB : Below w.heap.size w w1 := ((Below.refl _ w).alloc (Nat.le_refl _) _).trans (hb1.mono (by simp))
  have SO : ∀ wx, Below w.heap.size w wx → VAtS wx a f x0 y0 b0 ∧ Below w.heap.size w wx := fun wx hb => ⟨p.keep hb, hb⟩
  have hD := SO w1.drew hB.drew
  have HSO := Lib.hid SO
  have HB1 := Lib.hid B1
  have HBB := Lib.hid hB
  unfold VAtS at hD
  clear hb1 HI H0 p SO B1 hB
  go_wp2_with fail
  unfold VAtS at HSO
  go_region_held3 (fun wx => (wx.cell? (a.add (f * 3)) = some (.int .i64 x0) ∧ wx.cell? ⟨(a.add (f * 3)).block, (a.add (f * 3)).off + 1, none⟩ = some (.int .i64 y0) ∧ wx.cell? ⟨(a.add (f * 3)).block, (a.add (f * 3)).off + 2, none⟩ = some (.bool b0)) ∧ Below w.heap.size w wx)
    (first
      | with_reducible assumption
      | with_reducible exact HSO.out _ (HBB.out.alloc HBB.out.size _).drew
      | with_reducible exact HSO.out _ (A2.alloc A2.size _)
      | with_reducible exact HSO.out _ ((A2.setCell (Nat.le_refl _) _).setCell (Nat.le_refl _) _)
      | with_reducible exact HSO.out _ ((A3.setCell (Nat.le_refl _) _).setCell (Nat.le_refl _) _)
      | fail)
    (first
      | (go_at_call 67; (with_reducible refine (HM.out _).mono ?_); rintro e w2 ⟨rfl, hb2⟩; (first | (have E2 : Below w1.heap.size w1 w2 := undrew0 hb2) | (have ZZ : Blk w2 w1.heap.size 101 [.slice (some a2) (n - g) (cap - g), .slice (some a) f cap] := blk_drew_new hb2; have E2 : Below w1.heap.size w1 w2 := undrewA hb2)); have A2 := below_w HBB.out E2 HBB.out.size; have hS2 := HSO.out _ A2; have B2 := HB1.out.keep E2; have zr := B2.lt; have r0 := B2.cell 0 rfl; have r1 := B2.cell 1 rfl; have k0 := B2.frozen 0; have k1 := B2.frozen 1)
      | (go_at_call 78; (first | (with_reducible refine (HC.out _ _ (A2.alloc A2.size _) (Blk.new w2 _ _ rfl) (lt_alloc zr _)).mono ?_) | (with_reducible refine (HC.out _ _ A2 ZZ zr).mono ?_)); rintro e w3 ⟨u, rfl, V3, hb3⟩; (first | (have E3 : Below w2.heap.size w2 w3 := below_alloc hb3) | (have E3 : Below w2.heap.size w2 w3 := hb3)); have A3 := below_w A2 E3 A2.size; have hS3 := HSO.out _ A3; have B3 := B2.keep E3; have zr3 := B3.lt; have r03 := B3.cell 0 rfl; have r13 := B3.cell 1 rfl; have k03 := B3.frozen 0; have k13 := B3.frozen 1))
  all_goals
    have R := (B3.set 0 (.int .i64 (x0 + x0))).set 1 (.int .i64 (y0 + y0))
    have q0 := R.cell 0 rfl
    have q1 := R.cell 1 rfl
    have BF := Lib.hid ((A3.setCell (p := ⟨w.heap.size, 0, none⟩) (Nat.le_refl _) (.int .i64 (x0 + x0))).setCell (p := ⟨w.heap.size, 1, none⟩) (Nat.le_refl _) (.int .i64 (y0 + y0)))
    have VF := Lib.hid ((V3.set (p := ⟨w.heap.size, 0, none⟩) (Nat.lt_succ_self _) (.int .i64 (x0 + x0))).set (p := ⟨w.heap.size, 1, none⟩) (Nat.lt_succ_self _) (.int .i64 (y0 + y0))).read
    rw [← HG.out] at VF
    clear hb2 A2 hS2 B2 zr r0 r1 k0 k1 hD R A3 hS3 B3 zr3 r03 r13 k03 k13 V3 E3 hb3 E2 HG ha2
    go_wp2_with fail
    exact bodyPost_ret (v := .tuple #[.agg #[.int .i64 (x0 + x0), .int .i64 (y0 + y0)], u]) (by simp [results, Try.results64, go_sem, q0, q1]) rfl ⟨u, rfl, VF.out, BF.out⟩

/-- path.begin: where a contour begins, and which points come then. -/
theorem begin_any (v : Value) (c : List Vtx) (w : World) (hv : VRd w v c) (hc : c ≠ []) (hl : c.length ≤ 1000) (hs : ∀ u ∈ c, smallV u) :
    Calls Try.prog 64 #[v] w fun e w' => ∃ u, e = .returned (.tuple #[.agg #[.int .i64 (startS c).x, .int .i64 (startS c).y], u]) ∧ VRd w' u (othersS c) ∧ Below w.heap.size w w' := by
  have hv' := hv
  obtain ⟨A, cap, rfl, hcap, h3⟩ := hv'
  have hpos : 0 < c.length := List.length_pos_iff.2 hc
  cases hf : firstOn c with
  | none =>
    have e0 : c[0]? = some (vtxAt c 0) := by rw [List.getElem?_eq_getElem hpos]; simp [vtxAt, List.getD, hpos]
    have e1 : c[c.length - 1]? = some (vtxAt c (c.length - 1)) := by
      have h : c.length - 1 < c.length := by omega
      rw [List.getElem?_eq_getElem h]; simp [vtxAt, List.getD, h]
    refine (begin_none A c.length cap c _ _ w hv rfl hl e0 e1 (hs _ (List.mem_of_getElem? e0)) (hs _ (List.mem_of_getElem? e1)) (by unfold firstI; rw [hf])).mono ?_
    rintro e w' ⟨rfl, hb⟩
    refine ⟨.slice A c.length cap, ?_, ?_, hb⟩
    · unfold startS; rw [hf]; rfl
    · unfold othersS; rw [hf]; exact hv.keep hb
  | some f =>
    obtain ⟨u, h1, h2, _⟩ := firstOn_some hf
    have hfl := (List.getElem?_eq_some_iff.1 h1).1
    obtain ⟨a, rfl, -, -⟩ := h3 f hfl
    refine (begin_some a (if cap = f + 1 then a else a.add ((f + 1) * 3)) c.length cap f (f + 1) c u w hv rfl hl hcap h1 (hs _ (List.mem_of_getElem? h1)) (by unfold firstI; rw [hf]) rfl (by split <;> rfl)).mono ?_
    rintro e w' ⟨x, rfl, hx, hb⟩
    refine ⟨x, ?_, ?_, hb⟩
    · unfold startS; rw [hf]; simp only [getD_of h1, ptV]
    · unfold othersS; rw [hf]; exact hx

end Go.Proofs.Yteiildeaccngjaa

namespace Go.Proofs.Yteiildeaccngjaa
open Go.RowKit

theorem scell_one (s : Sg) : ∀ u ∈ scell s, u.oneCell' = true := by
  intro u hu
  simp only [scell, List.mem_cons, List.not_mem_nil, or_false] at hu
  rcases hu with rfl | rfl | rfl | rfl | rfl | rfl | rfl <;> rfl
theorem SRow.heap {w w' : World} {base : Nat} {u : Value} {l : List Sg} (h : SRow w base u l) (hb : ∀ k, base ≤ k → k < w.heap.size → w'.heap[k]? = w.heap[k]?) : SRow w' base u l :=
  own_blocks h fun g hg => hb g (World.ownsRow.lt h g hg).1 (World.ownsRow.lt h g hg).2
theorem SRow.set {w : World} {base : Nat} {u : Value} {l : List Sg} (h : SRow w base u l) {p : Addr} (hp : p.block < base) (x : Value) : SRow (w.setCell p x) base u l := h.heap fun k hk _ => heap_set w p x k (by omega)
theorem SRow.alloc {w : World} {base : Nat} {u : Value} {l : List Sg} (h : SRow w base u l) (o : Obj) : SRow (w.alloc o) base u l := h.below ((Below.refl _ w).alloc (Nat.le_refl _) o)
theorem SRow.form {w : World} {base : Nat} {u : Value} {l : List Sg} (h : SRow w base u l) : ∃ A cap, u = .slice A l.length cap := own_form h
def seg7 (ax ay bx by' cx cy : Int) (cv : Bool) : List Value := [.int .i64 ax, .int .i64 ay, .int .i64 bx, .int .i64 by', .int .i64 cx, .int .i64 cy, .bool cv]

/-- What the closure leaves. -/
def EndAt (w : World) (gc gs base : Nat) (v : Value) (l : List Sg) (s : Sg) (e : Ending) (w' : World) : Prop :=
  e = .returned (.tuple #[]) ∧ Blk w' gc 119 (seg7 s.c.x s.c.y s.c.x s.c.y 0 0 false) ∧ (∃ v', Blk w' gs 99 [v'] ∧ SRow w' base v' (l ++ [s])) ∧ But (fun k => k = gc ∨ k = gs ∨ v.ownBlock = some k) w w'

set_option maxHeartbeats 1600000 in
set_option maxRecDepth 100000 in
theorem endAt_any (px py ax ay bx by' cx cy : Int) (cv : Bool) (gc gs base : Nat) (v : Value) (l : List Sg) (w : World) (hc : Blk w gc 119 (seg7 ax ay bx by' cx cy cv)) (hs : Blk w gs 99 [v]) (hv : SRow w base v l)
    (h1 : gc < base) (h2 : gs < base) (h3 : gc ≠ gs) (hl : l.length ≤ 2000) (hbase : base ≤ w.heap.size) :
    Calls Try.prog 66 #[.agg #[.int .i64 px, .int .i64 py], .pointer (some ⟨gc, 0, none⟩), .pointer (some ⟨gs, 0, none⟩)] w (EndAt w gc gs base v l ⟨⟨ax, ay⟩, ⟨bx, by'⟩, ⟨px, py⟩, cv⟩) := by
  have HC := Lib.hid hc
  have HS := Lib.hid hs
  have HV := Lib.hid hv
  obtain ⟨n, hn⟩ : ∃ n, l.length = n := ⟨_, rfl⟩
  rw [hn] at hl
  obtain ⟨A, cap, rfl⟩ := hv.form
  rw [hn] at hs HS HV
  rw [hn]
  have HN := Lib.hid hn
  have c0 := hc.cell 0 rfl
  have c1 := hc.cell 1 rfl
  have c2 := hc.cell 2 rfl
  have c3 := hc.cell 3 rfl
  have c4 := hc.cell 4 rfl
  have c5 := hc.cell 5 rfl
  have c6 := hc.cell 6 rfl
  have f4 := hc.frozen 4
  have f5 := hc.frozen 5
  have s0 := hs.cell 0 rfl
  have sf := hs.frozen 0
  have z1 : gc < w.heap.size := hc.lt
  have z2 : gs < w.heap.size := hs.lt
  have h3' : ¬ gs = gc := fun e => h3 e.symm
  obtain ⟨i0, hi0, hz0, hz1, hz2⟩ := infos sinfo
  have T1 := (((HC.out.set 4 (.int .i64 px)).set 5 (.int .i64 py)).alloc (.cells #[.int .i64 px, .int .i64 py] 41)).alloc (.cells #[.int .i64 ax, .int .i64 ay, .int .i64 bx, .int .i64 by', .int .i64 px, .int .i64 py, .bool cv] 119)
  have T2 := (((HS.out.other (k := gc) 4 (.int .i64 px) h3').other (k := gc) 5 (.int .i64 py) h3').alloc (.cells #[.int .i64 px, .int .i64 py] 41)).alloc (.cells #[.int .i64 ax, .int .i64 ay, .int .i64 bx, .int .i64 by', .int .i64 px, .int .i64 py, .bool cv] 119)
  have T3 := (Blk.new ((w.setCell ⟨gc, 4, none⟩ (.int .i64 px)).setCell ⟨gc, 5, none⟩ (.int .i64 py)) 41 [.int .i64 px, .int .i64 py] (g := w.heap.size) (by simp)).alloc (.cells #[.int .i64 ax, .int .i64 ay, .int .i64 bx, .int .i64 by', .int .i64 px, .int .i64 py, .bool cv] 119)
  have T4 := (((HV.out.set (p := ⟨gc, 4, none⟩) h1 (.int .i64 px)).set (p := ⟨gc, 5, none⟩) h1 (.int .i64 py)).alloc (.cells #[.int .i64 px, .int .i64 py] 41)).alloc (.cells #[.int .i64 ax, .int .i64 ay, .int .i64 bx, .int .i64 by', .int .i64 px, .int .i64 py, .bool cv] 119)
  have T5 := Blk.new (((w.setCell ⟨gc, 4, none⟩ (.int .i64 px)).setCell ⟨gc, 5, none⟩ (.int .i64 py)).alloc (.cells #[.int .i64 px, .int .i64 py] 41)) 119 [.int .i64 ax, .int .i64 ay, .int .i64 bx, .int .i64 by', .int .i64 px, .int .i64 py, .bool cv] (g := w.heap.size + 1) (by simp)
  have T6 : But (fun k => k = gc ∨ k = gs ∨ (Value.slice A n cap).ownBlock = some k) w ((((w.setCell ⟨gc, 4, none⟩ (.int .i64 px)).setCell ⟨gc, 5, none⟩ (.int .i64 py)).alloc (.cells #[.int .i64 px, .int .i64 py] 41)).alloc (.cells #[.int .i64 ax, .int .i64 ay, .int .i64 bx, .int .i64 by', .int .i64 px, .int .i64 py, .bool cv] 119)) :=
    ((((But.of (Below.refl _ w)).set ⟨gc, 4, none⟩ (.inl rfl) _).set ⟨gc, 5, none⟩ (.inl rfl) _).trans (But.of ((Below.refl _ _).alloc (Nat.le_refl _) _))).trans (But.of ((Below.refl _ _).alloc (Nat.le_refl _) _))
  have HT1 := Lib.hid T1
  have HT2 := Lib.hid T2
  have HT3 := Lib.hid T3
  have HT4 := Lib.hid (SRow.own T4 HN.out)
  have HT5 := Lib.hid T5
  have HT6 := Lib.hid T6
  have row1 : ∀ k, k < base → some k ≠ Value.ownBlock (.slice A n cap) := fun k hk e => by have := (HT4.out.lt k e.symm).1; omega
  have row2 : some w.heap.size ≠ Value.ownBlock (.slice A n cap) := fun e => by have := (World.ownsRow.lt HV.out w.heap.size e.symm).2; omega
  have HR1 := Lib.hid row1
  have HR2 := Lib.hid row2
  clear hc hs hv hn T1 T2 T3 T4 T5 T6 row1 row2
  go_enter Try.func66, Try.ntmps66
  go_wp2_with (at_builtin; refine wpList_append_lies _ rfl _ _ _ (by rfl) base 119 i0 _ 7 56 Try.underlying99 hi0 hz0 hz1 hz2 (by rfl) (by omega) _ n _ (by rfl) HT4.out ⟨w.heap.size + 1, 0, none⟩ 1 1 [.int .i64 ax, .int .i64 ay, .int .i64 bx, .int .i64 by', .int .i64 px, .int .i64 py, .bool cv] (by rfl) (by rfl) (World.news_of_block HT5.out) (by simp [Value.oneCell']) (by omega) (by simp [maxLen]; omega) (by omega) (by simp; omega) (w.heap.size + 2) (by simp) ?_; intro g cp w1 hown hgrow hat hlt; have G1 := HT1.out.grown hgrow (HR1.out gc h1); have G2 := HT2.out.grown hgrow (HR1.out gs h2); have G3 := HT3.out.grown hgrow HR2.out; have q0 := G2.cell 0 rfl; have q1 := G2.frozen 0; have q2 := G2.lt; have q3 := G3.cell 0 rfl; have q4 := G3.cell 1 rfl; have q5 := G3.lt; have q6 : ¬ w.heap.size = gs := (by omega))
  refine (lineFrom_any _ _ _).mono ?_
  rintro e w2 ⟨rfl, hb2⟩
  have G4 := (G1.other (k := gs) 0 (.slice (some ⟨g, 0, none⟩) (n + 1) cp) h3).keep hb2
  have G5 := (G2.set 0 (.slice (some ⟨g, 0, none⟩) (n + 1) cp)).keep hb2
  have VN : SRow w1 base (.slice (some ⟨g, 0, none⟩) (n + 1) cp) (l ++ [⟨⟨ax, ay⟩, ⟨bx, by'⟩, ⟨px, py⟩, cv⟩]) := by
    unfold SRow
    rw [List.length_append, HN.out, scells_push]
    exact hown
  have V5 := (VN.set (p := ⟨gs, 0, none⟩) h2 (.slice (some ⟨g, 0, none⟩) (n + 1) cp)).below hb2
  have B5 : But (fun k => k = gc ∨ k = gs ∨ (Value.slice A n cap).ownBlock = some k) w w2 := ((HT6.out.grown hgrow (fun q hq _ => .inr (.inr hq))).set ⟨gs, 0, none⟩ (.inr (.inl rfl)) _).trans (But.of hb2)
  have HG4 := Lib.hid G4
  have HG5 := Lib.hid G5
  have HV5 := Lib.hid V5
  have HB5 := Lib.hid B5
  have d0 := G4.cell 0 rfl
  have d1 := G4.cell 1 rfl
  have d2 := G4.cell 2 rfl
  have d3 := G4.cell 3 rfl
  have d4 := G4.cell 4 rfl
  have d5 := G4.cell 5 rfl
  have d6 := G4.cell 6 rfl
  have e0 := G4.frozen 0
  have e1 := G4.frozen 1
  have e2 := G4.frozen 2
  have e3 := G4.frozen 3
  have e4 := G4.frozen 4
  have e5 := G4.frozen 5
  have e6 := G4.frozen 6
  have ez := G4.lt
  clear hb2 hown hgrow hat hlt G1 G2 G3 q0 q1 q2 q3 q4 q5 q6 G4 G5 VN V5 B5 c0 c1 c2 c3 c4 c5 c6 f4 f5 s0 sf HT1 HT2 HT3 HT4 HT5 HT6 HR1 HR2
  go_wp2_with fail
  have R1 := (((((((HG4.out.set 0 (.int .i64 px)).set 1 (.int .i64 py)).set 2 (.int .i64 px)).set 3 (.int .i64 py)).set 4 (.int .i64 0)).set 5 (.int .i64 0)).set 6 (.bool false))
  have R2 := (((((((HG5.out.other (k := gc) 0 (.int .i64 px) h3').other (k := gc) 1 (.int .i64 py) h3').other (k := gc) 2 (.int .i64 px) h3').other (k := gc) 3 (.int .i64 py) h3').other (k := gc) 4 (.int .i64 0) h3').other (k := gc) 5 (.int .i64 0) h3').other (k := gc) 6 (.bool false) h3')
  have R3 := (((((((HV5.out.set (p := ⟨gc, 0, none⟩) h1 (.int .i64 px)).set (p := ⟨gc, 1, none⟩) h1 (.int .i64 py)).set (p := ⟨gc, 2, none⟩) h1 (.int .i64 px)).set (p := ⟨gc, 3, none⟩) h1 (.int .i64 py)).set (p := ⟨gc, 4, none⟩) h1 (.int .i64 0)).set (p := ⟨gc, 5, none⟩) h1 (.int .i64 0)).set (p := ⟨gc, 6, none⟩) h1 (.bool false))
  have R4 := (((((((HB5.out.set ⟨gc, 0, none⟩ (.inl rfl) (.int .i64 px)).set ⟨gc, 1, none⟩ (.inl rfl) (.int .i64 py)).set ⟨gc, 2, none⟩ (.inl rfl) (.int .i64 px)).set ⟨gc, 3, none⟩ (.inl rfl) (.int .i64 py)).set ⟨gc, 4, none⟩ (.inl rfl) (.int .i64 0)).set ⟨gc, 5, none⟩ (.inl rfl) (.int .i64 0)).set ⟨gc, 6, none⟩ (.inl rfl) (.bool false))
  exact bodyPost_ret (v := .tuple #[]) (by simp [results, Try.results66, go_sem]) rfl ⟨rfl, R1, ⟨_, R2, R3⟩, R4⟩

end Go.Proofs.Yteiildeaccngjaa

namespace Go.Proofs.Yteiildeaccngjaa
open Go.RowKit

/-- The piece that is under way, as the program keeps it. -/
def Under (a : Pt) (bx by' : Int) (cv : Bool) (u : Vtx) (ctl : Option Vtx) : Prop :=
  (cv = true → ctl = some u ∧ bx = u.x + u.x ∧ by' = u.y + u.y ∧ smallV u) ∧ (cv = false → ctl = none ∧ bx = a.x ∧ by' = a.y)
theorem Under.sg {a : Pt} {bx by' : Int} {cv : Bool} {u : Vtx} {ctl : Option Vtx} (h : Under a bx by' cv u ctl) (p : Pt) : sgOf a ctl p = ⟨a, ⟨bx, by'⟩, p, cv⟩ := by
  cases cv with
  | true => obtain ⟨rfl, rfl, rfl, _⟩ := h.1 rfl; rfl
  | false => obtain ⟨rfl, rfl, rfl⟩ := h.2 rfl; rfl
theorem walk_nil (s a : Pt) (ctl : Option Vtx) (vs : List Vtx) (h : vs = []) : walkS s a ctl vs = [sgOf a ctl s] := by subst h; rfl
theorem walk_on (s a : Pt) (ctl : Option Vtx) (v : Vtx) (vs : List Vtx) (h : v.on = true) : walkS s a ctl (v :: vs) = sgOf a ctl (ptV v) :: walkS s (ptV v) none vs := by cases ctl <;> rw [walkS, if_pos h]
theorem walk_first (s a : Pt) (v : Vtx) (vs : List Vtx) (h : v.on = false) : walkS s a none (v :: vs) = walkS s a (some v) vs := by rw [walkS, if_neg (by simp [h])]
theorem walk_mid (s a : Pt) (u v : Vtx) (vs : List Vtx) (h : v.on = false) : walkS s a (some u) (v :: vs) = sgOf a (some u) (midV u v) :: walkS s (midV u v) (some v) vs := by rw [walkS, if_neg (by simp [h])]

theorem end_keep {w w' : World} {gc gs : Nat} {v : Value} (EB : But (fun k => k = gc ∨ k = gs ∨ v.ownBlock = some k) w w') {g : Nat} {t : TypeId} {vs : List Value} (h : Blk w g t vs) (h1 : g ≠ gc) (h2 : g ≠ gs) (h3 : v.ownBlock ≠ some g) : Blk w' g t vs :=
  h.heap (EB.block g h.lt (fun h => by
    rcases h with h | h | h
    · exact h1 h
    · exact h2 h
    · exact h3 h))
theorem end_below {w w' : World} {gc gs base B : Nat} {v : Value} {l : List Sg} (EB : But (fun k => k = gc ∨ k = gs ∨ v.ownBlock = some k) w w') (hV : SRow w base v l) (h1 : B ≤ gc) (h2 : B ≤ gs) (h3 : B ≤ base) (h4 : B ≤ w.heap.size) : Below B w w' :=
  EB.below (fun q hq => by
    rcases hq with h | h | h
    · omega
    · omega
    · have := (World.ownsRow.lt hV q h).1; omega) h4

theorem others_len (c : List Vtx) : (othersS c).length ≤ c.length := by
  unfold othersS
  split
  · exact Nat.le_refl _
  · rw [List.length_append, List.length_drop, List.length_take]; omega
theorem others_mem (c : List Vtx) : ∀ v ∈ othersS c, v ∈ c := by
  unfold othersS
  split
  · exact fun v h => h
  · intro v h
    rcases List.mem_append.1 h with h | h
    · exact List.mem_of_mem_drop h
    · exact List.mem_of_mem_take h

set_option maxRecDepth 100000 in
set_option maxHeartbeats 3200000 in
theorem segs_core (v : Value) (c : List Vtx) (w : World) (hv : VRd w v c) (hc : c ≠ []) (hl : c.length ≤ 1000) (hs : ∀ u ∈ c, smallV u) :
    Calls Try.prog 51 #[v] w fun e w' => ∃ u, e = .returned u ∧ SRow w' w.heap.size u (segsS c) ∧ Below w.heap.size w w' := by
  have HBG := Lib.hid (begin_any v c w hv hc hl hs)
  have HSS : Hid (segsS c = walkS (startS c) (startS c) none (othersS c)) := Lib.hid (by unfold segsS; rw [if_neg hc])
  have HOL := Lib.hid (Nat.le_trans (others_len c) hl)
  have HOM : Hid (∀ u ∈ othersS c, smallV u) := Lib.hid fun u hu => hs u (others_mem c u hu)
  obtain ⟨R, hR⟩ : ∃ R, segsS c = R := ⟨_, rfl⟩
  rw [hR] at HSS
  rw [hR]
  generalize startS c = s at *
  generalize othersS c = os at *
  obtain ⟨sx, sy⟩ := s
  obtain ⟨A, cap, rfl, hcap, -⟩ := hv
  obtain ⟨L, hL⟩ : ∃ L, c.length = L := ⟨_, rfl⟩
  have hL0 : 0 < L := by rw [← hL]; exact List.length_pos_iff.2 hc
  rw [hL] at HBG
  rw [hL]
  have hLz : ((L : Int) == 0) = false := by simp; omega
  clear hc hl hs hR hcap hL
  go_enter Try.func51, Try.ntmps51
  go_wp2_with fail
  refine HBG.out.mono ?_
  rintro e w1 ⟨uo, rfl, ho, hb1⟩
  have ho' := ho
  obtain ⟨Ao, capo, rfl, hco, -⟩ := ho'
  obtain ⟨n, hn⟩ : ∃ n, os.length = n := ⟨_, rfl⟩
  rw [hn] at ho hco
  rw [hn]
  have hn1 : n ≤ 1000 := by rw [← hn]; exact HOL.out
  have HN := Lib.hid hn
  have HVO := Lib.hid (ho.keep ((Below.refl _ w1).alloc (Nat.le_refl _) (.cells #[.int .i64 sx, .int .i64 sy] 41)))
  have HB1 := Lib.hid (hb1.alloc hb1.size (.cells #[.int .i64 sx, .int .i64 sy] 41))
  clear ho hb1 hn HBG hLz hL0 HOL
  go_wp2_with fail
  refine (lineFrom_any sx sy _).mono ?_
  rintro e w2 ⟨rfl, hb2⟩
  have P3 := (Blk.new w1 41 [.int .i64 sx, .int .i64 sy] rfl)
  have P5 := (Blk.new (w1.alloc (.cells #[.int .i64 sx, .int .i64 sy] 41)) 99 [.slice none 0 0] (g := w1.heap.size + 1) (by simp)).keep hb2
  generalize hW0 : w1.alloc (.cells #[.int .i64 sx, .int .i64 sy] 41) = W0 at *
  have hz0 : W0.heap.size = w1.heap.size + 1 := by rw [← hW0]; simp
  have Q0 : Below W0.heap.size W0 w2 := ((Below.refl _ W0).alloc (Nat.le_refl _) _).trans (hb2.mono (by simp))
  have P6 := (Blk.new w2 119 [.int .i64 sx, .int .i64 sy, .int .i64 sx, .int .i64 sy, .int .i64 0, .int .i64 0, .bool false] rfl).alloc (.cells #[.int .i64 0, .int .i64 0, .bool false] 106)
  have P8 := Blk.new (w2.alloc (.cells #[.int .i64 sx, .int .i64 sy, .int .i64 sx, .int .i64 sy, .int .i64 0, .int .i64 0, .bool false] 119)) 106 [.int .i64 0, .int .i64 0, .bool false] (g := w2.heap.size + 1) (by simp)
  have P5' := (P5.alloc (.cells #[.int .i64 sx, .int .i64 sy, .int .i64 sx, .int .i64 sy, .int .i64 0, .int .i64 0, .bool false] 119)).alloc (.cells #[.int .i64 0, .int .i64 0, .bool false] 106)
  have Q2 := (Q0.alloc Q0.size (.cells #[.int .i64 sx, .int .i64 sy, .int .i64 sx, .int .i64 sy, .int .i64 0, .int .i64 0, .bool false] 119)).alloc (Nat.le_trans Q0.size (by simp)) (.cells #[.int .i64 0, .int .i64 0, .bool false] 106)
  have hz5 := P5.lt
  have hzW : ((w2.alloc (.cells #[.int .i64 sx, .int .i64 sy, .int .i64 sx, .int .i64 sy, .int .i64 0, .int .i64 0, .bool false] 119)).alloc (.cells #[.int .i64 0, .int .i64 0, .bool false] 106)).heap.size = w2.heap.size + 2 := by simp
  have HP5 := Lib.hid P5'
  have HP6 := Lib.hid P6
  have HP8 := Lib.hid P8
  have HQ2 := Lib.hid Q2
  have HP3 := Lib.hid P3
  have Hz0 := Lib.hid hz0
  have Hz5 := Lib.hid hz5
  have HzW := Lib.hid hzW
  clear P5 P5' P6 P8 Q0 Q2 hb2 hW0 hz0 hz5 P3 hzW
  go_wp2_with fail
  generalize (w2.alloc (.cells #[.int .i64 sx, .int .i64 sy, .int .i64 sx, .int .i64 sy, .int .i64 0, .int .i64 0, .bool false] 119)).alloc (.cells #[.int .i64 0, .int .i64 0, .bool false] 106) = W at *
  obtain ⟨g3, hg3⟩ : ∃ g, w1.heap.size = g := ⟨_, rfl⟩
  obtain ⟨g5, hg5⟩ : ∃ g, w1.heap.size + 1 = g := ⟨_, rfl⟩
  obtain ⟨g6, hg6⟩ : ∃ g, w2.heap.size = g := ⟨_, rfl⟩
  obtain ⟨g8, hg8⟩ : ∃ g, w2.heap.size + 1 = g := ⟨_, rfl⟩
  rw [hg5] at HP5
  rw [hg6] at HP6
  rw [hg8] at HP8
  rw [hg3] at HP3
  have hord : g3 < g5 ∧ g5 < g6 ∧ g6 < g8 ∧ g8 + 1 = W.heap.size := by have h1 := Hz5.out; have h2 := HzW.out; omega
  have hW0z : W0.heap.size = g5 := by rw [Hz0.out]; exact hg5
  rw [hg5, hg3, hg8, hg6]
  have HW0z := Lib.hid hW0z
  clear Hz0 Hz5 HzW hg3 hg5 hg6 hg8 hW0z
  have H0 : Hid (SRow W (g8 + 1) (.slice none 0 0) []) := Lib.hid (World.ownsRow_nil _ _ _ _)
  have HU : Under ⟨sx, sy⟩ sx sy false ⟨0, 0, false⟩ none := ⟨(fun h => by cases h), (fun _ => ⟨rfl, rfl, rfl⟩)⟩
  have HST : Hid (R = [] ++ walkS ⟨sx, sy⟩ ⟨sx, sy⟩ none (os.drop 0)) := HSS
  go_loopw [24] (fun i wr => ∃ (k : Nat) (ax ay bx by' : Int) (cv : Bool) (u : Vtx) (ctl : Option Vtx) (acc : List Sg) (v : Value), k ≤ n ∧ i = .int .i64 k ∧ Hid (R = acc ++ walkS ⟨sx, sy⟩ ⟨ax, ay⟩ ctl (os.drop k)) ∧ Hid (Under ⟨ax, ay⟩ bx by' cv u ctl) ∧ acc.length ≤ k ∧ Hid (Blk wr g6 119 (seg7 ax ay bx by' 0 0 cv)) ∧ Hid (Blk wr g8 106 [.int .i64 u.x, .int .i64 u.y, .bool u.on]) ∧ Hid (Blk wr g5 99 [v]) ∧ Hid (SRow wr (g8 + 1) v acc) ∧ Hid (Below W0.heap.size W0 wr) ∧ g8 + 1 ≤ wr.heap.size) (fun i _ => n - (intOf i).toNat)
  case atStart => exact ⟨0, sx, sy, sx, sy, false, ⟨0, 0, false⟩, none, [], .slice none 0 0, Nat.zero_le _, rfl, HST, Lib.hid HU, Nat.le_refl _, HP6, HP8, HP5, H0, HQ2, by omega⟩
  case round =>
    obtain ⟨k, ax, ay, bx, by', cv, u, ctl, acc, v, hk, rfl, HR, HUN, hacc, K6, K8, K5, KV, KB, hz⟩ := hrel
    clear HST HU H0 HP6 HP8 HP5 HQ2 HSS
    by_cases hkn : k < n
    · have hkb : decide ((k : Int) < n) = true := by simp; omega
      obtain ⟨d, hd⟩ : ∃ d, os[k]? = some d := ⟨_, List.getElem?_eq_getElem (by rw [HN.out]; exact hkn)⟩
      obtain ⟨a, rfl, hal, hat⟩ := HVO.out.at k d hd
      obtain ⟨x0, x1, x2⟩ := hat.keep KB.out
      have hds : smallV d := HOM.out d (List.mem_of_getElem? hd)
      have HDR := Lib.hid (drop_push os k d hd)
      obtain ⟨dx, dy, don⟩ := d
      simp only [] at x0 x1 x2
      have T10 := Blk.new wr 106 [.int .i64 dx, .int .i64 dy, .bool don] rfl
      have K6a := K6.out.alloc (.cells #[.int .i64 dx, .int .i64 dy, .bool don] 106)
      have K8a := K8.out.alloc (.cells #[.int .i64 dx, .int .i64 dy, .bool don] 106)
      have K5a := K5.out.alloc (.cells #[.int .i64 dx, .int .i64 dy, .bool don] 106)
      have KVa := KV.out.alloc (.cells #[.int .i64 dx, .int .i64 dy, .bool don] 106)
      have KBa := KB.out.alloc KB.out.size (.cells #[.int .i64 dx, .int .i64 dy, .bool don] 106)
      clear hd hat
      cases don with
      | true =>
        have HT10 := Lib.hid T10
        have HK6 := Lib.hid K6a
        have HK8 := Lib.hid K8a
        have HK5 := Lib.hid K5a
        have HKV := Lib.hid KVa
        have HKB := Lib.hid KBa
        clear T10 K6a K8a K5a KVa KBa
        go_wp2_with fail
        refine (pointOf_any dx dy true hds _).mono ?_
        rintro e w3 ⟨rfl, hb3⟩
        have E := endAt_any (dx + dx) (dy + dy) ax ay bx by' 0 0 cv g6 g5 (g8 + 1) v acc w3 (HK6.out.keep hb3) (HK5.out.keep hb3) (HKV.out.below hb3) (by omega) (by omega) (by omega) (by omega) (Nat.le_trans hz (Nat.le_trans (by simp) hb3.size))
        have HE := Lib.hid E
        have HK8' := Lib.hid (HK8.out.keep hb3)
        have HKB' := Lib.hid (HKB.out.trans (hb3.mono (HKB.out.size)))
        have HV3 := Lib.hid (HKV.out.below hb3)
        have hz3 : g8 + 1 ≤ w3.heap.size := Nat.le_trans hz (Nat.le_trans (by simp) hb3.size)
        clear E hb3 HK6 HK8 HK5 HKV HKB HT10 x0 x1 x2
        go_wp2_with fail
        refine HE.out.mono ?_
        rintro e w4 ⟨rfl, E6, ⟨v', E5, EV⟩, EB⟩
        have F8 := end_keep EB HK8'.out (by omega) (by omega) (fun h => by have := (World.ownsRow.lt HV3.out g8 h).1; omega)
        have FB : Below W0.heap.size W0 w4 := HKB'.out.trans (end_below EB HV3.out (by have := HW0z.out; omega) (by have := HW0z.out; omega) (by have := HW0z.out; omega) HKB'.out.size)
        have hz4 : g8 + 1 ≤ w4.heap.size := Nat.le_trans hz3 EB.size
        have HR' : Hid (R = (acc ++ [⟨⟨ax, ay⟩, ⟨bx, by'⟩, ⟨dx + dx, dy + dy⟩, cv⟩]) ++ walkS ⟨sx, sy⟩ ⟨dx + dx, dy + dy⟩ none (os.drop (k + 1))) := Lib.hid (by
          rw [HR.out, HDR.out, walk_on _ _ _ _ _ rfl, HUN.out.sg, List.append_assoc]
          rfl)
        have HUN' : Hid (Under ⟨dx + dx, dy + dy⟩ (dx + dx) (dy + dy) false u none) := Lib.hid ⟨(fun h => by cases h), (fun _ => ⟨rfl, rfl, rfl⟩)⟩
        have H6 := Lib.hid E6
        have H5 := Lib.hid E5
        have HV' := Lib.hid EV
        have H8 := Lib.hid F8
        have HFB := Lib.hid FB
        clear E6 E5 EV F8 FB EB HE HK8' HKB' HV3 HR HUN HDR
        go_wp2_with fail
        exact ⟨⟨k + 1, _, _, _, _, _, u, _, _, v', by omega, by go_num, HR', HUN', by simp; omega, H6, H8, H5, HV', HFB, hz4⟩, by simp [intOf]; omega⟩
      | false =>
        cases cv with
        | true =>
          obtain ⟨rfl, rfl, rfl, hus⟩ := HUN.out.1 rfl
          obtain ⟨ux, uy, uon⟩ := u
          have HT10 := Lib.hid T10
          have HK6 := Lib.hid K6a
          have HK8 := Lib.hid K8a
          have HK5 := Lib.hid K5a
          have HKV := Lib.hid KVa
          have HKB := Lib.hid KBa
          have y0 := K8.out.cell 0 rfl
          have y1 := K8.out.cell 1 rfl
          have y2 := K8.out.cell 2 rfl
          have yz := K8.out.lt
          have y6 := K6.out.cell 6 rfl
          have yw := K6.out.lt
          clear T10 K6a K8a K5a KVa KBa
          go_wp2_with fail
          refine (middle_any ux uy uon dx dy false hus hds _).mono ?_
          rintro e w3 ⟨rfl, hb3⟩
          have E := endAt_any (ux + dx) (uy + dy) ax ay (ux + ux) (uy + uy) 0 0 true g6 g5 (g8 + 1) v acc w3 (HK6.out.keep hb3) (HK5.out.keep hb3) (HKV.out.below hb3) (by omega) (by omega) (by omega) (by omega) (Nat.le_trans hz (Nat.le_trans (by simp) hb3.size))
          have HE := Lib.hid E
          have HK8' := Lib.hid (HK8.out.keep hb3)
          have HT10' := Lib.hid (HT10.out.keep hb3)
          have HKB' := Lib.hid (HKB.out.trans (hb3.mono (HKB.out.size)))
          have HV3 := Lib.hid (HKV.out.below hb3)
          have hz3 : g8 + 1 ≤ w3.heap.size := Nat.le_trans hz (Nat.le_trans (by simp) hb3.size)
          have hown : v.ownBlock ≠ some wr.heap.size := fun h => by have := (World.ownsRow.lt KV.out _ h).2; omega
          clear E hb3 HK6 HK8 HK5 HKV HKB HT10 x0 x1 x2 y0 y1 y2 yz y6 yw
          go_wp2_with fail
          refine HE.out.mono ?_
          rintro e w4 ⟨rfl, E6, ⟨v', E5, EV⟩, EB⟩
          have F8 := end_keep EB HK8'.out (by omega) (by omega) (fun h => by have := (World.ownsRow.lt HV3.out g8 h).1; omega)
          have F10 := end_keep EB HT10'.out (by omega) (by omega) hown
          have FB : Below W0.heap.size W0 w4 := HKB'.out.trans (end_below EB HV3.out (by have := HW0z.out; omega) (by have := HW0z.out; omega) (by have := HW0z.out; omega) HKB'.out.size)
          have hz4 : g8 + 1 ≤ w4.heap.size := Nat.le_trans hz3 EB.size
          have HR' : Hid (R = (acc ++ [⟨⟨ax, ay⟩, ⟨ux + ux, uy + uy⟩, ⟨ux + dx, uy + dy⟩, true⟩]) ++ walkS ⟨sx, sy⟩ ⟨ux + dx, uy + dy⟩ (some ⟨dx, dy, false⟩) (os.drop (k + 1))) := Lib.hid (by
            rw [HR.out, HDR.out, walk_mid _ _ _ _ _ rfl, List.append_assoc]
            rfl)
          have HUN' : Hid (Under ⟨ux + dx, uy + dy⟩ (dx + dx) (dy + dy) true ⟨dx, dy, false⟩ (some ⟨dx, dy, false⟩)) := Lib.hid ⟨(fun _ => ⟨rfl, rfl, rfl, hds⟩), (fun h => by cases h)⟩
          have H6 := Lib.hid E6
          have H5 := Lib.hid E5
          have HV' := Lib.hid EV
          have H8 := Lib.hid F8
          have H10 := Lib.hid F10
          have HFB := Lib.hid FB
          have t0 := F10.cell 0 rfl
          have t1 := F10.cell 1 rfl
          have t2 := F10.cell 2 rfl
          have tz := F10.lt
          have c0 := F8.cell 0 rfl
          have c1 := F8.cell 1 rfl
          have c2 := F8.cell 2 rfl
          have f0 := F8.frozen 0
          have f1 := F8.frozen 1
          have f2 := F8.frozen 2
          have cz := F8.lt
          have hn8 : ¬ wr.heap.size = g8 := by omega
          clear E6 E5 EV F8 FB EB F10 HE HK8' HKB' HV3 HR HUN HDR HT10'
          go_wp2_with fail
          refine (pointOf_any dx dy false hds _).mono ?_
          rintro e w5 ⟨rfl, hb5⟩
          have J6 := ((((H6.out.other (k := g8) 0 (.int .i64 dx) (by omega)).other (k := g8) 1 (.int .i64 dy) (by omega)).other (k := g8) 2 (.bool false) (by omega))).keep hb5
          have J8 := ((((H8.out.set 0 (.int .i64 dx)).set 1 (.int .i64 dy)).set 2 (.bool false))).keep hb5
          have J5 := ((((H5.out.other (k := g8) 0 (.int .i64 dx) (by omega)).other (k := g8) 1 (.int .i64 dy) (by omega)).other (k := g8) 2 (.bool false) (by omega))).keep hb5
          have JV := ((((HV'.out.set (p := ⟨g8, 0, none⟩) (Nat.lt_succ_self _) (.int .i64 dx)).set (p := ⟨g8, 1, none⟩) (Nat.lt_succ_self _) (.int .i64 dy)).set (p := ⟨g8, 2, none⟩) (Nat.lt_succ_self _) (.bool false))).below hb5
          have hw8 : W0.heap.size ≤ g8 := by have := HW0z.out; omega
          have hw6 : W0.heap.size ≤ g6 := by have := HW0z.out; omega
          have JB := below_w (((HFB.out.setCell (p := ⟨g8, 0, none⟩) hw8 (.int .i64 dx)).setCell (p := ⟨g8, 1, none⟩) hw8 (.int .i64 dy)).setCell (p := ⟨g8, 2, none⟩) hw8 (.bool false)) hb5 (by simpa using HFB.out.size)
          have hz5 : g8 + 1 ≤ w5.heap.size := Nat.le_trans hz4 (Nat.le_trans (by simp) hb5.size)
          have L6 := Lib.hid (((J6.set 2 (.int .i64 (dx + dx))).set 3 (.int .i64 (dy + dy))).set 6 (.bool true))
          have L8 := Lib.hid (((J8.other (k := g6) 2 (.int .i64 (dx + dx)) (by omega)).other (k := g6) 3 (.int .i64 (dy + dy)) (by omega)).other (k := g6) 6 (.bool true) (by omega))
          have L5 := Lib.hid (((J5.other (k := g6) 2 (.int .i64 (dx + dx)) (by omega)).other (k := g6) 3 (.int .i64 (dy + dy)) (by omega)).other (k := g6) 6 (.bool true) (by omega))
          have LV := Lib.hid (((JV.set (p := ⟨g6, 2, none⟩) (show g6 < g8 + 1 by omega) (.int .i64 (dx + dx))).set (p := ⟨g6, 3, none⟩) (show g6 < g8 + 1 by omega) (.int .i64 (dy + dy))).set (p := ⟨g6, 6, none⟩) (show g6 < g8 + 1 by omega) (.bool true))
          have LB := Lib.hid (((JB.setCell (p := ⟨g6, 2, none⟩) hw6 (.int .i64 (dx + dx))).setCell (p := ⟨g6, 3, none⟩) hw6 (.int .i64 (dy + dy))).setCell (p := ⟨g6, 6, none⟩) hw6 (.bool true))
          have m0 := J6.cell 2 rfl
          have m1 := J6.cell 3 rfl
          have m2 := J6.cell 6 rfl
          have n0 := J6.frozen 2
          have n1 := J6.frozen 3
          have n2 := J6.frozen 6
          have mz := J6.lt
          clear hb5 J6 J8 J5 JV JB hw8 hw6 H6 H8 H5 HV' HFB c0 c1 c2 f0 f1 f2 cz
          go_wp2_with fail
          exact ⟨⟨k + 1, _, _, _, _, true, ⟨dx, dy, false⟩, _, _, v', by omega, by go_num, HR', HUN', by simp; omega, L6, L8, L5, LV, LB, by simpa using hz5⟩, by simp [intOf]; omega⟩
        | false =>
          obtain ⟨rfl, rfl, rfl⟩ := HUN.out.2 rfl
          have H6 := K6
          have H8 := K8
          have H5 := K5
          have HV' := KV
          have HFB := KB
          have y6 := K6.out.cell 6 rfl
          have yw := K6.out.lt
          have c0 := K8.out.cell 0 rfl
          have c1 := K8.out.cell 1 rfl
          have c2 := K8.out.cell 2 rfl
          have f0 := K8.out.frozen 0
          have f1 := K8.out.frozen 1
          have f2 := K8.out.frozen 2
          have cz := K8.out.lt
          have hn8 : ¬ wr.heap.size = g8 := by omega
          have HR' : Hid (R = acc ++ walkS ⟨sx, sy⟩ ⟨bx, by'⟩ (some ⟨dx, dy, false⟩) (os.drop (k + 1))) := Lib.hid (by
            rw [HR.out, HDR.out, walk_first _ _ _ _ rfl])
          have HUN' : Hid (Under ⟨bx, by'⟩ (dx + dx) (dy + dy) true ⟨dx, dy, false⟩ (some ⟨dx, dy, false⟩)) := Lib.hid ⟨(fun _ => ⟨rfl, rfl, rfl, hds⟩), (fun h => by cases h)⟩
          clear T10 K6a K8a K5a KVa KBa K6 K8 K5 KV KB HUN HR HDR
          go_wp2_with fail
          refine (pointOf_any dx dy false hds _).mono ?_
          rintro e w5 ⟨rfl, hb5⟩
          have J6 := ((((H6.out.other (k := g8) 0 (.int .i64 dx) (by omega)).other (k := g8) 1 (.int .i64 dy) (by omega)).other (k := g8) 2 (.bool false) (by omega)).alloc (.cells #[.int .i64 dx, .int .i64 dy, .bool false] 106)).keep hb5
          have J8 := ((((H8.out.set 0 (.int .i64 dx)).set 1 (.int .i64 dy)).set 2 (.bool false)).alloc (.cells #[.int .i64 dx, .int .i64 dy, .bool false] 106)).keep hb5
          have J5 := ((((H5.out.other (k := g8) 0 (.int .i64 dx) (by omega)).other (k := g8) 1 (.int .i64 dy) (by omega)).other (k := g8) 2 (.bool false) (by omega)).alloc (.cells #[.int .i64 dx, .int .i64 dy, .bool false] 106)).keep hb5
          have JV := ((((HV'.out.set (p := ⟨g8, 0, none⟩) (Nat.lt_succ_self _) (.int .i64 dx)).set (p := ⟨g8, 1, none⟩) (Nat.lt_succ_self _) (.int .i64 dy)).set (p := ⟨g8, 2, none⟩) (Nat.lt_succ_self _) (.bool false)).alloc (.cells #[.int .i64 dx, .int .i64 dy, .bool false] 106)).below hb5
          have hw8 : W0.heap.size ≤ g8 := by have := HW0z.out; omega
          have hw6 : W0.heap.size ≤ g6 := by have := HW0z.out; omega
          have JB := below_w ((((HFB.out.setCell (p := ⟨g8, 0, none⟩) hw8 (.int .i64 dx)).setCell (p := ⟨g8, 1, none⟩) hw8 (.int .i64 dy)).setCell (p := ⟨g8, 2, none⟩) hw8 (.bool false)).alloc (by simpa using HFB.out.size) (.cells #[.int .i64 dx, .int .i64 dy, .bool false] 106)) hb5 (Nat.le_trans HFB.out.size (by simp))
          have hz5 : g8 + 1 ≤ w5.heap.size := Nat.le_trans hz (Nat.le_trans (by simp) hb5.size)
          have L6 := Lib.hid (((J6.set 2 (.int .i64 (dx + dx))).set 3 (.int .i64 (dy + dy))).set 6 (.bool true))
          have L8 := Lib.hid (((J8.other (k := g6) 2 (.int .i64 (dx + dx)) (by omega)).other (k := g6) 3 (.int .i64 (dy + dy)) (by omega)).other (k := g6) 6 (.bool true) (by omega))
          have L5 := Lib.hid (((J5.other (k := g6) 2 (.int .i64 (dx + dx)) (by omega)).other (k := g6) 3 (.int .i64 (dy + dy)) (by omega)).other (k := g6) 6 (.bool true) (by omega))
          have LV := Lib.hid (((JV.set (p := ⟨g6, 2, none⟩) (show g6 < g8 + 1 by omega) (.int .i64 (dx + dx))).set (p := ⟨g6, 3, none⟩) (show g6 < g8 + 1 by omega) (.int .i64 (dy + dy))).set (p := ⟨g6, 6, none⟩) (show g6 < g8 + 1 by omega) (.bool true))
          have LB := Lib.hid (((JB.setCell (p := ⟨g6, 2, none⟩) hw6 (.int .i64 (dx + dx))).setCell (p := ⟨g6, 3, none⟩) hw6 (.int .i64 (dy + dy))).setCell (p := ⟨g6, 6, none⟩) hw6 (.bool true))
          have m0 := J6.cell 2 rfl
          have m1 := J6.cell 3 rfl
          have m2 := J6.cell 6 rfl
          have n0 := J6.frozen 2
          have n1 := J6.frozen 3
          have n2 := J6.frozen 6
          have mz := J6.lt
          clear hb5 J6 J8 J5 JV JB hw8 hw6 H6 H8 H5 HV' HFB c0 c1 c2 f0 f1 f2 cz
          go_wp2_with fail
          exact ⟨⟨k + 1, _, _, _, _, true, ⟨dx, dy, false⟩, _, _, v, by omega, by go_num, HR', HUN', by omega, L6, L8, L5, LV, LB, by simpa using hz5⟩, by simp [intOf]; omega⟩
    · obtain rfl : k = n := by omega
      have P3 := HP3.out.keep KB.out
      have HP := Lib.hid P3
      have p0 := P3.cell 0 rfl
      have p1 := P3.cell 1 rfl
      have pz := P3.lt
      have HR' : Hid (R = acc ++ [⟨⟨ax, ay⟩, ⟨bx, by'⟩, ⟨sx, sy⟩, cv⟩]) := Lib.hid (by
        rw [HR.out, walk_nil _ _ _ _ (List.drop_eq_nil_of_le (by rw [HN.out]; omega)), HUN.out.sg])
      have E := endAt_any sx sy ax ay bx by' 0 0 cv g6 g5 (g8 + 1) v acc wr K6.out K5.out KV.out (by omega) (by omega) (by omega) (by omega) hz
      have HE := Lib.hid E
      clear E P3 HR HUN
      go_wp2_with fail
      refine HE.out.mono ?_
      rintro e w4 ⟨rfl, E6, ⟨v', E5, EV⟩, EB⟩
      have FB : Below W0.heap.size W0 w4 := KB.out.trans (end_below EB KV.out (by have := HW0z.out; omega) (by have := HW0z.out; omega) (by have := HW0z.out; omega) KB.out.size)
      have s0 := E5.cell 0 rfl
      have sz := E5.lt
      have HF := Lib.hid (HB1.out.trans (FB.mono HB1.out.size))
      have hle : w.heap.size ≤ g8 + 1 := by have h1 := HB1.out.size; have h2 := HW0z.out; omega
      rw [← HR'.out] at EV
      have HV' := Lib.hid (World.ownsRow.mono EV hle)
      clear EV EB FB E6 E5 HE p0 p1 pz
      go_wp2
      go_ret
      exact ⟨v', rfl, HV'.out, HF.out⟩

end Go.Proofs.Yteiildeaccngjaa

namespace Go.Proofs.Yteiildeaccngjaa
open Go.RowKit

set_option maxHeartbeats 400000 in
set_option maxRecDepth 100000 in
theorem segs_nil (A : Option Addr) (cap : Nat) (w : World) : Calls Try.prog 51 #[.slice A 0 cap] w fun e w' => e = .returned (.slice none 0 0) ∧ Below w.heap.size w w' := by
  go_enter Try.func51, Try.ntmps51
  go_wp2
  go_ret
  exact ⟨rfl, Below.refl _ _⟩
/-- path.Segs. -/
theorem segs_any (v : Value) (c : List Vtx) (w : World) (hv : VRd w v c) (hl : c.length ≤ 1000) (hs : ∀ u ∈ c, smallV u) :
    Calls Try.prog 51 #[v] w fun e w' => ∃ u, e = .returned u ∧ SRow w' w.heap.size u (segsS c) ∧ Below w.heap.size w w' := by
  by_cases hc : c = []
  · subst hc
    obtain ⟨A, cap, rfl, _⟩ := hv
    refine (segs_nil A cap w).mono ?_
    rintro e w' ⟨rfl, hb⟩
    exact ⟨_, rfl, World.ownsRow_nil _ _ _ _, hb⟩
  · exact segs_core v c w hv hc hl hs

theorem walk_len (s : Pt) : ∀ (vs : List Vtx) (a : Pt) (ctl : Option Vtx), (walkS s a ctl vs).length ≤ vs.length + 1
  | [], a, ctl => by simp [walkS]
  | v :: vs, a, ctl => by
    by_cases h : v.on = true
    · rw [walk_on _ _ _ _ _ h, List.length_cons, List.length_cons]
      have := walk_len s vs (ptV v) none
      omega
    · have h' : v.on = false := by simpa using h
      cases ctl with
      | none => rw [walk_first _ _ _ _ h', List.length_cons]; have := walk_len s vs a (some v); omega
      | some u => rw [walk_mid _ _ _ _ _ h', List.length_cons, List.length_cons]; have := walk_len s vs (midV u v) (some v); omega
theorem segs_len (c : List Vtx) : (segsS c).length ≤ c.length + 1 := by
  unfold segsS
  split
  · simp
  · have h1 := walk_len (startS c) (othersS c) (startS c) none
    have h2 := others_len c
    omega

/-- A piece that is read, in the walk's spelling. -/
abbrev SAtS (w : World) (a : Addr) (i : Nat) (s0 s1 s2 s3 s4 s5 : Int) (s6 : Bool) : Prop :=
  w.cell? (a.add (i * 7)) = some (.int .i64 s0) ∧ w.cell? ⟨(a.add (i * 7)).block, (a.add (i * 7)).off + 1, none⟩ = some (.int .i64 s1) ∧ w.cell? ⟨(a.add (i * 7)).block, (a.add (i * 7)).off + 2, none⟩ = some (.int .i64 s2) ∧ w.cell? ⟨(a.add (i * 7)).block, (a.add (i * 7)).off + 3, none⟩ = some (.int .i64 s3) ∧ w.cell? ⟨(a.add (i * 7)).block, (a.add (i * 7)).off + 4, none⟩ = some (.int .i64 s4) ∧ w.cell? ⟨(a.add (i * 7)).block, (a.add (i * 7)).off + 5, none⟩ = some (.int .i64 s5) ∧ w.cell? ⟨(a.add (i * 7)).block, (a.add (i * 7)).off + 6, none⟩ = some (.bool s6)
theorem SRd.at {w : World} {A : Option Addr} {n cap : Nat} {l : List Sg} (h : SRd w (.slice A n cap) l) (i : Nat) (s : Sg) (hs : l[i]? = some s) : ∃ a, A = some a ∧ a.block < w.heap.size ∧ SAtS w a i s.a.x s.a.y s.b.x s.b.y s.c.x s.c.y s.curve := by
  obtain ⟨A', cap', e, _, h3⟩ := h
  simp only [Value.slice.injEq] at e
  obtain ⟨rfl, -, -⟩ := e
  obtain ⟨hi, rfl⟩ := List.getElem?_eq_some_iff.1 hs
  obtain ⟨a, ha, hlt, p0, p1, p2, p3, p4, p5, p6⟩ := h3 i hi
  rw [add_spell _ _ _ (by omega)] at p1 p2 p3 p4 p5 p6
  exact ⟨a, ha, hlt, p0, p1, p2, p3, p4, p5, p6⟩

end Go.Proofs.Yteiildeaccngjaa

namespace Go.Proofs.Yteiildeaccngjaa
open Go.RowKit

theorem outline_small (cs : List (List Dot)) : (outlineS cs).length ≤ 8 ∧ ∀ c ∈ outlineS cs, c.length ≤ 1000 ∧ ∀ v ∈ c, smallV v := by
  obtain ⟨h1, h2, _, h4⟩ := checkS_zero (outlineS_check cs)
  refine ⟨h1, fun c hc => ⟨?_, fun v hv => ?_⟩⟩
  · have := le_flatten _ c hc; omega
  · have := h4 v (List.mem_flatten.2 ⟨c, hc, hv⟩)
    unfold inV at this
    unfold smallV
    omega
theorem ORd.at {w : World} {A : Option Addr} {n cap : Nat} {o : List (List Vtx)} (h : ORd w (.slice A n cap) o) (r : Nat) (c : List Vtx) (hc : o[r]? = some c) : ∃ a u, A = some a ∧ a.block < w.heap.size ∧ w.cell? (a.add r) = some u ∧ VRd w u c := by
  obtain ⟨A', cap', e, _, h3⟩ := h
  simp only [Value.slice.injEq] at e
  obtain ⟨rfl, -, -⟩ := e
  obtain ⟨hi, rfl⟩ := List.getElem?_eq_some_iff.1 hc
  exact h3 r hi

/-- An outline's contours, taken out of it. -/
theorem run_contours (v : Value) (hv : v.oneCell' = true) (w : World) : Sem.run Try.prog (Instr.field 68 (.agg #[v]) 0) w = .ok v w := by
  cases v <;> simp [Value.oneCell'] at hv <;> simp [Instr.field, run_underlying Try.underlying68, part, asAgg]

end Go.Proofs.Yteiildeaccngjaa

namespace Go.Proofs.Yteiildeaccngjaa
open Go.RowKit

/-- Rows of pieces that are read. -/
def SORd (w : World) (v : Value) (ls : List (List Sg)) : Prop :=
  ∃ A cap, v = .slice A ls.length cap ∧ ls.length ≤ cap ∧ ∀ r l, ls[r]? = some l → ∃ a u, A = some a ∧ a.block < w.heap.size ∧ w.cell? (a.add r) = some u ∧ SRd w u l
theorem SORd.keep {w w' : World} {v : Value} {ls : List (List Sg)} (h : SORd w v ls) (hb : Below w.heap.size w w') : SORd w' v ls := by
  obtain ⟨A, cap, e, h1, h3⟩ := h
  refine ⟨A, cap, e, h1, fun r l hr => ?_⟩
  obtain ⟨a, u, ha, hlt, c, d⟩ := h3 r l hr
  exact ⟨a, u, ha, Nat.lt_of_lt_of_le hlt hb.size, by rw [hb.cell (by rw [block_add]; exact hlt)]; exact c, d.keep hb⟩
theorem srinfo : (Try.prog.info? 99).map (fun i => (i.zero, i.size, i.bytes)) = some (some (.slice none 0 0), 1, 24) := by kernel_rfl

/-- The rows so far. -/
def Made (w : World) (gm n : Nat) (o : List (List Vtx)) (k : Nat) : Prop :=
  ∃ vs, w.ownsRow gm 99 1 (.slice (some ⟨gm, 0, none⟩) n n) n vs ∧ ∀ r c, r < k → o[r]? = some c → ∃ u, vs[r]? = some u ∧ SRow w (gm + 1) u (segsS c)
theorem Made.keep {w w' : World} {gm n : Nat} {o : List (List Vtx)} {k : Nat} (h : Made w gm n o k) (hb : Below w.heap.size w w') : Made w' gm n o k := by
  obtain ⟨vs, h1, h2⟩ := h
  refine ⟨vs, own_blocks h1 fun g hg => hb.block g (h1.lt g hg).2, fun r c hr hc => ?_⟩
  obtain ⟨u, e, hu⟩ := h2 r c hr hc
  exact ⟨u, e, hu.below hb⟩
theorem Made.lt {w : World} {gm n : Nat} {o : List (List Vtx)} {k : Nat} (h : Made w gm n o k) : gm < w.heap.size := by
  obtain ⟨vs, h1, _⟩ := h
  exact (h1.lt gm rfl).2
theorem Made.store {w : World} {gm n : Nat} {o : List (List Vtx)} {k : Nat} {u : Value} {c : List Vtx} (h : Made w gm n o k) (hk : k < n) (hc : o[k]? = some c) (hu : SRow w (gm + 1) u (segsS c)) : Made (w.setCell ⟨gm, k, none⟩ u) gm n o (k + 1) := by
  obtain ⟨vs, h1, h2⟩ := h
  have hl : vs.length = n := by have := h1.1; omega
  refine ⟨vs.set k u, (h1.stored k u).1, fun r d hr hd => ?_⟩
  by_cases hrk : r = k
  · subst hrk
    rw [hc] at hd
    injection hd with hd
    subst hd
    exact ⟨u, by rw [List.getElem?_set_self (by omega)], hu.set (Nat.lt_succ_self _) u⟩
  · obtain ⟨x, e, hx⟩ := h2 r d (by omega) hd
    exact ⟨x, by rw [List.getElem?_set_ne (fun e => hrk e.symm)]; exact e, hx.set (Nat.lt_succ_self _) u⟩
theorem Made.cell {w : World} {gm n : Nat} {o : List (List Vtx)} {k : Nat} (h : Made w gm n o k) (j : Nat) (hj : j < n) : (∃ x, w.cell? ⟨gm, j, none⟩ = some x) ∧ w.frozen? ⟨gm, j, none⟩ = false := by
  obtain ⟨vs, h1, _⟩ := h
  have hl : vs.length = n := by have := h1.1; omega
  exact ⟨⟨vs[j]'(by omega), by rw [h1.cellAt j (by omega)]; exact List.getElem?_eq_getElem _⟩, h1.frozenAt j⟩
theorem Made.read {w : World} {gm n : Nat} {o : List (List Vtx)} (h : Made w gm n o n) (hn : o.length = n) : SORd w (.slice (some ⟨gm, 0, none⟩) n n) (o.map segsS) := by
  have hlt := h.lt
  obtain ⟨vs, h1, h2⟩ := h
  refine ⟨_, n, by rw [List.length_map, hn], by rw [List.length_map, hn]; exact Nat.le_refl _, fun r l hr => ?_⟩
  rw [List.getElem?_map] at hr
  cases hc : o[r]? with
  | none => rw [hc] at hr; cases hr
  | some c =>
    rw [hc] at hr
    injection hr with hr
    subst hr
    have hrn : r < n := by rw [← hn]; exact (List.getElem?_eq_some_iff.1 hc).1
    obtain ⟨u, e, hu⟩ := h2 r c hrn hc
    refine ⟨_, u, rfl, hlt, ?_, hu.read⟩
    have : (⟨gm, 0, none⟩ : Addr).add r = ⟨gm, r, none⟩ := by unfold Addr.add; by_cases h0 : r = 0 <;> simp [h0]
    rw [this, h1.cellAt r (by omega)]
    exact e

set_option maxHeartbeats 1600000 in
set_option maxRecDepth 100000 in
theorem all_any (v : Value) (o : List (List Vtx)) (w : World) (ho : ORd w v o) (hs : o.length ≤ 8 ∧ ∀ c ∈ o, c.length ≤ 1000 ∧ ∀ v ∈ c, smallV v) :
    Calls Try.prog 27 #[.agg #[v]] w fun e w' => ∃ A cap, e = .returned (.slice A o.length cap) ∧ SORd w' (.slice A o.length cap) (o.map segsS) ∧ Below w.heap.size w w' := by
  have HO := Lib.hid ho
  have HS := Lib.hid hs
  obtain ⟨A, cap, rfl, hcap, -⟩ := ho
  obtain ⟨n, hn⟩ : ∃ n, o.length = n := ⟨_, rfl⟩
  have hn8 : n ≤ 8 := by rw [← hn]; exact hs.1
  rw [hn] at HO hcap
  rw [hn]
  have HN := Lib.hid hn
  obtain ⟨i0, hi0, hz0, hz1, hz2⟩ := infos srinfo
  have B0 : Below w.heap.size w (w.alloc (.cells #[.slice A n cap] 68)) := (Below.refl _ w).alloc (Nat.le_refl _) _
  obtain ⟨wm, hr, hown, hg⟩ := run_make_full (P := Try.prog) (w.alloc (.cells #[.slice A n cap] 68)) (w.heap.size + 1) 64 99 i0 _ 1 Try.underlying64 hi0 hz0 hz1 .i64 .i64 n (by rw [hz2]; omega) (by unfold maxLen; omega) (by simp)
  rw [World.size_alloc] at hr hown
  have Bm : Below w.heap.size w wm := B0.grown hg (by simp) (fun q hq => by cases hq)
  have M0 : Made wm (w.heap.size + 1) n o 0 := ⟨_, hown, fun r c hr => absurd hr (Nat.not_lt_zero _)⟩
  have K0 : Blk wm w.heap.size 68 [.slice A n cap] := (Blk.new w 68 [.slice A n cap] rfl).grown hg (by simp)
  have k0 := K0.cell 0 rfl
  have kz := K0.lt
  obtain ⟨gm, hgm⟩ : ∃ g, w.heap.size + 1 = g := ⟨_, rfl⟩
  rw [hgm] at hr M0
  have HBm := Lib.hid Bm
  have HM0 := Lib.hid M0
  have HGM := Lib.hid hgm
  clear hown hg hi0 hz0 hz1 hz2 B0 hs hn Bm M0 K0 hgm
  go_enter Try.func27, Try.ntmps27
  go_wp2_with fail
  clear k0 kz hr
  go_loopw [13] (fun i wr => ∃ r : Nat, r ≤ n ∧ i = .int .i64 r ∧ Hid (Made wr gm n o r) ∧ Hid (Below w.heap.size w wr)) (fun i _ => n - (intOf i).toNat)
  case atStart => exact ⟨0, Nat.zero_le _, rfl, HM0, HBm⟩
  case round =>
    obtain ⟨r, hr, rfl, HM, HB⟩ := hrel
    by_cases hrn : r < n
    · have hrb : decide ((r : Int) < n) = true := by simp; omega
      obtain ⟨c, hc⟩ : ∃ c, o[r]? = some c := ⟨_, List.getElem?_eq_getElem (by rw [HN.out]; exact hrn)⟩
      obtain ⟨a, u, rfl, hlt, hcell, hrow⟩ := (HO.out.keep HB.out).at r c hc
      obtain ⟨hc1, hc2⟩ := HS.out.2 c (List.mem_of_getElem? hc)
      have HS1 := Lib.hid (segs_any u c wr hrow hc1 hc2)
      have HC := Lib.hid hc
      clear hrow hc1 hc2 hc
      go_wp2_with fail
      refine HS1.out.mono ?_
      rintro e w3 ⟨u1, rfl, hu1, hb3⟩
      have M3 := HM.out.keep hb3
      obtain ⟨⟨x, m1⟩, m2⟩ := M3.cell r hrn
      have m3 := M3.lt
      have hu2 := World.ownsRow.mono hu1 (show gm + 1 ≤ wr.heap.size from HM.out.lt)
      have M4 := Lib.hid (M3.store hrn HC.out hu2)
      have hg0 : w.heap.size ≤ gm := by have := HGM.out; omega
      have B4 := Lib.hid ((HB.out.trans (hb3.mono HB.out.size)).setCell (p := ⟨gm, r, none⟩) hg0 u1)
      obtain ⟨A1, cap1, e1⟩ := SRow.form hu1
      subst e1
      clear hu1 hb3 HS1 hcell M3 hu2
      go_wp2_with fail
      exact ⟨⟨r + 1, by omega, by go_num, M4, B4⟩, by simp [intOf]; omega⟩
    · obtain rfl : r = n := by omega
      go_wp2
      go_ret
      exact ⟨_, _, rfl, HM.out.read HN.out, HB.out⟩

end Go.Proofs.Yteiildeaccngjaa

namespace Go.Proofs.Yteiildeaccngjaa
open Go.RowKit

/-- Something appended to nothing: a row of one's own. -/
theorem wp_append_nil {P : Program} {w : World} {ops : Array Oper} {rest : List Oper} {o : Oper} {a : Act} {Q : Exit → Act → World → Prop} (hgd : o.guard = none) (x : Operand) (t : TypeId)
    (ho : o.op = .call { callee := .builtin .append, args := #[.const (.slice none 0 0), x], argTypes := #[t, t] })
    (base : Nat) (e : TypeId) (i : TypeInfo) (z : Value) (size bytes : Nat) (ht : P.underlying t = some (.slice e)) (hi : P.info? e = some i) (hz : i.zero = some z)
    (hsize : i.size = size) (hby : i.bytes = bytes) (hzs : z.cells.size = size) (hsz : 0 < size)
    (ad : Addr) (m c : Nat) (news : List Value) (hx : a.eval x = .slice (some ad) m c) (hl : news.length = m * size) (hnews : ∀ j u, news[j]? = some u → w.cell? (ad.add j) = some u) (h1 : ∀ u ∈ news, u.oneCell' = true)
    (hm : 0 < m) (h63 : m ≤ maxLen) (hbytes : m * bytes ≤ 140737488355328) (hbase : base ≤ w.heap.size)
    (h : ∀ g cap w', w'.ownsRow base e size (.slice (some ⟨g, 0, none⟩) m cap) m news → w.grownBy w' none → g = w.heap.size → wpList P ops Q rest (a.put o.dst (.slice (some ⟨g, 0, none⟩) m cap)) w') : wpList P ops Q (o :: rest) a w := by
  refine wpList_append_lies w hgd _ x t ho base e i z size bytes ht hi hz hsize hby hzs hsz _ 0 [] rfl (World.ownsRow_nil _ _ _ _) ad m c news hx hl hnews h1 hm (by rw [Nat.zero_add]; exact h63) (by rw [Nat.zero_add]; exact hbytes) hbase _ rfl ?_
  intro g cap w' hown hgrow hat _
  rw [Nat.zero_add, List.nil_append] at hown
  rw [Nat.zero_add]
  exact h g cap w' hown hgrow (hat.elim (fun e => by cases e) id)
theorem step_append_nil {P : Program} {w : World} {ops : Array Oper} {o : Oper} {a : Act} {K : Act → World → Prop} {Q : Exit → Act → World → Prop} {E : Prop} (hgd : o.guard = none) (x : Operand) (t : TypeId)
    (ho : o.op = .call { callee := .builtin .append, args := #[.const (.slice none 0 0), x], argTypes := #[t, t] })
    (base : Nat) (e : TypeId) (i : TypeInfo) (z : Value) (size bytes : Nat) (ht : P.underlying t = some (.slice e)) (hi : P.info? e = some i) (hz : i.zero = some z)
    (hsize : i.size = size) (hby : i.bytes = bytes) (hzs : z.cells.size = size) (hsz : 0 < size)
    (ad : Addr) (m c : Nat) (news : List Value) (hx : a.eval x = .slice (some ad) m c) (hl : news.length = m * size) (hnews : ∀ j u, news[j]? = some u → w.cell? (ad.add j) = some u) (h1 : ∀ u ∈ news, u.oneCell' = true)
    (hm : 0 < m) (h63 : m ≤ maxLen) (hbytes : m * bytes ≤ 140737488355328) (hbase : base ≤ w.heap.size)
    (h : ∀ g cap w', w'.ownsRow base e size (.slice (some ⟨g, 0, none⟩) m cap) m news → w.grownBy w' none → g = w.heap.size → K (a.put o.dst (.slice (some ⟨g, 0, none⟩) m cap)) w') :
    if Region.wanted o (yielded ops a.tmps) = true then Oper.wp P o a w K Q else E := by
  refine step_append_lies w hgd _ x t ho base e i z size bytes ht hi hz hsize hby hzs hsz _ 0 [] rfl (World.ownsRow_nil _ _ _ _) ad m c news hx hl hnews h1 hm (by rw [Nat.zero_add]; exact h63) (by rw [Nat.zero_add]; exact hbytes) hbase _ rfl ?_
  intro g cap w' hown hgrow hat _
  rw [Nat.zero_add, List.nil_append] at hown
  rw [Nat.zero_add]
  exact h g cap w' hown hgrow (hat.elim (fun e => by cases e) id)
/-- An append whose run is known, as a step of a region that draws. -/
theorem step_append_run {P : Program} {w : World} {ops : Array Oper} {o : Oper} {a : Act} {K : Act → World → Prop} {Q : Exit → Act → World → Prop} {E : Prop} (hgd : o.guard = none) (s x : Operand) (t tn : TypeId)
    (ho : o.op = .call { callee := .builtin .append, args := #[s, x], argTypes := #[t, tn] }) (vs vx : Value) (hs : a.eval s = vs) (hx : a.eval x = vx)
    (v' : Value) (w' : World) (hr : (Builtin.append_ #[t, tn] o.type #[vs, vx]).run P w = .ok v' w') (h : K (a.put o.dst v') w') :
    if Region.wanted o (yielded ops a.tmps) = true then Oper.wp P o a w K Q else E := by
  have hw : Region.wanted o (yielded ops a.tmps) = true := by simp [Region.wanted, hgd]
  rw [if_pos hw]
  exact Lib.wp_append_run w s x t tn ho vs vx hs hx v' w' hr h

end Go.Proofs.Yteiildeaccngjaa
