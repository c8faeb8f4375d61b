/-
  What the program's counts of layer 4 does to any world (no claim is made here).
-/
import Derived.Test.YtgkhpnjfpahlgaaPRd2
import Derived.OwnWalk
namespace Go.Proofs.Ytgkhpnjfpahlgaa
open Go.RowKit

/-- A row of whole numbers that is ours. -/
def ivals (cs : List Nat) : List Value := cs.map fun (n : Nat) => .int .i64 (n : Int)
def IRow (w : World) (base : Nat) (v : Value) (cs : List Nat) : Prop := w.ownsRow base 3 1 v cs.length (ivals cs)
theorem IRow.own {w : World} {base : Nat} {v : Value} {cs : List Nat} {n : Nat} (h : IRow w base v cs) (hn : cs.length = n) : w.ownsRow base 3 1 v n (ivals cs) := hn ▸ h
theorem iinfo : (Try.prog.info? 3).map (fun i => (i.zero, i.size, i.bytes)) = some (some (.int .i64 0), 1, 8) := by kernel_rfl
theorem made_ints (k : Nat) : (madeCells (Value.int .i64 0).cells (k * 1)).toList = ivals (List.replicate k 0) := by
  show (madeCells #[Value.int .i64 0] (k * 1)).toList = _
  rw [toList_madeCells_one, Nat.mul_one]
  simp [ivals]
theorem ivals_set (cl : List Nat) (k x : Nat) (h : 0 < k) : (ivals (cl ++ List.replicate k 0)).set cl.length (.int .i64 (x : Int)) = ivals ((cl ++ [x]) ++ List.replicate (k - 1) 0) := by
  obtain ⟨m, rfl⟩ : ∃ m, k = m + 1 := ⟨k - 1, by omega⟩
  unfold ivals
  rw [List.replicate_succ]
  simp

set_option maxRecDepth 100000 in
set_option maxHeartbeats 1600000 in
theorem counts_any (g B : Nat) (bs : List Nat) (w : World) (hB : B ≤ g) (h : Rdr w g B bs false) :
    Calls Try.prog 26 #[.pointer (some ⟨g, 0, none⟩)] w fun e w' => ∃ (cv : Value) (p er : Nat), e = .returned (.tuple #[cv, .int .i64 p, .int .i64 er]) ∧ Below g w w' ∧
      ((er = 1 ∧ (bs = [] ∨ bs.tail.length < bs.headD 0)) ∨ (er = 3 ∧ bs ≠ [] ∧ bs.headD 0 ≤ bs.tail.length ∧ (64 < (bs.tail.take (bs.headD 0)).sum ∨ 8 < bs.headD 0)) ∨
       (er = 0 ∧ (bs ≠ [] ∧ bs.headD 0 ≤ bs.tail.length ∧ ¬ (64 < (bs.tail.take (bs.headD 0)).sum ∨ 8 < bs.headD 0)) ∧ IRow w' (g + 1) cv (bs.tail.take (bs.headD 0)) ∧ p = (bs.tail.take (bs.headD 0)).sum ∧ Rdr w' g B (bs.tail.drop (bs.headD 0)) false)) := by
  have HN := Lib.hid (next_any g B bs false w h)
  have hk := headD_lt h.bytes
  have hgz := h.lt
  obtain ⟨k, hke⟩ : ∃ k, bs.headD 0 = k := ⟨_, rfl⟩
  obtain ⟨rest, hre⟩ : ∃ rest, bs.tail = rest := ⟨_, rfl⟩
  rw [hke, hre] at HN
  rw [hke] at hk
  rw [hke, hre]
  have HE : Hid (bs = [] → k = 0 ∧ rest = []) := Lib.hid (by intro h; subst h; exact ⟨hke.symm, hre.symm⟩)
  obtain ⟨em, hem⟩ : ∃ em, bs.isEmpty = em := ⟨_, rfl⟩
  rw [hem, Bool.false_or] at HN
  have HEM : Hid (em = true ↔ bs = []) := Lib.hid (by rw [← hem]; exact List.isEmpty_iff)
  clear hke hre hem h
  obtain ⟨i0, hi0, hz0, hz1, hz2⟩ := infos iinfo
  go_enter Try.func26, Try.ntmps26
  go_wp2_with fail
  refine HN.out.mono ?_
  rintro e w1 ⟨rfl, hR, hN⟩
  have HR := Lib.hid hR
  have HNI := Lib.hid hN
  have hgz1 : g < w1.heap.size := hR.lt
  clear hR hN HN
  go_wp2_with (at_make; refine wpList_make_full _ rfl _ _ 61 rfl (g + 1) 3 i0 _ 1 Try.underlying61 hi0 hz0 hz1 .u8 .u8 _ _ k rfl rfl rfl rfl (by rw [hz2]; omega) (by simp [maxLen]; omega) (by omega) ?_; intro w2 hown hgrow)
  rw [made_ints] at hown
  obtain ⟨q, hq⟩ : ∃ q, w1.heap.size = q := ⟨_, rfl⟩
  rw [hq] at hown hgz1
  rw [hq]
  have HR2 : Hid (Rdr w2 g B rest em) := Lib.hid (HR.out.keep hB (below_of_grown hgrow (by omega) (fun _ h => nomatch h)))
  have HB2 : Hid (Below g w w2) := Lib.hid ((HNI.out.below (Nat.le_refl _)).trans (below_of_grown hgrow (by omega) (fun _ h => nomatch h)))
  have HW2 := Lib.hid hown
  clear hown hgrow HR HNI hq hi0 hz0 hz1 hz2
  go_loopw [13, 6] (fun i p wr => ∃ (r : Nat) (cl : List Nat) (sh : Bool) (sm : Nat), r ≤ k ∧ i = .int .i64 r ∧ p = .int .i64 sm ∧ Hid (cl.sum = sm) ∧ sm ≤ 255 * r ∧ Hid (cl.length = r) ∧ Hid (sh = (em || decide (rest.length < r))) ∧ Hid (sh = false → cl = rest.take r) ∧ Hid (Rdr wr g B (rest.drop r) sh) ∧ Hid (wr.ownsRow (g + 1) 3 1 (.slice (some ⟨q, 0, none⟩) k k) k (ivals (cl ++ List.replicate (k - r) 0))) ∧ Hid (Below g w wr)) (fun i _ _ => k - (intOf i).toNat)
  case atStart => exact ⟨0, [], em, 0, Nat.zero_le _, rfl, rfl, Lib.hid rfl, Nat.le_refl _, Lib.hid rfl, Lib.hid (by simp), Lib.hid (fun _ => rfl), HR2, HW2, HB2⟩
  case round =>
    clear HR2 HW2 HB2
    obtain ⟨r, cl, sh, sm, hr, rfl, rfl, HSM, hsm, HCL, HSH, HCT, HR, HW, HBW⟩ := hrel
    by_cases hrk : r < k
    · have hrb : decide ((r : Int) < k) = true := by simp; omega
      have HN2 := Lib.hid (next_any g B _ sh wr HR.out)
      have hx := headD_lt HR.out.bytes
      obtain ⟨x, hxe⟩ : ∃ x, (rest.drop r).headD 0 = x := ⟨_, rfl⟩
      rw [hxe] at HN2 hx
      have hqz : q < wr.heap.size := (HW.out.lt q rfl).2
      have HXE := Lib.hid hxe
      have hxw : IntKind.i64.wrap (x : Int) = x := by rw [IntKind.wrap_i64]; omega
      clear hxe
      go_wp2_with fail
      refine HN2.out.mono ?_
      rintro e w3 ⟨rfl, hR3, hN3⟩
      have hW3 := hN3.own HW.out (fun e => by simp only [Value.ownBlock, Option.some.injEq] at e; omega)
      have HW3 := Lib.hid hW3
      have hcx : ∃ y, w3.cell? ⟨q, r, none⟩ = some y := by
        have h1 := hW3.cellAt r (by omega)
        rw [h1]
        have hlen : (ivals (cl ++ List.replicate (k - r) 0)).length = k := by unfold ivals; rw [List.length_map, List.length_append, List.length_replicate, HCL.out]; omega
        exact ⟨_, List.getElem?_eq_getElem (by omega)⟩
      obtain ⟨y, c0⟩ := hcx
      have f0 := hW3.frozenAt r
      have hqz3 : q < w3.heap.size := by rw [hN3.size]; exact hqz
      have hsp : (⟨q, 0, none⟩ : Addr).add r = ⟨q, r, none⟩ := by unfold Addr.add; split <;> simp_all
      have HR3 := Lib.hid hR3
      have HN3 := Lib.hid hN3
      have HSP := Lib.hid hsp
      clear hW3 hR3 hN3
      go_wp2_with fail
      have SH' : (sh || (rest.drop r).isEmpty) = (em || decide (rest.length < r + 1)) := by
        rw [HSH.out, Bool.or_assoc]
        congr 1
        rw [Bool.eq_iff_iff]
        simp [List.drop_eq_nil_iff]
        omega
      have CT' : (sh || (rest.drop r).isEmpty) = false → cl ++ [x] = rest.take (r + 1) := by
        intro h
        rw [Bool.or_eq_false_iff] at h
        have hlt : r < rest.length := by
          rcases Nat.lt_or_ge r rest.length with h' | h'
          · exact h'
          · rw [List.drop_eq_nil_of_le h'] at h; simp at h
        have hx1 : rest[r]? = some x := by
          have := HXE.out
          rw [List.drop_eq_getElem_cons hlt] at this
          rw [List.getElem?_eq_getElem hlt]
          exact congrArg some this
        rw [HCT.out h.1, take_push rest r x hx1]
      have R' : Rdr (w3.setCell ⟨q, r, none⟩ (.int .i64 x)) g B (rest.drop (r + 1)) (sh || (rest.drop r).isEmpty) := by
        have := HR3.out.keep hB ((Below.refl (g + 1) w3).setCell (p := ⟨q, r, none⟩) (by simp only []; omega) (.int .i64 x))
        rwa [List.tail_drop] at this
      have W' := (HW3.out.stored r (.int .i64 x)).1
      have e1 := ivals_set cl (k - r) x (by omega)
      rw [HCL.out, Nat.sub_sub] at e1
      rw [e1] at W'
      have B' := (HBW.out.trans (HN3.out.below (Nat.le_refl _))).setCell (p := ⟨q, r, none⟩) (by simp only []; omega) (.int .i64 x)
      exact ⟨⟨r + 1, cl ++ [x], _, sm + x, by omega, by go_num, by go_num, Lib.hid (by rw [List.sum_append, HSM.out]; simp), by omega, Lib.hid (by simp [HCL.out]), Lib.hid SH', Lib.hid CT', Lib.hid R', Lib.hid W', Lib.hid B'⟩, by simp [intOf]; omega⟩
    · obtain rfl : r = k := by omega
      obtain ⟨sv, ⟨t0, t1, g0, g1⟩, -, -⟩ := HR.out
      have hgz' := HR.out.lt
      clear HE
      cases sh with
      | true =>
        have HS : Hid (bs = [] ∨ rest.length < r) := Lib.hid (by
          have := HSH.out.symm
          rw [Bool.or_eq_true, decide_eq_true_eq] at this
          rcases this with h | h
          · exact .inl (HEM.out.1 h)
          · exact .inr h)
        clear HSH HCT
        go_wp2
        go_ret3
        exact ⟨_, 0, 1, rfl, HBW.out, .inl ⟨rfl, HS.out⟩⟩
      | false =>
        have HS : Hid (bs ≠ [] ∧ r ≤ rest.length) := Lib.hid (by
          have := HSH.out.symm
          rw [Bool.or_eq_false_iff, decide_eq_false_iff_not] at this
          exact ⟨fun e => by have := HEM.out.2 e; simp_all, by omega⟩)
        have hcl := HCT.out rfl
        have HSM' : Hid ((rest.take r).sum = sm) := Lib.hid (by rw [← hcl]; exact HSM.out)
        have HW' : Hid (IRow wr (g + 1) (.slice (some ⟨q, 0, none⟩) r r) (rest.take r)) := Lib.hid (by
          have := HW.out
          rw [Nat.sub_self, List.replicate_zero, List.append_nil, hcl] at this
          unfold IRow
          rw [List.length_take, Nat.min_eq_left HS.out.2]
          exact this)
        clear hcl HCT HSH HSM HCL HW hsm
        by_cases hbig : 64 < sm ∨ 8 < r
        · by_cases h1 : 64 < sm
          · have h1' : (64 : Int) < sm := by omega
            have HBG : Hid (64 < (rest.take r).sum ∨ 8 < r) := Lib.hid (by rw [HSM'.out]; exact hbig)
            clear hbig
            go_wp2
            go_ret3
            exact ⟨_, 0, 3, rfl, HBW.out, .inr (.inl ⟨rfl, HS.out.1, HS.out.2, HBG.out⟩)⟩
          · have h1' : (sm : Int) ≤ 64 := by omega
            have h2' : (8 : Int) < r := by omega
            have HBG : Hid (64 < (rest.take r).sum ∨ 8 < r) := Lib.hid (by rw [HSM'.out]; exact hbig)
            clear hbig
            go_wp2
            go_ret3
            exact ⟨_, 0, 3, rfl, HBW.out, .inr (.inl ⟨rfl, HS.out.1, HS.out.2, HBG.out⟩)⟩
        · have h1' : (sm : Int) ≤ 64 := by omega
          have h2' : (r : Int) ≤ 8 := by omega
          have HBG : Hid (¬ (64 < (rest.take r).sum ∨ 8 < r)) := Lib.hid (by rw [HSM'.out]; exact hbig)
          clear hbig
          go_wp2
          go_ret3
          exact ⟨_, sm, 0, rfl, HBW.out, .inr (.inr ⟨rfl, ⟨HS.out.1, HS.out.2, HBG.out⟩, HW'.out, HSM'.out.symm, HR.out⟩)⟩

end Go.Proofs.Ytgkhpnjfpahlgaa
