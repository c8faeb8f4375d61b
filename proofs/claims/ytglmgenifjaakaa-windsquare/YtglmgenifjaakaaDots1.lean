/-
  What the law's Outline of layer 4 does to any world (no claim is made here).
-/
import Derived.Test.YtglmgenifjaakaaDots0
import Derived.Test.YtglmgenifjaakaaChecked
import Derived.Lib.Hide
import Derived.WalkKit
import Derived.RowKit3
import Derived.IntWalk
import Derived.BigRegion
import Derived.Deep.CutBlock
import Derived.Deep.DeepCutAuto
import Derived.Deep.RegionWith
namespace Go.Proofs.Ytglmgenifjaakaa
open Go.RowKit

/-- A variable of one cell. -/
def One (w : World) (g : Nat) (v : Value) : Prop := w.cell? ⟨g, 0, none⟩ = some v ∧ w.frozen? ⟨g, 0, none⟩ = false
theorem One.lt {w : World} {g : Nat} {v : Value} (h : One w g v) : g < w.heap.size := World.block_lt_of_cell? w _ h.1
theorem One.keep {w w' : World} {g : Nat} {v : Value} (h : One w g v) (hb : Below w.heap.size w w') : One w' g v := ⟨(hb.cell (p := ⟨g, 0, none⟩) h.lt).trans h.1, (hb.frozen (p := ⟨g, 0, none⟩) h.lt).trans h.2⟩
theorem One.alloc {w : World} {g : Nat} {v : Value} (h : One w g v) (o : Obj) : One (w.alloc o) g v := h.keep ((Below.refl _ w).alloc (Nat.le_refl _) o)
theorem One.new {w : World} {g : Nat} (v : Value) (t : TypeId) (h : g = w.heap.size) : One (w.alloc (.cells #[v] t)) g v := by subst h; exact ⟨by simp, by simp⟩

theorem One.grown {w w' : World} {g : Nat} {v : Value} {row : Option Nat} (h : One w g v) (hg : w.grownBy w' row) (hne : some g ≠ row) : One w' g v := ⟨(hg.cell_far ⟨g, 0, none⟩ h.lt hne).trans h.1, (hg.frozen_far ⟨g, 0, none⟩ h.lt hne).trans h.2⟩
theorem One.other {w : World} {g k : Nat} {v : Value} (h : One w g v) (x : Value) (hne : g ≠ k) : One (w.setCell ⟨k, 0, none⟩ x) g v := by
  have hb := heap_set w ⟨k, 0, none⟩ x g hne
  exact ⟨(World.cell?_of_block (a := ⟨g, 0, none⟩) hb).trans h.1, (World.frozen?_of_block (a := ⟨g, 0, none⟩) hb).trans h.2⟩
theorem One.set {w : World} {g : Nat} {v : Value} (h : One w g v) (x : Value) (hf : (w.setCell ⟨g, 0, none⟩ x).frozen? ⟨g, 0, none⟩ = false) : One (w.setCell ⟨g, 0, none⟩ x) g x := ⟨World.cell?_setCell_same _ _ _ h.1, hf⟩
theorem run_min3 {P : Program} (ats : Array TypeId) (ty : TypeId) (a b c m : Int) (h : (if c < (if b < a then b else a) then c else if b < a then b else a) = m) (w : World) :
    Sem.run P (Builtin.min_ ats ty #[.int .i64 a, .int .i64 b, .int .i64 c]) w = .ok (.int .i64 m) w := by
  subst h
  simp [Builtin.min_, Builtin.min2]

theorem add_spell (a : Addr) (i j : Nat) (hj : j ≠ 0) : a.add (i + j) = ⟨(a.add i).block, (a.add i).off + j, none⟩ := by
  unfold Addr.add
  by_cases hi : i = 0 <;> simp [hi, hj, Nat.add_assoc]
theorem VRow.own {w : World} {base : Nat} {u : Value} {c : List Vtx} {j : Nat} (h : VRow w base u c) (hl : c.length = j) : w.ownsRow base 66 3 u j (vcells c) := hl ▸ h
theorem heap_two (w : World) (a b : Obj) : ((w.alloc a).alloc b).heap[w.heap.size + 1]? = some b := by
  have h : ∀ (w : World) (o : Obj), (w.alloc o).heap[w.heap.size]? = some o := fun w o => by unfold World.alloc; exact Array.getElem?_push_size
  have := h (w.alloc a) b
  rwa [World.size_alloc] at this
theorem take_push {α : Type} (l : List α) (j : Nat) (d : α) (h : l[j]? = some d) : l.take (j + 1) = l.take j ++ [d] := by rw [List.take_add_one, h]; rfl
theorem drop_push {α : Type} (l : List α) (j : Nat) (d : α) (h : l[j]? = some d) : l.drop j = d :: l.drop (j + 1) := by
  obtain ⟨hj, rfl⟩ := List.getElem?_eq_some_iff.1 h
  exact List.drop_eq_getElem_cons hj
theorem vinfo : (Try.prog.info? 66).map (fun i => (i.zero, i.size, i.bytes)) = some (some (.agg #[.int .i64 0, .int .i64 0, .bool false]), 3, 24) := by kernel_rfl
theorem rinfo : (Try.prog.info? 61).map (fun i => (i.zero, i.size, i.bytes)) = some (some (.slice none 0 0), 1, 24) := by kernel_rfl
theorem infos {P : Program} {t : TypeId} {z : Value} {s b : Nat} (h : (P.info? t).map (fun i => (i.zero, i.size, i.bytes)) = some (some z, s, b)) : ∃ i, P.info? t = some i ∧ i.zero = some z ∧ i.size = s ∧ i.bytes = b := by
  cases hi : P.info? t with
  | none => rw [hi] at h; cases h
  | some i =>
    rw [hi] at h
    simp only [Option.map_some, Option.some.injEq, Prod.mk.injEq] at h
    exact ⟨i, rfl, h.1, h.2.1, h.2.2⟩

set_option maxHeartbeats 400000 in
theorem outline_any (A : Option Addr) (n cap : Nat) (cs : List (List Dot)) (w : World) (hcs : DotRows w A n cap cs) :
    Calls Try.prog 21 #[.slice A n cap] w fun e w' => ∃ v, e = .returned (.agg #[v]) ∧ Outl w' w.heap.size v (outlineS cs) ∧ Below w.heap.size w w' := by
  have HC := Lib.hid hcs
  obtain ⟨hn, h1, -, -⟩ := hcs
  obtain ⟨k, hk⟩ : ∃ k : Nat, k = min n 8 := ⟨_, rfl⟩
  have hk1 : k ≤ n := by omega
  have H0 : Hid (outlineS cs = [] ++ outS 64 ((cs.take 8).drop 0)) := Lib.hid (by simp [outlineS])
  go_enter Try.func21, Try.ntmps21
  go_upto_region 3 with fail
  go_cut [14, 15, 16] (fun s14 s15 s16 wx => s14 = .slice A k cap ∧ s15 = .int .i64 k ∧ s16 = .int .i64 0 ∧ wx = ((w.alloc (.cells #[.slice none 0 0] 51)).alloc (.cells #[.slice none 0 0] 51)))
  case first =>
    by_cases h8 : n ≤ 8
    · obtain rfl : k = n := by omega
      have h8' : (k : Int) ≤ 8 := by omega
      clear hk hk1 hn
      go_wp2_with fail
      all_goals
        go_meet
        exact ⟨rfl, rfl, rfl, rfl⟩
    · obtain rfl : k = 8 := by omega
      have h8' : (8 : Int) < n := by omega
      clear hk hk1 hn
      go_wp2_with fail
      all_goals
        go_meet
        exact ⟨rfl, rfl, rfl, rfl⟩
  case rest =>
    obtain ⟨rfl, rfl, rfl, rfl⟩ := hcut
    have OR : One ((w.alloc (.cells #[.slice none 0 0] 51)).alloc (.cells #[.slice none 0 0] 51)) w.heap.size _ := (One.new _ _ rfl).alloc _
    have OO : One ((w.alloc (.cells #[.slice none 0 0] 51)).alloc (.cells #[.slice none 0 0] 51)) (w.heap.size + 1) _ := One.new _ _ (by simp)
    have B2 : Below w.heap.size w ((w.alloc (.cells #[.slice none 0 0] 51)).alloc (.cells #[.slice none 0 0] 51)) := ((Below.refl _ w).alloc (Nat.le_refl _) _).alloc (by simp) _
    have S2 : ((w.alloc (.cells #[.slice none 0 0] 51)).alloc (.cells #[.slice none 0 0] 51)).heap.size = w.heap.size + 2 := by simp
    generalize (w.alloc (.cells #[.slice none 0 0] 51)).alloc (.cells #[.slice none 0 0] 51) = w2 at *
    go_wp2_with fail
    go_loopw [16, 4] (fun i l wr => ∃ (r left : Nat) (v : Value) (o : List (List Vtx)), r ≤ k ∧ i = .int .i64 r ∧ l = .int .i64 left ∧ left ≤ 64 ∧ o.length ≤ r ∧ Hid (outlineS cs = o ++ outS left ((cs.take 8).drop r)) ∧ Hid (One wr (w.heap.size + 1) v) ∧ Hid (One wr w.heap.size (.slice none 0 0)) ∧ Hid (Outl wr (w.heap.size + 2) v o) ∧ w.heap.size + 2 ≤ wr.heap.size ∧ Hid (Below w.heap.size w wr)) (fun i _ _ => k - (intOf i).toNat)
    case atStart => exact ⟨0, 64, _, [], Nat.zero_le _, rfl, rfl, Nat.le_refl _, Nat.le_refl _, H0, Lib.hid OO, Lib.hid OR, Lib.hid (Outl.nil _ _), by omega, Lib.hid B2⟩
    case round =>
      obtain ⟨r, left, v, o, hr, rfl, rfl, hleft, hol, HO, O1, O2, HL, hsz, HB⟩ := hrel
      clear OR OO B2 S2 H0
      by_cases hrk : r < k
      · obtain ⟨-, -, -, h3⟩ := HC.out
        obtain ⟨a, vr, rfl, hal, hac, hrow⟩ := h3 r (by omega)
        obtain ⟨A1, cap1, rfl, hcl, hcm, hd⟩ := hrow
        have hac' := (HB.out.cell (p := a.add r) (by rw [block_add]; exact hal)).trans hac
        clear h3 hac
        obtain ⟨c, hc⟩ : ∃ c, c = cs[r] := ⟨_, rfl⟩
        rw [← hc] at hac' hcl hd
        have HCr : Hid (cs[r]? = some c) := Lib.hid (by rw [hc]; exact List.getElem?_eq_getElem _)
        obtain ⟨L, hL⟩ : ∃ L : Nat, c.length = L := ⟨_, rfl⟩
        rw [hL] at hac' hcl
        have HD := Lib.hid hd
        have HLn := Lib.hid hL
        have HK := Lib.hid hk
        obtain ⟨m, hm⟩ : ∃ m : Nat, m = min L (min 12 left) := ⟨_, rfl⟩
        have hrb : decide ((r : Int) < k) = true := by simp; omega
        have hm1 : m ≤ L ∧ m ≤ 12 ∧ m ≤ left := by omega
        clear hc hd hL hk hn hcm
        have hmI : (if (left : Int) < (if (12 : Int) < (L : Int) then 12 else (L : Int)) then (left : Int) else if (12 : Int) < (L : Int) then 12 else (L : Int)) = (m : Int) := by
          split <;> split <;> omega
        have hmR := fun w => run_min3 (P := Try.prog) #[3, 3, 3] 3 _ _ _ _ hmI w
        have HM := Lib.hid hm
        clear hm hmI
        go_wp2_with fail
        obtain ⟨wi, rfl⟩ : ∃ wi, wi = wr := ⟨_, rfl⟩
        have V0 : VRow wi wi.heap.size (.slice none 0 0) ((c.take 0).map dotV) := World.ownsRow_nil _ _ _ _
        go_loopw [27, 7] (fun s27 u wr => ∃ j : Nat, j ≤ m ∧ s27 = .int .i64 j ∧ Hid (VRow wr wi.heap.size u ((c.take j).map dotV)) ∧ Hid (Below wi.heap.size wi wr)) (fun i _ _ => m - (intOf i).toNat)
        case atStart => exact ⟨0, Nat.zero_le _, rfl, Lib.hid V0, Lib.hid (Below.refl _ _)⟩
        case round =>
          obtain ⟨j, hj, rfl, HV, HW⟩ := hrel
          clear V0 hac'
          have hLn := HLn.out
          by_cases hjm : j < m
          · obtain ⟨a1, rfl, ha1, x0, x1, x2, bx, bY⟩ := HD.out j (by omega)
            have kp : ∀ p : Addr, p.block = a1.block → wr.cell? p = w.cell? p := fun p hp => (HW.out.cell (by rw [hp]; omega)).trans (HB.out.cell (by rw [hp]; exact ha1))
            replace x0 := (kp _ (block_add _ _)).trans x0
            replace x1 := (kp _ (block_add _ _)).trans x1
            replace x2 := (kp _ (block_add _ _)).trans x2
            have hjb : decide ((j : Int) < m) = true := by simp; omega
            have hlen : ((c.take j).map dotV).length = j := by rw [List.length_map, List.length_take]; omega
            obtain ⟨d, hdd⟩ : ∃ d, d = c[j] := ⟨_, rfl⟩
            rw [← hdd] at x0 x1 x2 bx bY
            have HDJ : Hid (c[j]? = some d) := Lib.hid (by rw [hdd]; exact List.getElem?_eq_getElem _)
            obtain ⟨dx, dy, don⟩ := d
            simp only [] at x0 x1 x2 bx bY
            rw [add_spell _ _ _ (by omega)] at x1 x2
            clear hdd kp hLn
            obtain ⟨i0, hi0, hz0, hz1, hz2⟩ := infos vinfo
            have HVh := Lib.hid (HV.out.own hlen)
            have hnb : ((wr.alloc (.cells #[.int .i16 dx, .int .i16 dy, .bool don] 64)).alloc (.cells #[.int .i64 (dx.tmod 256), .int .i64 (dy.tmod 256), .bool don] 66)).heap[wr.heap.size + 1]? = some (.cells #[.int .i64 (dx.tmod 256), .int .i64 (dy.tmod 256), .bool don] 66 (0, 0)) := by
              exact heap_two _ _ _
            have HNB := Lib.hid hnb
            have hbz : wi.heap.size ≤ wr.heap.size := HW.out.size
            clear hnb HV
            go_wp2_with (at_builtin; refine wpList_append_lies _ rfl _ _ _ (by rfl) wi.heap.size 66 i0 _ 3 24 Try.underlying61 hi0 hz0 hz1 hz2 (by rfl) (by omega) _ j _ (by rfl) ((HVh.out.alloc _).alloc _) ⟨wr.heap.size + 1, 0, none⟩ 1 1 [.int .i64 (dx.tmod 256), .int .i64 (dy.tmod 256), .bool don] (by rfl) (by rfl) (World.news_of_block HNB.out) (by simp [Value.oneCell']) (by omega) (by simp [maxLen]; omega) (by omega) (by simp; omega) (wr.heap.size + 2) (by simp) ?_; intro g cp w1 hown hgrow hat hlt)
            have et := take_push c j _ HDJ.out
            have VN : VRow w1 wi.heap.size (.slice (some ⟨g, 0, none⟩) (j + 1) cp) ((c.take (j + 1)).map dotV) := by
              unfold VRow
              rw [et, List.map_append, List.map_cons, List.map_nil, vcells_push, List.length_append, hlen]
              exact hown
            have BN : Below wi.heap.size wi w1 := ((HW.out.alloc HW.out.size _).alloc (by simp; omega) _).grown hgrow (by simp; omega) (fun q hq => (HVh.out.lt q hq).1)
            exact ⟨⟨j + 1, by omega, by go_num, Lib.hid VN, Lib.hid BN⟩, by simp [intOf]; omega⟩
          · obtain rfl : j = m := by omega
            have hlen : ((c.take j).map dotV).length = j := by rw [List.length_map, List.length_take]; omega
            have hk8 : k ≤ 8 := by have := HK.out; omega
            have hstep : outS left ((cs.take 8).drop r) = if j = 0 then outS left ((cs.take 8).drop (r + 1)) else (c.take j).map dotV :: outS (left - j) ((cs.take 8).drop (r + 1)) := by
              rw [drop_push (cs.take 8) r c (by rw [List.getElem?_take_of_lt (by omega)]; exact HCr.out)]
              exact outS_step _ _ _ _ (by rw [HLn.out]; exact HM.out)
            have O1' := O1.out.keep HW.out
            have O2' := O2.out.keep HW.out
            have hsz' : w.heap.size + 2 ≤ wr.heap.size := Nat.le_trans hsz HW.out.size
            have BB : Hid (Below w.heap.size w wr) := Lib.hid (HB.out.trans (HW.out.mono HB.out.size))
            have HVh := Lib.hid (HV.out.own hlen)
            have hnx := HV.out
            clear HV hmR HM HLn HCr hrb hjm
            rcases HVh.out.2 with ⟨rfl, rfl⟩ | ⟨gu, capu, cur, rfl, hgu, -⟩
            · have HO' : Hid (outlineS cs = o ++ outS left ((cs.take 8).drop (r + 1))) := Lib.hid (by rw [HO.out, hstep, if_pos rfl])
              have HL' : Hid (Outl wr (w.heap.size + 2) v o) := Lib.hid (HL.out.below HW.out)
              clear hstep hnx
              go_wp2_with fail
              exact ⟨⟨r + 1, left, v, o, by omega, by go_num, rfl, hleft, by omega, HO', Lib.hid O1', Lib.hid O2', HL', hsz', BB⟩, by simp [intOf]; omega⟩
            · by_cases hj0 : j = 0
              · subst hj0
                have HO' : Hid (outlineS cs = o ++ outS left ((cs.take 8).drop (r + 1))) := Lib.hid (by rw [HO.out, hstep, if_pos rfl])
                have HL' : Hid (Outl wr (w.heap.size + 2) v o) := Lib.hid (HL.out.below HW.out)
                clear hstep hnx
                go_wp2_with fail
                exact ⟨⟨r + 1, left, v, o, by omega, by go_num, by go_num, hleft, by omega, HO', Lib.hid O1', Lib.hid O2', HL', hsz', BB⟩, by simp [intOf]; omega⟩
              · have HO' : Hid (outlineS cs = (o ++ [(c.take j).map dotV]) ++ outS (left - j) ((cs.take 8).drop (r + 1))) := Lib.hid (by rw [HO.out, hstep, if_neg hj0, List.append_assoc]; rfl)
                obtain ⟨vs, hOV⟩ := HL.out
                have HOV := Lib.hid hOV
                have hown0 := Lib.hid (own_blocks hOV.2.1 (w' := wr) fun g hg => HW.out.block g (hOV.2.1.lt g hg).2)
                obtain ⟨i0, hi0, hz0, hz1, hz2⟩ := infos rinfo
                obtain ⟨oc, of⟩ := id O1'
                have zO := O1'.lt
                have hnb : (wr.alloc (.cells #[.slice (some ⟨gu, 0, none⟩) j capu] 61)).heap[wr.heap.size]? = some (.cells #[.slice (some ⟨gu, 0, none⟩) j capu] 61 (0, 0)) := heap_alloc_new _ _
                have HNB := Lib.hid hnb
                have hj1 : (0 : Int) < j := by omega
                have HNX := Lib.hid hnx
                have hne1 : some (w.heap.size + 1) ≠ v.ownBlock := fun e => by have := (hown0.out.lt _ e.symm).1; omega
                have hne2 : some w.heap.size ≠ v.ownBlock := fun e => by have := (hown0.out.lt _ e.symm).1; omega
                have HA1 := Lib.hid (O1'.alloc (.cells #[.slice (some ⟨gu, 0, none⟩) j capu] 61))
                have HA2 := Lib.hid (O2'.alloc (.cells #[.slice (some ⟨gu, 0, none⟩) j capu] 61))
                clear hstep hnx hnb hOV O2'
                go_wp2_with (at_builtin; refine wpList_append_lies _ rfl _ _ _ (by rfl) (w.heap.size + 2) 61 i0 _ 1 24 Try.underlying49 hi0 hz0 hz1 hz2 (by rfl) (by omega) _ o.length _ (by rfl) (hown0.out.alloc _) ⟨wr.heap.size, 0, none⟩ 1 1 [.slice (some ⟨gu, 0, none⟩) j capu] (by rfl) (by rfl) (World.news_of_block HNB.out) (by simp [Value.oneCell']) (by omega) (by simp [maxLen]; omega) (by omega) (by simp; omega) (wr.heap.size + 1) (by simp) ?_; intro g cp w1 hown hgrow hat hlt; have O1n := HA1.out.grown hgrow hne1; have O2n := HA2.out.grown hgrow hne2; have oc1 := O1n.1; have of1 := O1n.2; have oz1 := O1n.lt)
                have hcne : (c.take j).map dotV ≠ [] := fun e => hj0 (by rw [← hlen, e]; rfl)
                have BX : Below wi.heap.size wi (wr.alloc (.cells #[.slice (some ⟨gu, 0, none⟩) j capu] 61)) := HW.out.alloc HW.out.size _
                have VX : VRow (wr.alloc (.cells #[.slice (some ⟨gu, 0, none⟩) j capu] 61)) wi.heap.size (.slice (some ⟨gu, 0, none⟩) j capu) ((c.take j).map dotV) := World.ownsRow.alloc HNX.out _
                have LP := Outl.push HOV.out hsz BX VX hcne hgrow (v1 := .slice (some ⟨g, 0, none⟩) (o.length + 1) cp) (by
                  rcases hat with e | e
                  · exact .inl e.symm
                  · exact .inr ⟨g, rfl, by rw [e]; simp⟩) hown
                have LS := LP.set (p := ⟨w.heap.size + 1, 0, none⟩) (Nat.lt_succ_self _) (.slice (some ⟨g, 0, none⟩) (o.length + 1) cp)
                have BN := ((BB.out.alloc BB.out.size _).grown hgrow (by have := BB.out.size; simp; omega) (fun q hq => by have := (hown0.out.lt q hq).1; omega)).setCell (p := ⟨w.heap.size + 1, 0, none⟩) (Nat.le_succ _) (.slice (some ⟨g, 0, none⟩) (o.length + 1) cp)
                have hzz : w.heap.size + 2 ≤ w1.heap.size := by have := hgrow.size; simp at this; omega
                exact ⟨⟨r + 1, left - j, .slice (some ⟨g, 0, none⟩) (o.length + 1) cp, o ++ [(c.take j).map dotV], by omega, by go_num, by rw [Int.natCast_sub (by omega)], by omega, by simp; omega, HO', Lib.hid (O1n.set _ (by simp [of1])), Lib.hid (O2n.other _ (by omega)), Lib.hid LS, by simpa using hzz, Lib.hid BN⟩, by simp [intOf]; omega⟩
      · obtain rfl : r = k := by omega
        have HF : outlineS cs = o := by
          have h8 : (cs.take 8).drop r = [] := List.drop_eq_nil_of_le (by rw [List.length_take]; omega)
          rw [HO.out, h8]; simp [outS]
        clear HO hk
        obtain ⟨oc, of⟩ := O1.out
        obtain ⟨rc, rf⟩ := O2.out
        have zO := O1.out.lt
        have zR := O2.out.lt
        obtain ⟨A9, cap9, rfl⟩ := HL.out.form
        go_wp2_with fail
        have LF := (HL.out.set (p := ⟨w.heap.size, 0, none⟩) (Nat.lt_add_of_pos_right (by omega)) (.slice A9 o.length cap9)).mono (Nat.le_add_right w.heap.size 2)
        have BF := HB.out.setCell (p := ⟨w.heap.size, 0, none⟩) (Nat.le_refl _) (.slice A9 o.length cap9)
        have cF : (wr.setCell ⟨w.heap.size, 0, none⟩ (.slice A9 o.length cap9)).cell? ⟨w.heap.size, 0, none⟩ = some (.slice A9 o.length cap9) := World.cell?_setCell_same _ _ _ rc
        exact bodyPost_ret (v := .agg #[.slice A9 o.length cap9]) (by simp [results, Try.results21, go_sem, cF]) rfl ⟨_, rfl, by rw [HF]; exact LF, BF⟩

end Go.Proofs.Ytglmgenifjaakaa
