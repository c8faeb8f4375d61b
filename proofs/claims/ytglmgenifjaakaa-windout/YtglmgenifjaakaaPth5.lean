/-
  What path.Segs does to any world (no claim is made here).
-/
import Derived.Test.YtglmgenifjaakaaPth4
namespace Go.Proofs.Ytglmgenifjaakaa
open Go.RowKit

/-- The piece that is under way, as the program keeps it. -/
def Under (a : Pt) (bx by' : Int) (cv : Bool) (u : Vtx) (ctl : Option Vtx) : Prop :=
  (cv = true → ctl = some u ∧ bx = u.x + u.x ∧ by' = u.y + u.y ∧ smallV u) ∧ (cv = false → ctl = none ∧ bx = a.x ∧ by' = a.y)
theorem Under.sg {a : Pt} {bx by' : Int} {cv : Bool} {u : Vtx} {ctl : Option Vtx} (h : Under a bx by' cv u ctl) (p : Pt) : sgOf a ctl p = ⟨a, ⟨bx, by'⟩, p, cv⟩ := by
  cases cv with
  | true => obtain ⟨rfl, rfl, rfl, _⟩ := h.1 rfl; rfl
  | false => obtain ⟨rfl, rfl, rfl⟩ := h.2 rfl; rfl
theorem walk_nil (s a : Pt) (ctl : Option Vtx) (vs : List Vtx) (h : vs = []) : walkS s a ctl vs = [sgOf a ctl s] := by subst h; rfl
theorem walk_on (s a : Pt) (ctl : Option Vtx) (v : Vtx) (vs : List Vtx) (h : v.on = true) : walkS s a ctl (v :: vs) = sgOf a ctl (ptV v) :: walkS s (ptV v) none vs := by cases ctl <;> rw [walkS, if_pos h]
theorem walk_first (s a : Pt) (v : Vtx) (vs : List Vtx) (h : v.on = false) : walkS s a none (v :: vs) = walkS s a (some v) vs := by rw [walkS, if_neg (by simp [h])]
theorem walk_mid (s a : Pt) (u v : Vtx) (vs : List Vtx) (h : v.on = false) : walkS s a (some u) (v :: vs) = sgOf a (some u) (midV u v) :: walkS s (midV u v) (some v) vs := by rw [walkS, if_neg (by simp [h])]

theorem end_keep {w w' : World} {gc gs : Nat} {v : Value} (EB : But (fun k => k = gc ∨ k = gs ∨ v.ownBlock = some k) w w') {g : Nat} {t : TypeId} {vs : List Value} (h : Blk w g t vs) (h1 : g ≠ gc) (h2 : g ≠ gs) (h3 : v.ownBlock ≠ some g) : Blk w' g t vs :=
  h.heap (EB.block g h.lt (fun h => by
    rcases h with h | h | h
    · exact h1 h
    · exact h2 h
    · exact h3 h))
theorem end_below {w w' : World} {gc gs base B : Nat} {v : Value} {l : List Sg} (EB : But (fun k => k = gc ∨ k = gs ∨ v.ownBlock = some k) w w') (hV : SRow w base v l) (h1 : B ≤ gc) (h2 : B ≤ gs) (h3 : B ≤ base) (h4 : B ≤ w.heap.size) : Below B w w' :=
  EB.below (fun q hq => by
    rcases hq with h | h | h
    · omega
    · omega
    · have := (World.ownsRow.lt hV q h).1; omega) h4

theorem others_len (c : List Vtx) : (othersS c).length ≤ c.length := by
  unfold othersS
  split
  · exact Nat.le_refl _
  · rw [List.length_append, List.length_drop, List.length_take]; omega
theorem others_mem (c : List Vtx) : ∀ v ∈ othersS c, v ∈ c := by
  unfold othersS
  split
  · exact fun v h => h
  · intro v h
    rcases List.mem_append.1 h with h | h
    · exact List.mem_of_mem_drop h
    · exact List.mem_of_mem_take h

set_option maxRecDepth 100000 in
set_option maxHeartbeats 3200000 in
theorem segs_core (v : Value) (c : List Vtx) (w : World) (hv : VRd w v c) (hc : c ≠ []) (hl : c.length ≤ 1000) (hs : ∀ u ∈ c, smallV u) :
    Calls Try.prog 27 #[v] w fun e w' => ∃ u, e = .returned u ∧ SRow w' w.heap.size u (segsS c) ∧ Below w.heap.size w w' := by
  have HBG := Lib.hid (begin_any v c w hv hc hl hs)
  have HSS : Hid (segsS c = walkS (startS c) (startS c) none (othersS c)) := Lib.hid (by unfold segsS; rw [if_neg hc])
  have HOL := Lib.hid (Nat.le_trans (others_len c) hl)
  have HOM : Hid (∀ u ∈ othersS c, smallV u) := Lib.hid fun u hu => hs u (others_mem c u hu)
  obtain ⟨R, hR⟩ : ∃ R, segsS c = R := ⟨_, rfl⟩
  rw [hR] at HSS
  rw [hR]
  generalize startS c = s at *
  generalize othersS c = os at *
  obtain ⟨sx, sy⟩ := s
  obtain ⟨A, cap, rfl, hcap, -⟩ := hv
  obtain ⟨L, hL⟩ : ∃ L, c.length = L := ⟨_, rfl⟩
  have hL0 : 0 < L := by rw [← hL]; exact List.length_pos_iff.2 hc
  rw [hL] at HBG
  rw [hL]
  have hLz : ((L : Int) == 0) = false := by simp; omega
  clear hc hl hs hR hcap hL
  go_enter Try.func27, Try.ntmps27
  go_wp2_with fail
  refine HBG.out.mono ?_
  rintro e w1 ⟨uo, rfl, ho, hb1⟩
  have ho' := ho
  obtain ⟨Ao, capo, rfl, hco, -⟩ := ho'
  obtain ⟨n, hn⟩ : ∃ n, os.length = n := ⟨_, rfl⟩
  rw [hn] at ho hco
  rw [hn]
  have hn1 : n ≤ 1000 := by rw [← hn]; exact HOL.out
  have HN := Lib.hid hn
  have HVO := Lib.hid (ho.keep ((Below.refl _ w1).alloc (Nat.le_refl _) (.cells #[.int .i64 sx, .int .i64 sy] 31)))
  have HB1 := Lib.hid (hb1.alloc hb1.size (.cells #[.int .i64 sx, .int .i64 sy] 31))
  clear ho hb1 hn HBG hLz hL0 HOL
  go_wp2_with fail
  refine (lineFrom_any sx sy _).mono ?_
  rintro e w2 ⟨rfl, hb2⟩
  have P3 := (Blk.new w1 31 [.int .i64 sx, .int .i64 sy] rfl)
  have P5 := (Blk.new (w1.alloc (.cells #[.int .i64 sx, .int .i64 sy] 31)) 59 [.slice none 0 0] (g := w1.heap.size + 1) (by simp)).keep hb2
  generalize hW0 : w1.alloc (.cells #[.int .i64 sx, .int .i64 sy] 31) = W0 at *
  have hz0 : W0.heap.size = w1.heap.size + 1 := by rw [← hW0]; simp
  have Q0 : Below W0.heap.size W0 w2 := ((Below.refl _ W0).alloc (Nat.le_refl _) _).trans (hb2.mono (by simp))
  have P6 := (Blk.new w2 70 [.int .i64 sx, .int .i64 sy, .int .i64 sx, .int .i64 sy, .int .i64 0, .int .i64 0, .bool false] rfl).alloc (.cells #[.int .i64 0, .int .i64 0, .bool false] 66)
  have P8 := Blk.new (w2.alloc (.cells #[.int .i64 sx, .int .i64 sy, .int .i64 sx, .int .i64 sy, .int .i64 0, .int .i64 0, .bool false] 70)) 66 [.int .i64 0, .int .i64 0, .bool false] (g := w2.heap.size + 1) (by simp)
  have P5' := (P5.alloc (.cells #[.int .i64 sx, .int .i64 sy, .int .i64 sx, .int .i64 sy, .int .i64 0, .int .i64 0, .bool false] 70)).alloc (.cells #[.int .i64 0, .int .i64 0, .bool false] 66)
  have Q2 := (Q0.alloc Q0.size (.cells #[.int .i64 sx, .int .i64 sy, .int .i64 sx, .int .i64 sy, .int .i64 0, .int .i64 0, .bool false] 70)).alloc (Nat.le_trans Q0.size (by simp)) (.cells #[.int .i64 0, .int .i64 0, .bool false] 66)
  have hz5 := P5.lt
  have hzW : ((w2.alloc (.cells #[.int .i64 sx, .int .i64 sy, .int .i64 sx, .int .i64 sy, .int .i64 0, .int .i64 0, .bool false] 70)).alloc (.cells #[.int .i64 0, .int .i64 0, .bool false] 66)).heap.size = w2.heap.size + 2 := by simp
  have HP5 := Lib.hid P5'
  have HP6 := Lib.hid P6
  have HP8 := Lib.hid P8
  have HQ2 := Lib.hid Q2
  have HP3 := Lib.hid P3
  have Hz0 := Lib.hid hz0
  have Hz5 := Lib.hid hz5
  have HzW := Lib.hid hzW
  clear P5 P5' P6 P8 Q0 Q2 hb2 hW0 hz0 hz5 P3 hzW
  go_wp2_with fail
  generalize (w2.alloc (.cells #[.int .i64 sx, .int .i64 sy, .int .i64 sx, .int .i64 sy, .int .i64 0, .int .i64 0, .bool false] 70)).alloc (.cells #[.int .i64 0, .int .i64 0, .bool false] 66) = W at *
  obtain ⟨g3, hg3⟩ : ∃ g, w1.heap.size = g := ⟨_, rfl⟩
  obtain ⟨g5, hg5⟩ : ∃ g, w1.heap.size + 1 = g := ⟨_, rfl⟩
  obtain ⟨g6, hg6⟩ : ∃ g, w2.heap.size = g := ⟨_, rfl⟩
  obtain ⟨g8, hg8⟩ : ∃ g, w2.heap.size + 1 = g := ⟨_, rfl⟩
  rw [hg5] at HP5
  rw [hg6] at HP6
  rw [hg8] at HP8
  rw [hg3] at HP3
  have hord : g3 < g5 ∧ g5 < g6 ∧ g6 < g8 ∧ g8 + 1 = W.heap.size := by have h1 := Hz5.out; have h2 := HzW.out; omega
  have hW0z : W0.heap.size = g5 := by rw [Hz0.out]; exact hg5
  rw [hg5, hg3, hg8, hg6]
  have HW0z := Lib.hid hW0z
  clear Hz0 Hz5 HzW hg3 hg5 hg6 hg8 hW0z
  have H0 : Hid (SRow W (g8 + 1) (.slice none 0 0) []) := Lib.hid (World.ownsRow_nil _ _ _ _)
  have HU : Under ⟨sx, sy⟩ sx sy false ⟨0, 0, false⟩ none := ⟨(fun h => by cases h), (fun _ => ⟨rfl, rfl, rfl⟩)⟩
  have HST : Hid (R = [] ++ walkS ⟨sx, sy⟩ ⟨sx, sy⟩ none (os.drop 0)) := HSS
  go_loopw [24] (fun i wr => ∃ (k : Nat) (ax ay bx by' : Int) (cv : Bool) (u : Vtx) (ctl : Option Vtx) (acc : List Sg) (v : Value), k ≤ n ∧ i = .int .i64 k ∧ Hid (R = acc ++ walkS ⟨sx, sy⟩ ⟨ax, ay⟩ ctl (os.drop k)) ∧ Hid (Under ⟨ax, ay⟩ bx by' cv u ctl) ∧ acc.length ≤ k ∧ Hid (Blk wr g6 70 (seg7 ax ay bx by' 0 0 cv)) ∧ Hid (Blk wr g8 66 [.int .i64 u.x, .int .i64 u.y, .bool u.on]) ∧ Hid (Blk wr g5 59 [v]) ∧ Hid (SRow wr (g8 + 1) v acc) ∧ Hid (Below W0.heap.size W0 wr) ∧ g8 + 1 ≤ wr.heap.size) (fun i _ => n - (intOf i).toNat)
  case atStart => exact ⟨0, sx, sy, sx, sy, false, ⟨0, 0, false⟩, none, [], .slice none 0 0, Nat.zero_le _, rfl, HST, Lib.hid HU, Nat.le_refl _, HP6, HP8, HP5, H0, HQ2, by omega⟩
  case round =>
    obtain ⟨k, ax, ay, bx, by', cv, u, ctl, acc, v, hk, rfl, HR, HUN, hacc, K6, K8, K5, KV, KB, hz⟩ := hrel
    clear HST HU H0 HP6 HP8 HP5 HQ2 HSS
    by_cases hkn : k < n
    · have hkb : decide ((k : Int) < n) = true := by simp; omega
      obtain ⟨d, hd⟩ : ∃ d, os[k]? = some d := ⟨_, List.getElem?_eq_getElem (by rw [HN.out]; exact hkn)⟩
      obtain ⟨a, rfl, hal, hat⟩ := HVO.out.at k d hd
      obtain ⟨x0, x1, x2⟩ := hat.keep KB.out
      have hds : smallV d := HOM.out d (List.mem_of_getElem? hd)
      have HDR := Lib.hid (drop_push os k d hd)
      obtain ⟨dx, dy, don⟩ := d
      simp only [] at x0 x1 x2
      have T10 := Blk.new wr 66 [.int .i64 dx, .int .i64 dy, .bool don] rfl
      have K6a := K6.out.alloc (.cells #[.int .i64 dx, .int .i64 dy, .bool don] 66)
      have K8a := K8.out.alloc (.cells #[.int .i64 dx, .int .i64 dy, .bool don] 66)
      have K5a := K5.out.alloc (.cells #[.int .i64 dx, .int .i64 dy, .bool don] 66)
      have KVa := KV.out.alloc (.cells #[.int .i64 dx, .int .i64 dy, .bool don] 66)
      have KBa := KB.out.alloc KB.out.size (.cells #[.int .i64 dx, .int .i64 dy, .bool don] 66)
      clear hd hat
      cases don with
      | true =>
        have HT10 := Lib.hid T10
        have HK6 := Lib.hid K6a
        have HK8 := Lib.hid K8a
        have HK5 := Lib.hid K5a
        have HKV := Lib.hid KVa
        have HKB := Lib.hid KBa
        clear T10 K6a K8a K5a KVa KBa
        go_wp2_with fail
        refine (pointOf_any dx dy true hds _).mono ?_
        rintro e w3 ⟨rfl, hb3⟩
        have E := endAt_any (dx + dx) (dy + dy) ax ay bx by' 0 0 cv g6 g5 (g8 + 1) v acc w3 (HK6.out.keep hb3) (HK5.out.keep hb3) (HKV.out.below hb3) (by omega) (by omega) (by omega) (by omega) (Nat.le_trans hz (Nat.le_trans (by simp) hb3.size))
        have HE := Lib.hid E
        have HK8' := Lib.hid (HK8.out.keep hb3)
        have HKB' := Lib.hid (HKB.out.trans (hb3.mono (HKB.out.size)))
        have HV3 := Lib.hid (HKV.out.below hb3)
        have hz3 : g8 + 1 ≤ w3.heap.size := Nat.le_trans hz (Nat.le_trans (by simp) hb3.size)
        clear E hb3 HK6 HK8 HK5 HKV HKB HT10 x0 x1 x2
        go_wp2_with fail
        refine HE.out.mono ?_
        rintro e w4 ⟨rfl, E6, ⟨v', E5, EV⟩, EB⟩
        have F8 := end_keep EB HK8'.out (by omega) (by omega) (fun h => by have := (World.ownsRow.lt HV3.out g8 h).1; omega)
        have FB : Below W0.heap.size W0 w4 := HKB'.out.trans (end_below EB HV3.out (by have := HW0z.out; omega) (by have := HW0z.out; omega) (by have := HW0z.out; omega) HKB'.out.size)
        have hz4 : g8 + 1 ≤ w4.heap.size := Nat.le_trans hz3 EB.size
        have HR' : Hid (R = (acc ++ [⟨⟨ax, ay⟩, ⟨bx, by'⟩, ⟨dx + dx, dy + dy⟩, cv⟩]) ++ walkS ⟨sx, sy⟩ ⟨dx + dx, dy + dy⟩ none (os.drop (k + 1))) := Lib.hid (by
          rw [HR.out, HDR.out, walk_on _ _ _ _ _ rfl, HUN.out.sg, List.append_assoc]
          rfl)
        have HUN' : Hid (Under ⟨dx + dx, dy + dy⟩ (dx + dx) (dy + dy) false u none) := Lib.hid ⟨(fun h => by cases h), (fun _ => ⟨rfl, rfl, rfl⟩)⟩
        have H6 := Lib.hid E6
        have H5 := Lib.hid E5
        have HV' := Lib.hid EV
        have H8 := Lib.hid F8
        have HFB := Lib.hid FB
        clear E6 E5 EV F8 FB EB HE HK8' HKB' HV3 HR HUN HDR
        go_wp2_with fail
        exact ⟨⟨k + 1, _, _, _, _, _, u, _, _, v', by omega, by go_num, HR', HUN', by simp; omega, H6, H8, H5, HV', HFB, hz4⟩, by simp [intOf]; omega⟩
      | false =>
        cases cv with
        | true =>
          obtain ⟨rfl, rfl, rfl, hus⟩ := HUN.out.1 rfl
          obtain ⟨ux, uy, uon⟩ := u
          have HT10 := Lib.hid T10
          have HK6 := Lib.hid K6a
          have HK8 := Lib.hid K8a
          have HK5 := Lib.hid K5a
          have HKV := Lib.hid KVa
          have HKB := Lib.hid KBa
          have y0 := K8.out.cell 0 rfl
          have y1 := K8.out.cell 1 rfl
          have y2 := K8.out.cell 2 rfl
          have yz := K8.out.lt
          have y6 := K6.out.cell 6 rfl
          have yw := K6.out.lt
          clear T10 K6a K8a K5a KVa KBa
          go_wp2_with fail
          refine (middle_any ux uy uon dx dy false hus hds _).mono ?_
          rintro e w3 ⟨rfl, hb3⟩
          have E := endAt_any (ux + dx) (uy + dy) ax ay (ux + ux) (uy + uy) 0 0 true g6 g5 (g8 + 1) v acc w3 (HK6.out.keep hb3) (HK5.out.keep hb3) (HKV.out.below hb3) (by omega) (by omega) (by omega) (by omega) (Nat.le_trans hz (Nat.le_trans (by simp) hb3.size))
          have HE := Lib.hid E
          have HK8' := Lib.hid (HK8.out.keep hb3)
          have HT10' := Lib.hid (HT10.out.keep hb3)
          have HKB' := Lib.hid (HKB.out.trans (hb3.mono (HKB.out.size)))
          have HV3 := Lib.hid (HKV.out.below hb3)
          have hz3 : g8 + 1 ≤ w3.heap.size := Nat.le_trans hz (Nat.le_trans (by simp) hb3.size)
          have hown : v.ownBlock ≠ some wr.heap.size := fun h => by have := (World.ownsRow.lt KV.out _ h).2; omega
          clear E hb3 HK6 HK8 HK5 HKV HKB HT10 x0 x1 x2 y0 y1 y2 yz y6 yw
          go_wp2_with fail
          refine HE.out.mono ?_
          rintro e w4 ⟨rfl, E6, ⟨v', E5, EV⟩, EB⟩
          have F8 := end_keep EB HK8'.out (by omega) (by omega) (fun h => by have := (World.ownsRow.lt HV3.out g8 h).1; omega)
          have F10 := end_keep EB HT10'.out (by omega) (by omega) hown
          have FB : Below W0.heap.size W0 w4 := HKB'.out.trans (end_below EB HV3.out (by have := HW0z.out; omega) (by have := HW0z.out; omega) (by have := HW0z.out; omega) HKB'.out.size)
          have hz4 : g8 + 1 ≤ w4.heap.size := Nat.le_trans hz3 EB.size
          have HR' : Hid (R = (acc ++ [⟨⟨ax, ay⟩, ⟨ux + ux, uy + uy⟩, ⟨ux + dx, uy + dy⟩, true⟩]) ++ walkS ⟨sx, sy⟩ ⟨ux + dx, uy + dy⟩ (some ⟨dx, dy, false⟩) (os.drop (k + 1))) := Lib.hid (by
            rw [HR.out, HDR.out, walk_mid _ _ _ _ _ rfl, List.append_assoc]
            rfl)
          have HUN' : Hid (Under ⟨ux + dx, uy + dy⟩ (dx + dx) (dy + dy) true ⟨dx, dy, false⟩ (some ⟨dx, dy, false⟩)) := Lib.hid ⟨(fun _ => ⟨rfl, rfl, rfl, hds⟩), (fun h => by cases h)⟩
          have H6 := Lib.hid E6
          have H5 := Lib.hid E5
          have HV' := Lib.hid EV
          have H8 := Lib.hid F8
          have H10 := Lib.hid F10
          have HFB := Lib.hid FB
          have t0 := F10.cell 0 rfl
          have t1 := F10.cell 1 rfl
          have t2 := F10.cell 2 rfl
          have tz := F10.lt
          have c0 := F8.cell 0 rfl
          have c1 := F8.cell 1 rfl
          have c2 := F8.cell 2 rfl
          have f0 := F8.frozen 0
          have f1 := F8.frozen 1
          have f2 := F8.frozen 2
          have cz := F8.lt
          have hn8 : ¬ wr.heap.size = g8 := by omega
          clear E6 E5 EV F8 FB EB F10 HE HK8' HKB' HV3 HR HUN HDR HT10'
          go_wp2_with fail
          refine (pointOf_any dx dy false hds _).mono ?_
          rintro e w5 ⟨rfl, hb5⟩
          have J6 := ((((H6.out.other (k := g8) 0 (.int .i64 dx) (by omega)).other (k := g8) 1 (.int .i64 dy) (by omega)).other (k := g8) 2 (.bool false) (by omega))).keep hb5
          have J8 := ((((H8.out.set 0 (.int .i64 dx)).set 1 (.int .i64 dy)).set 2 (.bool false))).keep hb5
          have J5 := ((((H5.out.other (k := g8) 0 (.int .i64 dx) (by omega)).other (k := g8) 1 (.int .i64 dy) (by omega)).other (k := g8) 2 (.bool false) (by omega))).keep hb5
          have JV := ((((HV'.out.set (p := ⟨g8, 0, none⟩) (Nat.lt_succ_self _) (.int .i64 dx)).set (p := ⟨g8, 1, none⟩) (Nat.lt_succ_self _) (.int .i64 dy)).set (p := ⟨g8, 2, none⟩) (Nat.lt_succ_self _) (.bool false))).below hb5
          have hw8 : W0.heap.size ≤ g8 := by have := HW0z.out; omega
          have hw6 : W0.heap.size ≤ g6 := by have := HW0z.out; omega
          have JB := below_w (((HFB.out.setCell (p := ⟨g8, 0, none⟩) hw8 (.int .i64 dx)).setCell (p := ⟨g8, 1, none⟩) hw8 (.int .i64 dy)).setCell (p := ⟨g8, 2, none⟩) hw8 (.bool false)) hb5 (by simpa using HFB.out.size)
          have hz5 : g8 + 1 ≤ w5.heap.size := Nat.le_trans hz4 (Nat.le_trans (by simp) hb5.size)
          have L6 := Lib.hid (((J6.set 2 (.int .i64 (dx + dx))).set 3 (.int .i64 (dy + dy))).set 6 (.bool true))
          have L8 := Lib.hid (((J8.other (k := g6) 2 (.int .i64 (dx + dx)) (by omega)).other (k := g6) 3 (.int .i64 (dy + dy)) (by omega)).other (k := g6) 6 (.bool true) (by omega))
          have L5 := Lib.hid (((J5.other (k := g6) 2 (.int .i64 (dx + dx)) (by omega)).other (k := g6) 3 (.int .i64 (dy + dy)) (by omega)).other (k := g6) 6 (.bool true) (by omega))
          have LV := Lib.hid (((JV.set (p := ⟨g6, 2, none⟩) (show g6 < g8 + 1 by omega) (.int .i64 (dx + dx))).set (p := ⟨g6, 3, none⟩) (show g6 < g8 + 1 by omega) (.int .i64 (dy + dy))).set (p := ⟨g6, 6, none⟩) (show g6 < g8 + 1 by omega) (.bool true))
          have LB := Lib.hid (((JB.setCell (p := ⟨g6, 2, none⟩) hw6 (.int .i64 (dx + dx))).setCell (p := ⟨g6, 3, none⟩) hw6 (.int .i64 (dy + dy))).setCell (p := ⟨g6, 6, none⟩) hw6 (.bool true))
          have m0 := J6.cell 2 rfl
          have m1 := J6.cell 3 rfl
          have m2 := J6.cell 6 rfl
          have n0 := J6.frozen 2
          have n1 := J6.frozen 3
          have n2 := J6.frozen 6
          have mz := J6.lt
          clear hb5 J6 J8 J5 JV JB hw8 hw6 H6 H8 H5 HV' HFB c0 c1 c2 f0 f1 f2 cz
          go_wp2_with fail
          exact ⟨⟨k + 1, _, _, _, _, true, ⟨dx, dy, false⟩, _, _, v', by omega, by go_num, HR', HUN', by simp; omega, L6, L8, L5, LV, LB, by simpa using hz5⟩, by simp [intOf]; omega⟩
        | false =>
          obtain ⟨rfl, rfl, rfl⟩ := HUN.out.2 rfl
          have H6 := K6
          have H8 := K8
          have H5 := K5
          have HV' := KV
          have HFB := KB
          have y6 := K6.out.cell 6 rfl
          have yw := K6.out.lt
          have c0 := K8.out.cell 0 rfl
          have c1 := K8.out.cell 1 rfl
          have c2 := K8.out.cell 2 rfl
          have f0 := K8.out.frozen 0
          have f1 := K8.out.frozen 1
          have f2 := K8.out.frozen 2
          have cz := K8.out.lt
          have hn8 : ¬ wr.heap.size = g8 := by omega
          have HR' : Hid (R = acc ++ walkS ⟨sx, sy⟩ ⟨bx, by'⟩ (some ⟨dx, dy, false⟩) (os.drop (k + 1))) := Lib.hid (by
            rw [HR.out, HDR.out, walk_first _ _ _ _ rfl])
          have HUN' : Hid (Under ⟨bx, by'⟩ (dx + dx) (dy + dy) true ⟨dx, dy, false⟩ (some ⟨dx, dy, false⟩)) := Lib.hid ⟨(fun _ => ⟨rfl, rfl, rfl, hds⟩), (fun h => by cases h)⟩
          clear T10 K6a K8a K5a KVa KBa K6 K8 K5 KV KB HUN HR HDR
          go_wp2_with fail
          refine (pointOf_any dx dy false hds _).mono ?_
          rintro e w5 ⟨rfl, hb5⟩
          have J6 := ((((H6.out.other (k := g8) 0 (.int .i64 dx) (by omega)).other (k := g8) 1 (.int .i64 dy) (by omega)).other (k := g8) 2 (.bool false) (by omega)).alloc (.cells #[.int .i64 dx, .int .i64 dy, .bool false] 66)).keep hb5
          have J8 := ((((H8.out.set 0 (.int .i64 dx)).set 1 (.int .i64 dy)).set 2 (.bool false)).alloc (.cells #[.int .i64 dx, .int .i64 dy, .bool false] 66)).keep hb5
          have J5 := ((((H5.out.other (k := g8) 0 (.int .i64 dx) (by omega)).other (k := g8) 1 (.int .i64 dy) (by omega)).other (k := g8) 2 (.bool false) (by omega)).alloc (.cells #[.int .i64 dx, .int .i64 dy, .bool false] 66)).keep hb5
          have JV := ((((HV'.out.set (p := ⟨g8, 0, none⟩) (Nat.lt_succ_self _) (.int .i64 dx)).set (p := ⟨g8, 1, none⟩) (Nat.lt_succ_self _) (.int .i64 dy)).set (p := ⟨g8, 2, none⟩) (Nat.lt_succ_self _) (.bool false)).alloc (.cells #[.int .i64 dx, .int .i64 dy, .bool false] 66)).below hb5
          have hw8 : W0.heap.size ≤ g8 := by have := HW0z.out; omega
          have hw6 : W0.heap.size ≤ g6 := by have := HW0z.out; omega
          have JB := below_w ((((HFB.out.setCell (p := ⟨g8, 0, none⟩) hw8 (.int .i64 dx)).setCell (p := ⟨g8, 1, none⟩) hw8 (.int .i64 dy)).setCell (p := ⟨g8, 2, none⟩) hw8 (.bool false)).alloc (by simpa using HFB.out.size) (.cells #[.int .i64 dx, .int .i64 dy, .bool false] 66)) hb5 (Nat.le_trans HFB.out.size (by simp))
          have hz5 : g8 + 1 ≤ w5.heap.size := Nat.le_trans hz (Nat.le_trans (by simp) hb5.size)
          have L6 := Lib.hid (((J6.set 2 (.int .i64 (dx + dx))).set 3 (.int .i64 (dy + dy))).set 6 (.bool true))
          have L8 := Lib.hid (((J8.other (k := g6) 2 (.int .i64 (dx + dx)) (by omega)).other (k := g6) 3 (.int .i64 (dy + dy)) (by omega)).other (k := g6) 6 (.bool true) (by omega))
          have L5 := Lib.hid (((J5.other (k := g6) 2 (.int .i64 (dx + dx)) (by omega)).other (k := g6) 3 (.int .i64 (dy + dy)) (by omega)).other (k := g6) 6 (.bool true) (by omega))
          have LV := Lib.hid (((JV.set (p := ⟨g6, 2, none⟩) (show g6 < g8 + 1 by omega) (.int .i64 (dx + dx))).set (p := ⟨g6, 3, none⟩) (show g6 < g8 + 1 by omega) (.int .i64 (dy + dy))).set (p := ⟨g6, 6, none⟩) (show g6 < g8 + 1 by omega) (.bool true))
          have LB := Lib.hid (((JB.setCell (p := ⟨g6, 2, none⟩) hw6 (.int .i64 (dx + dx))).setCell (p := ⟨g6, 3, none⟩) hw6 (.int .i64 (dy + dy))).setCell (p := ⟨g6, 6, none⟩) hw6 (.bool true))
          have m0 := J6.cell 2 rfl
          have m1 := J6.cell 3 rfl
          have m2 := J6.cell 6 rfl
          have n0 := J6.frozen 2
          have n1 := J6.frozen 3
          have n2 := J6.frozen 6
          have mz := J6.lt
          clear hb5 J6 J8 J5 JV JB hw8 hw6 H6 H8 H5 HV' HFB c0 c1 c2 f0 f1 f2 cz
          go_wp2_with fail
          exact ⟨⟨k + 1, _, _, _, _, true, ⟨dx, dy, false⟩, _, _, v, by omega, by go_num, HR', HUN', by omega, L6, L8, L5, LV, LB, by simpa using hz5⟩, by simp [intOf]; omega⟩
    · obtain rfl : k = n := by omega
      have P3 := HP3.out.keep KB.out
      have HP := Lib.hid P3
      have p0 := P3.cell 0 rfl
      have p1 := P3.cell 1 rfl
      have pz := P3.lt
      have HR' : Hid (R = acc ++ [⟨⟨ax, ay⟩, ⟨bx, by'⟩, ⟨sx, sy⟩, cv⟩]) := Lib.hid (by
        rw [HR.out, walk_nil _ _ _ _ (List.drop_eq_nil_of_le (by rw [HN.out]; omega)), HUN.out.sg])
      have E := endAt_any sx sy ax ay bx by' 0 0 cv g6 g5 (g8 + 1) v acc wr K6.out K5.out KV.out (by omega) (by omega) (by omega) (by omega) hz
      have HE := Lib.hid E
      clear E P3 HR HUN
      go_wp2_with fail
      refine HE.out.mono ?_
      rintro e w4 ⟨rfl, E6, ⟨v', E5, EV⟩, EB⟩
      have FB : Below W0.heap.size W0 w4 := KB.out.trans (end_below EB KV.out (by have := HW0z.out; omega) (by have := HW0z.out; omega) (by have := HW0z.out; omega) KB.out.size)
      have s0 := E5.cell 0 rfl
      have sz := E5.lt
      have HF := Lib.hid (HB1.out.trans (FB.mono HB1.out.size))
      have hle : w.heap.size ≤ g8 + 1 := by have h1 := HB1.out.size; have h2 := HW0z.out; omega
      rw [← HR'.out] at EV
      have HV' := Lib.hid (World.ownsRow.mono EV hle)
      clear EV EB FB E6 E5 HE p0 p1 pz
      go_wp2
      go_ret
      exact ⟨v', rfl, HV'.out, HF.out⟩

end Go.Proofs.Ytglmgenifjaakaa
