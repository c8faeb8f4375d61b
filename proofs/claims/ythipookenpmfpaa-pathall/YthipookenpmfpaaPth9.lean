/-
  What the law's segs of layer 5 does to any world (no claim is made here).
-/
import Derived.Test.YthipookenpmfpaaPth8
namespace Go.Proofs.Ythipookenpmfpaa
open Go.RowKit

set_option maxHeartbeats 800000 in
theorem at_any (k : Nat) (gl : Nat) (t : TypeId) (A : Option Addr) (n cap : Nat) (l : List Vtx) (p : Vtx) (w : World) (hB : Blk w gl t [.slice A n cap]) (hv : VRd w (.slice A n cap) l) (hn : l.length = n) (hp : l[k]? = some p) :
    Calls Try.prog 22 #[.int .i64 k, .pointer (some ⟨gl, 0, none⟩)] w fun e w' => e = .returned (.agg #[.int .i64 p.x, .int .i64 p.y]) ∧ Below w.heap.size w w' := by
  have hk : k < n := by rw [← hn]; exact (List.getElem?_eq_some_iff.1 hp).1
  obtain ⟨a, rfl, ha, hat⟩ := hv.at k p hp
  have hal : Below w.heap.size w (w.alloc (.cells #[.int .i64 0, .int .i64 0] 38)).drew := ((Below.refl _ w).alloc (Nat.le_refl _) _).drew
  obtain ⟨x0, x1, x2⟩ := hat.keep hal
  have B1 := hB.keep hal
  have c0 := B1.cell 0 rfl
  have cz := B1.lt
  have hne : ¬ w.heap.size = gl := by have := hB.lt; omega
  obtain ⟨px, py, pon⟩ := p
  simp only [] at x0 x1 x2
  have hkI : (k : Int) < n := by omega
  have hk0 : (0 : Int) ≤ k := by omega
  clear hat hB hv hal hn hp B1
  go_enter Try.func22, Try.ntmps22
  go_wp2_with fail
  go_region
  go_wp2_with fail
  exact bodyPost_ret (v := .agg #[.int .i64 px, .int .i64 py]) (by simp [results, Try.results22, go_sem]) rfl ⟨rfl, ((Below.refl _ w).alloc (Nat.le_refl _) _).drew⟩

theorem drop2 {α : Type} {l : List α} {k : Nat} {p q : α} (h1 : l[k]? = some p) (h2 : l[k + 1]? = some q) : l.drop k = p :: q :: l.drop (k + 2) := by
  rw [drop_push l k p h1, drop_push l (k + 1) q h2]
theorem drop3 {α : Type} {l : List α} {k : Nat} {p q t : α} (h1 : l[k]? = some p) (h2 : l[k + 1]? = some q) (h3 : l[k + 2]? = some t) : l.drop k = p :: q :: t :: l.drop (k + 3) := by
  rw [drop2 h1 h2, drop_push l (k + 2) t h3]
theorem scan_end {l : List Vtx} {k : Nat} (h : l.length ≤ k + 1) : scan (l.drop k) = [] := by
  have hl : (l.drop k).length ≤ 1 := by rw [List.length_drop]; omega
  match h' : l.drop k, hl with
  | [], _ => exact scan_nil
  | [p], _ => exact scan_one p
theorem scan_push_on {l : List Vtx} {k : Nat} {p q : Vtx} (h1 : l[k]? = some p) (h2 : l[k + 1]? = some q) (hq : q.on = true) : scan (l.drop k) = ⟨⟨p.x, p.y⟩, ⟨p.x, p.y⟩, ⟨q.x, q.y⟩, false⟩ :: scan (l.drop (k + 1)) := by
  rw [drop2 h1 h2, scan_on _ _ _ hq, drop_push l (k + 1) q h2]
theorem scan_push_off {l : List Vtx} {k : Nat} {p q t : Vtx} (h1 : l[k]? = some p) (h2 : l[k + 1]? = some q) (h3 : l[k + 2]? = some t) (hq : q.on = false) : scan (l.drop k) = ⟨⟨p.x, p.y⟩, ⟨q.x, q.y⟩, ⟨t.x, t.y⟩, true⟩ :: scan (l.drop (k + 2)) := by
  rw [drop3 h1 h2 h3, scan_off _ _ _ _ hq, drop_push l (k + 2) t h3]
theorem fullS_head (c : List Vtx) (hc : c ≠ []) : (fullS c)[0]? = some (onP (startS c)) := by
  rw [fullS_is c hc (onP (startS c)) rfl]; rfl
theorem fullS_len (c : List Vtx) : (fullS c).length ≤ 2 * c.length := by
  unfold fullS
  rw [List.length_append, List.length_drop, List.length_take]
  have := exp_len c (vtxAt c 0)
  unfold fullAll
  omega
theorem last_on {l : List Vtx} {s : Pt} {k : Nat} {q : Vtx} (h : (l ++ [onP s])[k]? = some q) (hq : q.on = false) : k + 1 < (l ++ [onP s]).length := by
  have hk := (List.getElem?_eq_some_iff.1 h).1
  rw [List.length_append] at hk ⊢
  simp only [List.length_cons, List.length_nil] at hk ⊢
  by_cases he : k = l.length
  · subst he
    rw [List.getElem?_append_right (Nat.le_refl _)] at h
    simp at h
    subst h
    simp [onP] at hq
  · omega

theorem at_ne {w : World} {gu gl gy M capu : Nat} {o : Obj} (h : gu ≠ gl) (hl : gl < w.heap.size) (ha : Value.ownBlock (.slice (some ⟨gu, 0, none⟩) M capu) = some gy ∨ gy = (w.drew.alloc o).heap.size) : gy ≠ gl := by
  rcases ha with e | e
  · have : some gu = some gy := e
    injection this with h'
    rw [← h']; exact h
  · have : (w.drew.alloc o).heap.size = w.heap.size + 1 := World.size_alloc _ _
    omega
theorem heap_at {w : World} {k : Nat} (h : w.heap.size = k) (o : Obj) : (w.drew.alloc o).heap[k]? = some o := by subst h; exact heap_alloc_new w.drew o
theorem size_at {w : World} {k b : Nat} (hb : b ≤ k) (h : w.heap.size = k) (o : Obj) : b ≤ (w.drew.alloc o).heap.size := by rw [World.size_alloc]; exact Nat.le_trans (Nat.le_trans hb (Nat.le_of_eq h.symm)) (Nat.le_succ _)

set_option maxHeartbeats 800000 in
theorem lsegs_nil (A : Option Addr) (cap : Nat) (w : World) : Calls Try.prog 12 #[.slice A 0 cap] w fun e w' => e = .returned (.slice none 0 0) ∧ Below w.heap.size w w' := by
  go_enter Try.func12, Try.ntmps12
  go_wp2
  go_ret
  exact ⟨rfl, Below.refl _ _⟩

set_option maxRecDepth 100000 in
set_option maxHeartbeats 3200000 in
theorem lsegs_core (v : Value) (c : List Vtx) (w : World) (hv : VRd w v c) (hc : c ≠ []) (hl : c.length ≤ 1000) (hs : ∀ u ∈ c, smallV u) :
    Calls Try.prog 12 #[v] w fun e w' => ∃ u, e = .returned u ∧ SRow w' w.heap.size u (segsS c) ∧ Below w.heap.size w w' := by
  have HFU := Lib.hid (full_any v c w hv hc hl hs)
  obtain ⟨R, hR⟩ : ∃ R, segsS c = R := ⟨_, rfl⟩
  have HSC := Lib.hid (segs_scan c hc)
  rw [hR] at HSC
  rw [hR]
  have HHD := Lib.hid (fullS_head c hc)
  have HSP : Hid (∀ p, c = [p] → p.on = true → R = [⟨startS c, startS c, startS c, false⟩]) := Lib.hid (fun p e h => by rw [← hR]; subst e; simp [segsS, startS, othersS, firstOn, h, walkS, sgOf])
  have HFL : Hid ((fullS c).length ≤ 2000) := Lib.hid (by have := fullS_len c; omega)
  have HV := Lib.hid hv
  obtain ⟨A, cap, rfl, hcap, -⟩ := hv
  obtain ⟨n, hn⟩ : ∃ n, c.length = n := ⟨_, rfl⟩
  have hn0 : 0 < n := by rw [← hn]; exact List.length_pos_iff.2 hc
  rw [hn] at HV hcap hl HFU
  rw [hn]
  have HN := Lib.hid hn
  have hnz' : ((n : Int) == 0) = false := by simp; omega
  clear hn hs hc hR
  go_enter Try.func12, Try.ntmps12
  go_wp2_with fail
  refine HFU.out.mono ?_
  rintro e w1 ⟨u, rfl, hu, hb1⟩
  obtain ⟨M, hM⟩ : ∃ M, (fullS c).length = M := ⟨_, rfl⟩
  obtain ⟨gu, capu, eu, hg1, hg2⟩ := World.ownsRow.form hu (by have := (List.getElem?_eq_some_iff.1 HHD.out).1; omega)
  have hM0 : 0 < M := by rw [← hM]; exact (List.getElem?_eq_some_iff.1 HHD.out).1
  have hM2 : M ≤ 2000 := by rw [← hM]; exact HFL.out
  subst eu
  rw [hM] at hu
  rw [hM]
  have HM := Lib.hid hM
  have B1 := Blk.new w1 28 [.slice (some ⟨gu, 0, none⟩) M capu] rfl
  have hba : Below w.heap.size w (w1.alloc (.cells #[.slice (some ⟨gu, 0, none⟩) M capu] 28)) := hb1.alloc hb1.size _
  have hua := VRow.below hu ((Below.refl _ w1).alloc (Nat.le_refl _) (.cells #[.slice (some ⟨gu, 0, none⟩) M capu] 28))
  have hne : gu ≠ w1.heap.size := by omega
  have hz1 := hb1.size
  obtain ⟨gl, hgl⟩ : ∃ g, w1.heap.size = g := ⟨_, rfl⟩
  have hzz : (w1.alloc (.cells #[.slice (some ⟨gu, 0, none⟩) M capu] 28)).heap.size = gl + 1 := by simp [hgl]
  rw [hgl] at B1 hne hz1 hg2
  clear hu hM hb1 HFU
  go_wp2_with fail
  generalize w1.alloc (.cells #[.slice (some ⟨gu, 0, none⟩) M capu] 28) = W1 at *
  clear hgl
  obtain ⟨a1, e1, -, hh⟩ := (VRow.read hua).at 0 _ HHD.out
  cases e1
  obtain ⟨x0, x1, x2⟩ := hh
  generalize startS c = s at *
  obtain ⟨sx, sy⟩ := s
  rw [Nat.zero_mul, show (⟨gu, 0, none⟩ : Addr).add 0 = ⟨gu, 0, none⟩ from rfl] at x0 x1 x2
  simp only [onP] at x0 x1 x2
  have b0 := B1.cell 0 rfl
  have bf := B1.frozen 0
  have bz := B1.lt
  have hMI : (0 : Int) < M := by omega
  have HB1 := Lib.hid B1
  have HUA := Lib.hid hua
  have HBA := Lib.hid hba
  have Hzz := Lib.hid hzz
  obtain ⟨i0, hi0, hz0, hz1', hz2⟩ := infos vinfo
  clear B1 hua hba hzz
  go_wp2_with fail
  go_cut [17] (fun s17 wx => ∃ (gy capy : Nat) (Wz : World), wx = Wz ∧ s17 = .slice (some ⟨gy, 0, none⟩) (M + 1) capy ∧ Hid (Blk wx gl 28 [.slice (some ⟨gy, 0, none⟩) (M + 1) capy]) ∧ Hid (VRow wx w.heap.size (.slice (some ⟨gy, 0, none⟩) (M + 1) capy) (fullS c ++ [onP ⟨sx, sy⟩])) ∧ Hid (Below w.heap.size w wx))
  case first =>
    go_region_law (first
      | (refine step_append_lies _ ?_ (.tmp 12) (.tmp 16) 28 ?_ w.heap.size 36 i0 _ 3 24 Try.underlying28 hi0 hz0 hz1' hz2 ?_ ?_ (.slice (some ⟨gu, 0, none⟩) M capu) M (vcells (fullS c)) ?_ ?_ ⟨W1.heap.size, 0, none⟩ 1 1 [.int .i64 sx, .int .i64 sy, .bool true] ?_ ?_ ?_ ?_ ?_ ?_ ?_ ?_ _ rfl ?_
         rfl
         rfl
         rfl
         omega
         kernel_rfl
         exact (HUA.out.own HM.out).alloc _
         kernel_rfl
         rfl
         exact World.news_of_block (heap_at rfl _)
         (simp [Value.oneCell'])
         omega
         (unfold maxLen; omega)
         omega
         exact size_at (Nat.le_trans hz1 (Nat.le_succ _)) Hzz.out _
         intro gy capy w5 hown5 hgrow5 hat5 hlt5
         have HO5 := Lib.hid hown5
         have HG5 := Lib.hid hgrow5
         have HA5 := Lib.hid hat5
         have G := Blk.grown (w := (W1.drew.alloc (.cells #[.int .i64 sx, .int .i64 sy, .bool true] 36))) (HB1.out.alloc _) hgrow5 (fun e => by injection e with e; exact hne e.symm)
         have g0 := G.cell 0 rfl
         have gf := G.frozen 0
         have gz := G.lt
         have HG := Lib.hid G
         clear hown5 hgrow5 hat5 hlt5 G))
    all_goals
      have hgy : gy ≠ gl := at_ne hne bz HA5.out
      have V1 := VRow.push1 HM.out HO5.out
      have V2 := Lib.hid (own_blocks (w' := w5.setCell ⟨gl, 0, none⟩ (.slice (some ⟨gy, 0, none⟩) (M + 1) capy)) V1 (fun g hg => heap_set _ _ _ _ (fun e => hgy (by have : some gy = some g := hg; injection this with h; rw [h]; exact e))))
      have V3 := Lib.hid (HG.out.set 0 (.slice (some ⟨gy, 0, none⟩) (M + 1) capy))
      have V4 := Lib.hid ((((HBA.out.drew).alloc HBA.out.drew.size (.cells #[.int .i64 sx, .int .i64 sy, .bool true] 36)).grown HG5.out (size_at (Nat.le_trans hz1 (Nat.le_succ _)) Hzz.out _) (fun q hq => (HUA.out.lt q hq).1)).setCell (p := ⟨gl, 0, none⟩) hz1 (.slice (some ⟨gy, 0, none⟩) (M + 1) capy))
      go_wp2_with fail
      go_meet
      exact ⟨gy, capy, _, rfl, rfl, V3, V2, V4⟩
  case rest =>
    obtain ⟨gy, capy, Wz, hWz, rfl, KB, KV, KW⟩ := hcut
    replace hWz := hWz.symm
    subst hWz
    have HLO : Hid (∀ k q, (fullS c ++ [onP ⟨sx, sy⟩])[k]? = some q → q.on = false → k + 1 < (fullS c ++ [onP ⟨sx, sy⟩]).length) := Lib.hid (fun k q h hq => last_on h hq)
    have HL0 : Hid ((fullS c ++ [onP ⟨sx, sy⟩])[0]? = some (onP ⟨sx, sy⟩)) := Lib.hid (by rw [List.getElem?_append_left (by rw [HM.out]; exact hM0)]; exact HHD.out)
    have HLN : Hid ((fullS c ++ [onP ⟨sx, sy⟩]).length = M + 1) := Lib.hid (by rw [List.length_append, HM.out]; rfl)
    clear HB1 HUA HBA Hzz x0 x1 x2 b0 bf bz HHD HM HFL
    generalize fullS c ++ [onP ⟨sx, sy⟩] = l at *
    have HVW := Lib.hid (HV.out.keep KW.out)
    have HVL := Lib.hid (VRow.read KV.out)
    clear KV HV
    have HAT : Hid (∀ (wx : World) (i : Int) (k : Nat) (p : Vtx), Below Wz.heap.size Wz wx → l[k]? = some p → i = k → Calls Try.prog 22 #[.int .i64 i, .pointer (some ⟨gl, 0, none⟩)] wx fun e w' => e = .returned (.agg #[.int .i64 p.x, .int .i64 p.y]) ∧ Below wx.heap.size wx w') := Lib.hid (fun wx i k p hb hp hi => by subst hi; exact at_any k gl _ _ _ _ l p wx (KB.out.keep hb) (HVL.out.keep hb) HLN.out hp)
    obtain ⟨j0, hj0, jz0, jz1, jz2⟩ := infos sinfo
    have hsc : R = [] ++ scan (l.drop 0) := HSC.out.symm
    have HSC' := Lib.hid hsc
    have hwz := KW.out.size
    clear hsc hi0 hz0 hz1' hz2
    have hcase : (n = 1 ∧ ∃ p, c = [p] ∧ p.on = true) ∨ (n = 1 ∧ ∃ p, c = [p] ∧ p.on = false) ∨ ((n : Int) == 1) = false := by
      by_cases h1 : n = 1
      · have hN := HN.out
        rw [h1] at hN
        match c, hN with
        | [p], _ =>
          cases hp : p.on with
          | true => exact .inl ⟨h1, p, rfl, hp⟩
          | false => exact .inr (.inl ⟨h1, p, rfl, hp⟩)
      · exact .inr (.inr (by simp; omega))
    rcases hcase with ⟨rfl, p, rfl, hp⟩ | hcase
    · obtain ⟨a, rfl, ha, y0, y1, y2⟩ := HVW.out.at 0 p rfl
      rw [Nat.zero_mul, show a.add 0 = a from rfl] at y0 y1 y2
      have hR := HSP.out _ rfl hp
      subst hR
      obtain ⟨px, py, pon⟩ := p
      simp only [] at y0 y1 y2 hp
      subst hp
      have A1 := Lib.hid (HAT.out Wz 0 0 _ (Below.refl _ _) HL0.out rfl)
      go_wp2_with fail
      refine A1.out.mono ?_
      rintro e w2 ⟨rfl, hb2⟩
      have A2 := Lib.hid (HAT.out w2 0 0 _ hb2 HL0.out rfl)
      have HE2 := Lib.hid hb2
      clear hb2 A1 y0 y1 y2
      go_wp2_with fail
      refine A2.out.mono ?_
      rintro e w3 ⟨rfl, hb3⟩
      have E3 := HE2.out.trans (hb3.mono HE2.out.size)
      have A3 := Lib.hid (HAT.out w3 0 0 _ E3 HL0.out rfl)
      have HE3 := Lib.hid E3
      clear hb3 E3 A2 HE2
      go_wp2_with fail
      refine A3.out.mono ?_
      rintro e w4 ⟨rfl, hb4⟩
      have E4 := HE3.out.trans (hb4.mono HE3.out.size)
      have HE4 := Lib.hid (KW.out.trans (E4.mono hwz))
      clear hb4 E4 A3 HE3
      go_wp2
      go_ret
      refine ⟨_, rfl, ?_, HE4.out.alloc HE4.out.size _⟩
      exact World.ownsRow_lit (base := w.heap.size) (e := 40) (size := 7) w4 #[.int .i64 sx, .int .i64 sy, .int .i64 sx, .int .i64 sy, .int .i64 sx, .int .i64 sy, .bool false] 1 HE4.out.size (by unfold maxLen; omega) rfl
    · have hcase' : (∃ p, n = 1 ∧ c = [p] ∧ p.on = false) ∨ ((n : Int) == 1) = false := by
        rcases hcase with ⟨h1, p, h2, h3⟩ | h
        · exact .inl ⟨p, h1, h2, h3⟩
        · exact .inr h
      clear hcase
      rcases hcase' with ⟨p, rfl, rfl, hp⟩ | h1'
      case' inl =>
        obtain ⟨a, rfl, ha, y0, y1, y2⟩ := HVW.out.at 0 p rfl
        rw [Nat.zero_mul, show a.add 0 = a from rfl] at y0 y1 y2
        obtain ⟨px, py, pon⟩ := p
        simp only [] at y0 y1 y2 hp
        subst hp
      all_goals
        go_wp2_with fail
        go_loopw [6, 4] (fun i u wr => ∃ (k : Nat) (acc : List Sg), k ≤ M ∧ i = .int .i64 k ∧ Hid (R = acc ++ scan (l.drop k)) ∧ acc.length ≤ k ∧ Hid (SRow wr Wz.heap.size u acc) ∧ Hid (Below Wz.heap.size Wz wr)) (fun i _ _ => M - (intOf i).toNat)
        case atStart => exact ⟨0, [], Nat.zero_le _, rfl, HSC', Nat.zero_le _, Lib.hid (World.ownsRow_nil _ _ _ _), Lib.hid (Below.refl _ _)⟩
        case round =>
          obtain ⟨k, acc, hk, rfl, HR, hacc, HV, HW⟩ := hrel
          have zz := KB.out.keep HW.out
          have zb := zz.cell 0 rfl
          have zl := zz.lt
          clear zz
          by_cases hkM : k < M
          · have hkb : decide ((k : Int) + 1 < M + 1) = true := by simp; omega
            have hkI : (k : Int) + 1 < (↑(M + 1) : Int) := by omega
            obtain ⟨p, hp⟩ : ∃ p, l[k]? = some p := ⟨_, List.getElem?_eq_getElem (by rw [HLN.out]; omega)⟩
            obtain ⟨q, hq⟩ : ∃ q, l[k + 1]? = some q := ⟨_, List.getElem?_eq_getElem (by rw [HLN.out]; omega)⟩
            obtain ⟨a5, e5, -, z0, z1, z2⟩ := (HVL.out.keep HW.out).at (k + 1) q hq
            cases e5
            obtain ⟨m, hm⟩ : ∃ m, acc.length = m := ⟨_, rfl⟩
            have hm2 : m ≤ 2000 := by omega
            obtain ⟨px, py, pon⟩ := p
            obtain ⟨qx, qy, qon⟩ := q
            simp only [add0, Nat.zero_add] at z0 z1 z2
            have HP := Lib.hid hp
            have HQ := Lib.hid hq
            have hto : ((k : Int) + 1).toNat = k + 1 := by omega
            clear hp hq
            cases qon with
            | true =>
              have A1 := Lib.hid (HAT.out wr k k _ HW.out HP.out rfl)
              go_wp2_with fail
              refine A1.out.mono ?_
              rintro e w2 ⟨rfl, hb2⟩
              have E2 := HW.out.trans (hb2.mono HW.out.size)
              have A2 := Lib.hid (HAT.out w2 k k _ E2 HP.out rfl)
              have V2 := Lib.hid (HV.out.below hb2)
              have HE2 := Lib.hid E2
              clear hb2 E2 A1 z0 z1 z2 zb zl
              go_wp2_with fail
              refine A2.out.mono ?_
              rintro e w3 ⟨rfl, hb3⟩
              have E3 := HE2.out.trans (hb3.mono HE2.out.size)
              have A3 := Lib.hid (HAT.out w3 (k + 1) (k + 1) _ E3 HQ.out (by omega))
              have V3 := Lib.hid (V2.out.below hb3)
              have HE3 := Lib.hid E3
              clear hb3 E3 A2 V2 HE2
              go_wp2_with fail
              refine A3.out.mono ?_
              rintro e w4 ⟨rfl, hb4⟩
              have E4 := HE3.out.trans (hb4.mono HE3.out.size)
              have HE4 := Lib.hid E4
              have HO4 := Lib.hid (SRow.own ((V3.out.below hb4).alloc (.cells #[.int .i64 px, .int .i64 py, .int .i64 px, .int .i64 py, .int .i64 qx, .int .i64 qy, .bool false] 40)) hm)
              have HNB := Lib.hid (Blk.new w4 40 [.int .i64 px, .int .i64 py, .int .i64 px, .int .i64 py, .int .i64 qx, .int .i64 qy, .bool false] rfl)
              have hz4 := E4.size
              have HM2 := Lib.hid hm
              clear hb4 E4 A3 V3 HE3 hm
              go_wp2_with (at_builtin; refine wpList_append_lies _ rfl _ _ _ (by rfl) Wz.heap.size 40 j0 _ 7 56 Try.underlying30 hj0 jz0 jz1 jz2 (by rfl) (by omega) _ m _ (by rfl) HO4.out ⟨w4.heap.size, 0, none⟩ 1 1 [.int .i64 px, .int .i64 py, .int .i64 px, .int .i64 py, .int .i64 qx, .int .i64 qy, .bool false] (by rfl) (by rfl) (World.news_of_block HNB.out) (by simp [Value.oneCell']) (by omega) (by simp [maxLen]; omega) (by omega) (by simp; omega) (w4.heap.size + 1) (by simp) ?_; intro g cp w5 hown hgrow hat hlt)
              have VN : SRow w5 Wz.heap.size (.slice (some ⟨g, 0, none⟩) (m + 1) cp) (acc ++ [⟨⟨px, py⟩, ⟨px, py⟩, ⟨qx, qy⟩, false⟩]) := by
                unfold SRow
                rw [List.length_append, HM2.out, scells_push]
                exact hown
              have BN := (HE4.out.alloc HE4.out.size (.cells #[.int .i64 px, .int .i64 py, .int .i64 px, .int .i64 py, .int .i64 qx, .int .i64 qy, .bool false] 40)).grown hgrow (Nat.le_trans hz4 (by simp)) (fun q hq => (HO4.out.lt q hq).1)
              have HR' : Hid (R = (acc ++ [⟨⟨px, py⟩, ⟨px, py⟩, ⟨qx, qy⟩, false⟩]) ++ scan (l.drop (k + 1))) := Lib.hid (by rw [HR.out, scan_push_on HP.out HQ.out rfl, List.append_assoc]; rfl)
              exact ⟨⟨k + 1, _, by omega, by go_num, HR', by simp; omega, Lib.hid VN, Lib.hid BN⟩, by simp [intOf]; omega⟩
            | false =>
              obtain ⟨t, ht⟩ : ∃ t, l[k + 2]? = some t := ⟨_, List.getElem?_eq_getElem (HLO.out (k + 1) _ HQ.out rfl)⟩
              have hk2 : k + 2 ≤ M := by have h1 := HLO.out (k + 1) _ HQ.out rfl; have h2 := HLN.out; omega
              obtain ⟨tx, ty, ton⟩ := t
              have HT := Lib.hid ht
              clear ht
              have A1 := Lib.hid (HAT.out wr k k _ HW.out HP.out rfl)
              go_wp2_with fail
              refine A1.out.mono ?_
              rintro e w2 ⟨rfl, hb2⟩
              have E2 := HW.out.trans (hb2.mono HW.out.size)
              have A2 := Lib.hid (HAT.out w2 (k + 1) (k + 1) _ E2 HQ.out (by omega))
              have V2 := Lib.hid (HV.out.below hb2)
              have HE2 := Lib.hid E2
              clear hb2 E2 A1 z0 z1 z2 zb zl
              go_wp2_with fail
              refine A2.out.mono ?_
              rintro e w3 ⟨rfl, hb3⟩
              have E3 := HE2.out.trans (hb3.mono HE2.out.size)
              have A3 := Lib.hid (HAT.out w3 (k + 2) (k + 2) _ E3 HT.out (by omega))
              have V3 := Lib.hid (V2.out.below hb3)
              have HE3 := Lib.hid E3
              clear hb3 E3 A2 V2 HE2
              go_wp2_with fail
              refine A3.out.mono ?_
              rintro e w4 ⟨rfl, hb4⟩
              have E4 := HE3.out.trans (hb4.mono HE3.out.size)
              have HE4 := Lib.hid E4
              have HO4 := Lib.hid (SRow.own ((V3.out.below hb4).alloc (.cells #[.int .i64 px, .int .i64 py, .int .i64 qx, .int .i64 qy, .int .i64 tx, .int .i64 ty, .bool true] 40)) hm)
              have HNB := Lib.hid (Blk.new w4 40 [.int .i64 px, .int .i64 py, .int .i64 qx, .int .i64 qy, .int .i64 tx, .int .i64 ty, .bool true] rfl)
              have hz4 := E4.size
              have HM2 := Lib.hid hm
              clear hb4 E4 A3 V3 HE3 hm
              go_wp2_with (at_builtin; refine wpList_append_lies _ rfl _ _ _ (by rfl) Wz.heap.size 40 j0 _ 7 56 Try.underlying30 hj0 jz0 jz1 jz2 (by rfl) (by omega) _ m _ (by rfl) HO4.out ⟨w4.heap.size, 0, none⟩ 1 1 [.int .i64 px, .int .i64 py, .int .i64 qx, .int .i64 qy, .int .i64 tx, .int .i64 ty, .bool true] (by rfl) (by rfl) (World.news_of_block HNB.out) (by simp [Value.oneCell']) (by omega) (by simp [maxLen]; omega) (by omega) (by simp; omega) (w4.heap.size + 1) (by simp) ?_; intro g cp w5 hown hgrow hat hlt)
              have VN : SRow w5 Wz.heap.size (.slice (some ⟨g, 0, none⟩) (m + 1) cp) (acc ++ [⟨⟨px, py⟩, ⟨qx, qy⟩, ⟨tx, ty⟩, true⟩]) := by
                unfold SRow
                rw [List.length_append, HM2.out, scells_push]
                exact hown
              have BN := (HE4.out.alloc HE4.out.size (.cells #[.int .i64 px, .int .i64 py, .int .i64 qx, .int .i64 qy, .int .i64 tx, .int .i64 ty, .bool true] 40)).grown hgrow (Nat.le_trans hz4 (by simp)) (fun q hq => (HO4.out.lt q hq).1)
              have HR' : Hid (R = (acc ++ [⟨⟨px, py⟩, ⟨qx, qy⟩, ⟨tx, ty⟩, true⟩]) ++ scan (l.drop (k + 2))) := Lib.hid (by rw [HR.out, scan_push_off HP.out HQ.out HT.out rfl, List.append_assoc]; rfl)
              exact ⟨⟨k + 2, _, by omega, by go_num, HR', by simp; omega, Lib.hid VN, Lib.hid BN⟩, by simp [intOf]; omega⟩
          · obtain rfl : k = M := by omega
            have hkb : decide ((k : Int) + 1 < k + 1) = false := by simp
            have hF : R = acc := by rw [HR.out, scan_end (by rw [HLN.out]; exact Nat.le_refl _), List.append_nil]
            subst hF
            have HF := Lib.hid (KW.out.trans (HW.out.mono hwz))
            have HS := Lib.hid (World.ownsRow.mono HV.out hwz)
            clear HR HV HW
            go_wp2
            go_ret
            exact ⟨_, rfl, HS.out, HF.out⟩

/-- The law's segs. -/
theorem lsegs_any (v : Value) (c : List Vtx) (w : World) (hv : VRd w v c) (hl : c.length ≤ 1000) (hs : ∀ u ∈ c, smallV u) :
    Calls Try.prog 12 #[v] w fun e w' => ∃ u, e = .returned u ∧ SRow w' w.heap.size u (segsS c) ∧ Below w.heap.size w w' := by
  by_cases hc : c = []
  · subst hc
    obtain ⟨A, cap, rfl, _⟩ := hv
    refine (lsegs_nil A cap w).mono ?_
    rintro e w' ⟨rfl, hb⟩
    exact ⟨_, rfl, World.ownsRow_nil _ _ _ _, hb⟩
  · exact lsegs_core v c w hv hc hl hs

end Go.Proofs.Ythipookenpmfpaa
