/-
  What path.Segs does to any contour, path.Closed to some pieces, the law's Same to equal ones; layer 5's examples (no claim is made here).
-/
import Derived.Test.YthipookenpmfpaaPth5
namespace Go.Proofs.Ythipookenpmfpaa
open Go.RowKit

set_option maxHeartbeats 400000 in
theorem segs_nil (A : Option Addr) (cap : Nat) (w : World) : Calls Try.prog 11 #[.slice A 0 cap] w fun e w' => e = .returned (.slice none 0 0) ∧ Below w.heap.size w w' := by
  go_enter Try.func11, Try.ntmps11
  go_wp2
  go_ret
  exact ⟨rfl, Below.refl _ _⟩
/-- path.Segs. -/
theorem segs_any (v : Value) (c : List Vtx) (w : World) (hv : VRd w v c) (hl : c.length ≤ 1000) (hs : ∀ u ∈ c, smallV u) :
    Calls Try.prog 11 #[v] w fun e w' => ∃ u, e = .returned u ∧ SRow w' w.heap.size u (segsS c) ∧ Below w.heap.size w w' := by
  by_cases hc : c = []
  · subst hc
    obtain ⟨A, cap, rfl, _⟩ := hv
    refine (segs_nil A cap w).mono ?_
    rintro e w' ⟨rfl, hb⟩
    exact ⟨_, rfl, World.ownsRow_nil _ _ _ _, hb⟩
  · exact segs_core v c w hv hc hl hs

theorem walk_len (s : Pt) : ∀ (vs : List Vtx) (a : Pt) (ctl : Option Vtx), (walkS s a ctl vs).length ≤ vs.length + 1
  | [], a, ctl => by simp [walkS]
  | v :: vs, a, ctl => by
    by_cases h : v.on = true
    · rw [walk_on _ _ _ _ _ h, List.length_cons, List.length_cons]
      have := walk_len s vs (ptV v) none
      omega
    · have h' : v.on = false := by simpa using h
      cases ctl with
      | none => rw [walk_first _ _ _ _ h', List.length_cons]; have := walk_len s vs a (some v); omega
      | some u => rw [walk_mid _ _ _ _ _ h', List.length_cons, List.length_cons]; have := walk_len s vs (midV u v) (some v); omega
theorem segs_len (c : List Vtx) : (segsS c).length ≤ c.length + 1 := by
  unfold segsS
  split
  · simp
  · have h1 := walk_len (startS c) (othersS c) (startS c) none
    have h2 := others_len c
    omega

/-- A piece that is read, in the walk's spelling. -/
abbrev SAtS (w : World) (a : Addr) (i : Nat) (s0 s1 s2 s3 s4 s5 : Int) (s6 : Bool) : Prop :=
  w.cell? (a.add (i * 7)) = some (.int .i64 s0) ∧ w.cell? ⟨(a.add (i * 7)).block, (a.add (i * 7)).off + 1, none⟩ = some (.int .i64 s1) ∧ w.cell? ⟨(a.add (i * 7)).block, (a.add (i * 7)).off + 2, none⟩ = some (.int .i64 s2) ∧ w.cell? ⟨(a.add (i * 7)).block, (a.add (i * 7)).off + 3, none⟩ = some (.int .i64 s3) ∧ w.cell? ⟨(a.add (i * 7)).block, (a.add (i * 7)).off + 4, none⟩ = some (.int .i64 s4) ∧ w.cell? ⟨(a.add (i * 7)).block, (a.add (i * 7)).off + 5, none⟩ = some (.int .i64 s5) ∧ w.cell? ⟨(a.add (i * 7)).block, (a.add (i * 7)).off + 6, none⟩ = some (.bool s6)
theorem SRd.at {w : World} {A : Option Addr} {n cap : Nat} {l : List Sg} (h : SRd w (.slice A n cap) l) (i : Nat) (s : Sg) (hs : l[i]? = some s) : ∃ a, A = some a ∧ a.block < w.heap.size ∧ SAtS w a i s.a.x s.a.y s.b.x s.b.y s.c.x s.c.y s.curve := by
  obtain ⟨A', cap', e, _, h3⟩ := h
  simp only [Value.slice.injEq] at e
  obtain ⟨rfl, -, -⟩ := e
  obtain ⟨hi, rfl⟩ := List.getElem?_eq_some_iff.1 hs
  obtain ⟨a, ha, hlt, p0, p1, p2, p3, p4, p5, p6⟩ := h3 i hi
  rw [add_spell _ _ _ (by omega)] at p1 p2 p3 p4 p5 p6
  exact ⟨a, ha, hlt, p0, p1, p2, p3, p4, p5, p6⟩

set_option maxHeartbeats 800000 in
theorem sameS_any (va vb : Value) (l : List Sg) (w : World) (ha : SRd w va l) (hb : SRd w vb l) (hl : l.length ≤ 2000) :
    Calls Try.prog 10 #[va, vb] w fun e w' => e = .returned (.bool true) ∧ Below w.heap.size w w' := by
  obtain ⟨A, cap, rfl, hc, -⟩ := id ha
  obtain ⟨B, capb, rfl, hcb, -⟩ := id hb
  have HA := Lib.hid ha
  have HB := Lib.hid hb
  obtain ⟨n, hn⟩ : ∃ n : Nat, l.length = n := ⟨_, rfl⟩
  rw [hn] at HA HB hl hc hcb
  rw [hn]
  have HN := Lib.hid hn
  clear ha hb hn
  go_enter Try.func10, Try.ntmps10
  go_wp2_with fail
  go_loopw [13] (fun i wr => ∃ r : Nat, r ≤ n ∧ i = .int .i64 r ∧ Hid (Below w.heap.size w wr)) (fun i _ => n - (intOf i).toNat)
  case atStart => exact ⟨0, Nat.zero_le _, rfl, Lib.hid (Below.refl _ _)⟩
  case round =>
    obtain ⟨r, hr, rfl, HW⟩ := hrel
    by_cases hrn : r < n
    · have hrb : decide ((r : Int) < n) = true := by simp; omega
      obtain ⟨s, hs⟩ : ∃ s, l[r]? = some s := ⟨_, List.getElem?_eq_getElem (by rw [HN.out]; exact hrn)⟩
      obtain ⟨a, rfl, ha, x0, x1, x2, x3, x4, x5, x6⟩ := (HA.out.keep HW.out).at r s hs
      obtain ⟨a', rfl, hb, y0, y1, y2, y3, y4, y5, y6⟩ := (HB.out.keep HW.out).at r s hs
      clear hs
      go_wp2_with fail
      go_quiet (fail)
      have HW' := Lib.hid (belowDN HW.out nq)
      go_wp2_with fail
      exact ⟨⟨r + 1, by omega, by go_num, HW'⟩, by simp [intOf]; omega⟩
    · obtain rfl : r = n := by omega
      go_wp2
      go_ret
      exact ⟨rfl, HW.out⟩

set_option maxHeartbeats 800000 in
theorem closed_true (v : Value) (l : List Sg) (w : World) (ha : SRd w v l) (hl : l.length ≤ 2000) (hcl : ∀ i s t, l[i]? = some s → l[(i + 1) % l.length]? = some t → s.c = t.a) :
    Calls Try.prog 15 #[v] w fun e w' => e = .returned (.bool true) ∧ Below w.heap.size w w' := by
  obtain ⟨A, cap, rfl, hc, -⟩ := id ha
  have HA := Lib.hid ha
  have HCL := Lib.hid hcl
  obtain ⟨n, hn⟩ : ∃ n : Nat, l.length = n := ⟨_, rfl⟩
  rw [hn] at HA HCL hl hc
  rw [hn]
  have HN := Lib.hid hn
  clear ha hn hcl
  go_enter Try.func15, Try.ntmps15
  go_wp2_with fail
  go_loopw [8] (fun i wr => ∃ r : Nat, r ≤ n ∧ i = .int .i64 r ∧ Hid (Below w.heap.size w wr)) (fun i _ => n - (intOf i).toNat)
  case atStart => exact ⟨0, Nat.zero_le _, rfl, Lib.hid (Below.refl _ _)⟩
  case round =>
    obtain ⟨r, hr, rfl, HW⟩ := hrel
    by_cases hrn : r < n
    · have hrb : decide ((r : Int) < n) = true := by simp; omega
      obtain ⟨s, hs⟩ : ∃ s, l[r]? = some s := ⟨_, List.getElem?_eq_getElem (by rw [HN.out]; exact hrn)⟩
      obtain ⟨q, hq⟩ : ∃ q, (r + 1) % n = q := ⟨_, rfl⟩
      have hqn : q < n := by rw [← hq]; exact Nat.mod_lt _ (by omega)
      obtain ⟨t, ht⟩ : ∃ t, l[q]? = some t := ⟨_, List.getElem?_eq_getElem (by rw [HN.out]; exact hqn)⟩
      have hst := HCL.out r s t hs (by rw [hq]; exact ht)
      obtain ⟨a, rfl, ha, x0, x1, x2, x3, x4, x5, x6⟩ := (HA.out.keep HW.out).at r s hs
      obtain ⟨a', e', hb, y0, y1, y2, y3, y4, y5, y6⟩ := (HA.out.keep HW.out).at q t ht
      cases e'
      have hqI : (((r : Int) + 1).tmod (n : Int)) = q := by rw [← hq]; exact (Int.ofNat_tmod (r + 1) n).symm
      have hqE : ((r : Int) + 1) % (n : Int) = q := by rw [← hq]; exact (Int.natCast_emod (r + 1) n).symm
      have hnz : ¬ (n : Int) = 0 := by omega
      have hnz' : ((n : Int) == 0) = false := by simp; omega
      have hqb : (q : Int) < n := by omega
      obtain ⟨⟨s0, s1⟩, ⟨s2, s3⟩, ⟨s4, s5⟩, s6⟩ := s
      obtain ⟨⟨t0, t1⟩, ⟨t2, t3⟩, ⟨t4, t5⟩, t6⟩ := t
      simp only [] at x0 x1 x2 x3 x4 x5 x6 y0 y1 y2 y3 y4 y5 y6 hst
      obtain ⟨rfl, rfl⟩ : s4 = t0 ∧ s5 = t1 := by injection hst with h1 h2; exact ⟨h1, h2⟩
      have hal : Below wr.heap.size wr (wr.alloc (.cells #[.int .i64 s0, .int .i64 s1, .int .i64 s2, .int .i64 s3, .int .i64 s4, .int .i64 s5, .bool s6] 40)) := (Below.refl _ wr).alloc (Nat.le_refl _) _
      replace y0 := keepc hal y0
      replace y1 := keepc hal y1
      replace y2 := keepc hal y2
      replace y3 := keepc hal y3
      replace y4 := keepc hal y4
      replace y5 := keepc hal y5
      replace y6 := keepc hal y6
      have HW' := Lib.hid ((HW.out.alloc HW.out.size (.cells #[.int .i64 s0, .int .i64 s1, .int .i64 s2, .int .i64 s3, .int .i64 s4, .int .i64 s5, .bool s6] 40)).alloc (Nat.le_trans HW.out.size (by simp)) (.cells #[.int .i64 s4, .int .i64 s5, .int .i64 t2, .int .i64 t3, .int .i64 t4, .int .i64 t5, .bool t6] 40))
      clear hs ht hq hst hal
      go_wp2_with fail
      exact ⟨⟨r + 1, by omega, by go_num, HW'⟩, by simp [intOf]; omega⟩
    · obtain rfl : r = n := by omega
      go_wp2
      go_ret
      exact ⟨rfl, HW.out⟩

set_option maxHeartbeats 800000 in
theorem closed_one (A : Option Addr) (cap : Nat) (s : Sg) (w : World) (ha : SRd w (.slice A 1 cap) [s]) (hne : s.c.x ≠ s.a.x) :
    Calls Try.prog 15 #[.slice A 1 cap] w fun e w' => e = .returned (.bool false) ∧ Below w.heap.size w w' := by
  obtain ⟨a, rfl, hlt, x0, x1, x2, x3, x4, x5, x6⟩ := ha.at 0 s rfl
  rw [Nat.zero_mul, show a.add 0 = a from rfl] at x0 x1 x2 x3 x4 x5 x6
  obtain ⟨⟨s0, s1⟩, ⟨s2, s3⟩, ⟨s4, s5⟩, s6⟩ := s
  simp only [] at x0 x1 x2 x3 x4 x5 x6 hne
  have hal : Below w.heap.size w (w.alloc (.cells #[.int .i64 s0, .int .i64 s1, .int .i64 s2, .int .i64 s3, .int .i64 s4, .int .i64 s5, .bool s6] 40)) := (Below.refl _ w).alloc (Nat.le_refl _) _
  have y0 := keepc hal x0
  have y1 := keepc hal x1
  have y2 := keepc hal x2
  have y3 := keepc hal x3
  have y4 := keepc hal x4
  have y5 := keepc hal x5
  have y6 := keepc hal x6
  have hb1 : (s4 == s0) = false := by simpa using hne
  clear ha hal
  go_enter Try.func15, Try.ntmps15
  go_wp2_with fail
  go_loopw [8] (fun i wr => i = .int .i64 0 ∧ wr = w) (fun i _ => 1 - (intOf i).toNat)
  case atStart => exact ⟨rfl, rfl⟩
  case round =>
    obtain ⟨rfl, rfl⟩ := hrel
    go_wp2
    go_ret
    exact ⟨rfl, ((Below.refl _ wr).alloc (Nat.le_refl _) _).alloc (by simp) _⟩

end Go.Proofs.Ythipookenpmfpaa
