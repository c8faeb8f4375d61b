/-
  The walk of punchcutlaw06.FlatTurn (no claim is made here).
-/
import Derived.Test.YtnejdngeeppphaaFlt7
import Derived.BigRegion
import Derived.BigQuiet
namespace Go.Proofs.Ytnejdngeeppphaa
open Go.RowKit

theorem S14_call {w W W' : World} {k m : Nat} {v0 v1 v2 v3 v4 v5 v6 v7 v8 v9 v10 v11 v12 v13 : Value} (hb : Below W.heap.size W W') (hh : W.cell? ⟨k, 0, none⟩ = some v0 ∧ W.cell? ⟨k, 1, none⟩ = some v1 ∧ W.cell? ⟨k, 2, none⟩ = some v2 ∧ W.cell? ⟨k, 3, none⟩ = some v3 ∧ W.cell? ⟨k, 4, none⟩ = some v4 ∧ W.cell? ⟨k, 5, none⟩ = some v5 ∧ W.cell? ⟨k, 6, none⟩ = some v6 ∧ W.cell? ⟨m, 0, none⟩ = some v7 ∧ W.cell? ⟨m, 1, none⟩ = some v8 ∧ W.cell? ⟨m, 2, none⟩ = some v9 ∧ W.cell? ⟨m, 3, none⟩ = some v10 ∧ W.cell? ⟨m, 4, none⟩ = some v11 ∧ W.cell? ⟨m, 5, none⟩ = some v12 ∧ W.cell? ⟨m, 6, none⟩ = some v13 ∧ Below w.heap.size w W) : W'.cell? ⟨k, 0, none⟩ = some v0 ∧ W'.cell? ⟨k, 1, none⟩ = some v1 ∧ W'.cell? ⟨k, 2, none⟩ = some v2 ∧ W'.cell? ⟨k, 3, none⟩ = some v3 ∧ W'.cell? ⟨k, 4, none⟩ = some v4 ∧ W'.cell? ⟨k, 5, none⟩ = some v5 ∧ W'.cell? ⟨k, 6, none⟩ = some v6 ∧ W'.cell? ⟨m, 0, none⟩ = some v7 ∧ W'.cell? ⟨m, 1, none⟩ = some v8 ∧ W'.cell? ⟨m, 2, none⟩ = some v9 ∧ W'.cell? ⟨m, 3, none⟩ = some v10 ∧ W'.cell? ⟨m, 4, none⟩ = some v11 ∧ W'.cell? ⟨m, 5, none⟩ = some v12 ∧ W'.cell? ⟨m, 6, none⟩ = some v13 ∧ Below w.heap.size w W' := by
  obtain ⟨h0, h1, h2, h3, h4, h5, h6, h7, h8, h9, h10, h11, h12, h13, hB⟩ := hh
  exact ⟨keepc hb h0, keepc hb h1, keepc hb h2, keepc hb h3, keepc hb h4, keepc hb h5, keepc hb h6, keepc hb h7, keepc hb h8, keepc hb h9, keepc hb h10, keepc hb h11, keepc hb h12, keepc hb h13, hB.trans (hb.mono hB.size)⟩
theorem S14_alloc {w W : World} {k m : Nat} {v0 v1 v2 v3 v4 v5 v6 v7 v8 v9 v10 v11 v12 v13 : Value} (o : Obj) (hh : W.cell? ⟨k, 0, none⟩ = some v0 ∧ W.cell? ⟨k, 1, none⟩ = some v1 ∧ W.cell? ⟨k, 2, none⟩ = some v2 ∧ W.cell? ⟨k, 3, none⟩ = some v3 ∧ W.cell? ⟨k, 4, none⟩ = some v4 ∧ W.cell? ⟨k, 5, none⟩ = some v5 ∧ W.cell? ⟨k, 6, none⟩ = some v6 ∧ W.cell? ⟨m, 0, none⟩ = some v7 ∧ W.cell? ⟨m, 1, none⟩ = some v8 ∧ W.cell? ⟨m, 2, none⟩ = some v9 ∧ W.cell? ⟨m, 3, none⟩ = some v10 ∧ W.cell? ⟨m, 4, none⟩ = some v11 ∧ W.cell? ⟨m, 5, none⟩ = some v12 ∧ W.cell? ⟨m, 6, none⟩ = some v13 ∧ Below w.heap.size w W) : (W.alloc o).cell? ⟨k, 0, none⟩ = some v0 ∧ (W.alloc o).cell? ⟨k, 1, none⟩ = some v1 ∧ (W.alloc o).cell? ⟨k, 2, none⟩ = some v2 ∧ (W.alloc o).cell? ⟨k, 3, none⟩ = some v3 ∧ (W.alloc o).cell? ⟨k, 4, none⟩ = some v4 ∧ (W.alloc o).cell? ⟨k, 5, none⟩ = some v5 ∧ (W.alloc o).cell? ⟨k, 6, none⟩ = some v6 ∧ (W.alloc o).cell? ⟨m, 0, none⟩ = some v7 ∧ (W.alloc o).cell? ⟨m, 1, none⟩ = some v8 ∧ (W.alloc o).cell? ⟨m, 2, none⟩ = some v9 ∧ (W.alloc o).cell? ⟨m, 3, none⟩ = some v10 ∧ (W.alloc o).cell? ⟨m, 4, none⟩ = some v11 ∧ (W.alloc o).cell? ⟨m, 5, none⟩ = some v12 ∧ (W.alloc o).cell? ⟨m, 6, none⟩ = some v13 ∧ Below w.heap.size w (W.alloc o) := S14_call ((Below.refl _ W).alloc (Nat.le_refl _) o) hh
theorem S14_drew {w W : World} {k m : Nat} {v0 v1 v2 v3 v4 v5 v6 v7 v8 v9 v10 v11 v12 v13 : Value} (hh : W.cell? ⟨k, 0, none⟩ = some v0 ∧ W.cell? ⟨k, 1, none⟩ = some v1 ∧ W.cell? ⟨k, 2, none⟩ = some v2 ∧ W.cell? ⟨k, 3, none⟩ = some v3 ∧ W.cell? ⟨k, 4, none⟩ = some v4 ∧ W.cell? ⟨k, 5, none⟩ = some v5 ∧ W.cell? ⟨k, 6, none⟩ = some v6 ∧ W.cell? ⟨m, 0, none⟩ = some v7 ∧ W.cell? ⟨m, 1, none⟩ = some v8 ∧ W.cell? ⟨m, 2, none⟩ = some v9 ∧ W.cell? ⟨m, 3, none⟩ = some v10 ∧ W.cell? ⟨m, 4, none⟩ = some v11 ∧ W.cell? ⟨m, 5, none⟩ = some v12 ∧ W.cell? ⟨m, 6, none⟩ = some v13 ∧ Below w.heap.size w W) : W.drew.cell? ⟨k, 0, none⟩ = some v0 ∧ W.drew.cell? ⟨k, 1, none⟩ = some v1 ∧ W.drew.cell? ⟨k, 2, none⟩ = some v2 ∧ W.drew.cell? ⟨k, 3, none⟩ = some v3 ∧ W.drew.cell? ⟨k, 4, none⟩ = some v4 ∧ W.drew.cell? ⟨k, 5, none⟩ = some v5 ∧ W.drew.cell? ⟨k, 6, none⟩ = some v6 ∧ W.drew.cell? ⟨m, 0, none⟩ = some v7 ∧ W.drew.cell? ⟨m, 1, none⟩ = some v8 ∧ W.drew.cell? ⟨m, 2, none⟩ = some v9 ∧ W.drew.cell? ⟨m, 3, none⟩ = some v10 ∧ W.drew.cell? ⟨m, 4, none⟩ = some v11 ∧ W.drew.cell? ⟨m, 5, none⟩ = some v12 ∧ W.drew.cell? ⟨m, 6, none⟩ = some v13 ∧ Below w.heap.size w W.drew := by
  obtain ⟨h0, h1, h2, h3, h4, h5, h6, h7, h8, h9, h10, h11, h12, h13, hB⟩ := hh
  exact ⟨h0, h1, h2, h3, h4, h5, h6, h7, h8, h9, h10, h11, h12, h13, hB.drew⟩
theorem S14_blk {W : World} {k m : Nat} {s t : TypeId} {v0 v1 v2 v3 v4 v5 v6 v7 v8 v9 v10 v11 v12 v13 : Value} (h : Blk W k s [v0, v1, v2, v3, v4, v5, v6]) (h' : Blk W m t [v7, v8, v9, v10, v11, v12, v13]) : W.cell? ⟨k, 0, none⟩ = some v0 ∧ W.cell? ⟨k, 1, none⟩ = some v1 ∧ W.cell? ⟨k, 2, none⟩ = some v2 ∧ W.cell? ⟨k, 3, none⟩ = some v3 ∧ W.cell? ⟨k, 4, none⟩ = some v4 ∧ W.cell? ⟨k, 5, none⟩ = some v5 ∧ W.cell? ⟨k, 6, none⟩ = some v6 ∧ W.cell? ⟨m, 0, none⟩ = some v7 ∧ W.cell? ⟨m, 1, none⟩ = some v8 ∧ W.cell? ⟨m, 2, none⟩ = some v9 ∧ W.cell? ⟨m, 3, none⟩ = some v10 ∧ W.cell? ⟨m, 4, none⟩ = some v11 ∧ W.cell? ⟨m, 5, none⟩ = some v12 ∧ W.cell? ⟨m, 6, none⟩ = some v13 := ⟨h.cell 0 rfl, h.cell 1 rfl, h.cell 2 rfl, h.cell 3 rfl, h.cell 4 rfl, h.cell 5 rfl, h.cell 6 rfl, h'.cell 0 rfl, h'.cell 1 rfl, h'.cell 2 rfl, h'.cell 3 rfl, h'.cell 4 rfl, h'.cell 5 rfl, h'.cell 6 rfl⟩

set_option maxRecDepth 100000 in
set_option maxHeartbeats 3200000 in
theorem flatTurn_walk (s0 s1 s2 s3 s4 s5 : Int) (s6 : Bool) (k : Int) (w : World) (hk : 0 ≤ k ∧ k ≤ 255) :
    Calls Try.prog 8 #[.agg #[.int .i64 s0, .int .i64 s1, .int .i64 s2, .int .i64 s3, .int .i64 s4, .int .i64 s5, .bool s6], .int .u8 k] w fun e w' => e = .returned (.bool true) ∧ Below w.heap.size w w' := by
  have HA := Lib.hid awake6
  have HK := Lib.hid (Blk.new w 25 [.int .i64 s0, .int .i64 s1, .int .i64 s2, .int .i64 s3, .int .i64 s4, .int .i64 s5, .bool s6] rfl)
  have HB0 := Lib.hid ((Below.refl _ w).alloc (Nat.le_refl _) (.cells #[.int .i64 s0, .int .i64 s1, .int .i64 s2, .int .i64 s3, .int .i64 s4, .int .i64 s5, .bool s6] 25))
  go_enter Try.func8, Try.ntmps8
  go_wp2_with fail
  refine (HA.out _).mono ?_
  rintro e w2 ⟨rfl, hb2⟩
  have HK2 := Lib.hid (HK.out.keep hb2)
  have HB2 := Lib.hid (HB0.out.trans (hb2.mono HB0.out.size))
  clear hb2 HK HB0
  go_wp2_with fail
  have HC0 : Hid (CSt w (w2.alloc (.cells #[.pointer (some ⟨w.heap.size, 0, none⟩), .pointer (some ⟨w.heap.size, 2, none⟩), .pointer (some ⟨w.heap.size, 4, none⟩)] 27)) w.heap.size w2.heap.size (cutR ⟨⟨s0, s1⟩, ⟨s2, s3⟩, ⟨s4, s5⟩, s6⟩ 0)) := Lib.hid ⟨HK2.out.alloc _, Blk.new w2 27 [.pointer (some ⟨w.heap.size, 0, none⟩), .pointer (some ⟨w.heap.size, 2, none⟩), .pointer (some ⟨w.heap.size, 4, none⟩)] rfl, HB2.out.alloc HB2.out.size _⟩
  have hne : w.heap.size < w2.heap.size := HK2.out.lt
  go_loopw [18] (fun i wr => ∃ r : Nat, r ≤ 3 ∧ i = .int .i64 r ∧ Hid (CSt w wr w.heap.size w2.heap.size (cutR ⟨⟨s0, s1⟩, ⟨s2, s3⟩, ⟨s4, s5⟩, s6⟩ r))) (fun i _ => 3 - (intOf i).toNat)
  case atStart => exact ⟨0, by omega, rfl, HC0⟩
  case round =>
    obtain ⟨r, hr, rfl, HW⟩ := hrel
    clear HC0
    have c0 := HW.out.2.1.cell 0 rfl
    have c1 := HW.out.2.1.cell 1 rfl
    have c2 := HW.out.2.1.cell 2 rfl
    have cz := HW.out.2.1.lt
    have fz := HW.out.1.lt
    have fr := HW.out.1.frozen
    obtain rfl | rfl | rfl | rfl : r = 0 ∨ r = 1 ∨ r = 2 ∨ r = 3 := by omega
    · have d0 := HW.out.1.cell 0 rfl
      have d1 := HW.out.1.cell 1 rfl
      have f0 := fr 0
      have f1 := fr 1
      have HS := Lib.hid (HW.out.step hne (Nat.le_refl _) 0 (.int .i64 (s0.tmod 511)) (.int .i64 (s1.tmod 511)))
      clear fr
      go_wp2_with fail
      go_region
      go_wp2_with fail
      exact ⟨⟨1, by omega, rfl, HS⟩, by simp [intOf]⟩
    · have d0 := HW.out.1.cell 2 rfl
      have d1 := HW.out.1.cell 3 rfl
      have f0 := fr 2
      have f1 := fr 3
      have HS := Lib.hid (HW.out.step hne (Nat.le_refl _) 2 (.int .i64 (s2.tmod 511)) (.int .i64 (s3.tmod 511)))
      clear fr
      go_wp2_with fail
      go_region
      go_wp2_with fail
      exact ⟨⟨2, by omega, rfl, HS⟩, by simp [intOf]⟩
    · have d0 := HW.out.1.cell 4 rfl
      have d1 := HW.out.1.cell 5 rfl
      have f0 := fr 4
      have f1 := fr 5
      have HS := Lib.hid (HW.out.step hne (Nat.le_refl _) 4 (.int .i64 (s4.tmod 511)) (.int .i64 (s5.tmod 511)))
      clear fr
      go_wp2_with fail
      go_region
      go_wp2_with fail
      exact ⟨⟨3, by omega, rfl, HS⟩, by simp [intOf]⟩
    · have HCB := Lib.hid HW.out.2.2
      have HBK := Lib.hid HW.out.1
      obtain ⟨d0, d1, d2, d3, d4, d5, d6⟩ := S7_blk HW.out.1
      have HIN := Lib.hid (cutS_in ⟨⟨s0, s1⟩, ⟨s2, s3⟩, ⟨s4, s5⟩, s6⟩)
      have HTN : Hid (inS (turnS (cutS ⟨⟨s0, s1⟩, ⟨s2, s3⟩, ⟨s4, s5⟩, s6⟩))) := Lib.hid ⟨HIN.out.2.2.2.2.1, HIN.out.2.2.2.2.2, HIN.out.2.2.1, HIN.out.2.2.2.1, HIN.out.1, HIN.out.2.1⟩
      have HE1 := Lib.hid (fun W g h => edges_one (cutS ⟨⟨s0, s1⟩, ⟨s2, s3⟩, ⟨s4, s5⟩, s6⟩) HIN.out g 25 W h)
      have HE2 := Lib.hid (fun W g h => edges_one (turnS (cutS ⟨⟨s0, s1⟩, ⟨s2, s3⟩, ⟨s4, s5⟩, s6⟩)) HTN.out g 25 W h)
      have HTL := Lib.hid (turn_len (cutS ⟨⟨s0, s1⟩, ⟨s2, s3⟩, ⟨s4, s5⟩, s6⟩))
      have HL4 := edgesOf_len (cutS ⟨⟨s0, s1⟩, ⟨s2, s3⟩, ⟨s4, s5⟩, s6⟩)
      obtain ⟨kk, hkk, hk4⟩ : ∃ kk : Nat, k.tmod 5 = (kk : Int) ∧ kk ≤ 4 := ⟨(k.tmod 5).toNat, by have h1 := Int.tmod_nonneg 5 hk.1; omega, by have h1 := Int.tmod_lt_of_pos k (show (0 : Int) < 5 by omega); omega⟩
      obtain ⟨jj, hjj⟩ : ∃ jj : Nat, kk + jj = 4 := ⟨4 - kk, by omega⟩
      have hTO := turn_on (cutS ⟨⟨s0, s1⟩, ⟨s2, s3⟩, ⟨s4, s5⟩, s6⟩) jj kk (by omega)
      obtain ⟨px, hpx⟩ : ∃ x, onX kk (cutX s0) (cutX s2) (cutX s4) = x := ⟨_, rfl⟩
      obtain ⟨py, hpy⟩ : ∃ x, onX kk (cutX s1) (cutX s3) (cutX s5) = x := ⟨_, rfl⟩
      have hx2 : onX jj (cutX s4) (cutX s2) (cutX s0) = px := by have h := congrArg Pt.x hTO; exact h.trans hpx
      have hy2 : onX jj (cutX s5) (cutX s3) (cutX s1) = py := by have h := congrArg Pt.y hTO; exact h.trans hpy
      have HP := Lib.hid (fun w => pon_at (cutX s0) (cutX s1) (cutX s2) (cutX s3) (cutX s4) (cutX s5) s6 kk kk rfl hk4 HIN.out px py hpx hpy w)
      have HQ := Lib.hid (fun w => pon_at (cutX s4) (cutX s5) (cutX s2) (cutX s3) (cutX s0) (cutX s1) s6 jj jj rfl (by omega) HTN.out px py hx2 hy2 w)
      have hkw : IntKind.i64.wrap (kk : Int) = kk := by rw [IntKind.wrap_i64]; omega
      have hjw : IntKind.i64.wrap (4 - (kk : Int)) = jj := by rw [IntKind.wrap_i64]; omega
      have HJW := Lib.hid hjw
      have HKK := Lib.hid (And.intro hkk hkw)
      have HTA := Lib.hid (fun i j e h1 h2 => turn_at (cutS ⟨⟨s0, s1⟩, ⟨s2, s3⟩, ⟨s4, s5⟩, s6⟩) i j e h1 h2)
      generalize hE1 : edgesOf (cutS ⟨⟨s0, s1⟩, ⟨s2, s3⟩, ⟨s4, s5⟩, s6⟩) = E1 at *
      generalize hE2 : edgesOf (turnS (cutS ⟨⟨s0, s1⟩, ⟨s2, s3⟩, ⟨s4, s5⟩, s6⟩)) = E2 at *
      obtain ⟨n, hn⟩ : ∃ n, E1.length = n := ⟨_, rfl⟩
      have HN := Lib.hid hn
      have hn4 : n ≤ 4 := by omega
      have HN2 : Hid (E2.length = n) := Lib.hid (HTL.out.trans hn)
      clear c0 c1 c2 HW fr hpx hpy hx2 hy2 hTO hjj hkk hkw hjw HL4 hE1 hE2 hn
      obtain ⟨wo, rfl⟩ : ∃ x, x = wr := ⟨wr, rfl⟩
      go_wp2_with fail
      have HT1 := Blk.new wo 25 [.int .i64 (cutX s4), .int .i64 (cutX s5), .int .i64 (cutX s2), .int .i64 (cutX s3), .int .i64 (cutX s0), .int .i64 (cutX s1), .bool s6] rfl
      have HS1 := HBK.out.alloc (.cells #[.int .i64 (cutX s4), .int .i64 (cutX s5), .int .i64 (cutX s2), .int .i64 (cutX s3), .int .i64 (cutX s0), .int .i64 (cutX s1), .bool s6] 25)
      have hBw := HCB.out.alloc HCB.out.size (.cells #[.int .i64 (cutX s4), .int .i64 (cutX s5), .int .i64 (cutX s2), .int .i64 (cutX s3), .int .i64 (cutX s0), .int .i64 (cutX s1), .bool s6] 25)
      obtain ⟨ws, hws⟩ : ∃ ws, ws = wo.alloc (.cells #[.int .i64 (cutX s4), .int .i64 (cutX s5), .int .i64 (cutX s2), .int .i64 (cutX s3), .int .i64 (cutX s0), .int .i64 (cutX s1), .bool s6] 25) := ⟨_, rfl⟩
      rw [← hws] at HT1 HS1 hBw ⊢
      have hS0 := S14_blk HS1 HT1
      have HBW := Lib.hid hBw
      obtain ⟨z0, z1, z2, z3, z4, z5, z6, z7, z8, z9, z10, z11, z12, z13⟩ := hS0
      have hD : ws.drew.cell? ⟨w.heap.size, 0, none⟩ = some (.int .i64 (cutX s0)) ∧ ws.drew.cell? ⟨w.heap.size, 1, none⟩ = some (.int .i64 (cutX s1)) ∧ ws.drew.cell? ⟨w.heap.size, 2, none⟩ = some (.int .i64 (cutX s2)) ∧ ws.drew.cell? ⟨w.heap.size, 3, none⟩ = some (.int .i64 (cutX s3)) ∧ ws.drew.cell? ⟨w.heap.size, 4, none⟩ = some (.int .i64 (cutX s4)) ∧ ws.drew.cell? ⟨w.heap.size, 5, none⟩ = some (.int .i64 (cutX s5)) ∧ ws.drew.cell? ⟨w.heap.size, 6, none⟩ = some (.bool s6) ∧ ws.drew.cell? ⟨wo.heap.size, 0, none⟩ = some (.int .i64 (cutX s4)) ∧ ws.drew.cell? ⟨wo.heap.size, 1, none⟩ = some (.int .i64 (cutX s5)) ∧ ws.drew.cell? ⟨wo.heap.size, 2, none⟩ = some (.int .i64 (cutX s2)) ∧ ws.drew.cell? ⟨wo.heap.size, 3, none⟩ = some (.int .i64 (cutX s3)) ∧ ws.drew.cell? ⟨wo.heap.size, 4, none⟩ = some (.int .i64 (cutX s0)) ∧ ws.drew.cell? ⟨wo.heap.size, 5, none⟩ = some (.int .i64 (cutX s1)) ∧ ws.drew.cell? ⟨wo.heap.size, 6, none⟩ = some (.bool s6) ∧ Below ws.heap.size ws ws.drew := ⟨z0, z1, z2, z3, z4, z5, z6, z7, z8, z9, z10, z11, z12, z13, (Below.refl _ _).drew⟩
      have hE : ws.cell? ⟨w.heap.size, 0, none⟩ = some (.int .i64 (cutX s0)) ∧ ws.cell? ⟨w.heap.size, 1, none⟩ = some (.int .i64 (cutX s1)) ∧ ws.cell? ⟨w.heap.size, 2, none⟩ = some (.int .i64 (cutX s2)) ∧ ws.cell? ⟨w.heap.size, 3, none⟩ = some (.int .i64 (cutX s3)) ∧ ws.cell? ⟨w.heap.size, 4, none⟩ = some (.int .i64 (cutX s4)) ∧ ws.cell? ⟨w.heap.size, 5, none⟩ = some (.int .i64 (cutX s5)) ∧ ws.cell? ⟨w.heap.size, 6, none⟩ = some (.bool s6) ∧ ws.cell? ⟨wo.heap.size, 0, none⟩ = some (.int .i64 (cutX s4)) ∧ ws.cell? ⟨wo.heap.size, 1, none⟩ = some (.int .i64 (cutX s5)) ∧ ws.cell? ⟨wo.heap.size, 2, none⟩ = some (.int .i64 (cutX s2)) ∧ ws.cell? ⟨wo.heap.size, 3, none⟩ = some (.int .i64 (cutX s3)) ∧ ws.cell? ⟨wo.heap.size, 4, none⟩ = some (.int .i64 (cutX s0)) ∧ ws.cell? ⟨wo.heap.size, 5, none⟩ = some (.int .i64 (cutX s1)) ∧ ws.cell? ⟨wo.heap.size, 6, none⟩ = some (.bool s6) ∧ Below ws.heap.size ws ws := ⟨z0, z1, z2, z3, z4, z5, z6, z7, z8, z9, z10, z11, z12, z13, Below.refl _ _⟩
      clear hws HT1 HS1 hBw z0 z1 z2 z3 z4 z5 z6 z7 z8 z9 z10 z11 z12 z13 d0 d1 d2 d3 d4 d5 d6 HBK
      go_cut [8, 9] (fun s8 s9 wx => ∃ A1 c1 A2 c2, s8 = .slice A1 n c1 ∧ s9 = .slice A2 n c2 ∧ Hid (ERd wx (.slice A1 n c1) E1) ∧ Hid (ERd wx (.slice A2 n c2) E2) ∧ (wx.cell? ⟨w.heap.size, 0, none⟩ = some (.int .i64 (cutX s0)) ∧ wx.cell? ⟨w.heap.size, 1, none⟩ = some (.int .i64 (cutX s1)) ∧ wx.cell? ⟨w.heap.size, 2, none⟩ = some (.int .i64 (cutX s2)) ∧ wx.cell? ⟨w.heap.size, 3, none⟩ = some (.int .i64 (cutX s3)) ∧ wx.cell? ⟨w.heap.size, 4, none⟩ = some (.int .i64 (cutX s4)) ∧ wx.cell? ⟨w.heap.size, 5, none⟩ = some (.int .i64 (cutX s5)) ∧ wx.cell? ⟨w.heap.size, 6, none⟩ = some (.bool s6) ∧ wx.cell? ⟨wo.heap.size, 0, none⟩ = some (.int .i64 (cutX s4)) ∧ wx.cell? ⟨wo.heap.size, 1, none⟩ = some (.int .i64 (cutX s5)) ∧ wx.cell? ⟨wo.heap.size, 2, none⟩ = some (.int .i64 (cutX s2)) ∧ wx.cell? ⟨wo.heap.size, 3, none⟩ = some (.int .i64 (cutX s3)) ∧ wx.cell? ⟨wo.heap.size, 4, none⟩ = some (.int .i64 (cutX s0)) ∧ wx.cell? ⟨wo.heap.size, 5, none⟩ = some (.int .i64 (cutX s1)) ∧ wx.cell? ⟨wo.heap.size, 6, none⟩ = some (.bool s6) ∧ Below ws.heap.size ws wx))
      case first =>
        go_region_held3 (fun wx => wx.cell? ⟨w.heap.size, 0, none⟩ = some (.int .i64 (cutX s0)) ∧ wx.cell? ⟨w.heap.size, 1, none⟩ = some (.int .i64 (cutX s1)) ∧ wx.cell? ⟨w.heap.size, 2, none⟩ = some (.int .i64 (cutX s2)) ∧ wx.cell? ⟨w.heap.size, 3, none⟩ = some (.int .i64 (cutX s3)) ∧ wx.cell? ⟨w.heap.size, 4, none⟩ = some (.int .i64 (cutX s4)) ∧ wx.cell? ⟨w.heap.size, 5, none⟩ = some (.int .i64 (cutX s5)) ∧ wx.cell? ⟨w.heap.size, 6, none⟩ = some (.bool s6) ∧ wx.cell? ⟨wo.heap.size, 0, none⟩ = some (.int .i64 (cutX s4)) ∧ wx.cell? ⟨wo.heap.size, 1, none⟩ = some (.int .i64 (cutX s5)) ∧ wx.cell? ⟨wo.heap.size, 2, none⟩ = some (.int .i64 (cutX s2)) ∧ wx.cell? ⟨wo.heap.size, 3, none⟩ = some (.int .i64 (cutX s3)) ∧ wx.cell? ⟨wo.heap.size, 4, none⟩ = some (.int .i64 (cutX s0)) ∧ wx.cell? ⟨wo.heap.size, 5, none⟩ = some (.int .i64 (cutX s1)) ∧ wx.cell? ⟨wo.heap.size, 6, none⟩ = some (.bool s6) ∧ Below ws.heap.size ws wx)
          ((repeat (first | with_reducible assumption | with_reducible refine S14_alloc _ ?_ | with_reducible refine S14_drew ?_)))
          (first
            | (go_at_call 13; (refine (HE1.out _ _ ?b1).mono ?_); (case b1 => (first | exact (Blk.new _ _ _ rfl).drew | exact ((Blk.new _ _ _ rfl).alloc _).drew | exact (Blk.new _ _ _ (by simp)).drew | exact Blk.new _ _ _ rfl | exact (Blk.new _ _ _ rfl).alloc _ | exact Blk.new _ _ _ (by simp) | fail)); rintro e w4 ⟨u1, rfl, hu1, hb⟩; have hS4 : w4.cell? ⟨w.heap.size, 0, none⟩ = some (.int .i64 (cutX s0)) ∧ w4.cell? ⟨w.heap.size, 1, none⟩ = some (.int .i64 (cutX s1)) ∧ w4.cell? ⟨w.heap.size, 2, none⟩ = some (.int .i64 (cutX s2)) ∧ w4.cell? ⟨w.heap.size, 3, none⟩ = some (.int .i64 (cutX s3)) ∧ w4.cell? ⟨w.heap.size, 4, none⟩ = some (.int .i64 (cutX s4)) ∧ w4.cell? ⟨w.heap.size, 5, none⟩ = some (.int .i64 (cutX s5)) ∧ w4.cell? ⟨w.heap.size, 6, none⟩ = some (.bool s6) ∧ w4.cell? ⟨wo.heap.size, 0, none⟩ = some (.int .i64 (cutX s4)) ∧ w4.cell? ⟨wo.heap.size, 1, none⟩ = some (.int .i64 (cutX s5)) ∧ w4.cell? ⟨wo.heap.size, 2, none⟩ = some (.int .i64 (cutX s2)) ∧ w4.cell? ⟨wo.heap.size, 3, none⟩ = some (.int .i64 (cutX s3)) ∧ w4.cell? ⟨wo.heap.size, 4, none⟩ = some (.int .i64 (cutX s0)) ∧ w4.cell? ⟨wo.heap.size, 5, none⟩ = some (.int .i64 (cutX s1)) ∧ w4.cell? ⟨wo.heap.size, 6, none⟩ = some (.bool s6) ∧ Below ws.heap.size ws w4 := S14_call hb (by (repeat (first | with_reducible assumption | with_reducible refine S14_alloc _ ?_ | with_reducible refine S14_drew ?_))); (first | (have X2 := Blk.keep (Blk.new _ 25 [.int .i64 (cutX s4), .int .i64 (cutX s5), .int .i64 (cutX s2), .int .i64 (cutX s3), .int .i64 (cutX s0), .int .i64 (cutX s1), .bool s6] rfl).drew hb) | (have X2 := Blk.keep ((Blk.new _ 25 [.int .i64 (cutX s4), .int .i64 (cutX s5), .int .i64 (cutX s2), .int .i64 (cutX s3), .int .i64 (cutX s0), .int .i64 (cutX s1), .bool s6] rfl).alloc _).drew hb) | (have X2 := Blk.keep (Blk.new _ 25 [.int .i64 (cutX s4), .int .i64 (cutX s5), .int .i64 (cutX s2), .int .i64 (cutX s3), .int .i64 (cutX s0), .int .i64 (cutX s1), .bool s6] rfl) hb) | (have X2 := Blk.keep ((Blk.new _ 25 [.int .i64 (cutX s4), .int .i64 (cutX s5), .int .i64 (cutX s2), .int .i64 (cutX s3), .int .i64 (cutX s0), .int .i64 (cutX s1), .bool s6] rfl).alloc _) hb) | skip); obtain ⟨A1, c1, e1⟩ := ERow.form hu1; have HR1 := Lib.hid (ERow.read hu1); subst e1; clear hu1)
            | (go_at_call 13; (refine (HE2.out _ _ ?b2).mono ?_); (case b2 => first | exact X2 | (rw [World.size_alloc] at X2; exact X2) | exact Blk.new _ _ _ rfl | fail); rintro e w5 ⟨u2, rfl, hu2, hb⟩; have hS5 : w5.cell? ⟨w.heap.size, 0, none⟩ = some (.int .i64 (cutX s0)) ∧ w5.cell? ⟨w.heap.size, 1, none⟩ = some (.int .i64 (cutX s1)) ∧ w5.cell? ⟨w.heap.size, 2, none⟩ = some (.int .i64 (cutX s2)) ∧ w5.cell? ⟨w.heap.size, 3, none⟩ = some (.int .i64 (cutX s3)) ∧ w5.cell? ⟨w.heap.size, 4, none⟩ = some (.int .i64 (cutX s4)) ∧ w5.cell? ⟨w.heap.size, 5, none⟩ = some (.int .i64 (cutX s5)) ∧ w5.cell? ⟨w.heap.size, 6, none⟩ = some (.bool s6) ∧ w5.cell? ⟨wo.heap.size, 0, none⟩ = some (.int .i64 (cutX s4)) ∧ w5.cell? ⟨wo.heap.size, 1, none⟩ = some (.int .i64 (cutX s5)) ∧ w5.cell? ⟨wo.heap.size, 2, none⟩ = some (.int .i64 (cutX s2)) ∧ w5.cell? ⟨wo.heap.size, 3, none⟩ = some (.int .i64 (cutX s3)) ∧ w5.cell? ⟨wo.heap.size, 4, none⟩ = some (.int .i64 (cutX s0)) ∧ w5.cell? ⟨wo.heap.size, 5, none⟩ = some (.int .i64 (cutX s1)) ∧ w5.cell? ⟨wo.heap.size, 6, none⟩ = some (.bool s6) ∧ Below ws.heap.size ws w5 := S14_call hb (by (repeat (first | with_reducible assumption | with_reducible refine S14_alloc _ ?_ | with_reducible refine S14_drew ?_))); (first | (have HR1 := Lib.hid (HR1.out.keep hb)) | (have HR1 := Lib.hid ((HR1.out.keep ((Below.refl _ _).alloc (Nat.le_refl _) _)).keep hb))); obtain ⟨A2, c2, e2⟩ := ERow.form hu2; have HR2 := Lib.hid (ERow.read hu2); subst e2; clear hu2)
            | fail)
        all_goals
          go_wp2_with fail
          go_meet
        all_goals exact ⟨A1, c1, A2, c2, by rw [HN.out], by rw [HN2.out], Lib.hid (by have h := HR1.out; rwa [HN.out] at h), Lib.hid (by have h := HR2.out; rwa [HN2.out] at h), hS5⟩
      case rest =>
        obtain ⟨A1, c1, A2, c2, rfl, rfl, HR1, HR2, hS⟩ := hcut
        have HS := Lib.hid hS
        have hc1 : n ≤ c1 := by obtain ⟨_, _, e, h, _⟩ := HR1.out; injection e with _ _ e3; have := HN.out; omega
        have hc2 : n ≤ c2 := by obtain ⟨_, _, e, h, _⟩ := HR2.out; injection e with _ _ e3; have := HN2.out; omega
        clear hD hE hS HE1 HE2
        go_wp2_with fail
        go_loopw [61] (fun i wr => ∃ r : Nat, r ≤ n ∧ i = .int .i64 r ∧ Hid (Below wc.heap.size wc wr)) (fun i _ => n - (intOf i).toNat)
        case atStart => exact ⟨0, Nat.zero_le _, rfl, Lib.hid (Below.refl _ _)⟩
        case round =>
          obtain ⟨r, hr, rfl, HW⟩ := hrel
          by_cases hrn : r < n
          · have hrb : decide ((r : Int) < n) = true := by simp; omega
            obtain ⟨e, he⟩ : ∃ e, E1[r]? = some e := ⟨_, List.getElem?_eq_getElem (by rw [HN.out]; exact hrn)⟩
            obtain ⟨q, hq⟩ : ∃ q, r + q + 1 = n := ⟨n - 1 - r, by omega⟩
            have he2 := HTA.out r q e he (by rw [HN.out]; exact hq)
            obtain ⟨a, rfl, ha, x0, x1, x2, x3⟩ := (HR1.out.keep HW.out).at r e he
            obtain ⟨a', rfl, hb, y0, y1, y2, y3⟩ := (HR2.out.keep HW.out).at q _ he2
            obtain ⟨⟨e0, e1⟩, e2, e3⟩ := e
            simp only [swapE] at x0 x1 x2 x3 y0 y1 y2 y3
            have hqI : (n : Int) - 1 - (r : Int) = (q : Int) := by omega
            have hqn : (q : Int) < n := by omega
            clear he he2 hq
            go_wp2_with fail
            go_quiet (fail)
            have HW' := Lib.hid (belowDN HW.out nq)
            go_wp2_with fail
            exact ⟨⟨r + 1, by omega, by go_num, HW'⟩, by simp [intOf]; omega⟩
          · obtain rfl : r = n := by omega
            have hS2 := S14_call HW.out HS.out
            obtain ⟨wd, rfl⟩ : ∃ x, x = wr := ⟨wr, rfl⟩
            have hD2 := S14_drew hS2
            have HD := Lib.hid dot_one
            have HQ1 := Lib.hid sqrt_one
            obtain ⟨hkk, hkw⟩ := HKK.out
            have hjw := HJW.out
            clear hS2
            go_wp2_with fail
            go_region_held3 (fun wx => wx.cell? ⟨w.heap.size, 0, none⟩ = some (.int .i64 (cutX s0)) ∧ wx.cell? ⟨w.heap.size, 1, none⟩ = some (.int .i64 (cutX s1)) ∧ wx.cell? ⟨w.heap.size, 2, none⟩ = some (.int .i64 (cutX s2)) ∧ wx.cell? ⟨w.heap.size, 3, none⟩ = some (.int .i64 (cutX s3)) ∧ wx.cell? ⟨w.heap.size, 4, none⟩ = some (.int .i64 (cutX s4)) ∧ wx.cell? ⟨w.heap.size, 5, none⟩ = some (.int .i64 (cutX s5)) ∧ wx.cell? ⟨w.heap.size, 6, none⟩ = some (.bool s6) ∧ wx.cell? ⟨wo.heap.size, 0, none⟩ = some (.int .i64 (cutX s4)) ∧ wx.cell? ⟨wo.heap.size, 1, none⟩ = some (.int .i64 (cutX s5)) ∧ wx.cell? ⟨wo.heap.size, 2, none⟩ = some (.int .i64 (cutX s2)) ∧ wx.cell? ⟨wo.heap.size, 3, none⟩ = some (.int .i64 (cutX s3)) ∧ wx.cell? ⟨wo.heap.size, 4, none⟩ = some (.int .i64 (cutX s0)) ∧ wx.cell? ⟨wo.heap.size, 5, none⟩ = some (.int .i64 (cutX s1)) ∧ wx.cell? ⟨wo.heap.size, 6, none⟩ = some (.bool s6) ∧ Below ws.heap.size ws wx)
              (with_reducible assumption)
              (first
                | (go_at_call 10; (with_reducible refine (HP.out _).mono ?_); rintro e w6 ⟨rfl, hb⟩; have hS6 : w6.cell? ⟨w.heap.size, 0, none⟩ = some (.int .i64 (cutX s0)) ∧ w6.cell? ⟨w.heap.size, 1, none⟩ = some (.int .i64 (cutX s1)) ∧ w6.cell? ⟨w.heap.size, 2, none⟩ = some (.int .i64 (cutX s2)) ∧ w6.cell? ⟨w.heap.size, 3, none⟩ = some (.int .i64 (cutX s3)) ∧ w6.cell? ⟨w.heap.size, 4, none⟩ = some (.int .i64 (cutX s4)) ∧ w6.cell? ⟨w.heap.size, 5, none⟩ = some (.int .i64 (cutX s5)) ∧ w6.cell? ⟨w.heap.size, 6, none⟩ = some (.bool s6) ∧ w6.cell? ⟨wo.heap.size, 0, none⟩ = some (.int .i64 (cutX s4)) ∧ w6.cell? ⟨wo.heap.size, 1, none⟩ = some (.int .i64 (cutX s5)) ∧ w6.cell? ⟨wo.heap.size, 2, none⟩ = some (.int .i64 (cutX s2)) ∧ w6.cell? ⟨wo.heap.size, 3, none⟩ = some (.int .i64 (cutX s3)) ∧ w6.cell? ⟨wo.heap.size, 4, none⟩ = some (.int .i64 (cutX s0)) ∧ w6.cell? ⟨wo.heap.size, 5, none⟩ = some (.int .i64 (cutX s1)) ∧ w6.cell? ⟨wo.heap.size, 6, none⟩ = some (.bool s6) ∧ Below ws.heap.size ws w6 := S14_call hb (by with_reducible assumption))
                | (go_at_call 10; (with_reducible refine (HQ.out _).mono ?_); rintro e w7 ⟨rfl, hb⟩; have hS7 : w7.cell? ⟨w.heap.size, 0, none⟩ = some (.int .i64 (cutX s0)) ∧ w7.cell? ⟨w.heap.size, 1, none⟩ = some (.int .i64 (cutX s1)) ∧ w7.cell? ⟨w.heap.size, 2, none⟩ = some (.int .i64 (cutX s2)) ∧ w7.cell? ⟨w.heap.size, 3, none⟩ = some (.int .i64 (cutX s3)) ∧ w7.cell? ⟨w.heap.size, 4, none⟩ = some (.int .i64 (cutX s4)) ∧ w7.cell? ⟨w.heap.size, 5, none⟩ = some (.int .i64 (cutX s5)) ∧ w7.cell? ⟨w.heap.size, 6, none⟩ = some (.bool s6) ∧ w7.cell? ⟨wo.heap.size, 0, none⟩ = some (.int .i64 (cutX s4)) ∧ w7.cell? ⟨wo.heap.size, 1, none⟩ = some (.int .i64 (cutX s5)) ∧ w7.cell? ⟨wo.heap.size, 2, none⟩ = some (.int .i64 (cutX s2)) ∧ w7.cell? ⟨wo.heap.size, 3, none⟩ = some (.int .i64 (cutX s3)) ∧ w7.cell? ⟨wo.heap.size, 4, none⟩ = some (.int .i64 (cutX s0)) ∧ w7.cell? ⟨wo.heap.size, 5, none⟩ = some (.int .i64 (cutX s1)) ∧ w7.cell? ⟨wo.heap.size, 6, none⟩ = some (.bool s6) ∧ Below ws.heap.size ws w7 := S14_call hb (by with_reducible assumption))
                | (go_at_call 20; (with_reducible refine (HD.out _).mono ?_); rintro e w8 ⟨rfl, hb⟩; have hS8 : w8.cell? ⟨w.heap.size, 0, none⟩ = some (.int .i64 (cutX s0)) ∧ w8.cell? ⟨w.heap.size, 1, none⟩ = some (.int .i64 (cutX s1)) ∧ w8.cell? ⟨w.heap.size, 2, none⟩ = some (.int .i64 (cutX s2)) ∧ w8.cell? ⟨w.heap.size, 3, none⟩ = some (.int .i64 (cutX s3)) ∧ w8.cell? ⟨w.heap.size, 4, none⟩ = some (.int .i64 (cutX s4)) ∧ w8.cell? ⟨w.heap.size, 5, none⟩ = some (.int .i64 (cutX s5)) ∧ w8.cell? ⟨w.heap.size, 6, none⟩ = some (.bool s6) ∧ w8.cell? ⟨wo.heap.size, 0, none⟩ = some (.int .i64 (cutX s4)) ∧ w8.cell? ⟨wo.heap.size, 1, none⟩ = some (.int .i64 (cutX s5)) ∧ w8.cell? ⟨wo.heap.size, 2, none⟩ = some (.int .i64 (cutX s2)) ∧ w8.cell? ⟨wo.heap.size, 3, none⟩ = some (.int .i64 (cutX s3)) ∧ w8.cell? ⟨wo.heap.size, 4, none⟩ = some (.int .i64 (cutX s0)) ∧ w8.cell? ⟨wo.heap.size, 5, none⟩ = some (.int .i64 (cutX s1)) ∧ w8.cell? ⟨wo.heap.size, 6, none⟩ = some (.bool s6) ∧ Below ws.heap.size ws w8 := S14_call hb (by with_reducible assumption))
                | (go_at_call 21; (with_reducible refine (HQ1.out _).mono ?_); rintro e w9 ⟨rfl, hb⟩; have hS9 : w9.cell? ⟨w.heap.size, 0, none⟩ = some (.int .i64 (cutX s0)) ∧ w9.cell? ⟨w.heap.size, 1, none⟩ = some (.int .i64 (cutX s1)) ∧ w9.cell? ⟨w.heap.size, 2, none⟩ = some (.int .i64 (cutX s2)) ∧ w9.cell? ⟨w.heap.size, 3, none⟩ = some (.int .i64 (cutX s3)) ∧ w9.cell? ⟨w.heap.size, 4, none⟩ = some (.int .i64 (cutX s4)) ∧ w9.cell? ⟨w.heap.size, 5, none⟩ = some (.int .i64 (cutX s5)) ∧ w9.cell? ⟨w.heap.size, 6, none⟩ = some (.bool s6) ∧ w9.cell? ⟨wo.heap.size, 0, none⟩ = some (.int .i64 (cutX s4)) ∧ w9.cell? ⟨wo.heap.size, 1, none⟩ = some (.int .i64 (cutX s5)) ∧ w9.cell? ⟨wo.heap.size, 2, none⟩ = some (.int .i64 (cutX s2)) ∧ w9.cell? ⟨wo.heap.size, 3, none⟩ = some (.int .i64 (cutX s3)) ∧ w9.cell? ⟨wo.heap.size, 4, none⟩ = some (.int .i64 (cutX s0)) ∧ w9.cell? ⟨wo.heap.size, 5, none⟩ = some (.int .i64 (cutX s1)) ∧ w9.cell? ⟨wo.heap.size, 6, none⟩ = some (.bool s6) ∧ Below ws.heap.size ws w9 := S14_call hb (by with_reducible assumption))
                | fail)
            have HF := Lib.hid (HBW.out.trans (hS9.2.2.2.2.2.2.2.2.2.2.2.2.2.2.mono HBW.out.size))
            clear hS6 hS7 hS8 hS9 hD2
            go_wp2_with fail
            go_ret
            exact ⟨rfl, HF.out⟩

end Go.Proofs.Ytnejdngeeppphaa
