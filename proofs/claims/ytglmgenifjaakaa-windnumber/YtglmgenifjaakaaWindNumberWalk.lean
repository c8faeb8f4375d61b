/-
  What the law WindNumber does to any world (no claim is made here).
-/
import Derived.Test.YtglmgenifjaakaaWnd6
import Derived.OpenShut
namespace Go.Proofs.Ytglmgenifjaakaa
open Go.RowKit

set_option maxRecDepth 100000 in
set_option maxHeartbeats 6400000 in
theorem windNumber_walk (A : Option Addr) (n cap : Nat) (cs : List (List Dot)) (m p0 p1 : Int) (w : World) (hcs : DotRows w A n cap cs) (hm : 0 ≤ m ∧ m ≤ 65535) (hp0 : (Lit.int .i16 p0).wf = true) (hp1 : (Lit.int .i16 p1).wf = true) :
    Calls Try.prog 3 #[.slice A n cap, .int .u16 m, .agg #[.int .i16 p0, .int .i16 p1]] w fun e w' => e = .returned (.bool true) ∧ Below w.heap.size w w' := by
  have HD := Lib.hid hcs
  have b0 := bounds_i16 hp0
  have b1 := bounds_i16 hp1
  have HP := Lib.hid (show p0.natAbs ≤ 32768 ∧ p1.natAbs ≤ 32768 by omega)
  have HM := Lib.hid (show 0 ≤ m ∧ m < 65536 by omega)
  clear hcs hp0 hp1 b0 b1 hm
  have HB0 := Lib.hid ((Below.refl _ w).alloc (Nat.le_refl _) (.cells #[.int .i16 p0, .int .i16 p1] 26))
  have HP0 := Lib.hid (Blk.new w 26 [.int .i16 p0, .int .i16 p1] rfl)
  go_enter Try.func3, Try.ntmps3
  go_wp2_with fail
  refine (awake7 _).mono ?_
  rintro e w1 ⟨rfl, hb1⟩
  have HP1 := Lib.hid (HP0.out.keep hb1)
  have HB1 := Lib.hid (HB0.out.trans (hb1.mono HB0.out.size))
  have HC := Lib.hid (glyph7 A n cap cs w1 (HD.out.keep HB1.out))
  clear hb1 HP0 HB0 HD
  go_wp2_with fail
  refine HC.out.mono ?_
  rintro e w2 ⟨u, es, rfl, hu, hln, hin, hcl, hb2⟩
  have HP2 := Lib.hid (HP1.out.keep hb2)
  have HB2 := Lib.hid (HB1.out.trans (hb2.mono HB1.out.size))
  have HU := Lib.hid (ERow.read hu)
  have HIN := Lib.hid hin
  have hln2 : es.length ≤ 200000 := by omega
  have HX := Lib.hid (spot_any u es m p0 p1 w2 HU.out hin HM.out HP.out)
  obtain ⟨Au, capu, rfl⟩ := hu.form
  have HLN := Lib.hid hln2
  obtain ⟨N, hN⟩ : ∃ N, es.length = N := ⟨_, rfl⟩
  rw [hN] at HU HX hln
  rw [hN]
  have HN := Lib.hid hN
  have hcu : N ≤ capu := by obtain ⟨_, _, e, h, _⟩ := HU.out; injection e with _ _ e; omega
  have q0 := HP2.out.cell 0 rfl
  have q1 := HP2.out.cell 1 rfl
  have qn := HP2.out.lt
  clear hu hin hcl hb2 HC HB1 hN HP1 hln2
  go_wp2_with fail
  refine HX.out.mono ?_
  rintro e w3 ⟨x, y, rfl, hxy, hb3⟩
  have HB3 := Lib.hid (HB2.out.trans (hb3.mono HB2.out.size))
  have HU3 := Lib.hid (HU.out.keep hb3)
  have HXY := Lib.hid hxy
  clear hb3 HX HB2 HP2 HU q0 q1 qn HM HP hxy
  have HB4 := Lib.hid (HB3.out.alloc HB3.out.size (.cells #[.int .i64 x, .int .i64 y] 31))
  have HQ4 := Lib.hid (Blk.new w3 31 [.int .i64 x, .int .i64 y] rfl)
  have HU4 := Lib.hid (HU3.out.keep ((Below.refl _ w3).alloc (Nat.le_refl _) (.cells #[.int .i64 x, .int .i64 y] 31)))
  clear HU3 HB3
  go_wp2_with fail
  generalize hw4 : w3.alloc (.cells #[.int .i64 x, .int .i64 y] 31) = w4 at *
  generalize hgx : w3.heap.size = gx at *
  have hS0 := S2_blk HQ4.out
  have hSD := S2_drew hS0
  have qn := HQ4.out.lt
  clear hw4 hgx HQ4
  have H1 := Lib.hid (fun w (h : ERd w (.slice Au N capu) es) => number_any _ es x y w h HLN.out HIN.out HXY.out)
  have H2 := Lib.hid (fun w (h : ERd w (.slice Au N capu) es) => lnumber_any _ es x y w h HLN.out HIN.out HXY.out)
  generalize numS es ⟨x, y⟩ = M at *
  go_wp2_with fail
  go_region_held3 (fun wx => wx.cell? ⟨gx, 0, none⟩ = some (.int .i64 x) ∧ wx.cell? ⟨gx, 1, none⟩ = some (.int .i64 y) ∧ Below w4.heap.size w4 wx)
    (with_reducible assumption)
    (first
      | (go_at_call 12; (with_reducible refine (H1.out _ (HU4.out.keep (S2_below (by (repeat (first | with_reducible assumption | with_reducible refine S2_alloc _ ?_ | with_reducible refine S2_drew ?_)))))).mono ?_); rintro e w5 ⟨rfl, hb⟩; have hS5 : w5.cell? ⟨gx, 0, none⟩ = some (.int .i64 x) ∧ w5.cell? ⟨gx, 1, none⟩ = some (.int .i64 y) ∧ Below w4.heap.size w4 w5 := S2_call hb (by (repeat (first | with_reducible assumption | with_reducible refine S2_alloc _ ?_ | with_reducible refine S2_drew ?_))))
      | (go_at_call 13; (with_reducible refine (H2.out _ (HU4.out.keep (S2_below (by (repeat (first | with_reducible assumption | with_reducible refine S2_alloc _ ?_ | with_reducible refine S2_drew ?_)))))).mono ?_); rintro e w6 ⟨rfl, hb⟩; have hS6 : w6.cell? ⟨gx, 0, none⟩ = some (.int .i64 x) ∧ w6.cell? ⟨gx, 1, none⟩ = some (.int .i64 y) ∧ Below w4.heap.size w4 w6 := S2_call hb (by (repeat (first | with_reducible assumption | with_reducible refine S2_alloc _ ?_ | with_reducible refine S2_drew ?_))))
      | fail)
  have HF := Lib.hid (HB4.out.trans (hS6.2.2.mono HB4.out.size))
  clear hS5 hS6 hS0 hSD
  go_wp2_with fail
  go_ret
  exact ⟨rfl, HF.out⟩

end Go.Proofs.Ytglmgenifjaakaa
