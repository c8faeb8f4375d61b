/-
  The walk of punchcutlaw10.SdfSign, over what the program is to do (no claim is made here).
-/
import Derived.Test.YtlhngelifmjefaaSdf1
import Derived.Test.YtlhngelifmjefaaGrd4
import Derived.Test.YtlhngelifmjefaaGrd5
namespace Go.Proofs.Ytlhngelifmjefaa
open Go.RowKit Go.Shelf

attribute [local go_sem] Oper.semAt_some

set_option maxRecDepth 100000 in
set_option maxHeartbeats 3200000 in
theorem sdfSign_walk (H : SdfOK) (A : Option Addr) (n cap : Nat) (cs : List (List Dot)) (s0 s1 s2 s3 s4 s5 : Int) (w : World) (hcs : DotRows w A n cap cs) (hs : (0 ≤ s0 ∧ s0 ≤ 255) ∧ (0 ≤ s1 ∧ s1 ≤ 255) ∧ (0 ≤ s2 ∧ s2 ≤ 255) ∧ (0 ≤ s3 ∧ s3 ≤ 255) ∧ (0 ≤ s4 ∧ s4 ≤ 255) ∧ (0 ≤ s5 ∧ s5 ≤ 255)) :
    Calls Try.prog 6 #[.slice A n cap, .agg #[.int .u8 s0, .int .u8 s1, .int .u8 s2, .int .u8 s3, .int .u8 s4, .int .u8 s5]] w fun e w' => e = .returned (.bool true) ∧ Below w.heap.size w w' := by
  have HD := Lib.hid hcs
  have HAW := Lib.hid (fun w => awake10 H w)
  obtain ⟨h0, h1, h2, h3, h4, h5⟩ := hs
  have HS := Lib.hid (fun w => sgrid_any s0 s1 s2 s3 s4 s5 h0 h1 h2 h3 h4 h5 w)
  have HB0 := Lib.hid (alloc2 w (.cells #[.int .u8 s0, .int .u8 s1, .int .u8 s2, .int .u8 s3, .int .u8 s4, .int .u8 s5] 24) (.cells #[.bool false] 4))
  have HK0 := Lib.hid ((Blk.new w 24 [.int .u8 s0, .int .u8 s1, .int .u8 s2, .int .u8 s3, .int .u8 s4, .int .u8 s5] rfl).alloc (.cells #[.bool false] 4))
  have HR0 := Lib.hid (Blk.new (w.alloc (.cells #[.int .u8 s0, .int .u8 s1, .int .u8 s2, .int .u8 s3, .int .u8 s4, .int .u8 s5] 24)) 4 [.bool false] (g := w.heap.size + 1) (by simp))
  have hck : checkG (s0 - 128) (s1 - 128) (1 + s2 % 16) (1 + s3 % 10) (1 + s4 % 10) (1 + s5 % 64) = 0 := by unfold checkG; rw [if_neg (by omega), if_neg (by omega)]
  obtain ⟨u, hu⟩ : ∃ u : Nat, 1 + s3 % 10 = u := ⟨(1 + s3 % 10).toNat, by omega⟩
  obtain ⟨v, hv⟩ : ∃ v : Nat, 1 + s4 % 10 = v := ⟨(1 + s4 % 10).toNat, by omega⟩
  rw [hu, hv] at hck HS
  have bu : 1 ≤ u ∧ u ≤ 10 := by omega
  have bv : 1 ≤ v ∧ v ≤ 10 := by omega
  have bx : -128 ≤ s0 - 128 ∧ s0 - 128 ≤ 127 := by omega
  have by' : -128 ≤ s1 - 128 ∧ s1 - 128 ≤ 127 := by omega
  have bp : 1 ≤ 1 + s2 % 16 ∧ 1 + s2 % 16 ≤ 16 := by omega
  have bs : 1 ≤ 1 + s5 % 64 ∧ 1 + s5 % 64 ≤ 64 := by omega
  clear h0 h1 h2 h3 h4 h5 hu hv hcs
  generalize s0 - 128 = x at *
  generalize s1 - 128 = y at *
  generalize 1 + s2 % 16 = p at *
  generalize 1 + s5 % 64 = s at *
  refine (callsIn_wide (n := 4)).1 (callsIn_of_wp_marks Try.func6 rfl trivial (wpIn_wide.2 ?_) rfl)
  simp only [Try.ntmps6, List.size_toArray, List.length_cons, List.length_nil, Nat.reduceAdd, Nat.reduceSub, Array.replicate_succ, Array.replicate_zero, List.push_toArray, List.append_toArray, List.nil_append, List.cons_append]
  go_wp2_with fail
  refine (HAW.out _).mono ?_
  rintro e w1 ⟨rfl, hb⟩
  have HK1 := Lib.hid (HK0.out.keep hb)
  have HR1 := Lib.hid (HR0.out.keep hb)
  have HB1 := Lib.hid (below2 HB0.out hb)
  have HC := Lib.hid (glyph7 A n cap cs w1 (HD.out.keep HB1.out))
  clear hb HK0 HR0 HB0 HD HAW
  go_wp2_with fail
  refine HC.out.mono ?_
  rintro e w2 ⟨U, es, rfl, hU, hln, hin, hcl, hb⟩
  have HK2 := Lib.hid (HK1.out.keep hb)
  have HR2 := Lib.hid (HR1.out.keep hb)
  have HB2 := Lib.hid (below2 HB1.out hb)
  have HU2 := Lib.hid hU.read
  have HIN := Lib.hid hin
  have HCL := Lib.hid hcl
  have hln2 : es.length ≤ 200000 := by omega
  have HLN := Lib.hid hln2
  obtain ⟨Au, capu, rfl⟩ := hU.form
  obtain ⟨N, hN⟩ : ∃ N, es.length = N := ⟨_, rfl⟩
  rw [hN] at HU2
  rw [hN]
  have HN := Lib.hid hN
  clear hb HK1 HR1 HB1 hU hin hcl hln hln2 hN HC
  have HMK := Lib.hid (fun w h => H.make (.slice Au N capu) es x y p s u v w h HLN.out HIN.out hck)
  clear hck
  have hal : Below w2.heap.size w2 (w2.alloc (.cells #[.slice Au N capu] 26)) := (Below.refl _ _).alloc (Nat.le_refl _) _
  have HK3 := Lib.hid (HK2.out.keep hal)
  have HR3 := Lib.hid (HR2.out.keep hal)
  have HU3 := Lib.hid (HU2.out.keep hal)
  have HB3 := Lib.hid (below2 HB2.out hal)
  have HE3 := Lib.hid (Blk.new w2 26 [.slice Au N capu] rfl)
  clear hal HK2 HR2 HU2 HB2
  go_upto_region 4 with fail
  generalize w2.alloc (.cells #[.slice Au N capu] 26) = w3 at *
  generalize w2.heap.size = E at *
  have k0 := HK3.out.cell 0 rfl
  have k1 := HK3.out.cell 1 rfl
  have k2 := HK3.out.cell 2 rfl
  have k3 := HK3.out.cell 3 rfl
  have k4 := HK3.out.cell 4 rfl
  have k5 := HK3.out.cell 5 rfl
  have kl := HK3.out.lt
  go_wp2_with fail
  refine (HS.out _).mono ?_
  rintro e w4 ⟨rfl, hb⟩
  have hal : Below w4.heap.size w4 (w4.alloc (.cells #[.int .i64 x, .int .i64 y, .int .i64 p, .int .i64 u, .int .i64 v, .int .i64 s] 35)) := (Below.refl _ _).alloc (Nat.le_refl _) _
  have HR5 := Lib.hid ((HR3.out.keep hb).keep hal)
  have HU5 := Lib.hid ((HU3.out.keep hb).keep hal)
  have HB5 := Lib.hid (below2 (below2 HB3.out hb) hal)
  have HE5 := Lib.hid ((HE3.out.keep hb).keep hal)
  have HG5 := Lib.hid (Blk.new w4 35 [.int .i64 x, .int .i64 y, .int .i64 p, .int .i64 u, .int .i64 v, .int .i64 s] rfl)
  clear hb hal HK3 HR3 HU3 HB3 HE3 HS k0 k1 k2 k3 k4 k5 kl
  go_upto_region 5 with fail
  generalize w4.alloc (.cells #[.int .i64 x, .int .i64 y, .int .i64 p, .int .i64 u, .int .i64 v, .int .i64 s] 35) = w5 at *
  generalize w4.heap.size = G at *
  have k0 := HG5.out.cell 0 rfl
  have k1 := HG5.out.cell 1 rfl
  have k2 := HG5.out.cell 2 rfl
  have k3 := HG5.out.cell 3 rfl
  have k4 := HG5.out.cell 4 rfl
  have k5 := HG5.out.cell 5 rfl
  have kl := HG5.out.lt
  have e0 := HE5.out.cell 0 rfl
  have el := HE5.out.lt
  go_wp2_with fail
  refine (HMK.out _ HU5.out).mono ?_
  rintro e w6 ⟨V, rfl, hV, hb⟩
  obtain ⟨Av, capv, rfl⟩ := hV.form
  obtain ⟨L, hL⟩ : ∃ L, (fldN es x y p s u (u * v)).length = L := ⟨_, rfl⟩
  have HLU := Lib.hid (show L = u * v by rw [← hL]; exact fldN_length _ _ _ _ _ _ _)
  rw [hL] at hV ⊢
  have hal : Below w6.heap.size w6 (w6.alloc (.cells #[.int .i64 u, .int .i64 v, .slice Av L capv] 30)) := (Below.refl _ _).alloc (Nat.le_refl _) _
  have HR7 := Lib.hid ((HR5.out.keep hb).keep hal)
  have HU7 := Lib.hid ((HU5.out.keep hb).keep hal)
  have HB7 := Lib.hid (below2 (below2 HB5.out hb) hal)
  have HE7 := Lib.hid ((HE5.out.keep hb).keep hal)
  have HG7 := Lib.hid ((HG5.out.keep hb).keep hal)
  have HV7 := Lib.hid (hV.keep hal)
  have HF7 := Lib.hid (Blk.new w6 30 [.int .i64 u, .int .i64 v, .slice Av L capv] rfl)
  clear hb hal HR5 HU5 HB5 HE5 HG5 hV hL HMK k0 k1 k2 k3 k4 k5 kl e0 el
  go_upto_region 6 with fail
  generalize w6.alloc (.cells #[.int .i64 u, .int .i64 v, .slice Av L capv] 30) = w7 at *
  generalize w6.heap.size = F at *
  have k0 := HG7.out.cell 0 rfl
  have k1 := HG7.out.cell 1 rfl
  have k2 := HG7.out.cell 2 rfl
  have k3 := HG7.out.cell 3 rfl
  have k4 := HG7.out.cell 4 rfl
  have k5 := HG7.out.cell 5 rfl
  have kl := HG7.out.lt
  have f2 := HF7.out.cell 2 rfl
  have fl := HF7.out.lt
  have hUw : IntKind.i64.wrap ((u : Int) * v) = (L : Int) := by rw [HLU.out, Int.natCast_mul]; exact wI (by have := Nat.mul_le_mul bu.2 bv.2; omega) (by have := Nat.mul_le_mul bu.2 bv.2; omega)
  have HEC := Lib.hid (fun w => each_any x y p u v s w)
  go_wp2_with fail
  refine (HEC.out _).mono ?_
  rintro e w8 ⟨rfl, rfl⟩
  have hal : Below w7.heap.size w7 (w7.alloc (.cells #[.int .i64 x, .int .i64 y, .int .i64 p, .int .i64 u, .int .i64 v, .int .i64 s] 35)) := (Below.refl _ _).alloc (Nat.le_refl _) _
  have HR8 := Lib.hid (HR7.out.keep hal)
  have HU8 := Lib.hid (HU7.out.keep hal)
  have HB8 := Lib.hid (below2 HB7.out hal)
  have HE8 := Lib.hid (HE7.out.keep hal)
  have HG8 := Lib.hid (HG7.out.keep hal)
  have HV8 := Lib.hid (HV7.out.keep hal)
  have HF8 := Lib.hid (HF7.out.keep hal)
  have hE1 := Blk.new w7 35 [.int .i64 x, .int .i64 y, .int .i64 p, .int .i64 u, .int .i64 v, .int .i64 s] rfl
  clear hal HR7 HU7 HB7 HE7 HG7 HV7 HF7 k0 k1 k2 k3 k4 k5 kl f2 fl HEC
  go_wp2_with fail
  generalize w7.alloc (.cells #[.int .i64 x, .int .i64 y, .int .i64 p, .int .i64 u, .int .i64 v, .int .i64 s] 35) = w8 at *
  generalize w7.heap.size = B at *
  have HSQ := each_stops_in Fence.wide 3 trivial rfl (by decide) B u v x y p s (by omega) (by omega) w8 hE1
  refine (wpIn_wide (n := 4)).1 (wpIn_rangeFunc_ownF rfl (by decide) (gf := 31) (lb := #[.pointer (some ⟨B, 0, none⟩)]) rfl trivial (enters_of Try.func31 (by kernel_rfl) rfl)
    HSQ KeepB.t (KeepB.b hE1.lt) (Below.refl _ _) (fun _ => rfl)
    (fun _ W => Below w8.heap.size w8 W) (fun _ _ _ => False) (ownFrom_below (Nat.le_refl _) (Nat.le_refl _)) (fun _ _ _ _ _ hs _ _ => hs) (Below.refl _ _)
    (fun q => { tmps := #[.slice A n cap, .agg #[.int .u8 s0, .int .u8 s1, .int .u8 s2, .int .u8 s3, .int .u8 s4, .int .u8 s5], undef, .pointer (some ⟨w.heap.size, 0, none⟩), .pointer (some ⟨w.heap.size + 1, 0, none⟩), .pointer (some ⟨E, 0, none⟩), .pointer (some ⟨G, 0, none⟩), .pointer (some ⟨F, 0, none⟩), .int .i64 0, .int .i64 q.1.1, .int .i64 q.1.2, undef, undef, .bool true, .bool false, .slice A n cap, .slice Au N capu, .agg #[.int .u8 s0, .int .u8 s1, .int .u8 s2, .int .u8 s3, .int .u8 s4, .int .u8 s5], .agg #[.int .i64 x, .int .i64 y, .int .i64 p, .int .i64 u, .int .i64 v, .int .i64 s], .tuple #[.agg #[.int .i64 u, .int .i64 v, .slice Av L capv], .int .i64 0], .slice Au N capu, .agg #[.int .i64 x, .int .i64 y, .int .i64 p, .int .i64 u, .int .i64 v, .int .i64 s], .tuple #[.agg #[.int .i64 u, .int .i64 v, .slice Av L capv], .int .i64 0], .agg #[.int .i64 u, .int .i64 v, .slice Av L capv], .int .i64 0, .int .i64 0, .bool false, .bool false, .pointer (some ⟨F, 2, none⟩), .slice Av L capv, .int .i64 L, .pointer (some ⟨G, 3, none⟩), .int .i64 u, .pointer (some ⟨G, 4, none⟩), .int .i64 v, .int .i64 L, .bool false, .bool false, .agg #[.int .i64 x, .int .i64 y, .int .i64 p, .int .i64 u, .int .i64 v, .int .i64 s], .func (.func 31) #[] #[.pointer (some ⟨B, 0, none⟩)], .int .i64 q.1.1, .int .i64 q.1.2, undef, undef, undef, undef, undef, undef, undef, undef, undef, undef, undef, undef, undef, undef, undef, undef, undef, undef, undef, undef, undef, undef, undef, undef, undef, undef, undef, undef, undef], defers := [] }) ?assign ?body ?done ?stop)
  case assign =>
    intro l q W K hK
    gi_wp2
    exact hK
  case body =>
    clear HSQ
    rintro l pre ⟨⟨i, k⟩, hi, hk⟩ W hW _
    simp only [] at hi hk
    have hBl := hE1.lt
    have f2 := (HF8.out.keep hW).cell 2 rfl
    have fl := (HF8.out.keep hW).lt
    have g3 := (HG8.out.keep hW).cell 3 rfl
    have gl := (HG8.out.keep hW).lt
    have hj : k * u + i < u * v := by
      have := Nat.mul_le_mul_right u (show k + 1 ≤ v by omega)
      rw [Nat.add_mul, Nat.mul_comm v u] at this
      omega
    have hat := fldN_at es x y p s u (u * v) (k * u + i) hj
    rw [show (k * u + i) % u = i by rw [Nat.mul_comm, Nat.mul_add_mod]; exact Nat.mod_eq_of_lt hi, show (k * u + i) / u = k by rw [Nat.mul_comm, Nat.mul_add_div (by omega), Nat.div_eq_of_lt hi]; rfl] at hat
    obtain ⟨hLL, a, rfl, ha, hbyte⟩ := (HV8.out.keep hW).byte _ hat
    obtain ⟨z, hz⟩ : ∃ z, k * u = z := ⟨_, rfl⟩
    have hzb : z ≤ 100 := by rw [← hz]; exact Nat.mul_le_mul (show k ≤ 10 by omega) (show u ≤ 10 by omega)
    have hzw : IntKind.i64.wrap ((k : Int) * u) = (z : Int) := by rw [← hz, Int.natCast_mul]; exact wI (by have := hzb; rw [← Int.natCast_mul]; omega) (by rw [← Int.natCast_mul]; omega)
    rw [hz] at hbyte hj
    obtain ⟨j, hjz⟩ : ∃ j : Nat, z + i = j := ⟨_, rfl⟩
    have hjw : IntKind.i64.wrap ((z : Int) + i) = (j : Int) := by rw [← hjz, Int.natCast_add]; exact wI (by omega) (by omega)
    have hjL : j < L := by rw [HLU.out]; omega
    rw [hjz] at hbyte
    have hTX := texN_is es s (midP x y p i k) bs.1
    have hSG := texG_sign es s (midP x y p i k) bs.1
    rw [← hTX] at hSG
    have hpm := mid_in x y p i k (by omega) (by omega) bp (by omega) (by omega)
    have HCE := Lib.hid (fun w => centre_any x y p u v s i k (by omega) (by omega) (by omega) (by omega) (by omega) w)
    have HUW := Lib.hid (HU8.out.keep hW)
    have HNI := Lib.hid (fun w h => in_any (.slice Au N capu) es (midG x p i) (midG y p k) w h HLN.out HIN.out hpm)
    obtain ⟨inb, hinb⟩ : ∃ b : Bool, (!(numS es ⟨midG x p i, midG y p k⟩ == 0) || onS es ⟨midG x p i, midG y p k⟩) = b := ⟨_, rfl⟩
    rw [hinb] at HNI
    have HSG : Hid ((inb = true → 128 ≤ texN es s (midP x y p i k)) ∧ (inb = false → texN es s (midP x y p i k) ≤ 128)) := Lib.hid (by
      unfold midP at hSG ⊢
      constructor
      · intro h
        rw [h] at hinb
        have := hSG.1 (by simpa using hinb)
        omega
      · intro h
        rw [h] at hinb
        have := hSG.2 (by simpa using hinb)
        omega)
    have e0 := (HE8.out.keep hW).cell 0 rfl
    have el := (HE8.out.keep hW).lt
    have g0 := (HG8.out.keep hW).cell 0 rfl
    have g1 := (HG8.out.keep hW).cell 1 rfl
    have g2 := (HG8.out.keep hW).cell 2 rfl
    have g4 := (HG8.out.keep hW).cell 4 rfl
    have g5 := (HG8.out.keep hW).cell 5 rfl
    have HWW := Lib.hid hW
    generalize texN es s (midP x y p i k) = T at *
    generalize midG x p i = mx at *
    generalize midG y p k = my at *
    have HKO := Lib.hid (fun W' (h : Below W.heap.size W W') => KeepsOthers.mk h.size (fun k o hk _ => (h.block k (Array.getElem?_eq_some_iff.1 hk).1).trans hk))
    have HBW := Lib.hid (Nat.lt_of_lt_of_le hBl hW.size)
    clear hTX hat hj hz hjz hLL hinb hSG hpm hW hE1
    have hmx : Try.prog.follows .mixedOrders = true := by kernel_rfl
    gi_wp2
    gi_region_with_o (first
      | (refine ⟨trivial, ?_⟩; gi_at_call 21; (with_reducible refine (CallsIn.inRound l (callsIn_wide.2 (HCE.out _))).mono ?_); rintro e wq ⟨rfl, hq⟩; replace hq := undrew0 hq; have HUq := Lib.hid (HUW.out.keep hq); have e0q := Go.Proofs.Ytlhngelifmjefaa.keep hq e0; have elq := Nat.lt_of_lt_of_le el hq.size; have HWq := Lib.hid (below2 HWW.out hq); have HKq := Lib.hid hq)
      | (refine ⟨trivial, ?_⟩; gi_at_call 20; (with_reducible refine (CallsIn.inRound l (callsIn_wide.2 (HNI.out _ HUq.out))).mono ?_); rintro e wz ⟨rfl, hz⟩; have HWz := Lib.hid (below2 HWq.out hz); have HKz := Lib.hid (below2 HKq.out hz)))
    all_goals (
      obtain ⟨hs1, hs2⟩ := HSG.out
      clear HSG
      cases inb
      · have hT := hs2 rfl
        clear hs1 hs2
        gi_wp2
        exact ⟨HKO.out _ HKz.out, (HKz.out.block B HBW.out), HWz.out⟩
      · have hT := hs1 rfl
        clear hs1 hs2
        gi_wp2
        exact ⟨HKO.out _ HKz.out, (HKz.out.block B HBW.out), HWz.out⟩)
  case done =>
    rintro D ys W hD - hW hK
    have hDl := (Array.getElem?_eq_some_iff.1 hK).1
    have rl8 := HR8.out.lt
    have bl8 := HB8.out.size
    clear hE1 HSQ
    have hr := HR8.out.keep hW
    have hB := below2 HB8.out hW
    have r0 := hr.cell 0 rfl
    have rf := hr.frozen 0
    have hR := Lib.hid (hr.set 0 (.bool true))
    have hBB := Lib.hid (hB.setCell (p := ⟨w.heap.size + 1, 0, none⟩) (show w.heap.size ≤ w.heap.size + 1 by omega) (.bool true))
    have HKK : Hid ((W.setCell ⟨w.heap.size + 1, 0, none⟩ (.bool true)).heap[D]? = some (.deferred (some []))) := Lib.hid ((heap_set W ⟨w.heap.size + 1, 0, none⟩ (.bool true) D (show D ≠ w.heap.size + 1 by omega)).trans hK)
    go_wp2_with fail
    refine ⟨by simp, .inl ⟨_, _, rfl, run_takeDeferred HKK.out, ?_⟩⟩
    have hcc := cell_kept (hR.out.cell 0 rfl) (grownBy_putObj' _ D (.deferred none)) (fun r e => by cases e; exact ⟨_, HKK.out, rfl⟩)
    refine ⟨.bool true, ?_, rfl, hBB.out.trans (belowK_b (w := w) (Nat.le_refl _) _ D _ _ (by omega) HKK.out rfl rfl)⟩
    simp [results, Try.f6, go_sem, hcc]
  case stop =>
    rintro D c pre W _ _ h _
    exact h.elim

end Go.Proofs.Ytlhngelifmjefaa
