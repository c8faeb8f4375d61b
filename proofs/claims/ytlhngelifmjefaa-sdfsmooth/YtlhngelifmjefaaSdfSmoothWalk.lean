/-
  The walk of punchcutlaw10.SdfSmooth, over what the program is to do (no claim is made here).
-/
import Derived.Test.YtlhngelifmjefaaSdf1
import Derived.Test.YtlhngelifmjefaaGrd4
import Derived.Test.YtlhngelifmjefaaGrd5
namespace Go.Proofs.Ytlhngelifmjefaa
open Go.RowKit Go.Shelf

/-- A row of bytes that is ours, as numbers that are read. -/
theorem BRow.btrd {w : World} {base n cap : Nat} {A : Option Addr} {bs : List Nat} (h : BRow w base (.slice A n cap) bs) : BtRd w A (bs.map fun (m : Nat) => (m : Int)) := by
  intro i hi
  rw [List.length_map] at hi
  obtain ⟨_, a, e, _, hc⟩ := h.byte i (List.getElem?_eq_getElem hi)
  exact ⟨a, e, by rw [hc, List.getElem_map]⟩

/-- A texel beside a texel. -/
theorem smooth_at {es : List Ed} {ls : List (List Ed)} (he : es = ls.flatten) (hw : ∀ l ∈ ls, ∃ q, Way q l q) (hin : ∀ s ∈ es, InD s) {x y p s : Int} {u v i k : Nat} (hx : x.natAbs ≤ 300) (hy : y.natAbs ≤ 300) (hp : 1 ≤ p ∧ p ≤ 16) (hs : 1 ≤ s) (hu : u ≤ 24) (hv : v ≤ 24) (hi : i < u) (_ : k < v)
    (a b : Nat) (hab : (a = 1 ∧ b = 0) ∨ (a = 0 ∧ b = 1)) {o : Option Int} {i' k' : Int} (hi' : i' = i + a) (hk' : k' = k + b) (ho : atG u v ((fldN es x y p s u (u * v)).map fun (m : Nat) => (m : Int)) i' k' = o) :
    (0 ≤ o.getD 0 ∧ o.getD 0 ≤ 255) ∧ (o.isSome = true → o.getD 0 - (texN es s (midP x y p i k) : Nat) ≤ 127 * p / s + 4 ∧ (texN es s (midP x y p i k) : Nat) - o.getD 0 ≤ 127 * p / s + 4) := by
  subst hi' hk'
  by_cases hc : (i : Int) + a < 0 ∨ (k : Int) + b < 0 ∨ (u : Int) ≤ i + a ∨ (v : Int) ≤ k + b
  · unfold atG at ho
    rw [if_pos hc] at ho
    subst ho
    simp
  · unfold atG at ho
    rw [if_neg hc] at ho
    have hj : (k + b) * u + (i + a) < u * v := by
      have := Nat.mul_le_mul_right u (show k + b + 1 ≤ v by omega)
      rw [Nat.add_mul, Nat.mul_comm v u] at this
      omega
    have hat := fldN_at es x y p s u (u * v) ((k + b) * u + (i + a)) hj
    rw [show ((k + b) * u + (i + a)) % u = i + a by rw [Nat.mul_comm, Nat.mul_add_mod]; exact Nat.mod_eq_of_lt (by omega), show ((k + b) * u + (i + a)) / u = k + b by rw [Nat.mul_comm, Nat.mul_add_div (by omega), Nat.div_eq_of_lt (by omega)]; rfl] at hat
    rw [show (((k : Int) + b) * u + (i + a)).toNat = (k + b) * u + (i + a) by rw [show ((k : Int) + b) * u + (i + a) = (((k + b) * u + (i + a) : Nat) : Int) by push_cast; rfl]; exact Int.toNat_natCast _, List.getElem?_map, hat] at ho
    subst ho
    simp only [Option.map_some, Option.getD_some]
    have h1 := texN_lt es s (midP x y p (i + a : Nat) (k + b : Nat)) hs
    have e1 := texN_is es s (midP x y p (i + a : Nat) (k + b : Nat)) hs
    have e2 := texN_is es s (midP x y p i k) hs
    refine ⟨by omega, fun _ => ?_⟩
    rw [e1, e2]
    have m1 : InP (midP x y p i k) := mid_in x y p i k hx hy hp (by omega) (by omega)
    have m2 : InP (midP x y p (i + a : Nat) (k + b : Nat)) := mid_in x y p (i + a : Nat) (k + b : Nat) hx hy hp (by omega) (by omega)
    have f1 := fit_of hin m1
    have f2 := fit_of hin m2
    subst he
    have h := tex_smooth (s := s) hw (x := midG x p i) (y := midG y p k) (g := p) hp.1 hs (p := midP x y p i k) (q := midP x y p (i + a : Nat) (k + b : Nat)) rfl
      (by
        rcases hab with ⟨rfl, rfl⟩ | ⟨rfl, rfl⟩
        · left
          unfold midP midG
          simp only [Nat.add_zero]
          congr 1
          push_cast
          grind
        · right
          unfold midP midG
          simp only [Nat.add_zero]
          congr 1
          push_cast
          grind) f1 f2
    exact ⟨h.2, h.1⟩

attribute [local go_sem] Oper.semAt_some

set_option maxRecDepth 100000 in
set_option maxHeartbeats 3200000 in
theorem sdfSmooth_walk (H : SdfOK) (A : Option Addr) (n cap : Nat) (cs : List (List Dot)) (s0 s1 s2 s3 s4 s5 : Int) (w : World) (hcs : DotRows w A n cap cs) (hs : (0 ≤ s0 ∧ s0 ≤ 255) ∧ (0 ≤ s1 ∧ s1 ≤ 255) ∧ (0 ≤ s2 ∧ s2 ≤ 255) ∧ (0 ≤ s3 ∧ s3 ≤ 255) ∧ (0 ≤ s4 ∧ s4 ≤ 255) ∧ (0 ≤ s5 ∧ s5 ≤ 255)) :
    Calls Try.prog 7 #[.slice A n cap, .agg #[.int .u8 s0, .int .u8 s1, .int .u8 s2, .int .u8 s3, .int .u8 s4, .int .u8 s5]] w fun e w' => e = .returned (.bool true) ∧ Below w.heap.size w w' := by
  have HD := Lib.hid hcs
  have HAW := Lib.hid (fun w => awake10 H w)
  obtain ⟨h0, h1, h2, h3, h4, h5⟩ := hs
  have HS := Lib.hid (fun w => sgrid_any s0 s1 s2 s3 s4 s5 h0 h1 h2 h3 h4 h5 w)
  have HB0 := Lib.hid (alloc2 w (.cells #[.int .u8 s0, .int .u8 s1, .int .u8 s2, .int .u8 s3, .int .u8 s4, .int .u8 s5] 24) (.cells #[.bool false] 4))
  have HK0 := Lib.hid ((Blk.new w 24 [.int .u8 s0, .int .u8 s1, .int .u8 s2, .int .u8 s3, .int .u8 s4, .int .u8 s5] rfl).alloc (.cells #[.bool false] 4))
  have HR0 := Lib.hid (Blk.new (w.alloc (.cells #[.int .u8 s0, .int .u8 s1, .int .u8 s2, .int .u8 s3, .int .u8 s4, .int .u8 s5] 24)) 4 [.bool false] (g := w.heap.size + 1) (by simp))
  have hck : checkG (s0 - 128) (s1 - 128) (1 + s2 % 16) (1 + s3 % 10) (1 + s4 % 10) (1 + s5 % 64) = 0 := by unfold checkG; rw [if_neg (by omega), if_neg (by omega)]
  obtain ⟨u, hu⟩ : ∃ u : Nat, 1 + s3 % 10 = u := ⟨(1 + s3 % 10).toNat, by omega⟩
  obtain ⟨v, hv⟩ : ∃ v : Nat, 1 + s4 % 10 = v := ⟨(1 + s4 % 10).toNat, by omega⟩
  rw [hu, hv] at hck HS
  have bu : 1 ≤ u ∧ u ≤ 10 := by omega
  have bv : 1 ≤ v ∧ v ≤ 10 := by omega
  have bx : -128 ≤ s0 - 128 ∧ s0 - 128 ≤ 127 := by omega
  have by' : -128 ≤ s1 - 128 ∧ s1 - 128 ≤ 127 := by omega
  have bp : 1 ≤ 1 + s2 % 16 ∧ 1 + s2 % 16 ≤ 16 := by omega
  have bs : 1 ≤ 1 + s5 % 64 ∧ 1 + s5 % 64 ≤ 64 := by omega
  clear h0 h1 h2 h3 h4 h5 hu hv hcs
  generalize s0 - 128 = x at *
  generalize s1 - 128 = y at *
  generalize 1 + s2 % 16 = p at *
  generalize 1 + s5 % 64 = s at *
  refine (callsIn_wide (n := 4)).1 (callsIn_of_wp_marks Try.func7 rfl trivial (wpIn_wide.2 ?_) rfl)
  simp only [Try.ntmps7, List.size_toArray, List.length_cons, List.length_nil, Nat.reduceAdd, Nat.reduceSub, Array.replicate_succ, Array.replicate_zero, List.push_toArray, List.append_toArray, List.nil_append, List.cons_append]
  go_wp2_with fail
  refine (HAW.out _).mono ?_
  rintro e w1 ⟨rfl, hb⟩
  have HK1 := Lib.hid (HK0.out.keep hb)
  have HR1 := Lib.hid (HR0.out.keep hb)
  have HB1 := Lib.hid (below2 HB0.out hb)
  have HC := Lib.hid (glyph7 A n cap cs w1 (HD.out.keep HB1.out))
  clear hb HK0 HR0 HB0 HD HAW
  go_wp2_with fail
  refine HC.out.mono ?_
  rintro e w2 ⟨U, es, rfl, hU, hln, hin, hcl, hb⟩
  have HK2 := Lib.hid (HK1.out.keep hb)
  have HR2 := Lib.hid (HR1.out.keep hb)
  have HB2 := Lib.hid (below2 HB1.out hb)
  have HU2 := Lib.hid hU.read
  have HIN := Lib.hid hin
  have HCL := Lib.hid hcl
  have hln2 : es.length ≤ 200000 := by omega
  have HLN := Lib.hid hln2
  obtain ⟨Au, capu, rfl⟩ := hU.form
  obtain ⟨N, hN⟩ : ∃ N, es.length = N := ⟨_, rfl⟩
  rw [hN] at HU2
  rw [hN]
  have HN := Lib.hid hN
  clear hb HK1 HR1 HB1 hU hin hcl hln hln2 hN HC
  have HMK := Lib.hid (fun w h => H.make (.slice Au N capu) es x y p s u v w h HLN.out HIN.out hck)
  clear hck
  have HK3 := HK2
  have HR3 := HR2
  have HU3 := HU2
  have HB3 := HB2
  clear HK2 HR2 HU2 HB2
  have k0 := HK3.out.cell 0 rfl
  have k1 := HK3.out.cell 1 rfl
  have k2 := HK3.out.cell 2 rfl
  have k3 := HK3.out.cell 3 rfl
  have k4 := HK3.out.cell 4 rfl
  have k5 := HK3.out.cell 5 rfl
  have kl := HK3.out.lt
  go_wp2_with fail
  refine (HS.out _).mono ?_
  rintro e w4 ⟨rfl, hb⟩
  have hal : Below w4.heap.size w4 (w4.alloc (.cells #[.int .i64 x, .int .i64 y, .int .i64 p, .int .i64 u, .int .i64 v, .int .i64 s] 35)) := (Below.refl _ _).alloc (Nat.le_refl _) _
  have HR5 := Lib.hid ((HR3.out.keep hb).keep hal)
  have HU5 := Lib.hid ((HU3.out.keep hb).keep hal)
  have HB5 := Lib.hid (below2 (below2 HB3.out hb) hal)
  have HG5 := Lib.hid (Blk.new w4 35 [.int .i64 x, .int .i64 y, .int .i64 p, .int .i64 u, .int .i64 v, .int .i64 s] rfl)
  clear hb hal HK3 HR3 HU3 HB3 HS k0 k1 k2 k3 k4 k5 kl
  go_upto_region 5 with fail
  generalize w4.alloc (.cells #[.int .i64 x, .int .i64 y, .int .i64 p, .int .i64 u, .int .i64 v, .int .i64 s] 35) = w5 at *
  generalize w4.heap.size = G at *
  have k0 := HG5.out.cell 0 rfl
  have k1 := HG5.out.cell 1 rfl
  have k2 := HG5.out.cell 2 rfl
  have k3 := HG5.out.cell 3 rfl
  have k4 := HG5.out.cell 4 rfl
  have k5 := HG5.out.cell 5 rfl
  have kl := HG5.out.lt
  go_wp2_with fail
  refine (HMK.out _ HU5.out).mono ?_
  rintro e w6 ⟨V, rfl, hV, hb⟩
  obtain ⟨Av, capv, rfl⟩ := hV.form
  obtain ⟨L, hL⟩ : ∃ L, (fldN es x y p s u (u * v)).length = L := ⟨_, rfl⟩
  have HLU := Lib.hid (show L = u * v by rw [← hL]; exact fldN_length _ _ _ _ _ _ _)
  rw [hL] at hV ⊢
  have hal : Below w6.heap.size w6 (w6.alloc (.cells #[.int .i64 u, .int .i64 v, .slice Av L capv] 30)) := (Below.refl _ _).alloc (Nat.le_refl _) _
  have HR7 := Lib.hid ((HR5.out.keep hb).keep hal)
  have HU7 := Lib.hid ((HU5.out.keep hb).keep hal)
  have HB7 := Lib.hid (below2 (below2 HB5.out hb) hal)
  have HG7 := Lib.hid ((HG5.out.keep hb).keep hal)
  have HV7 := Lib.hid (hV.keep hal)
  have HF7 := Lib.hid (Blk.new w6 30 [.int .i64 u, .int .i64 v, .slice Av L capv] rfl)
  clear hb hal HR5 HU5 HB5 HG5 hV hL HMK k0 k1 k2 k3 k4 k5 kl
  go_upto_region 6 with fail
  generalize w6.alloc (.cells #[.int .i64 u, .int .i64 v, .slice Av L capv] 30) = w7 at *
  generalize w6.heap.size = F at *
  have k0 := HG7.out.cell 0 rfl
  have k1 := HG7.out.cell 1 rfl
  have k2 := HG7.out.cell 2 rfl
  have k3 := HG7.out.cell 3 rfl
  have k4 := HG7.out.cell 4 rfl
  have k5 := HG7.out.cell 5 rfl
  have kl := HG7.out.lt
  have f2 := HF7.out.cell 2 rfl
  have fl := HF7.out.lt
  have hUw : IntKind.i64.wrap ((u : Int) * v) = (L : Int) := by rw [HLU.out, Int.natCast_mul]; exact wI (by have := Nat.mul_le_mul bu.2 bv.2; omega) (by have := Nat.mul_le_mul bu.2 bv.2; omega)
  have HEC := Lib.hid (fun w => each_any x y p u v s w)
  have hsz : (s == 0) = false := by simp; omega
  have hmo : 0 ≤ 127 * p / s := Int.ediv_nonneg (by omega) (by omega)
  have hmp : 127 * p / s ≤ 2032 := Int.ediv_le_of_le_mul (by omega) (by have := Int.mul_le_mul_of_nonneg_left bs.1 (show (0 : Int) ≤ 2032 by omega); omega)
  obtain ⟨mo, hmq⟩ : ∃ m, 127 * p / s + 4 = m := ⟨_, rfl⟩
  have hm1 : 4 ≤ mo ∧ mo ≤ 2036 := by omega
  have hal : Below w7.heap.size w7 (w7.alloc (.cells #[.int .i64 mo] 3)) := (Below.refl _ _).alloc (Nat.le_refl _) _
  have HR6 := Lib.hid (HR7.out.keep hal)
  have HB6 := Lib.hid (below2 HB7.out hal)
  have HG6 := Lib.hid (HG7.out.keep hal)
  have HV6 := Lib.hid (HV7.out.keep hal)
  have HF6 := Lib.hid (HF7.out.keep hal)
  have HM6 := Lib.hid (Blk.new w7 3 [.int .i64 mo] rfl)
  clear hal HU7
  go_wp2_with fail
  clear HR7 HB7 HG7 HV7 HF7 k0 k1 k2 k3 k4 k5 kl f2 fl hsz hmo hmp
  generalize w7.alloc (.cells #[.int .i64 mo] 3) = wm at *
  generalize w7.heap.size = M at *
  have k0 := HG6.out.cell 0 rfl
  have k1 := HG6.out.cell 1 rfl
  have k2 := HG6.out.cell 2 rfl
  have k3 := HG6.out.cell 3 rfl
  have k4 := HG6.out.cell 4 rfl
  have k5 := HG6.out.cell 5 rfl
  have kl := HG6.out.lt
  refine (HEC.out _).mono ?_
  rintro e w8 ⟨rfl, rfl⟩
  have hal : Below wm.heap.size wm (wm.alloc (.cells #[.int .i64 x, .int .i64 y, .int .i64 p, .int .i64 u, .int .i64 v, .int .i64 s] 35)) := (Below.refl _ _).alloc (Nat.le_refl _) _
  have HR8 := Lib.hid (HR6.out.keep hal)
  have HB8 := Lib.hid (below2 HB6.out hal)
  have HG8 := Lib.hid (HG6.out.keep hal)
  have HV8 := Lib.hid (HV6.out.keep hal)
  have HF8 := Lib.hid (HF6.out.keep hal)
  have HM8 := Lib.hid (HM6.out.keep hal)
  have hE1 := Blk.new wm 35 [.int .i64 x, .int .i64 y, .int .i64 p, .int .i64 u, .int .i64 v, .int .i64 s] rfl
  clear hal HR6 HB6 HG6 HV6 HF6 HM6 k0 k1 k2 k3 k4 k5 kl HEC
  go_wp2_with fail
  generalize wm.alloc (.cells #[.int .i64 x, .int .i64 y, .int .i64 p, .int .i64 u, .int .i64 v, .int .i64 s] 35) = w8 at *
  generalize wm.heap.size = B at *
  have HSQ := each_stops_in Fence.wide 3 trivial rfl (by decide) B u v x y p s (by omega) (by omega) w8 hE1
  refine (wpIn_wide (n := 4)).1 (wpIn_rangeFunc_ownF rfl (by decide) (gf := 31) (lb := #[.pointer (some ⟨B, 0, none⟩)]) rfl trivial (enters_of Try.func31 (by kernel_rfl) rfl)
    HSQ KeepB.t (KeepB.b hE1.lt) (Below.refl _ _) (fun _ => rfl)
    (fun _ W => Below w8.heap.size w8 W) (fun _ _ _ => False) (ownFrom_below (Nat.le_refl _) (Nat.le_refl _)) (fun _ _ _ _ _ hs _ _ => hs) (Below.refl _ _)
    (fun q => { tmps := #[.slice A n cap, .agg #[.int .u8 s0, .int .u8 s1, .int .u8 s2, .int .u8 s3, .int .u8 s4, .int .u8 s5], undef, .pointer (some ⟨w.heap.size, 0, none⟩), .pointer (some ⟨w.heap.size + 1, 0, none⟩), .slice Au N capu, .pointer (some ⟨G, 0, none⟩), .pointer (some ⟨F, 0, none⟩), .int .i64 0, .pointer (some ⟨M, 0, none⟩), .int .i64 q.1.1, .int .i64 q.1.2, undef, undef, undef, undef, undef, .bool true, .bool false, .slice A n cap, .slice Au N capu, .agg #[.int .u8 s0, .int .u8 s1, .int .u8 s2, .int .u8 s3, .int .u8 s4, .int .u8 s5], .agg #[.int .i64 x, .int .i64 y, .int .i64 p, .int .i64 u, .int .i64 v, .int .i64 s], .tuple #[.agg #[.int .i64 u, .int .i64 v, .slice Av L capv], .int .i64 0], .slice Au N capu, .agg #[.int .i64 x, .int .i64 y, .int .i64 p, .int .i64 u, .int .i64 v, .int .i64 s], .tuple #[.agg #[.int .i64 u, .int .i64 v, .slice Av L capv], .int .i64 0], .agg #[.int .i64 u, .int .i64 v, .slice Av L capv], .int .i64 0, .int .i64 0, .bool false, .bool false, .pointer (some ⟨F, 2, none⟩), .slice Av L capv, .int .i64 L, .pointer (some ⟨G, 3, none⟩), .int .i64 u, .pointer (some ⟨G, 4, none⟩), .int .i64 v, .int .i64 L, .bool false, .bool false, .pointer (some ⟨G, 2, none⟩), .int .i64 p, .int .i64 (127 * p), .pointer (some ⟨G, 5, none⟩), .int .i64 s, .int .i64 (127 * p / s), .int .i64 mo, .agg #[.int .i64 x, .int .i64 y, .int .i64 p, .int .i64 u, .int .i64 v, .int .i64 s], .func (.func 31) #[] #[.pointer (some ⟨B, 0, none⟩)], .int .i64 q.1.1, .int .i64 q.1.2, undef, undef, undef, undef, undef, undef, undef, undef, undef, undef, undef, undef, undef, undef, undef, undef, undef, undef, undef, undef, undef, undef, undef, undef, undef, undef, undef, undef, undef, undef, undef, undef, undef, undef, undef, undef, undef, undef, undef, undef, undef, undef, undef, undef, undef], defers := [] }) ?assign ?body ?done ?stop)
  case assign =>
    intro l q W K hK
    gi_wp2
    exact hK
  case body =>
    clear HSQ
    rintro l pre ⟨⟨i, k⟩, hi, hk⟩ W hW _
    simp only [] at hi hk
    have hBl := hE1.lt
    obtain ⟨ls, hls, hway, -⟩ := HCL.out
    have hj : k * u + i < u * v := by
      have := Nat.mul_le_mul_right u (show k + 1 ≤ v by omega)
      rw [Nat.add_mul, Nat.mul_comm v u] at this
      omega
    have hat := fldN_at es x y p s u (u * v) (k * u + i) hj
    rw [show (k * u + i) % u = i by rw [Nat.mul_comm, Nat.mul_add_mod]; exact Nat.mod_eq_of_lt hi, show (k * u + i) / u = k by rw [Nat.mul_comm, Nat.mul_add_div (by omega), Nat.div_eq_of_lt hi]; rfl] at hat
    have HVW := Lib.hid (HV8.out.keep hW)
    obtain ⟨hLL, a, rfl, ha, hbyte⟩ := HVW.out.byte _ hat
    obtain ⟨z, hz⟩ : ∃ z, k * u = z := ⟨_, rfl⟩
    have hzb : z ≤ 100 := by rw [← hz]; exact Nat.mul_le_mul (show k ≤ 10 by omega) (show u ≤ 10 by omega)
    have hzw : IntKind.i64.wrap ((k : Int) * u) = (z : Int) := by rw [← hz, Int.natCast_mul]; exact wI (by have := hzb; rw [← Int.natCast_mul]; omega) (by rw [← Int.natCast_mul]; omega)
    rw [hz] at hbyte hj
    obtain ⟨j, hjz⟩ : ∃ j : Nat, z + i = j := ⟨_, rfl⟩
    have hjw : IntKind.i64.wrap ((z : Int) + i) = (j : Int) := by rw [← hjz, Int.natCast_add]; exact wI (by omega) (by omega)
    have hjL : j < L := by rw [HLU.out]; omega
    rw [hjz] at hbyte
    have hT1 := texN_lt es s (midP x y p i k) bs.1
    have HFW := Lib.hid (HF8.out.keep hW)
    have HGW := Lib.hid (HG8.out.keep hW)
    have HMW := Lib.hid (HM8.out.keep hW)
    have HWW := Lib.hid hW
    have hfl : ((fldN es x y p s u (u * v)).map fun (m : Nat) => (m : Int)).length = L := by rw [List.length_map, fldN_length, HLU.out]
    have HBR := Lib.hid HVW.out.btrd
    have HKO := Lib.hid (fun W' (h : Below W.heap.size W W') => KeepsOthers.mk h.size (fun k o hk _ => (h.block k (Array.getElem?_eq_some_iff.1 hk).1).trans hk))
    have HBW := Lib.hid (Nat.lt_of_lt_of_le hBl hW.size)
    have HLI := Lib.hid (Blk.new W 51 [.int .i64 1, .int .i64 0, .int .i64 0, .int .i64 1] rfl)
    have hal : Below W.heap.size W (W.alloc (.cells #[.int .i64 1, .int .i64 0, .int .i64 0, .int .i64 1] 51)) := (Below.refl _ _).alloc (Nat.le_refl _) _
    have HAL := Lib.hid hal
    clear hal hW hE1 hLL hz hjz
    gi_wp2
    gi_loopw [57] (fun i wr => ∃ r : Nat, r ≤ 2 ∧ i = .int .i64 r ∧ Hid (Below W.heap.size W wr) ∧ Hid (Blk wr W.heap.size 51 [.int .i64 1, .int .i64 0, .int .i64 0, .int .i64 1])) (fun i _ => 2 - (intOf i).toNat)
    case atStart => exact ⟨0, Nat.zero_le _, rfl, HAL, HLI⟩
    case round =>
      clear HAL HLI
      obtain ⟨r, hr, rfl, HB, HL⟩ := hrel
      by_cases hr2 : r < 2
      · have l0 := HL.out.cell 0 rfl
        have l1 := HL.out.cell 1 rfl
        have l2 := HL.out.cell 2 rfl
        have l3 := HL.out.cell 3 rfl
        have ll := HL.out.lt
        obtain rfl | rfl : r = 0 ∨ r = 1 := by omega
        · 
          have HAT := Lib.hid (fun w h => gat_any u v (some a) L capv _ (i + 1) k w hfl h (by omega) (by omega) (by omega))
          obtain ⟨c, hc⟩ : ∃ c, atG u v ((fldN es x y p s u (u * v)).map fun (m : Nat) => (m : Int)) (i + 1) k = c := ⟨_, rfl⟩
          have hsm := smooth_at hls hway HIN.out (by omega) (by omega) bp bs.1 (by omega) (by omega) hi hk 1 0 (by omega) (by omega) (by omega) hc
          rw [hc] at HAT
          rw [hmq] at hsm
          generalize c.getD 0 = C at *
          generalize c.isSome = O at *
          obtain ⟨⟨hC1, hC2⟩, hsm⟩ := hsm
          generalize texN es s (midP x y p i k) = T at *
          have HSM := Lib.hid hsm
          clear hsm hc
          have hdl : Below wr.heap.size wr (wr.alloc (.cells #[.int .i64 1, .int .i64 0] 51)) := (Below.refl _ _).alloc (Nat.le_refl _) _
          have HDD := Lib.hid (Blk.new wr 51 [.int .i64 1, .int .i64 0] rfl)
          have HBd := Lib.hid (below2 HB.out hdl)
          have HFd := Lib.hid ((HFW.out.keep HB.out).keep hdl)
          have HLd := Lib.hid (HL.out.keep hdl)
          have HBRd := Lib.hid ((HBR.out.keep HB.out).keep hdl)
          have f0 := HFd.out.cell 0 rfl
          have f1 := HFd.out.cell 1 rfl
          have f2 := HFd.out.cell 2 rfl
          have fl := HFd.out.lt
          gi_wp2_with (simp only [Exit.noGoto])
          refine ⟨trivial, ?_⟩
          (with_reducible refine (CallsIn.inRound l (callsIn_wide.2 (HAT.out _ HBRd.out))).mono ?_)
          rintro e wz ⟨rfl, hz⟩
          have HBz := Lib.hid (below2 HBd.out hz)
          have HFz := Lib.hid (HFd.out.keep hz)
          have HLz := Lib.hid (HLd.out.keep hz)
          have z2 := HFz.out.cell 2 rfl
          have zl := HFz.out.lt
          have g3 := ((HGW.out.keep HBz.out)).cell 3 rfl
          have gl := ((HGW.out.keep HBz.out)).lt
          have m0 := ((HMW.out.keep HBz.out)).cell 0 rfl
          have ml := ((HMW.out.keep HBz.out)).lt
          have hby := Go.Proofs.Ytlhngelifmjefaa.keep HBz.out hbyte
          have hal := Nat.lt_of_lt_of_le ha HBz.out.size
          clear hz hdl HBd HFd HLd HBRd HAT f0 f1 f2 fl l0 l1 l2 l3 ll HB HL
          cases O
          · clear HSM
            gi_wp2
            exact ⟨⟨1, by omega, by rfl, HBz, HLz⟩, by simp [intOf]⟩
          · obtain ⟨hS1, hS2⟩ := HSM.out rfl
            clear HSM
            gi_wp2
            exact ⟨⟨1, by omega, by rfl, HBz, HLz⟩, by simp [intOf]⟩
        · 
          have HAT := Lib.hid (fun w h => gat_any u v (some a) L capv _ i (k + 1) w hfl h (by omega) (by omega) (by omega))
          obtain ⟨c, hc⟩ : ∃ c, atG u v ((fldN es x y p s u (u * v)).map fun (m : Nat) => (m : Int)) i (k + 1) = c := ⟨_, rfl⟩
          have hsm := smooth_at hls hway HIN.out (by omega) (by omega) bp bs.1 (by omega) (by omega) hi hk 0 1 (by omega) (by omega) (by omega) hc
          rw [hc] at HAT
          rw [hmq] at hsm
          generalize c.getD 0 = C at *
          generalize c.isSome = O at *
          obtain ⟨⟨hC1, hC2⟩, hsm⟩ := hsm
          generalize texN es s (midP x y p i k) = T at *
          have HSM := Lib.hid hsm
          clear hsm hc
          have hdl : Below wr.heap.size wr (wr.alloc (.cells #[.int .i64 0, .int .i64 1] 51)) := (Below.refl _ _).alloc (Nat.le_refl _) _
          have HDD := Lib.hid (Blk.new wr 51 [.int .i64 0, .int .i64 1] rfl)
          have HBd := Lib.hid (below2 HB.out hdl)
          have HFd := Lib.hid ((HFW.out.keep HB.out).keep hdl)
          have HLd := Lib.hid (HL.out.keep hdl)
          have HBRd := Lib.hid ((HBR.out.keep HB.out).keep hdl)
          have f0 := HFd.out.cell 0 rfl
          have f1 := HFd.out.cell 1 rfl
          have f2 := HFd.out.cell 2 rfl
          have fl := HFd.out.lt
          gi_wp2_with (simp only [Exit.noGoto])
          refine ⟨trivial, ?_⟩
          (with_reducible refine (CallsIn.inRound l (callsIn_wide.2 (HAT.out _ HBRd.out))).mono ?_)
          rintro e wz ⟨rfl, hz⟩
          have HBz := Lib.hid (below2 HBd.out hz)
          have HFz := Lib.hid (HFd.out.keep hz)
          have HLz := Lib.hid (HLd.out.keep hz)
          have z2 := HFz.out.cell 2 rfl
          have zl := HFz.out.lt
          have g3 := ((HGW.out.keep HBz.out)).cell 3 rfl
          have gl := ((HGW.out.keep HBz.out)).lt
          have m0 := ((HMW.out.keep HBz.out)).cell 0 rfl
          have ml := ((HMW.out.keep HBz.out)).lt
          have hby := Go.Proofs.Ytlhngelifmjefaa.keep HBz.out hbyte
          have hal := Nat.lt_of_lt_of_le ha HBz.out.size
          clear hz hdl HBd HFd HLd HBRd HAT f0 f1 f2 fl l0 l1 l2 l3 ll HB HL
          cases O
          · clear HSM
            gi_wp2
            exact ⟨⟨2, by omega, by rfl, HBz, HLz⟩, by simp [intOf]⟩
          · obtain ⟨hS1, hS2⟩ := HSM.out rfl
            clear HSM
            gi_wp2
            exact ⟨⟨2, by omega, by rfl, HBz, HLz⟩, by simp [intOf]⟩
      · obtain rfl : r = 2 := by omega
        gi_wp2_with (simp only [Exit.noGoto])
        exact ⟨HKO.out _ HB.out, (HB.out.block B HBW.out), below2 HWW.out HB.out⟩
  case done =>
    rintro D ys W hD - hW hK
    have hDl := (Array.getElem?_eq_some_iff.1 hK).1
    have rl8 := HR8.out.lt
    have bl8 := HB8.out.size
    clear hE1 HSQ
    have hr := HR8.out.keep hW
    have hB := below2 HB8.out hW
    have r0 := hr.cell 0 rfl
    have rf := hr.frozen 0
    have hR := Lib.hid (hr.set 0 (.bool true))
    have hBB := Lib.hid (hB.setCell (p := ⟨w.heap.size + 1, 0, none⟩) (show w.heap.size ≤ w.heap.size + 1 by omega) (.bool true))
    have HKK : Hid ((W.setCell ⟨w.heap.size + 1, 0, none⟩ (.bool true)).heap[D]? = some (.deferred (some []))) := Lib.hid ((heap_set W ⟨w.heap.size + 1, 0, none⟩ (.bool true) D (show D ≠ w.heap.size + 1 by omega)).trans hK)
    go_wp2_with fail
    refine ⟨by simp, .inl ⟨_, _, rfl, run_takeDeferred HKK.out, ?_⟩⟩
    have hcc := cell_kept (hR.out.cell 0 rfl) (grownBy_putObj' _ D (.deferred none)) (fun r e => by cases e; exact ⟨_, HKK.out, rfl⟩)
    refine ⟨.bool true, ?_, rfl, hBB.out.trans (belowK_b (w := w) (Nat.le_refl _) _ D _ _ (by omega) HKK.out rfl rfl)⟩
    simp [results, Try.f7, go_sem, hcc]
  case stop =>
    rintro D c pre W _ _ h _
    exact h.elim

end Go.Proofs.Ytlhngelifmjefaa
