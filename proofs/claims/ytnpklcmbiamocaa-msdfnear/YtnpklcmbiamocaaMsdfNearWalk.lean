/-
  The walk of punchcutlaw12.MsdfNear, over what the program is to do (no claim is made here).
-/
import Derived.Test.YtnpklcmbiamocaaMsd2
import Derived.Test.YtnpklcmbiamocaaMgrd
import Derived.Test.YtnpklcmbiamocaaMsd3
namespace Go.Proofs.Ytnpklcmbiamocaa
open Go.RowKit

set_option maxRecDepth 100000 in
set_option maxHeartbeats 3200000 in
theorem msdfNear_walk (H : CornOK) (S : SdfOK) (K : MsdfOK) (A : Option Addr) (n cap : Nat) (cs : List (List Dot)) (s0 s1 s2 s3 s4 s5 : Int) (i k c : Int) (w : World) (hcs : DotRows w A n cap cs) (hs : (0 ≤ s0 ∧ s0 ≤ 255) ∧ (0 ≤ s1 ∧ s1 ≤ 255) ∧ (0 ≤ s2 ∧ s2 ≤ 255) ∧ (0 ≤ s3 ∧ s3 ≤ 255) ∧ (0 ≤ s4 ∧ s4 ≤ 255) ∧ (0 ≤ s5 ∧ s5 ≤ 255)) (hi : 0 ≤ i ∧ i ≤ 255) (hk : 0 ≤ k ∧ k ≤ 255) (hc : 0 ≤ c ∧ c ≤ 255) :
    Calls Try.prog 8 #[.slice A n cap, .agg #[.int .u8 s0, .int .u8 s1, .int .u8 s2, .int .u8 s3, .int .u8 s4, .int .u8 s5], .int .u8 i, .int .u8 k, .int .u8 c] w fun e w' => e = .returned (.bool true) ∧ Below w.heap.size w w' := by
  have HD := Lib.hid hcs
  have HAW := Lib.hid (fun w => awake12 H K w)
  obtain ⟨h0, h1, h2, h3, h4, h5⟩ := hs
  have HS := Lib.hid (fun w => sgrid_any s0 s1 s2 s3 s4 s5 h0 h1 h2 h3 h4 h5 w)
  have HB0 := Lib.hid (alloc2 w (.cells #[.int .u8 s0, .int .u8 s1, .int .u8 s2, .int .u8 s3, .int .u8 s4, .int .u8 s5] 24) (.cells #[.int .u8 c] 5))
  have HK0 := Lib.hid ((Blk.new w 24 [.int .u8 s0, .int .u8 s1, .int .u8 s2, .int .u8 s3, .int .u8 s4, .int .u8 s5] rfl).alloc (.cells #[.int .u8 c] 5))
  have HQ0 := Lib.hid (Blk.new (w.alloc (.cells #[.int .u8 s0, .int .u8 s1, .int .u8 s2, .int .u8 s3, .int .u8 s4, .int .u8 s5] 24)) 5 [.int .u8 c] (g := w.heap.size + 1) (by simp))
  have hck : checkG (s0 - 128) (s1 - 128) (1 + s2 % 16) (1 + s3 % 10) (1 + s4 % 10) (1 + s5 % 64) = 0 := by unfold checkG; rw [if_neg (by omega), if_neg (by omega)]
  obtain ⟨u, hu⟩ : ∃ u : Nat, 1 + s3 % 10 = u := ⟨(1 + s3 % 10).toNat, by omega⟩
  obtain ⟨v, hv⟩ : ∃ v : Nat, 1 + s4 % 10 = v := ⟨(1 + s4 % 10).toNat, by omega⟩
  rw [hu, hv] at hck HS
  have bu : 1 ≤ u ∧ u ≤ 10 := by omega
  have bv : 1 ≤ v ∧ v ≤ 10 := by omega
  have bx : -128 ≤ s0 - 128 ∧ s0 - 128 ≤ 127 := by omega
  have by' : -128 ≤ s1 - 128 ∧ s1 - 128 ≤ 127 := by omega
  have bp : 1 ≤ 1 + s2 % 16 ∧ 1 + s2 % 16 ≤ 16 := by omega
  have bs : 1 ≤ 1 + s5 % 64 ∧ 1 + s5 % 64 ≤ 64 := by omega
  clear h0 h1 h2 h3 h4 h5 hu hv hcs
  generalize s0 - 128 = x at *
  generalize s1 - 128 = y at *
  generalize 1 + s2 % 16 = p at *
  generalize 1 + s5 % 64 = s at *
  go_enter Try.func8, Try.ntmps8
  go_wp2_with fail
  refine (HAW.out _).mono ?_
  rintro e w1 ⟨rfl, hb⟩
  have HK1 := Lib.hid (HK0.out.keep hb)
  have HQ1 := Lib.hid (HQ0.out.keep hb)
  have HB1 := Lib.hid (below2 HB0.out hb)
  have HC := Lib.hid (contours_any A n cap cs w1 (HD.out.keep HB1.out))
  clear hb HK0 HQ0 HB0 HD HAW
  go_wp2_with fail
  refine HC.out.mono ?_
  rintro e w2 ⟨vo, rfl, hvo, hb⟩
  have HK2 := Lib.hid (HK1.out.keep hb)
  have HQ2 := Lib.hid (HQ1.out.keep hb)
  have HB2 := Lib.hid (below2 HB1.out hb)
  have HAL := Lib.hid (H.all vo (contE cs) w2 hvo.read (contE_small cs).1 (contE_small cs).2)
  clear hb HK1 HQ1 HB1 hvo HC
  go_wp2_with fail
  refine HAL.out.mono ?_
  rintro e w3 ⟨V, U, rfl, hV, hU, hb⟩
  obtain ⟨f1, f2, f3, f4⟩ := cont_facts cs
  obtain ⟨es, hes⟩ : ∃ es, (contE cs).flatten = es := ⟨_, rfl⟩
  obtain ⟨l, hl⟩ : ∃ l, ((contE cs).map coloursL).flatten = l := ⟨_, rfl⟩
  rw [hes] at hV f1 f2 f3
  rw [hl] at hU f3 f4
  have HK3 := Lib.hid (HK2.out.keep hb)
  have HQ3 := Lib.hid (HQ2.out.keep hb)
  have HB3 := Lib.hid (below2 HB2.out hb)
  have HU3 := Lib.hid hV.read
  have HL3 := Lib.hid hU
  obtain ⟨Au, capu, rfl⟩ := hV.form
  obtain ⟨Al, capl, rfl⟩ := hU.form
  obtain ⟨N, hN⟩ : ∃ N, es.length = N := ⟨_, rfl⟩
  rw [hN] at f1 f3
  rw [f3] at HL3 ⊢
  rw [hN] at HU3 ⊢
  have HN := Lib.hid hN
  have HLN : Hid (es.length ≤ 200000) := Lib.hid (by rw [hN]; omega)
  have HLL : Hid (l.length ≤ 2000000) := Lib.hid (by rw [f3]; omega)
  have HML := Lib.hid f3
  have HIN := Lib.hid f2
  have HLB := Lib.hid f4
  have hNb := f1
  clear hb HK2 HQ2 HB2 hV hU HAL hes hl hN f1 f2 f3 f4
  have hal : Below w3.heap.size w3 (w3.alloc (.cells #[.slice Al N capl] 28)) := (Below.refl _ _).alloc (Nat.le_refl _) _
  have HE3 := Lib.hid (Blk.new w3 28 [.slice Al N capl] rfl)
  have HK4 := Lib.hid (HK3.out.keep hal)
  have HQ4 := Lib.hid (HQ3.out.keep hal)
  have HU4 := Lib.hid (HU3.out.keep hal)
  have HL4 := Lib.hid (HL3.out.read.keep hal)
  have HB4 := Lib.hid (below2 HB3.out hal)
  clear hal HK3 HQ3 HU3 HL3 HB3
  go_upto_region 4 with fail
  generalize w3.alloc (.cells #[.slice Al N capl] 28) = w4 at *
  generalize w3.heap.size = E at *
  have k0 := HK4.out.cell 0 rfl
  have k1 := HK4.out.cell 1 rfl
  have k2 := HK4.out.cell 2 rfl
  have k3 := HK4.out.cell 3 rfl
  have k4 := HK4.out.cell 4 rfl
  have k5 := HK4.out.cell 5 rfl
  have kl := HK4.out.lt
  go_wp2_with fail
  refine (HS.out _).mono ?_
  rintro e w5 ⟨rfl, hb⟩
  have hal : Below w5.heap.size w5 (w5.alloc (.cells #[.int .i64 x, .int .i64 y, .int .i64 p, .int .i64 u, .int .i64 v, .int .i64 s] 35)) := (Below.refl _ _).alloc (Nat.le_refl _) _
  have HQ6 := Lib.hid ((HQ4.out.keep hb).keep hal)
  have HE6 := Lib.hid ((HE3.out.keep hb).keep hal)
  have HU6 := Lib.hid ((HU4.out.keep hb).keep hal)
  have HL6 := Lib.hid ((HL4.out.keep hb).keep hal)
  have HB6 := Lib.hid (below2 (below2 HB4.out hb) hal)
  have HG6 := Lib.hid (Blk.new w5 35 [.int .i64 x, .int .i64 y, .int .i64 p, .int .i64 u, .int .i64 v, .int .i64 s] rfl)
  clear hb hal HK4 HQ4 HE3 HU4 HL4 HB4 HS k0 k1 k2 k3 k4 k5 kl
  go_upto_region 5 with fail
  generalize w5.alloc (.cells #[.int .i64 x, .int .i64 y, .int .i64 p, .int .i64 u, .int .i64 v, .int .i64 s] 35) = w6 at *
  generalize w5.heap.size = G at *
  obtain ⟨a, ha⟩ : ∃ a : Nat, i % (u : Int) = a := ⟨(i % (u : Int)).toNat, by have := Int.emod_nonneg i (show (u : Int) ≠ 0 by omega); omega⟩
  obtain ⟨b, hb⟩ : ∃ b : Nat, k % (v : Int) = b := ⟨(k % (v : Int)).toNat, by have := Int.emod_nonneg k (show (v : Int) ≠ 0 by omega); omega⟩
  have hau : a < u := by have := Int.emod_lt_of_pos i (show (0 : Int) < u by omega); omega
  have hbv : b < v := by have := Int.emod_lt_of_pos k (show (0 : Int) < v by omega); omega
  have hwi : IntKind.i64.wrap i = i := wI (by omega) (by omega)
  have hwk : IntKind.i64.wrap k = k := wI (by omega) (by omega)
  have hia : i.tmod (u : Int) = (a : Int) := by rw [Int.tmod_eq_emod_of_nonneg hi.1]; exact ha
  have hkb : k.tmod (v : Int) = (b : Int) := by rw [Int.tmod_eq_emod_of_nonneg hk.1]; exact hb
  have hwa : IntKind.i64.wrap (a : Int) = (a : Int) := wI (by omega) (by omega)
  have hwb : IntKind.i64.wrap (b : Int) = (b : Int) := wI (by omega) (by omega)
  have hun : ((u : Int) == 0) = false := by simp; omega
  have hvn : ((v : Int) == 0) = false := by simp; omega
  clear ha hb
  have k0 := HG6.out.cell 0 rfl
  have k1 := HG6.out.cell 1 rfl
  have k2 := HG6.out.cell 2 rfl
  have k3 := HG6.out.cell 3 rfl
  have k4 := HG6.out.cell 4 rfl
  have k5 := HG6.out.cell 5 rfl
  have kl := HG6.out.lt
  go_wp2_with fail
  go_region
  have hd : Below w6.heap.size w6 w6.drew := (Below.refl _ w6).drew
  have HQ7 := Lib.hid (HQ6.out.keep hd)
  have HE7 := Lib.hid (HE6.out.keep hd)
  have HU7 := Lib.hid (HU6.out.keep hd)
  have HL7 := Lib.hid (HL6.out.keep hd)
  have HG7 := Lib.hid (HG6.out.keep hd)
  have HB7 := Lib.hid (below2 HB6.out hd)
  clear hd HQ6 HE6 HU6 HL6 HG6 HB6 k0 k1 k2 k3 k4 k5 kl hwi hwk hia hkb hun hvn
  generalize w6.drew = w7 at *
  obtain ⟨d, hd⟩ : ∃ d : Nat, c % 3 = d := ⟨(c % 3).toNat, by omega⟩
  have hd3 : d < 3 := by omega
  have hcd : c.tmod 3 = (d : Int) := by rw [Int.tmod_eq_emod_of_nonneg hc.1]; exact hd
  have hwd : IntKind.i64.wrap (d : Int) = (d : Int) := wI (by omega) (by omega)
  have HCD := Lib.hid hd
  clear hd
  have HCE := Lib.hid (fun w => centre_any x y p u v s a b (by omega) (by omega) (by omega) (by omega) (by omega) w)
  have HPM := Lib.hid (mid_in x y p a b (by omega) (by omega) bp (by omega) (by omega))
  have HC1 := Lib.hid (fun w h1 h2 => K.channel (.slice Au N capu) (.slice Al N capl) es l x y p s u v a b d w h1 HLN.out HIN.out h2 HLL.out HLB.out hck hau hbv hd3)
  have HTX := Lib.hid (fun w h => S.texel (.slice Au N capu) es x y p s u v a b w h HLN.out HIN.out hck hau hbv)
  have k0 := HG7.out.cell 0 rfl
  have k1 := HG7.out.cell 1 rfl
  have k2 := HG7.out.cell 2 rfl
  have k3 := HG7.out.cell 3 rfl
  have k4 := HG7.out.cell 4 rfl
  have k5 := HG7.out.cell 5 rfl
  have kl := HG7.out.lt
  go_wp2_with fail
  refine (HCE.out _).mono ?_
  rintro e w8 ⟨rfl, hb⟩
  have HMP := Lib.hid (show midP x y p a b = ⟨midG x p a, midG y p b⟩ from rfl)
  generalize midG x p a = X at *
  generalize midG y p b = Y at *
  have hal : Below w8.heap.size w8 (w8.alloc (.cells #[.int .i64 X, .int .i64 Y] 59)) := (Below.refl _ _).alloc (Nat.le_refl _) _
  have HQ9 := Lib.hid ((HQ7.out.keep hb).keep hal)
  have HE9 := Lib.hid ((HE7.out.keep hb).keep hal)
  have HU9 := Lib.hid ((HU7.out.keep hb).keep hal)
  have HL9 := Lib.hid ((HL7.out.keep hb).keep hal)
  have HG9 := Lib.hid ((HG7.out.keep hb).keep hal)
  have HB9 := Lib.hid (below2 (below2 HB7.out hb) hal)
  have HP9 := Lib.hid (Blk.new w8 59 [.int .i64 X, .int .i64 Y] rfl)
  clear hb hal HQ7 HE7 HU7 HL7 HG7 HB7 HCE k0 k1 k2 k3 k4 k5 kl
  go_upto_region 7 with fail
  generalize w8.alloc (.cells #[.int .i64 X, .int .i64 Y] 59) = w9 at *
  generalize w8.heap.size = P at *
  have hcall : ∀ k w1, k < es.length → w9.heap.size ≤ w1.heap.size → Below w9.heap.size w9 w1 → Calls Try.prog 25 (#[.int .i64 k] ++ #[.pointer (some ⟨E, 0, none⟩), .pointer (some ⟨w.heap.size + 1, 0, none⟩)]) w1 fun e w' => e = .returned (.bool (inC l d k)) ∧ Below w9.heap.size w9 w' ∧ But (fun _ => False) w1 w' := fun k w1 hk _ hI => by
    have h := near1_any k E (w.heap.size + 1) N capl Al l c w1 hc (HL9.out.keep hI) HLB.out (by rw [← HN.out]; exact hk) ((HE9.out.keep hI).cell 0 rfl) ((HQ9.out.keep hI).cell 0 rfl) ⟨(HE9.out.keep hI).lt, (HQ9.out.keep hI).lt⟩
    rw [HCD.out, Int.toNat_natCast] at h
    exact h.mono fun e w' ⟨he, hb⟩ => ⟨he, below2 hI hb, But.of hb⟩
  have HSM := Lib.hid (some_any (.slice Au N capu) es X Y 25 #[.pointer (some ⟨E, 0, none⟩), .pointer (some ⟨w.heap.size + 1, 0, none⟩)] (inC l d) (fun _ W => Below w9.heap.size w9 W) (fun _ => False) w9 HU9.out HLN.out HIN.out HPM.out (fun args w => by kernel_rfl) hcall (fun _ w1 w2 h hb => h.trans hb) (Below.refl _ _) (fun g h => h.elim))
  clear hcall
  have p0 := HP9.out.cell 0 rfl
  have p1 := HP9.out.cell 1 rfl
  have pl := HP9.out.lt
  go_wp2_with fail
  refine HSM.out.mono ?_
  rintro e w10 ⟨nn, dd, kk, rfl, hbest, hI, -⟩
  have hal : Below w10.heap.size w10 (w10.alloc (.cells #[.int .i64 nn, .int .i64 dd] 62)) := (Below.refl _ _).alloc (Nat.le_refl _) _
  have HE11 := Lib.hid ((HE9.out.keep hI).keep hal)
  have HQ11 := Lib.hid ((HQ9.out.keep hI).keep hal)
  have HU11 := Lib.hid ((HU9.out.keep hI).keep hal)
  have HL11 := Lib.hid ((HL9.out.keep hI).keep hal)
  have HG11 := Lib.hid ((HG9.out.keep hI).keep hal)
  have HB11 := Lib.hid (below2 (below2 HB9.out hI) hal)
  have HF11 := Lib.hid (Blk.new w10 62 [.int .i64 nn, .int .i64 dd] rfl)
  have HBE := Lib.hid hbest
  rw [HMP.out] at HC1 HTX
  clear hI hal HQ9 HE9 HU9 HL9 HG9 HB9 HP9 HSM p0 p1 pl hbest HMP
  go_upto_region 8 with fail
  generalize w10.alloc (.cells #[.int .i64 nn, .int .i64 dd] 62) = w11 at *
  generalize w10.heap.size = D at *
  by_cases hkk : kk < 0
  · have hkb : decide (kk < 0) = true := by simp; omega
    have HCN := Lib.hid (chN_none es l s ⟨X, Y⟩ d (by rw [← HBE.out.at.1]; exact hkk))
    rw [HCN.out] at HC1
    clear HCN HBE
    generalize texN es s ⟨X, Y⟩ = T at *
    go_wp2_with fail
    have AB := HB11.out.drew
    have hd8 : Below w11.heap.size w11 w11.drew := (Below.refl _ w11).drew
    replace HU11 := Lib.hid (HU11.out.keep hd8)
    replace HL11 := Lib.hid (HL11.out.keep hd8)
    replace HG11 := Lib.hid (HG11.out.keep hd8)
    replace HE11 := Lib.hid (HE11.out.keep hd8)
    replace HQ11 := Lib.hid (HQ11.out.keep hd8)
    clear hd8 HB11
    refine wp_region_held_drew (S := fun wx => wx.cell? ⟨G, 0, none⟩ = some (.int .i64 x) ∧ wx.cell? ⟨G, 1, none⟩ = some (.int .i64 y) ∧ wx.cell? ⟨G, 2, none⟩ = some (.int .i64 p) ∧ wx.cell? ⟨G, 3, none⟩ = some (.int .i64 u) ∧ wx.cell? ⟨G, 4, none⟩ = some (.int .i64 v) ∧ wx.cell? ⟨G, 5, none⟩ = some (.int .i64 s) ∧ wx.cell? ⟨E, 0, none⟩ = some (.slice Al N capl) ∧ wx.cell? ⟨w.heap.size + 1, 0, none⟩ = some (.int .u8 c)) (by kernel_rfl) (⟨HG11.out.cell 0 rfl, HG11.out.cell 1 rfl, HG11.out.cell 2 rfl, HG11.out.cell 3 rfl, HG11.out.cell 4 rfl, HG11.out.cell 5 rfl, HE11.out.cell 0 rfl, HQ11.out.cell 0 rfl⟩) (fun hHeld => ?_)
    refine wpAnyH_take (i := 0) (v := ?_) rfl (by kernel_rfl) (by kernel_rfl) (by kernel_rfl) (fun _ _ _ h => h) (Or.inl ⟨by rfl, ?_⟩) hHeld ?_
    rotate_left
    · intro w hSw
      (try dsimp only at hSw)
      (try simp only [List.getElem_toArray, List.getElem_cons_zero])
      go_simp
      all_goals with_reducible rfl
    try simp only [List.getElem_toArray, List.getElem_cons_zero, Act.put, List.setIfInBounds_toArray, List.set_cons_zero, List.set_cons_succ]
    refine wpAnyH_take (i := 1) (v := ?_) rfl (by kernel_rfl) (by kernel_rfl) (by kernel_rfl) (fun _ _ _ h => h) (Or.inl ⟨by rfl, ?_⟩) hHeld ?_
    rotate_left
    · intro w hSw
      (try dsimp only at hSw)
      (try simp only [List.getElem_toArray, List.getElem_cons_zero, List.getElem_cons_succ])
      go_simp
      all_goals with_reducible rfl
    try simp only [List.getElem_toArray, List.getElem_cons_zero, List.getElem_cons_succ, Act.put, List.setIfInBounds_toArray, List.set_cons_zero, List.set_cons_succ]
    refine wpAnyH_take (i := 2) (v := ?_) rfl (by kernel_rfl) (by kernel_rfl) (by kernel_rfl) (fun _ _ _ h => h) (Or.inl ⟨by rfl, ?_⟩) hHeld ?_
    rotate_left
    · intro w hSw
      (try dsimp only at hSw)
      (try simp only [List.getElem_toArray, List.getElem_cons_zero, List.getElem_cons_succ])
      go_simp
      all_goals with_reducible rfl
    try simp only [List.getElem_toArray, List.getElem_cons_zero, List.getElem_cons_succ, Act.put, List.setIfInBounds_toArray, List.set_cons_zero, List.set_cons_succ]
    refine wpAnyH_take (i := 3) (v := ?_) rfl (by kernel_rfl) (by kernel_rfl) (by kernel_rfl) (fun _ _ _ h => h) (Or.inl ⟨by rfl, ?_⟩) hHeld ?_
    rotate_left
    · intro w hSw
      (try dsimp only at hSw)
      (try simp only [List.getElem_toArray, List.getElem_cons_zero, List.getElem_cons_succ])
      go_simp
      all_goals with_reducible rfl
    try simp only [List.getElem_toArray, List.getElem_cons_zero, List.getElem_cons_succ, Act.put, List.setIfInBounds_toArray, List.set_cons_zero, List.set_cons_succ]
    refine wpAnyH_take (i := 4) (v := ?_) rfl (by kernel_rfl) (by kernel_rfl) (by kernel_rfl) (fun _ _ _ h => h) (Or.inl ⟨by rfl, ?_⟩) hHeld ?_
    rotate_left
    · intro w hSw
      (try dsimp only at hSw)
      (try simp only [List.getElem_toArray, List.getElem_cons_zero, List.getElem_cons_succ])
      go_simp
      all_goals with_reducible rfl
    try simp only [List.getElem_toArray, List.getElem_cons_zero, List.getElem_cons_succ, Act.put, List.setIfInBounds_toArray, List.set_cons_zero, List.set_cons_succ]
    refine wpAnyH_take (i := 5) (v := ?_) rfl (by kernel_rfl) (by kernel_rfl) (by kernel_rfl) (fun _ _ _ h => h) (Or.inl ⟨by rfl, ?_⟩) hHeld ?_
    rotate_left
    · intro w hSw
      (try dsimp only at hSw)
      (try simp only [List.getElem_toArray, List.getElem_cons_zero, List.getElem_cons_succ])
      go_simp
      all_goals with_reducible rfl
    try simp only [List.getElem_toArray, List.getElem_cons_zero, List.getElem_cons_succ, Act.put, List.setIfInBounds_toArray, List.set_cons_zero, List.set_cons_succ]
    refine wpAnyH_take (i := 6) (v := ?_) rfl (by kernel_rfl) (by kernel_rfl) (by kernel_rfl) (fun _ _ _ h => h) (Or.inl ⟨by rfl, ?_⟩) hHeld ?_
    rotate_left
    · intro w hSw
      (try dsimp only at hSw)
      (try simp only [List.getElem_toArray, List.getElem_cons_zero, List.getElem_cons_succ])
      go_simp
      all_goals with_reducible rfl
    try simp only [List.getElem_toArray, List.getElem_cons_zero, List.getElem_cons_succ, Act.put, List.setIfInBounds_toArray, List.set_cons_zero, List.set_cons_succ]
    refine wpAnyH_take (i := 7) (v := ?_) rfl (by kernel_rfl) (by kernel_rfl) (by kernel_rfl) (fun _ _ _ h => h) (Or.inl ⟨by rfl, ?_⟩) hHeld ?_
    rotate_left
    · intro w hSw
      (try dsimp only at hSw)
      (try simp only [List.getElem_toArray, List.getElem_cons_zero, List.getElem_cons_succ])
      go_simp
      all_goals with_reducible rfl
    try simp only [List.getElem_toArray, List.getElem_cons_zero, List.getElem_cons_succ, Act.put, List.setIfInBounds_toArray, List.set_cons_zero, List.set_cons_succ]
    refine wpAnyH_take (i := 9) (v := ?_) rfl (by kernel_rfl) (by kernel_rfl) (by kernel_rfl) (fun _ _ _ h => h) (Or.inl ⟨by rfl, ?_⟩) hHeld ?_
    rotate_left
    · intro w hSw
      (try dsimp only at hSw)
      (try simp only [List.getElem_toArray, List.getElem_cons_zero, List.getElem_cons_succ])
      go_simp
      all_goals with_reducible rfl
    try simp only [List.getElem_toArray, List.getElem_cons_zero, List.getElem_cons_succ, Act.put, List.setIfInBounds_toArray, List.set_cons_zero, List.set_cons_succ]
    refine wpAnyH_take (i := 10) (v := ?_) rfl (by kernel_rfl) (by kernel_rfl) (by kernel_rfl) (fun _ _ _ h => h) (Or.inl ⟨by rfl, ?_⟩) hHeld ?_
    rotate_left
    · intro w hSw
      (try dsimp only at hSw)
      (try simp only [List.getElem_toArray, List.getElem_cons_zero, List.getElem_cons_succ])
      go_simp
      all_goals with_reducible rfl
    try simp only [List.getElem_toArray, List.getElem_cons_zero, List.getElem_cons_succ, Act.put, List.setIfInBounds_toArray, List.set_cons_zero, List.set_cons_succ]
    refine wpAnyH_take (i := 11) (v := ?_) rfl (by kernel_rfl) (by kernel_rfl) (by kernel_rfl) (fun _ _ _ h => h) (Or.inl ⟨by rfl, ?_⟩) hHeld ?_
    rotate_left
    · intro w hSw
      (try dsimp only at hSw)
      (try simp only [List.getElem_toArray, List.getElem_cons_zero, List.getElem_cons_succ])
      go_simp
      all_goals with_reducible rfl
    try simp only [List.getElem_toArray, List.getElem_cons_zero, List.getElem_cons_succ, Act.put, List.setIfInBounds_toArray, List.set_cons_zero, List.set_cons_succ]
    refine wpAnyH_take (i := 12) (v := ?_) rfl (by kernel_rfl) (by kernel_rfl) (by kernel_rfl) (fun _ _ _ h => h) (Or.inl ⟨by rfl, ?_⟩) hHeld ?_
    rotate_left
    · intro w hSw
      (try dsimp only at hSw)
      (try simp only [List.getElem_toArray, List.getElem_cons_zero, List.getElem_cons_succ])
      go_simp
      all_goals with_reducible rfl
    try simp only [List.getElem_toArray, List.getElem_cons_zero, List.getElem_cons_succ, Act.put, List.setIfInBounds_toArray, List.set_cons_zero, List.set_cons_succ]
    refine wpAnyH_ready (rs := [8]) (by kernel_rfl) (by simp) ?_
    refine AllReadyH.cons rfl (fun K hK => ?_) AllReadyH.nil
    try simp only [List.getElem_toArray, List.getElem_cons_zero, List.getElem_cons_succ]
    go_simp
    refine (HC1.out _ HU11.out HL11.out).mono ?_
    rintro e wn ⟨rfl, hbn⟩
    have AB := AB.trans (hbn.mono (AB.size))
    replace HU11 := Lib.hid (HU11.out.keep hbn)
    replace HL11 := Lib.hid (HL11.out.keep hbn)
    replace HG11 := Lib.hid (HG11.out.keep hbn)
    replace HE11 := Lib.hid (HE11.out.keep hbn)
    replace HQ11 := Lib.hid (HQ11.out.keep hbn)
    clear hbn
    go_wp2_with fail
    refine hK.out _ _ (⟨HG11.out.cell 0 rfl, HG11.out.cell 1 rfl, HG11.out.cell 2 rfl, HG11.out.cell 3 rfl, HG11.out.cell 4 rfl, HG11.out.cell 5 rfl, HE11.out.cell 0 rfl, HQ11.out.cell 0 rfl⟩) (fun hHeld => ?_)
    clear hK K
    try simp only [List.getElem_toArray, List.getElem_cons_zero, List.getElem_cons_succ, Act.put, List.setIfInBounds_toArray, List.set_cons_zero, List.set_cons_succ]
    refine wpAnyH_ready (rs := [13]) (by kernel_rfl) (by simp) ?_
    refine AllReadyH.cons rfl (fun K hK => ?_) AllReadyH.nil
    try simp only [List.getElem_toArray, List.getElem_cons_zero, List.getElem_cons_succ]
    go_simp
    refine (HTX.out _ HU11.out).mono ?_
    rintro e wn ⟨rfl, hbn⟩
    have AB := AB.trans (hbn.mono (AB.size))
    replace HU11 := Lib.hid (HU11.out.keep hbn)
    replace HL11 := Lib.hid (HL11.out.keep hbn)
    replace HG11 := Lib.hid (HG11.out.keep hbn)
    replace HE11 := Lib.hid (HE11.out.keep hbn)
    replace HQ11 := Lib.hid (HQ11.out.keep hbn)
    clear hbn
    go_wp2_with fail
    refine hK.out _ _ (⟨HG11.out.cell 0 rfl, HG11.out.cell 1 rfl, HG11.out.cell 2 rfl, HG11.out.cell 3 rfl, HG11.out.cell 4 rfl, HG11.out.cell 5 rfl, HE11.out.cell 0 rfl, HQ11.out.cell 0 rfl⟩) (fun hHeld => ?_)
    clear hK K
    try simp only [List.getElem_toArray, List.getElem_cons_zero, List.getElem_cons_succ, Act.put, List.setIfInBounds_toArray, List.set_cons_zero, List.set_cons_succ]
    refine wpAnyH_take (i := 14) (v := ?_) rfl (by kernel_rfl) (by kernel_rfl) (by kernel_rfl) (fun _ _ _ h => h) (Or.inl ⟨by rfl, ?_⟩) hHeld ?_
    rotate_left
    · intro w hSw
      (try dsimp only at hSw)
      (try simp only [List.getElem_toArray, List.getElem_cons_zero, List.getElem_cons_succ])
      go_simp
      all_goals with_reducible rfl
    try simp only [List.getElem_toArray, List.getElem_cons_zero, List.getElem_cons_succ, Act.put, List.setIfInBounds_toArray, List.set_cons_zero, List.set_cons_succ]
    refine wpAnyH_take (i := 15) (v := ?_) rfl (by kernel_rfl) (by kernel_rfl) (by kernel_rfl) (fun _ _ _ h => h) (Or.inl ⟨by rfl, ?_⟩) hHeld ?_
    rotate_left
    · intro w hSw
      (try dsimp only at hSw)
      (try simp only [List.getElem_toArray, List.getElem_cons_zero, List.getElem_cons_succ])
      go_simp
      all_goals with_reducible rfl
    try simp only [List.getElem_toArray, List.getElem_cons_zero, List.getElem_cons_succ, Act.put, List.setIfInBounds_toArray, List.set_cons_zero, List.set_cons_succ]
    refine wpAnyH_done (by kernel_rfl) ?_ _
    go_wp2
    go_ret
    exact ⟨rfl, AB⟩
  · have hkb : decide (kk < 0) = false := by simp; omega
    have HNA := Lib.hid (near_all bs.1 hd3 (fit_of HIN.out HPM.out) HIN.out HPM.out (HML.out.trans HN.out.symm) HBE.out (by omega))
    have HIS := Lib.hid (chN_is es l s ⟨X, Y⟩ d bs.1)
    obtain ⟨j, Ej, -, hEj, -, hfj, -⟩ : ∃ (j : Nat) (e : Ed), kk = j ∧ es[j]? = some e ∧ inC l d j = true ∧ (nn, dd) = sqF e ⟨X, Y⟩ ∧ True := by
      rcases HBE.out with ⟨h1, _⟩ | ⟨j, e, h1, h2, h3, h4, _⟩
      · omega
      · exact ⟨j, e, h1, h2, h3, h4, trivial⟩
    have q1 := sq_small Ej ⟨X, Y⟩ (HIN.out Ej (List.mem_of_getElem? hEj)) HPM.out
    rw [← hfj] at q1
    simp only [] at q1
    have HSC := Lib.hid (fun w => scaled_e8 nn dd (by omega) (by omega) (by omega) w)
    have q8 : 0 ≤ e8 (nn, dd) ∧ e8 (nn, dd) ≤ 1000000 := ⟨e8_nonneg _, by rw [hfj]; exact e8_sq_small Ej ⟨X, Y⟩ (HIN.out Ej (List.mem_of_getElem? hEj)) HPM.out⟩
    have HCO := Lib.hid (fun w => code_any x y p u v s 1 (e8 (nn, dd)) bs (by omega) q8 w)
    have q9 := stepG_in s (e8 (nn, dd)) bs.1 q8.1
    rw [← HIS.out] at HNA
    clear hEj hfj q1 q8 HBE HTX
    have hTb := chG_in es l s ⟨X, Y⟩ d bs.1
    rw [← HIS.out] at hTb
    generalize e8 (nn, dd) = e8v at *
    generalize chN es l s ⟨X, Y⟩ d = T at *
    generalize stepG s e8v = M at *
    obtain ⟨n0, hn0⟩ : ∃ n0 : Int, (T : Int) - 128 = n0 := ⟨_, rfl⟩
    obtain ⟨Q, hQ⟩ : ∃ n0 : Int, 128 + 1 * M = n0 := ⟨_, rfl⟩
    rw [hn0] at HNA
    rw [hQ] at HCO
    have z1 : IntKind.i64.wrap (T : Int) = T := wI (by omega) (by omega)
    have z2 : IntKind.i64.wrap ((T : Int) - 128) = n0 := by rw [hn0]; exact wI (by omega) (by omega)
    have z3 : IntKind.i64.wrap (-n0) = -n0 := wI (by omega) (by omega)
    have z4 : IntKind.i64.wrap Q = Q := wI (by omega) (by omega)
    have z5 : IntKind.i64.wrap (Q - 128) = M := by rw [← hQ, show 128 + 1 * M - 128 = M by omega]; exact wI (by omega) (by omega)
    obtain ⟨y1, y2⟩ := HNA.out
    have e0 := HE11.out.cell 0 rfl
    have el := HE11.out.lt
    have c0 := HQ11.out.cell 0 rfl
    have cl := HQ11.out.lt
    have k0 := HG11.out.cell 0 rfl
    have k1 := HG11.out.cell 1 rfl
    have k2 := HG11.out.cell 2 rfl
    have k3 := HG11.out.cell 3 rfl
    have k4 := HG11.out.cell 4 rfl
    have k5 := HG11.out.cell 5 rfl
    have kl := HG11.out.lt
    go_wp2_with fail
    refine (HC1.out _ HU11.out HL11.out).mono ?_
    rintro e w12 ⟨rfl, hb⟩
    have HG12 := Lib.hid (HG11.out.keep hb)
    have HF12 := Lib.hid (HF11.out.keep hb)
    have HB12 := Lib.hid (below2 HB11.out hb)
    clear hb HE11 HQ11 HU11 HL11 HG11 HB11 HF11 HC1 e0 el c0 cl k0 k1 k2 k3 k4 k5 kl
    go_wp2_with fail
    have AB := HB12.out.drew
    have hd8 : Below w12.heap.size w12 w12.drew := (Below.refl _ w12).drew
    replace HG12 := Lib.hid (HG12.out.keep hd8)
    replace HF12 := Lib.hid (HF12.out.keep hd8)
    clear hd8 HB12
    refine wp_region_held_drew (S := fun wx => wx.cell? ⟨G, 0, none⟩ = some (.int .i64 x) ∧ wx.cell? ⟨G, 1, none⟩ = some (.int .i64 y) ∧ wx.cell? ⟨G, 2, none⟩ = some (.int .i64 p) ∧ wx.cell? ⟨G, 3, none⟩ = some (.int .i64 u) ∧ wx.cell? ⟨G, 4, none⟩ = some (.int .i64 v) ∧ wx.cell? ⟨G, 5, none⟩ = some (.int .i64 s) ∧ wx.cell? ⟨D, 0, none⟩ = some (.int .i64 nn) ∧ wx.cell? ⟨D, 1, none⟩ = some (.int .i64 dd)) (by kernel_rfl) (⟨HG12.out.cell 0 rfl, HG12.out.cell 1 rfl, HG12.out.cell 2 rfl, HG12.out.cell 3 rfl, HG12.out.cell 4 rfl, HG12.out.cell 5 rfl, HF12.out.cell 0 rfl, HF12.out.cell 1 rfl⟩) (fun hHeld => ?_)
    refine wpAnyH_take (i := 0) (v := ?_) rfl (by kernel_rfl) (by kernel_rfl) (by kernel_rfl) (fun _ _ _ h => h) (Or.inl ⟨by rfl, ?_⟩) hHeld ?_
    rotate_left
    · intro w hSw
      (try dsimp only at hSw)
      (try simp only [List.getElem_toArray, List.getElem_cons_zero])
      go_simp
      all_goals with_reducible rfl
    try simp only [List.getElem_toArray, List.getElem_cons_zero, Act.put, List.setIfInBounds_toArray, List.set_cons_zero, List.set_cons_succ]
    refine wpAnyH_take (i := 1) (v := ?_) rfl (by kernel_rfl) (by kernel_rfl) (by kernel_rfl) (fun _ _ _ h => h) (Or.inl ⟨by rfl, ?_⟩) hHeld ?_
    rotate_left
    · intro w hSw
      (try dsimp only at hSw)
      (try simp only [List.getElem_toArray, List.getElem_cons_zero, List.getElem_cons_succ])
      go_simp
      all_goals with_reducible rfl
    try simp only [List.getElem_toArray, List.getElem_cons_zero, List.getElem_cons_succ, Act.put, List.setIfInBounds_toArray, List.set_cons_zero, List.set_cons_succ]
    refine wpAnyH_ready (rs := [2]) (by kernel_rfl) (by simp) ?_
    refine AllReadyH.cons rfl (fun K hK => ?_) AllReadyH.nil
    try simp only [List.getElem_toArray, List.getElem_cons_zero, List.getElem_cons_succ]
    go_simp
    refine (HSC.out _).mono ?_
    rintro e wn ⟨rfl, hbn⟩
    have AB := AB.trans (hbn.mono (AB.size))
    replace HG12 := Lib.hid (HG12.out.keep hbn)
    replace HF12 := Lib.hid (HF12.out.keep hbn)
    clear hbn
    go_wp2_with fail
    refine hK.out _ _ (⟨HG12.out.cell 0 rfl, HG12.out.cell 1 rfl, HG12.out.cell 2 rfl, HG12.out.cell 3 rfl, HG12.out.cell 4 rfl, HG12.out.cell 5 rfl, HF12.out.cell 0 rfl, HF12.out.cell 1 rfl⟩) (fun hHeld => ?_)
    clear hK K
    try simp only [List.getElem_toArray, List.getElem_cons_zero, List.getElem_cons_succ, Act.put, List.setIfInBounds_toArray, List.set_cons_zero, List.set_cons_succ]
    refine wpAnyH_ready (rs := [3]) (by kernel_rfl) (by simp) ?_
    refine AllReadyH.cons rfl (fun K hK => ?_) AllReadyH.nil
    try simp only [List.getElem_toArray, List.getElem_cons_zero, List.getElem_cons_succ]
    go_simp
    refine (HCO.out _).mono ?_
    rintro e wn ⟨rfl, hbn⟩
    have AB := AB.trans (hbn.mono (AB.size))
    replace HG12 := Lib.hid (HG12.out.keep hbn)
    replace HF12 := Lib.hid (HF12.out.keep hbn)
    clear hbn
    go_wp2_with fail
    refine hK.out _ _ (⟨HG12.out.cell 0 rfl, HG12.out.cell 1 rfl, HG12.out.cell 2 rfl, HG12.out.cell 3 rfl, HG12.out.cell 4 rfl, HG12.out.cell 5 rfl, HF12.out.cell 0 rfl, HF12.out.cell 1 rfl⟩) (fun hHeld => ?_)
    clear hK K
    try simp only [List.getElem_toArray, List.getElem_cons_zero, List.getElem_cons_succ, Act.put, List.setIfInBounds_toArray, List.set_cons_zero, List.set_cons_succ]
    refine wpAnyH_take (i := 4) (v := ?_) rfl (by kernel_rfl) (by kernel_rfl) (by kernel_rfl) (fun _ _ _ h => h) (Or.inl ⟨by rfl, ?_⟩) hHeld ?_
    rotate_left
    · intro w hSw
      (try dsimp only at hSw)
      (try simp only [List.getElem_toArray, List.getElem_cons_zero, List.getElem_cons_succ])
      go_simp
      all_goals with_reducible rfl
    try simp only [List.getElem_toArray, List.getElem_cons_zero, List.getElem_cons_succ, Act.put, List.setIfInBounds_toArray, List.set_cons_zero, List.set_cons_succ]
    refine wpAnyH_take (i := 5) (v := ?_) rfl (by kernel_rfl) (by kernel_rfl) (by kernel_rfl) (fun _ _ _ h => h) (Or.inl ⟨by rfl, ?_⟩) hHeld ?_
    rotate_left
    · intro w hSw
      (try dsimp only at hSw)
      (try simp only [List.getElem_toArray, List.getElem_cons_zero, List.getElem_cons_succ])
      go_simp
      all_goals with_reducible rfl
    try simp only [List.getElem_toArray, List.getElem_cons_zero, List.getElem_cons_succ, Act.put, List.setIfInBounds_toArray, List.set_cons_zero, List.set_cons_succ]
    refine wpAnyH_take (i := 6) (v := ?_) rfl (by kernel_rfl) (by kernel_rfl) (by kernel_rfl) (fun _ _ _ h => h) (Or.inl ⟨by rfl, ?_⟩) hHeld ?_
    rotate_left
    · intro w hSw
      (try dsimp only at hSw)
      (try simp only [List.getElem_toArray, List.getElem_cons_zero, List.getElem_cons_succ])
      go_simp
      all_goals with_reducible rfl
    try simp only [List.getElem_toArray, List.getElem_cons_zero, List.getElem_cons_succ, Act.put, List.setIfInBounds_toArray, List.set_cons_zero, List.set_cons_succ]
    refine wpAnyH_done (by kernel_rfl) ?_ _
    clear hHeld HNA
    have x1 : decide (n0 ≤ M) = true := by simp; omega
    have x2 : decide (-n0 ≤ M) = true := by simp; omega
    go_wp2_with fail
    all_goals go_ret
    all_goals exact ⟨ret_bool (by simp; omega), AB⟩

end Go.Proofs.Ytnpklcmbiamocaa
