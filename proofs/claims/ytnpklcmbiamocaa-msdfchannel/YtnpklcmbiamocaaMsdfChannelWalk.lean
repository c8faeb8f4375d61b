/-
  The walk of punchcutlaw12.MsdfChannel, over what the program is to do (no claim is made here).
-/
import Derived.Test.YtnpklcmbiamocaaMsd2
import Derived.Test.YtnpklcmbiamocaaMgrd
namespace Go.Proofs.Ytnpklcmbiamocaa
open Go.RowKit

set_option maxRecDepth 100000 in
set_option maxHeartbeats 3200000 in
theorem msdfChannel_walk (H : CornOK) (S : SdfOK) (K : MsdfOK) (A : Option Addr) (n cap : Nat) (cs : List (List Dot)) (s0 s1 s2 s3 s4 s5 : Int) (i k c : Int) (w : World) (hcs : DotRows w A n cap cs) (hs : (0 ≤ s0 ∧ s0 ≤ 255) ∧ (0 ≤ s1 ∧ s1 ≤ 255) ∧ (0 ≤ s2 ∧ s2 ≤ 255) ∧ (0 ≤ s3 ∧ s3 ≤ 255) ∧ (0 ≤ s4 ∧ s4 ≤ 255) ∧ (0 ≤ s5 ∧ s5 ≤ 255)) (hi : 0 ≤ i ∧ i ≤ 255) (hk : 0 ≤ k ∧ k ≤ 255) (hc : 0 ≤ c ∧ c ≤ 255) :
    Calls Try.prog 4 #[.slice A n cap, .agg #[.int .u8 s0, .int .u8 s1, .int .u8 s2, .int .u8 s3, .int .u8 s4, .int .u8 s5], .int .u8 i, .int .u8 k, .int .u8 c] w fun e w' => e = .returned (.bool true) ∧ Below w.heap.size w w' := by
  have HD := Lib.hid hcs
  have HAW := Lib.hid (fun w => awake12 H K w)
  obtain ⟨h0, h1, h2, h3, h4, h5⟩ := hs
  have HS := Lib.hid (fun w => sgrid_any s0 s1 s2 s3 s4 s5 h0 h1 h2 h3 h4 h5 w)
  have HB0 := Lib.hid ((Below.refl _ w).alloc (Nat.le_refl _) (.cells #[.int .u8 s0, .int .u8 s1, .int .u8 s2, .int .u8 s3, .int .u8 s4, .int .u8 s5] 24))
  have HK0 := Lib.hid (Blk.new w 24 [.int .u8 s0, .int .u8 s1, .int .u8 s2, .int .u8 s3, .int .u8 s4, .int .u8 s5] rfl)
  have hck : checkG (s0 - 128) (s1 - 128) (1 + s2 % 16) (1 + s3 % 10) (1 + s4 % 10) (1 + s5 % 64) = 0 := by unfold checkG; rw [if_neg (by omega), if_neg (by omega)]
  obtain ⟨u, hu⟩ : ∃ u : Nat, 1 + s3 % 10 = u := ⟨(1 + s3 % 10).toNat, by omega⟩
  obtain ⟨v, hv⟩ : ∃ v : Nat, 1 + s4 % 10 = v := ⟨(1 + s4 % 10).toNat, by omega⟩
  rw [hu, hv] at hck HS
  have bu : 1 ≤ u ∧ u ≤ 10 := by omega
  have bv : 1 ≤ v ∧ v ≤ 10 := by omega
  have bx : -128 ≤ s0 - 128 ∧ s0 - 128 ≤ 127 := by omega
  have by' : -128 ≤ s1 - 128 ∧ s1 - 128 ≤ 127 := by omega
  have bp : 1 ≤ 1 + s2 % 16 ∧ 1 + s2 % 16 ≤ 16 := by omega
  have bs : 1 ≤ 1 + s5 % 64 ∧ 1 + s5 % 64 ≤ 64 := by omega
  clear h0 h1 h2 h3 h4 h5 hu hv hcs
  generalize s0 - 128 = x at *
  generalize s1 - 128 = y at *
  generalize 1 + s2 % 16 = p at *
  generalize 1 + s5 % 64 = s at *
  go_enter Try.func4, Try.ntmps4
  go_wp2_with fail
  refine (HAW.out _).mono ?_
  rintro e w1 ⟨rfl, hb⟩
  have HK1 := Lib.hid (HK0.out.keep hb)
  have HB1 := Lib.hid (below2 HB0.out hb)
  have HC := Lib.hid (contours_any A n cap cs w1 (HD.out.keep HB1.out))
  clear hb HK0 HB0 HD HAW
  go_wp2_with fail
  refine HC.out.mono ?_
  rintro e w2 ⟨vo, rfl, hvo, hb⟩
  have HK2 := Lib.hid (HK1.out.keep hb)
  have HB2 := Lib.hid (below2 HB1.out hb)
  have HAL := Lib.hid (H.all vo (contE cs) w2 hvo.read (contE_small cs).1 (contE_small cs).2)
  clear hb HK1 HB1 hvo HC
  go_wp2_with fail
  refine HAL.out.mono ?_
  rintro e w3 ⟨V, U, rfl, hV, hU, hb⟩
  obtain ⟨f1, f2, f3, f4⟩ := cont_facts cs
  obtain ⟨es, hes⟩ : ∃ es, (contE cs).flatten = es := ⟨_, rfl⟩
  obtain ⟨l, hl⟩ : ∃ l, ((contE cs).map coloursL).flatten = l := ⟨_, rfl⟩
  rw [hes] at hV f1 f2 f3
  rw [hl] at hU f3 f4
  have HK3 := Lib.hid (HK2.out.keep hb)
  have HB3 := Lib.hid (below2 HB2.out hb)
  have HU3 := Lib.hid hV.read
  have HL3 := Lib.hid hU
  obtain ⟨Au, capu, rfl⟩ := hV.form
  obtain ⟨Al, capl, rfl⟩ := hU.form
  obtain ⟨N, hN⟩ : ∃ N, es.length = N := ⟨_, rfl⟩
  rw [hN] at f1 f3
  rw [f3] at HL3 ⊢
  rw [hN] at HU3 ⊢
  have HN := Lib.hid hN
  have HLN : Hid (es.length ≤ 200000) := Lib.hid (by rw [hN]; omega)
  have HLL : Hid (l.length ≤ 2000000) := Lib.hid (by rw [f3]; omega)
  have HML := Lib.hid f3
  have HIN := Lib.hid f2
  have HLB := Lib.hid f4
  have hNb := f1
  clear hb HK2 HB2 hV hU HAL hes hl hN f1 f2 f3 f4
  have k0 := HK3.out.cell 0 rfl
  have k1 := HK3.out.cell 1 rfl
  have k2 := HK3.out.cell 2 rfl
  have k3 := HK3.out.cell 3 rfl
  have k4 := HK3.out.cell 4 rfl
  have k5 := HK3.out.cell 5 rfl
  have kl := HK3.out.lt
  go_wp2_with fail
  refine (HS.out _).mono ?_
  rintro e w4 ⟨rfl, hb⟩
  have hal : Below w4.heap.size w4 (w4.alloc (.cells #[.int .i64 x, .int .i64 y, .int .i64 p, .int .i64 u, .int .i64 v, .int .i64 s] 35)) := (Below.refl _ _).alloc (Nat.le_refl _) _
  have HU5 := Lib.hid ((HU3.out.keep hb).keep hal)
  have HL5 := Lib.hid ((HL3.out.keep hb).keep hal)
  have HB5 := Lib.hid (below2 (below2 HB3.out hb) hal)
  have HG5 := Lib.hid (Blk.new w4 35 [.int .i64 x, .int .i64 y, .int .i64 p, .int .i64 u, .int .i64 v, .int .i64 s] rfl)
  clear hb hal HK3 HU3 HL3 HB3 HS k0 k1 k2 k3 k4 k5 kl
  go_upto_region 5 with fail
  generalize w4.alloc (.cells #[.int .i64 x, .int .i64 y, .int .i64 p, .int .i64 u, .int .i64 v, .int .i64 s] 35) = w5 at *
  generalize w4.heap.size = G at *
  obtain ⟨a, ha⟩ : ∃ a : Nat, i % (u : Int) = a := ⟨(i % (u : Int)).toNat, by have := Int.emod_nonneg i (show (u : Int) ≠ 0 by omega); omega⟩
  obtain ⟨b, hb⟩ : ∃ b : Nat, k % (v : Int) = b := ⟨(k % (v : Int)).toNat, by have := Int.emod_nonneg k (show (v : Int) ≠ 0 by omega); omega⟩
  have hau : a < u := by have := Int.emod_lt_of_pos i (show (0 : Int) < u by omega); omega
  have hbv : b < v := by have := Int.emod_lt_of_pos k (show (0 : Int) < v by omega); omega
  have hwi : IntKind.i64.wrap i = i := wI (by omega) (by omega)
  have hwk : IntKind.i64.wrap k = k := wI (by omega) (by omega)
  have hia : i.tmod (u : Int) = (a : Int) := by rw [Int.tmod_eq_emod_of_nonneg hi.1]; exact ha
  have hkb : k.tmod (v : Int) = (b : Int) := by rw [Int.tmod_eq_emod_of_nonneg hk.1]; exact hb
  have hwa : IntKind.i64.wrap (a : Int) = (a : Int) := wI (by omega) (by omega)
  have hwb : IntKind.i64.wrap (b : Int) = (b : Int) := wI (by omega) (by omega)
  have hun : ((u : Int) == 0) = false := by simp; omega
  have hvn : ((v : Int) == 0) = false := by simp; omega
  clear ha hb
  obtain ⟨d, hd⟩ : ∃ d : Nat, c % 3 = d := ⟨(c % 3).toNat, by omega⟩
  have hd3 : d < 3 := by omega
  have hcd : c.tmod 3 = (d : Int) := by rw [Int.tmod_eq_emod_of_nonneg hc.1]; exact hd
  have hwd : IntKind.i64.wrap (d : Int) = (d : Int) := wI (by omega) (by omega)
  clear hd
  have k0 := HG5.out.cell 0 rfl
  have k1 := HG5.out.cell 1 rfl
  have k2 := HG5.out.cell 2 rfl
  have k3 := HG5.out.cell 3 rfl
  have k4 := HG5.out.cell 4 rfl
  have k5 := HG5.out.cell 5 rfl
  have kl := HG5.out.lt
  go_wp2_with fail
  go_region
  have hd : Below w5.heap.size w5 w5.drew := (Below.refl _ w5).drew
  have HU := Lib.hid (HU5.out.keep hd)
  have HL := Lib.hid (HL5.out.keep hd)
  have HG := Lib.hid (HG5.out.keep hd)
  have HBB := Lib.hid (below2 HB5.out hd)
  clear hd HU5 HL5 HG5 HB5 k0 k1 k2 k3 k4 k5 kl hwi hwk hia hkb hun hvn
  generalize w5.drew = wd at *
  have HC1 := Lib.hid (fun w h1 h2 => K.channel (.slice Au N capu) (.slice Al N capl) es l x y p s u v a b d w h1 HLN.out HIN.out h2 HLL.out HLB.out hck hau hbv hd3)
  have HC2 := Lib.hid (fun w h1 h2 => lchannel_any S (.slice Au N capu) (.slice Al N capl) es l x y p s u v a b d w h1 HLN.out HIN.out h2 HLL.out HLB.out (by omega) bp bs (by omega) (by omega) hck hau hbv hd3)
  generalize chN es l s (midP x y p a b) d = T at *
  replace HL := Lib.hid HL.out.read
  go_wp2_with fail
  have AB := HBB.out.drew
  have hd8 : Below wd.heap.size wd wd.drew := (Below.refl _ wd).drew
  replace HU := Lib.hid (HU.out.keep hd8)
  replace HL := Lib.hid (HL.out.keep hd8)
  replace HG := Lib.hid (HG.out.keep hd8)
  clear hd8 HBB
  refine wp_region_held_drew (S := fun wx => wx.cell? ⟨G, 0, none⟩ = some (.int .i64 x) ∧ wx.cell? ⟨G, 1, none⟩ = some (.int .i64 y) ∧ wx.cell? ⟨G, 2, none⟩ = some (.int .i64 p) ∧ wx.cell? ⟨G, 3, none⟩ = some (.int .i64 u) ∧ wx.cell? ⟨G, 4, none⟩ = some (.int .i64 v) ∧ wx.cell? ⟨G, 5, none⟩ = some (.int .i64 s)) (by kernel_rfl) (⟨HG.out.cell 0 rfl, HG.out.cell 1 rfl, HG.out.cell 2 rfl, HG.out.cell 3 rfl, HG.out.cell 4 rfl, HG.out.cell 5 rfl⟩) (fun hHeld => ?_)
  refine wpAnyH_take (i := 0) (v := ?_) rfl (by kernel_rfl) (by kernel_rfl) (by kernel_rfl) (fun _ _ _ h => h) (Or.inl ⟨by rfl, ?_⟩) hHeld ?_
  rotate_left
  · intro w hSw
    (try dsimp only at hSw)
    (try simp only [List.getElem_toArray, List.getElem_cons_zero])
    go_simp
    all_goals with_reducible rfl
  try simp only [List.getElem_toArray, List.getElem_cons_zero, Act.put, List.setIfInBounds_toArray, List.set_cons_zero, List.set_cons_succ]
  refine wpAnyH_take (i := 1) (v := ?_) rfl (by kernel_rfl) (by kernel_rfl) (by kernel_rfl) (fun _ _ _ h => h) (Or.inl ⟨by rfl, ?_⟩) hHeld ?_
  rotate_left
  · intro w hSw
    (try dsimp only at hSw)
    (try simp only [List.getElem_toArray, List.getElem_cons_zero, List.getElem_cons_succ])
    go_simp
    all_goals with_reducible rfl
  try simp only [List.getElem_toArray, List.getElem_cons_zero, List.getElem_cons_succ, Act.put, List.setIfInBounds_toArray, List.set_cons_zero, List.set_cons_succ]
  refine wpAnyH_take (i := 2) (v := ?_) rfl (by kernel_rfl) (by kernel_rfl) (by kernel_rfl) (fun _ _ _ h => h) (Or.inl ⟨by rfl, ?_⟩) hHeld ?_
  rotate_left
  · intro w hSw
    (try dsimp only at hSw)
    (try simp only [List.getElem_toArray, List.getElem_cons_zero, List.getElem_cons_succ])
    go_simp
    all_goals with_reducible rfl
  try simp only [List.getElem_toArray, List.getElem_cons_zero, List.getElem_cons_succ, Act.put, List.setIfInBounds_toArray, List.set_cons_zero, List.set_cons_succ]
  refine wpAnyH_take (i := 3) (v := ?_) rfl (by kernel_rfl) (by kernel_rfl) (by kernel_rfl) (fun _ _ _ h => h) (Or.inl ⟨by rfl, ?_⟩) hHeld ?_
  rotate_left
  · intro w hSw
    (try dsimp only at hSw)
    (try simp only [List.getElem_toArray, List.getElem_cons_zero, List.getElem_cons_succ])
    go_simp
    all_goals with_reducible rfl
  try simp only [List.getElem_toArray, List.getElem_cons_zero, List.getElem_cons_succ, Act.put, List.setIfInBounds_toArray, List.set_cons_zero, List.set_cons_succ]
  refine wpAnyH_take (i := 4) (v := ?_) rfl (by kernel_rfl) (by kernel_rfl) (by kernel_rfl) (fun _ _ _ h => h) (Or.inl ⟨by rfl, ?_⟩) hHeld ?_
  rotate_left
  · intro w hSw
    (try dsimp only at hSw)
    (try simp only [List.getElem_toArray, List.getElem_cons_zero, List.getElem_cons_succ])
    go_simp
    all_goals with_reducible rfl
  try simp only [List.getElem_toArray, List.getElem_cons_zero, List.getElem_cons_succ, Act.put, List.setIfInBounds_toArray, List.set_cons_zero, List.set_cons_succ]
  refine wpAnyH_take (i := 5) (v := ?_) rfl (by kernel_rfl) (by kernel_rfl) (by kernel_rfl) (fun _ _ _ h => h) (Or.inl ⟨by rfl, ?_⟩) hHeld ?_
  rotate_left
  · intro w hSw
    (try dsimp only at hSw)
    (try simp only [List.getElem_toArray, List.getElem_cons_zero, List.getElem_cons_succ])
    go_simp
    all_goals with_reducible rfl
  try simp only [List.getElem_toArray, List.getElem_cons_zero, List.getElem_cons_succ, Act.put, List.setIfInBounds_toArray, List.set_cons_zero, List.set_cons_succ]
  refine wpAnyH_take (i := 6) (v := ?_) rfl (by kernel_rfl) (by kernel_rfl) (by kernel_rfl) (fun _ _ _ h => h) (Or.inl ⟨by rfl, ?_⟩) hHeld ?_
  rotate_left
  · intro w hSw
    (try dsimp only at hSw)
    (try simp only [List.getElem_toArray, List.getElem_cons_zero, List.getElem_cons_succ])
    go_simp
    all_goals with_reducible rfl
  try simp only [List.getElem_toArray, List.getElem_cons_zero, List.getElem_cons_succ, Act.put, List.setIfInBounds_toArray, List.set_cons_zero, List.set_cons_succ]
  refine wpAnyH_take (i := 7) (v := ?_) rfl (by kernel_rfl) (by kernel_rfl) (by kernel_rfl) (fun _ _ _ h => h) (Or.inl ⟨by rfl, ?_⟩) hHeld ?_
  rotate_left
  · intro w hSw
    (try dsimp only at hSw)
    (try simp only [List.getElem_toArray, List.getElem_cons_zero, List.getElem_cons_succ])
    go_simp
    all_goals with_reducible rfl
  try simp only [List.getElem_toArray, List.getElem_cons_zero, List.getElem_cons_succ, Act.put, List.setIfInBounds_toArray, List.set_cons_zero, List.set_cons_succ]
  refine wpAnyH_take (i := 9) (v := ?_) rfl (by kernel_rfl) (by kernel_rfl) (by kernel_rfl) (fun _ _ _ h => h) (Or.inl ⟨by rfl, ?_⟩) hHeld ?_
  rotate_left
  · intro w hSw
    (try dsimp only at hSw)
    (try simp only [List.getElem_toArray, List.getElem_cons_zero, List.getElem_cons_succ])
    go_simp
    all_goals with_reducible rfl
  try simp only [List.getElem_toArray, List.getElem_cons_zero, List.getElem_cons_succ, Act.put, List.setIfInBounds_toArray, List.set_cons_zero, List.set_cons_succ]
  refine wpAnyH_take (i := 10) (v := ?_) rfl (by kernel_rfl) (by kernel_rfl) (by kernel_rfl) (fun _ _ _ h => h) (Or.inl ⟨by rfl, ?_⟩) hHeld ?_
  rotate_left
  · intro w hSw
    (try dsimp only at hSw)
    (try simp only [List.getElem_toArray, List.getElem_cons_zero, List.getElem_cons_succ])
    go_simp
    all_goals with_reducible rfl
  try simp only [List.getElem_toArray, List.getElem_cons_zero, List.getElem_cons_succ, Act.put, List.setIfInBounds_toArray, List.set_cons_zero, List.set_cons_succ]
  refine wpAnyH_take (i := 11) (v := ?_) rfl (by kernel_rfl) (by kernel_rfl) (by kernel_rfl) (fun _ _ _ h => h) (Or.inl ⟨by rfl, ?_⟩) hHeld ?_
  rotate_left
  · intro w hSw
    (try dsimp only at hSw)
    (try simp only [List.getElem_toArray, List.getElem_cons_zero, List.getElem_cons_succ])
    go_simp
    all_goals with_reducible rfl
  try simp only [List.getElem_toArray, List.getElem_cons_zero, List.getElem_cons_succ, Act.put, List.setIfInBounds_toArray, List.set_cons_zero, List.set_cons_succ]
  refine wpAnyH_take (i := 12) (v := ?_) rfl (by kernel_rfl) (by kernel_rfl) (by kernel_rfl) (fun _ _ _ h => h) (Or.inl ⟨by rfl, ?_⟩) hHeld ?_
  rotate_left
  · intro w hSw
    (try dsimp only at hSw)
    (try simp only [List.getElem_toArray, List.getElem_cons_zero, List.getElem_cons_succ])
    go_simp
    all_goals with_reducible rfl
  try simp only [List.getElem_toArray, List.getElem_cons_zero, List.getElem_cons_succ, Act.put, List.setIfInBounds_toArray, List.set_cons_zero, List.set_cons_succ]
  refine wpAnyH_take (i := 13) (v := ?_) rfl (by kernel_rfl) (by kernel_rfl) (by kernel_rfl) (fun _ _ _ h => h) (Or.inl ⟨by rfl, ?_⟩) hHeld ?_
  rotate_left
  · intro w hSw
    (try dsimp only at hSw)
    (try simp only [List.getElem_toArray, List.getElem_cons_zero, List.getElem_cons_succ])
    go_simp
    all_goals with_reducible rfl
  try simp only [List.getElem_toArray, List.getElem_cons_zero, List.getElem_cons_succ, Act.put, List.setIfInBounds_toArray, List.set_cons_zero, List.set_cons_succ]
  refine wpAnyH_take (i := 14) (v := ?_) rfl (by kernel_rfl) (by kernel_rfl) (by kernel_rfl) (fun _ _ _ h => h) (Or.inl ⟨by rfl, ?_⟩) hHeld ?_
  rotate_left
  · intro w hSw
    (try dsimp only at hSw)
    (try simp only [List.getElem_toArray, List.getElem_cons_zero, List.getElem_cons_succ])
    go_simp
    all_goals with_reducible rfl
  try simp only [List.getElem_toArray, List.getElem_cons_zero, List.getElem_cons_succ, Act.put, List.setIfInBounds_toArray, List.set_cons_zero, List.set_cons_succ]
  refine wpAnyH_take (i := 15) (v := ?_) rfl (by kernel_rfl) (by kernel_rfl) (by kernel_rfl) (fun _ _ _ h => h) (Or.inl ⟨by rfl, ?_⟩) hHeld ?_
  rotate_left
  · intro w hSw
    (try dsimp only at hSw)
    (try simp only [List.getElem_toArray, List.getElem_cons_zero, List.getElem_cons_succ])
    go_simp
    all_goals with_reducible rfl
  try simp only [List.getElem_toArray, List.getElem_cons_zero, List.getElem_cons_succ, Act.put, List.setIfInBounds_toArray, List.set_cons_zero, List.set_cons_succ]
  refine wpAnyH_take (i := 16) (v := ?_) rfl (by kernel_rfl) (by kernel_rfl) (by kernel_rfl) (fun _ _ _ h => h) (Or.inl ⟨by rfl, ?_⟩) hHeld ?_
  rotate_left
  · intro w hSw
    (try dsimp only at hSw)
    (try simp only [List.getElem_toArray, List.getElem_cons_zero, List.getElem_cons_succ])
    go_simp
    all_goals with_reducible rfl
  try simp only [List.getElem_toArray, List.getElem_cons_zero, List.getElem_cons_succ, Act.put, List.setIfInBounds_toArray, List.set_cons_zero, List.set_cons_succ]
  refine wpAnyH_ready (rs := [8]) (by kernel_rfl) (by simp) ?_
  refine AllReadyH.cons rfl (fun K hK => ?_) AllReadyH.nil
  try simp only [List.getElem_toArray, List.getElem_cons_zero, List.getElem_cons_succ]
  go_simp
  refine (HC1.out _ HU.out HL.out).mono ?_
  rintro e wn ⟨rfl, hbn⟩
  have AB := AB.trans (hbn.mono (AB.size))
  replace HU := Lib.hid (HU.out.keep hbn)
  replace HL := Lib.hid (HL.out.keep hbn)
  replace HG := Lib.hid (HG.out.keep hbn)
  clear hbn
  go_wp2_with fail
  refine hK.out _ _ (⟨HG.out.cell 0 rfl, HG.out.cell 1 rfl, HG.out.cell 2 rfl, HG.out.cell 3 rfl, HG.out.cell 4 rfl, HG.out.cell 5 rfl⟩) (fun hHeld => ?_)
  clear hK K
  try simp only [List.getElem_toArray, List.getElem_cons_zero, List.getElem_cons_succ, Act.put, List.setIfInBounds_toArray, List.set_cons_zero, List.set_cons_succ]
  refine wpAnyH_ready (rs := [17]) (by kernel_rfl) (by simp) ?_
  refine AllReadyH.cons rfl (fun K hK => ?_) AllReadyH.nil
  try simp only [List.getElem_toArray, List.getElem_cons_zero, List.getElem_cons_succ]
  go_simp
  refine (HC2.out _ HU.out HL.out).mono ?_
  rintro e wn ⟨rfl, hbn⟩
  have AB := AB.trans (hbn.mono (AB.size))
  replace HU := Lib.hid (HU.out.keep hbn)
  replace HL := Lib.hid (HL.out.keep hbn)
  replace HG := Lib.hid (HG.out.keep hbn)
  clear hbn
  go_wp2_with fail
  refine hK.out _ _ (⟨HG.out.cell 0 rfl, HG.out.cell 1 rfl, HG.out.cell 2 rfl, HG.out.cell 3 rfl, HG.out.cell 4 rfl, HG.out.cell 5 rfl⟩) (fun hHeld => ?_)
  clear hK K
  try simp only [List.getElem_toArray, List.getElem_cons_zero, List.getElem_cons_succ, Act.put, List.setIfInBounds_toArray, List.set_cons_zero, List.set_cons_succ]
  refine wpAnyH_take (i := 18) (v := ?_) rfl (by kernel_rfl) (by kernel_rfl) (by kernel_rfl) (fun _ _ _ h => h) (Or.inl ⟨by rfl, ?_⟩) hHeld ?_
  rotate_left
  · intro w hSw
    (try dsimp only at hSw)
    (try simp only [List.getElem_toArray, List.getElem_cons_zero, List.getElem_cons_succ])
    go_simp
    all_goals with_reducible rfl
  try simp only [List.getElem_toArray, List.getElem_cons_zero, List.getElem_cons_succ, Act.put, List.setIfInBounds_toArray, List.set_cons_zero, List.set_cons_succ]
  refine wpAnyH_take (i := 19) (v := ?_) rfl (by kernel_rfl) (by kernel_rfl) (by kernel_rfl) (fun _ _ _ h => h) (Or.inl ⟨by rfl, ?_⟩) hHeld ?_
  rotate_left
  · intro w hSw
    (try dsimp only at hSw)
    (try simp only [List.getElem_toArray, List.getElem_cons_zero, List.getElem_cons_succ])
    go_simp
    all_goals with_reducible rfl
  try simp only [List.getElem_toArray, List.getElem_cons_zero, List.getElem_cons_succ, Act.put, List.setIfInBounds_toArray, List.set_cons_zero, List.set_cons_succ]
  refine wpAnyH_done (by kernel_rfl) ?_ _
  go_wp2
  go_ret
  exact ⟨rfl, AB⟩

end Go.Proofs.Ytnpklcmbiamocaa
