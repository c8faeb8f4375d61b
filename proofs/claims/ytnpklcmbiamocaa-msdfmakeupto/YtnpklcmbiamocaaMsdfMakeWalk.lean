/-
  The walk of punchcutlaw12.MsdfMake, over what the program is to do (no claim is made here).
-/
import Derived.Test.YtnpklcmbiamocaaMsd2
import Derived.Test.YtnpklcmbiamocaaMgrd
import Derived.Test.YtnpklcmbiamocaaMsd6
import Derived.Test.YtnpklcmbiamocaaMsd7
import Derived.Test.YtnpklcmbiamocaaHeldIn
import Derived.Deep.LoopGhost
namespace Go.Proofs.Ytnpklcmbiamocaa
open Go.RowKit Go.Shelf

attribute [local go_sem] Oper.semAt_some

set_option maxRecDepth 100000 in
set_option maxHeartbeats 3200000 in
theorem msdfMake_walk (H : CornOK) (S : SdfOK) (K : MsdfOK) (A : Option Addr) (n cap : Nat) (cs : List (List Dot)) (s0 s1 s2 s3 s4 s5 : Int) (A2 : Option Addr) (n2 cap2 : Nat) (rs : List Nat) (w : World) (hcs : DotRows w A n cap cs) (hs : (0 ≤ s0 ∧ s0 ≤ 255) ∧ (0 ≤ s1 ∧ s1 ≤ 255) ∧ (0 ≤ s2 ∧ s2 ≤ 255) ∧ (0 ≤ s3 ∧ s3 ≤ 255) ∧ (0 ≤ s4 ∧ s4 ≤ 255) ∧ (0 ≤ s5 ∧ s5 ≤ 255)) (hr : BRd w (.slice A2 n2 cap2) rs) (hrn : rs.length = n2) (hrb : n2 ≤ 1048576) :
    Calls Try.prog 3 #[.slice A n cap, .agg #[.int .u8 s0, .int .u8 s1, .int .u8 s2, .int .u8 s3, .int .u8 s4, .int .u8 s5], .slice A2 n2 cap2] w fun e w' => e = .returned (.bool true) ∧ Below w.heap.size w w' := by
  have HD := Lib.hid hcs
  have HAW := Lib.hid (fun w => awake12 H K w)
  obtain ⟨h0, h1, h2, h3, h4, h5⟩ := hs
  have HS := Lib.hid (fun w => sgrid_any s0 s1 s2 s3 s4 s5 h0 h1 h2 h3 h4 h5 w)
  have HRAW := Lib.hid hr
  have HB0 := Lib.hid (alloc2 w (.cells #[.int .u8 s0, .int .u8 s1, .int .u8 s2, .int .u8 s3, .int .u8 s4, .int .u8 s5] 24) (.cells #[.bool false] 4))
  have HK0 := Lib.hid ((Blk.new w 24 [.int .u8 s0, .int .u8 s1, .int .u8 s2, .int .u8 s3, .int .u8 s4, .int .u8 s5] rfl).alloc (.cells #[.bool false] 4))
  have HQ0 := Lib.hid (Blk.new (w.alloc (.cells #[.int .u8 s0, .int .u8 s1, .int .u8 s2, .int .u8 s3, .int .u8 s4, .int .u8 s5] 24)) 4 [.bool false] (g := w.heap.size + 1) (by simp))
  clear hr
  have hck : checkG (s0 - 128) (s1 - 128) (1 + s2 % 16) (1 + s3 % 10) (1 + s4 % 10) (1 + s5 % 64) = 0 := by unfold checkG; rw [if_neg (by omega), if_neg (by omega)]
  obtain ⟨u, hu⟩ : ∃ u : Nat, 1 + s3 % 10 = u := ⟨(1 + s3 % 10).toNat, by omega⟩
  obtain ⟨v, hv⟩ : ∃ v : Nat, 1 + s4 % 10 = v := ⟨(1 + s4 % 10).toNat, by omega⟩
  rw [hu, hv] at hck HS
  have bu : 1 ≤ u ∧ u ≤ 10 := by omega
  have bv : 1 ≤ v ∧ v ≤ 10 := by omega
  have bx : -128 ≤ s0 - 128 ∧ s0 - 128 ≤ 127 := by omega
  have by' : -128 ≤ s1 - 128 ∧ s1 - 128 ≤ 127 := by omega
  have bp : 1 ≤ 1 + s2 % 16 ∧ 1 + s2 % 16 ≤ 16 := by omega
  have bs : 1 ≤ 1 + s5 % 64 ∧ 1 + s5 % 64 ≤ 64 := by omega
  clear h0 h1 h2 h3 h4 h5 hu hv hcs
  generalize s0 - 128 = x at *
  generalize s1 - 128 = y at *
  generalize 1 + s2 % 16 = p at *
  generalize 1 + s5 % 64 = s at *
  refine (callsIn_wide (n := 4)).1 (callsIn_of_wp_marks Try.func3 rfl trivial (wpIn_wide.2 ?_) rfl)
  simp only [Try.ntmps3, List.size_toArray, List.length_cons, List.length_nil, Nat.reduceAdd, Nat.reduceSub, Array.replicate_succ, Array.replicate_zero, List.push_toArray, List.append_toArray, List.nil_append, List.cons_append]
  go_wp2_with fail
  refine (HAW.out _).mono ?_
  rintro e w1 ⟨rfl, hb⟩
  have HK1 := Lib.hid (HK0.out.keep hb)
  have HQ1 := Lib.hid (HQ0.out.keep hb)
  have HB1 := Lib.hid (below2 HB0.out hb)
  have HC := Lib.hid (contours_any A n cap cs w1 (HD.out.keep HB1.out))
  clear hb HK0 HQ0 HB0 HD HAW
  go_wp2_with fail
  refine HC.out.mono ?_
  rintro e w2 ⟨vo, rfl, hvo, hb⟩
  have HK2 := Lib.hid (HK1.out.keep hb)
  have HQ2 := Lib.hid (HQ1.out.keep hb)
  have HB2 := Lib.hid (below2 HB1.out hb)
  have HAL := Lib.hid (H.all vo (contE cs) w2 hvo.read (contE_small cs).1 (contE_small cs).2)
  clear hb HK1 HQ1 HB1 hvo HC
  go_wp2_with fail
  refine HAL.out.mono ?_
  rintro e w3 ⟨V, U, rfl, hV, hU, hb⟩
  obtain ⟨f1, f2, f3, f4⟩ := cont_facts cs
  obtain ⟨es, hes⟩ : ∃ es, (contE cs).flatten = es := ⟨_, rfl⟩
  obtain ⟨l, hl⟩ : ∃ l, ((contE cs).map coloursL).flatten = l := ⟨_, rfl⟩
  rw [hes] at hV f1 f2 f3
  rw [hl] at hU f3 f4
  have HK3 := Lib.hid (HK2.out.keep hb)
  have HQ3 := Lib.hid (HQ2.out.keep hb)
  have HB3 := Lib.hid (below2 HB2.out hb)
  have HU3 := Lib.hid hV.read
  have HL3 := Lib.hid hU
  have HOU := Lib.hid (fun (g : Nat) (hg : V.ownBlock = some g) => (World.ownsRow.lt hV g hg).2)
  have HOL := Lib.hid (fun (g : Nat) (hg : U.ownBlock = some g) => (World.ownsRow.lt hU g hg).2)
  obtain ⟨Au, capu, rfl⟩ := hV.form
  obtain ⟨Al, capl, rfl⟩ := hU.form
  obtain ⟨N, hN⟩ : ∃ N, es.length = N := ⟨_, rfl⟩
  rw [hN] at f1 f3
  rw [f3] at HL3 HOL ⊢
  rw [hN] at HU3 HOU ⊢
  have HN := Lib.hid hN
  have HLN : Hid (es.length ≤ 200000) := Lib.hid (by rw [hN]; omega)
  have HLL : Hid (l.length ≤ 2000000) := Lib.hid (by rw [f3]; omega)
  have HML := Lib.hid f3
  have HIN := Lib.hid f2
  have HLB := Lib.hid f4
  have hNb := f1
  clear hb HK2 HQ2 HB2 hV hU HAL hes hl hN f1 f2 f3 f4
  have hal : Below w3.heap.size w3 ((w3.alloc (.cells #[.slice Au N capu] 27)).alloc (.cells #[.slice Al N capl] 28)) := alloc2 _ _ _
  have HE4 := Lib.hid ((Blk.new w3 27 [.slice Au N capu] rfl).alloc (.cells #[.slice Al N capl] 28))
  have HC4 := Lib.hid (Blk.new (w3.alloc (.cells #[.slice Au N capu] 27)) 28 [.slice Al N capl] (g := w3.heap.size + 1) (by simp))
  have HK4 := Lib.hid (HK3.out.keep hal)
  have HQ4 := Lib.hid (HQ3.out.keep hal)
  have HU4 := Lib.hid (HU3.out.keep hal)
  have HL4 := Lib.hid (HL3.out.read.keep hal)
  have HB4 := Lib.hid (below2 HB3.out hal)
  have HRW4 := Lib.hid (HRAW.out.keep HB4.out)
  have h3 : w.heap.size + 1 < w3.heap.size := HQ3.out.lt
  clear hal HK3 HQ3 HU3 HL3 HB3 HRAW
  go_wp2_with fail
  generalize (w3.alloc (.cells #[.slice Au N capu] 27)).alloc (.cells #[.slice Al N capl] 28) = w4 at *
  generalize w3.heap.size = E at *
  refine (paint_any _ l A2 n2 cap2 rs w4 HL4.out HRW4.out hrn hrb).mono ?_
  rintro e w5 ⟨V, rfl, hV, hvo, hb⟩
  have h4 : E + 1 < w4.heap.size := HC4.out.lt
  have HP16 := Lib.hid (paint_lt (l := l) (bs := rs) HLB.out)
  have HPL := Lib.hid (paint_len (l := l) (bs := rs) HLL.out (by omega))
  generalize paintL l rs = l2 at *
  obtain ⟨Av, capv, rfl, -, -⟩ := id hV
  obtain ⟨M2, hM2⟩ : ∃ M2, l2.length = M2 := ⟨_, rfl⟩
  rw [hM2] at hV hvo ⊢
  have HE5 := Lib.hid (HE4.out.keep hb)
  have HC5 := Lib.hid (HC4.out.keep hb)
  have HK5 := Lib.hid (HK4.out.keep hb)
  have HQ5 := Lib.hid (HQ4.out.keep hb)
  have HU5 := Lib.hid (HU4.out.keep hb)
  have HL5 := Lib.hid hV
  have HB5 := Lib.hid (below2 HB4.out hb)
  have HE6 := Lib.hid (HE5.out.other (k := E + 1) 0 (.slice Av M2 capv) (by omega))
  have HC6 := Lib.hid (HC5.out.set 0 (.slice Av M2 capv))
  have HK6 := Lib.hid (HK5.out.other (k := E + 1) 0 (.slice Av M2 capv) (by omega))
  have HQ6 := Lib.hid (HQ5.out.other (k := E + 1) 0 (.slice Av M2 capv) (by omega))
  have HU6 := Lib.hid (HU5.out.aside (F := E + 1) (k := 0) (fun g hg => by have := HOU.out g hg; omega) (.slice Av M2 capv))
  have HL6 := Lib.hid (hV.aside (F := E + 1) (k := 0) (fun g hg => Or.elim (hvo g hg) (fun h => by have := HOL.out g h; omega) (fun h => by omega)) (.slice Av M2 capv))
  have HB6 := Lib.hid (HB5.out.setCell (p := ⟨E + 1, 0, none⟩) (show w.heap.size ≤ E + 1 by omega) (.slice Av M2 capv))
  have c0 := HC5.out.cell 0 rfl
  have cf := HC5.out.frozen 0
  have cl := HC5.out.lt
  obtain ⟨w6, hw6⟩ : ∃ w6, w5.setCell ⟨E + 1, 0, none⟩ (.slice Av M2 capv) = w6 := ⟨_, rfl⟩
  rw [hw6] at HE6 HC6 HK6 HQ6 HU6 HL6 HB6
  clear hb hV hvo hM2 HE4 HC4 HK4 HQ4 HU4 HL4 HB4 HRW4 HLL HLB HML HOU HOL HE5 HC5 HK5 HQ5 HU5 HL5 HB5
  have k0 := HK6.out.cell 0 rfl
  have k1 := HK6.out.cell 1 rfl
  have k2 := HK6.out.cell 2 rfl
  have k3 := HK6.out.cell 3 rfl
  have k4 := HK6.out.cell 4 rfl
  have k5 := HK6.out.cell 5 rfl
  have kl := HK6.out.lt
  go_wp2_with fail
  clear hw6 c0 cf cl
  refine (HS.out _).mono ?_
  rintro e w7 ⟨rfl, hb⟩
  have hal : Below w7.heap.size w7 (w7.alloc (.cells #[.int .i64 x, .int .i64 y, .int .i64 p, .int .i64 u, .int .i64 v, .int .i64 s] 35)) := (Below.refl _ _).alloc (Nat.le_refl _) _
  have HE8 := Lib.hid ((HE6.out.keep hb).keep hal)
  have HC8 := Lib.hid ((HC6.out.keep hb).keep hal)
  have HQ8 := Lib.hid ((HQ6.out.keep hb).keep hal)
  have HU8 := Lib.hid ((HU6.out.keep hb).keep hal)
  have HL8 := Lib.hid ((HL6.out.keep hb).keep hal)
  have HB8 := Lib.hid (below2 (below2 HB6.out hb) hal)
  have HG8 := Lib.hid (Blk.new w7 35 [.int .i64 x, .int .i64 y, .int .i64 p, .int .i64 u, .int .i64 v, .int .i64 s] rfl)
  have HMK := Lib.hid (fun w h1 h2 => K.make (.slice Au N capu) (.slice Av M2 capv) es l2 x y p s u v w h1 HLN.out HIN.out h2 HPL.out HP16.out hck)
  clear hb hal HK6 HE6 HC6 HQ6 HU6 HL6 HB6 HS k0 k1 k2 k3 k4 k5 kl
  obtain ⟨w8, hw8⟩ : ∃ w8, w7.alloc (.cells #[.int .i64 x, .int .i64 y, .int .i64 p, .int .i64 u, .int .i64 v, .int .i64 s] 35) = w8 := ⟨_, rfl⟩
  obtain ⟨G, hG⟩ : ∃ G, w7.heap.size = G := ⟨_, rfl⟩
  rw [hw8] at HE8 HC8 HQ8 HU8 HL8 HB8 HG8
  rw [hG] at HG8
  have k0 := HG8.out.cell 0 rfl
  have k1 := HG8.out.cell 1 rfl
  have k2 := HG8.out.cell 2 rfl
  have k3 := HG8.out.cell 3 rfl
  have k4 := HG8.out.cell 4 rfl
  have k5 := HG8.out.cell 5 rfl
  have kl := HG8.out.lt
  have e0 := HE8.out.cell 0 rfl
  have el := HE8.out.lt
  have c0 := HC8.out.cell 0 rfl
  have cl := HC8.out.lt
  go_wp2_with fail
  clear hw8 hG
  refine (HMK.out _ HU8.out HL8.out).mono ?_
  rintro e w9 ⟨T0, T1, T2, rfl, h0, h1, h2, hb⟩
  obtain ⟨L, hL⟩ : ∃ L, u * v = L := ⟨_, rfl⟩
  have HLU := Lib.hid hL
  have hl : ∀ c, (fldC es l2 x y p s u c (u * v)).length = L := fun c => by rw [fldC_length]; exact hL
  obtain ⟨P0, d0, rfl⟩ := h0.form
  obtain ⟨P1, d1, rfl⟩ := h1.form
  obtain ⟨P2, d2, rfl⟩ := h2.form
  rw [hl] at h0 h1 h2 ⊢
  rw [hl, hl]
  have HE9 := Lib.hid (HE8.out.keep hb)
  have HC9 := Lib.hid (HC8.out.keep hb)
  have HQ9 := Lib.hid (HQ8.out.keep hb)
  have HU9 := Lib.hid (HU8.out.keep hb)
  have HL9 := Lib.hid (HL8.out.keep hb)
  have HB9 := Lib.hid (below2 HB8.out hb)
  have HG9 := Lib.hid (HG8.out.keep hb)
  have HT0 := Lib.hid h0
  have HT1 := Lib.hid h1
  have HT2 := Lib.hid h2
  clear hb h0 h1 h2 hl hL HE8 HC8 HQ8 HU8 HL8 HB8 HG8 HMK k0 k1 k2 k3 k4 k5 kl e0 el c0 cl
  go_wp2_with fail
  have hal : Below w9.heap.size w9 (w9.alloc (.cells #[.int .i64 u, .int .i64 v, .slice P0 L d0, .int .i64 u, .int .i64 v, .slice P1 L d1, .int .i64 u, .int .i64 v, .slice P2 L d2] 39)) := (Below.refl _ _).alloc (Nat.le_refl _) _
  have HE10 := Lib.hid (HE9.out.keep hal)
  have HC10 := Lib.hid (HC9.out.keep hal)
  have HQ10 := Lib.hid (HQ9.out.keep hal)
  have HU10 := Lib.hid (HU9.out.keep hal)
  have HL10 := Lib.hid (HL9.out.keep hal)
  have HB10 := Lib.hid (below2 HB9.out hal)
  have HG10 := Lib.hid (HG9.out.keep hal)
  have HS0 := Lib.hid (HT0.out.below hal)
  have HS1 := Lib.hid (HT1.out.below hal)
  have HS2 := Lib.hid (HT2.out.below hal)
  clear hal HE9 HC9 HQ9 HU9 HL9 HB9 HG9 HT0 HT1 HT2
  generalize w9.alloc (.cells #[.int .i64 u, .int .i64 v, .slice P0 L d0, .int .i64 u, .int .i64 v, .slice P1 L d1, .int .i64 u, .int .i64 v, .slice P2 L d2] 39) = w10 at *
  generalize w9.heap.size = FB at *
  have h10 : w.heap.size + 1 < w10.heap.size := HQ10.out.lt
  refine wp_loop_ghost_k (fun k a wr => ∃ (ds : List Deferred) (c : Nat) (u12 u13 u14 u15 u40 u41 u42 u43 u44 u45 u46 u47 u48 u49 u50 u51 u52 u53 u54 u55 u56 u57 u58 u59 u60 u61 u62 u63 u64 u65 u66 u67 u68 u69 u70 u71 u72 u73 u74 u75 u76 u77 u78 u79 u80 u81 u82 u83 u84 u85 u86 u87 u88 : Value), (c + k = 3 ∧ Hid (Below w10.heap.size w10 wr) ∧ Hid (Marks w10.heap.size ds wr)) ∧ a = { tmps := #[.slice A n cap, .agg #[.int .u8 s0, .int .u8 s1, .int .u8 s2, .int .u8 s3, .int .u8 s4, .int .u8 s5], .slice A2 n2 cap2, undef, .pointer (some ⟨w.heap.size, 0, none⟩), undef, .pointer (some ⟨w.heap.size + 1, 0, none⟩), .pointer (some ⟨E, 0, none⟩), .pointer (some ⟨E + 1, 0, none⟩), .pointer (some ⟨G, 0, none⟩), .pointer (some ⟨FB, 0, none⟩), .int .i64 0, u12, u13, u14, u15, .bool true, .bool false, .tuple #[.slice Au N capu, .slice Al N capl], .slice A n cap, vo, .tuple #[.slice Au N capu, .slice Al N capl], .slice Au N capu, .slice Al N capl, .slice Al N capl, .slice A2 n2 cap2, .slice Av M2 capv, .agg #[.int .u8 s0, .int .u8 s1, .int .u8 s2, .int .u8 s3, .int .u8 s4, .int .u8 s5], .agg #[.int .i64 x, .int .i64 y, .int .i64 p, .int .i64 u, .int .i64 v, .int .i64 s], .tuple #[.agg #[.int .i64 u, .int .i64 v, .slice P0 L d0, .int .i64 u, .int .i64 v, .slice P1 L d1, .int .i64 u, .int .i64 v, .slice P2 L d2], .int .i64 0], .slice Au N capu, .slice Av M2 capv, .agg #[.int .i64 x, .int .i64 y, .int .i64 p, .int .i64 u, .int .i64 v, .int .i64 s], .tuple #[.agg #[.int .i64 u, .int .i64 v, .slice P0 L d0, .int .i64 u, .int .i64 v, .slice P1 L d1, .int .i64 u, .int .i64 v, .slice P2 L d2], .int .i64 0], .agg #[.int .i64 u, .int .i64 v, .slice P0 L d0, .int .i64 u, .int .i64 v, .slice P1 L d1, .int .i64 u, .int .i64 v, .slice P2 L d2], .int .i64 0, .int .i64 0, .bool false, .agg #[.int .i64 u, .int .i64 v, .slice P0 L d0, .int .i64 u, .int .i64 v, .slice P1 L d1, .int .i64 u, .int .i64 v, .slice P2 L d2], .int .i64 c, u40, u41, u42, u43, u44, u45, u46, u47, u48, u49, u50, u51, u52, u53, u54, u55, u56, u57, u58, u59, u60, u61, u62, u63, u64, u65, u66, u67, u68, u69, u70, u71, u72, u73, u74, u75, u76, u77, u78, u79, u80, u81, u82, u83, u84, u85, u86, u87, u88], defers := ds }) 3 ?_ ?_
  · exact ⟨[], 0, undef, undef, undef, undef, undef, undef, undef, undef, undef, undef, undef, undef, undef, undef, undef, undef, undef, undef, undef, undef, undef, undef, undef, undef, undef, undef, undef, undef, undef, undef, undef, undef, undef, undef, undef, undef, undef, undef, undef, undef, undef, undef, undef, undef, undef, undef, undef, undef, undef, undef, undef, undef, undef, ⟨rfl, Lib.hid (Below.refl _ _), Lib.hid (Marks.nil _ _)⟩, rfl⟩
  · intro gk _ wr hinv
    obtain ⟨ds, c, u12, u13, u14, u15, u40, u41, u42, u43, u44, u45, u46, u47, u48, u49, u50, u51, u52, u53, u54, u55, u56, u57, u58, u59, u60, u61, u62, u63, u64, u65, u66, u67, u68, u69, u70, u71, u72, u73, u74, u75, u76, u77, u78, u79, u80, u81, u82, u83, u84, u85, u86, u87, u88, ⟨hcg, HB, HM⟩, rfl⟩ := hinv
    intro _ _ _ _
    by_cases hc3 : c < 3
    · have hcb : decide ((c : Int) < 3) = true := by simp; omega
      obtain ⟨P, d, hT, hIX⟩ : ∃ P d, BRow w10 w8.heap.size (.slice P L d) (fldC es l2 x y p s u c (u * v)) ∧ ∀ W, Sem.run Try.prog (Instr.index 39 (.agg #[.int .i64 u, .int .i64 v, .slice P0 L d0, .int .i64 u, .int .i64 v, .slice P1 L d1, .int .i64 u, .int .i64 v, .slice P2 L d2]) (.int .i64 c)) W = .ok (.agg #[.int .i64 u, .int .i64 v, .slice P L d]) W := by
        obtain rfl | rfl | rfl : c = 0 ∨ c = 1 ∨ c = 2 := by omega
        · exact ⟨P0, d0, HS0.out, fun W => (fields_at _ _ _ _ _ _ _ _ _ W).1⟩
        · exact ⟨P1, d1, HS1.out, fun W => (fields_at _ _ _ _ _ _ _ _ _ W).2.1⟩
        · exact ⟨P2, d2, HS2.out, fun W => (fields_at _ _ _ _ _ _ _ _ _ W).2.2⟩
      have HT := Lib.hid hT
      clear hT HS0 HS1 HS2
      have hal : Below wr.heap.size wr ((wr.alloc (.cells #[.int .i64 c] 3)).alloc (.cells #[.int .i64 u, .int .i64 v, .slice P L d] 38)) := alloc2 _ _ _
      have HX11 := Lib.hid ((Blk.new wr 3 [.int .i64 c] rfl).alloc (.cells #[.int .i64 u, .int .i64 v, .slice P L d] 38))
      have HF11 := Lib.hid (Blk.new (wr.alloc (.cells #[.int .i64 c] 3)) 38 [.int .i64 u, .int .i64 v, .slice P L d] (g := wr.heap.size + 1) (by simp))
      have HE11 := Lib.hid ((HE10.out.keep HB.out).keep hal)
      have HC11 := Lib.hid ((HC10.out.keep HB.out).keep hal)
      have HQ11 := Lib.hid ((HQ10.out.keep HB.out).keep hal)
      have HU11 := Lib.hid ((HU10.out.keep HB.out).keep hal)
      have HL11 := Lib.hid ((HL10.out.keep HB.out).keep hal)
      have HG11 := Lib.hid ((HG10.out.keep HB.out).keep hal)
      have HV11 := Lib.hid ((HT.out.below HB.out).below hal)
      have HM11 := Lib.hid (HM.out.keep hal)
      have HB11 := Lib.hid (below2 HB.out hal)
      clear hal HT HM HB
      obtain ⟨w11, hw11⟩ : ∃ w11, (wr.alloc (.cells #[.int .i64 c] 3)).alloc (.cells #[.int .i64 u, .int .i64 v, .slice P L d] 38) = w11 := ⟨_, rfl⟩
      obtain ⟨X, hX⟩ : ∃ X, wr.heap.size = X := ⟨_, rfl⟩
      rw [hw11] at HX11 HF11 HE11 HC11 HQ11 HU11 HL11 HG11 HV11 HM11 HB11
      rw [hX] at HX11 HF11
      have k0 := HG11.out.cell 0 rfl
      have k1 := HG11.out.cell 1 rfl
      have k2 := HG11.out.cell 2 rfl
      have k3 := HG11.out.cell 3 rfl
      have k4 := HG11.out.cell 4 rfl
      have k5 := HG11.out.cell 5 rfl
      have kl := HG11.out.lt
      have f0 := HF11.out.cell 0 rfl
      have f1 := HF11.out.cell 1 rfl
      have f2 := HF11.out.cell 2 rfl
      have fl := HF11.out.lt
      have hUw : IntKind.i64.wrap ((u : Int) * v) = (L : Int) := by rw [← HLU.out, Int.natCast_mul]; exact wI (by have := Nat.mul_le_mul bu.2 bv.2; omega) (by have := Nat.mul_le_mul bu.2 bv.2; omega)
      have HEC := Lib.hid (fun w => each_any x y p u v s w)
      go_wp2_with fail
      clear hw11 hX
      refine (HEC.out _).mono ?_
      rintro e w12 ⟨rfl, rfl⟩
      have hal : Below w11.heap.size w11 (w11.alloc (.cells #[.int .i64 x, .int .i64 y, .int .i64 p, .int .i64 u, .int .i64 v, .int .i64 s] 35)) := (Below.refl _ _).alloc (Nat.le_refl _) _
      have HX12 := Lib.hid (HX11.out.keep hal)
      have HF12 := Lib.hid (HF11.out.keep hal)
      have HE12 := Lib.hid (HE11.out.keep hal)
      have HC12 := Lib.hid (HC11.out.keep hal)
      have HQ12 := Lib.hid (HQ11.out.keep hal)
      have HU12 := Lib.hid (HU11.out.keep hal)
      have HL12 := Lib.hid (HL11.out.keep hal)
      have HG12 := Lib.hid (HG11.out.keep hal)
      have HV12 := Lib.hid (HV11.out.below hal)
      have HM12 := Lib.hid (HM11.out.keep hal)
      have HB12 := Lib.hid (below2 HB11.out hal)
      have hE1 := Blk.new w11 35 [.int .i64 x, .int .i64 y, .int .i64 p, .int .i64 u, .int .i64 v, .int .i64 s] rfl
      clear hal HX11 HF11 HE11 HC11 HQ11 HU11 HL11 HG11 HV11 HM11 HB11 k0 k1 k2 k3 k4 k5 kl f0 f1 f2 fl HEC
      go_wp2_with fail
      generalize w11.alloc (.cells #[.int .i64 x, .int .i64 y, .int .i64 p, .int .i64 u, .int .i64 v, .int .i64 s] 35) = w12 at *
      generalize w11.heap.size = B at *
      have HSQ := each_stops_in Fence.wide 3 trivial rfl (by decide) B u v x y p s (by omega) (by omega) w12 hE1
      refine (wpIn_wide (n := 4)).1 (wpIn_rangeFunc_ownF rfl (by decide) (gf := 36) (lb := #[.pointer (some ⟨B, 0, none⟩)]) rfl trivial (enters_of Try.func36 (by kernel_rfl) rfl)
        HSQ KeepB.t (KeepB.b hE1.lt) (Below.refl _ _) (fun _ => rfl)
        (fun _ W => Below w12.heap.size w12 W) (fun _ _ _ => False) (ownFrom_below (Nat.le_refl _) (Nat.le_refl _)) (fun _ _ _ _ _ hs _ _ => hs) (Below.refl _ _)
        (fun q => { tmps := #[.slice A n cap, .agg #[.int .u8 s0, .int .u8 s1, .int .u8 s2, .int .u8 s3, .int .u8 s4, .int .u8 s5], .slice A2 n2 cap2, undef, .pointer (some ⟨w.heap.size, 0, none⟩), undef, .pointer (some ⟨w.heap.size + 1, 0, none⟩), .pointer (some ⟨E, 0, none⟩), .pointer (some ⟨E + 1, 0, none⟩), .pointer (some ⟨G, 0, none⟩), .pointer (some ⟨FB, 0, none⟩), .int .i64 0, .pointer (some ⟨X, 0, none⟩), .pointer (some ⟨X + 1, 0, none⟩), .int .i64 q.1.1, .int .i64 q.1.2, .bool true, .bool false, .tuple #[.slice Au N capu, .slice Al N capl], .slice A n cap, vo, .tuple #[.slice Au N capu, .slice Al N capl], .slice Au N capu, .slice Al N capl, .slice Al N capl, .slice A2 n2 cap2, .slice Av M2 capv, .agg #[.int .u8 s0, .int .u8 s1, .int .u8 s2, .int .u8 s3, .int .u8 s4, .int .u8 s5], .agg #[.int .i64 x, .int .i64 y, .int .i64 p, .int .i64 u, .int .i64 v, .int .i64 s], .tuple #[.agg #[.int .i64 u, .int .i64 v, .slice P0 L d0, .int .i64 u, .int .i64 v, .slice P1 L d1, .int .i64 u, .int .i64 v, .slice P2 L d2], .int .i64 0], .slice Au N capu, .slice Av M2 capv, .agg #[.int .i64 x, .int .i64 y, .int .i64 p, .int .i64 u, .int .i64 v, .int .i64 s], .tuple #[.agg #[.int .i64 u, .int .i64 v, .slice P0 L d0, .int .i64 u, .int .i64 v, .slice P1 L d1, .int .i64 u, .int .i64 v, .slice P2 L d2], .int .i64 0], .agg #[.int .i64 u, .int .i64 v, .slice P0 L d0, .int .i64 u, .int .i64 v, .slice P1 L d1, .int .i64 u, .int .i64 v, .slice P2 L d2], .int .i64 0, .int .i64 0, .bool false, .agg #[.int .i64 u, .int .i64 v, .slice P0 L d0, .int .i64 u, .int .i64 v, .slice P1 L d1, .int .i64 u, .int .i64 v, .slice P2 L d2], .int .i64 c, .bool true, .int .i64 c, .agg #[.int .i64 u, .int .i64 v, .slice P L d], .pointer (some ⟨X + 1, 0, none⟩), .int .i64 u, .pointer (some ⟨G, 3, none⟩), .int .i64 u, .bool false, .bool false, .pointer (some ⟨X + 1, 1, none⟩), .int .i64 v, .pointer (some ⟨G, 4, none⟩), .int .i64 v, .bool false, .bool false, .bool false, .pointer (some ⟨X + 1, 2, none⟩), .slice P L d, .int .i64 L, .pointer (some ⟨G, 3, none⟩), .int .i64 u, .pointer (some ⟨G, 4, none⟩), .int .i64 v, .int .i64 L, .bool false, .bool false, .agg #[.int .i64 x, .int .i64 y, .int .i64 p, .int .i64 u, .int .i64 v, .int .i64 s], .func (.func 36) #[] #[.pointer (some ⟨B, 0, none⟩)], .int .i64 q.1.1, .int .i64 q.1.2, u70, u71, u72, u73, u74, u75, u76, u77, u78, u79, u80, u81, u82, u83, u84, u85, u86, u87, u88], defers := [] }) ?assign ?body ?done ?stop)
      case assign =>
        intro l q W K hK
        gi_wp2
        exact hK
      case body =>
        clear HSQ
        rintro lq pre ⟨⟨i, k⟩, hi, hk⟩ W hW _
        simp only [] at hi hk
        have hBl := hE1.lt
        have x0 := (HX12.out.keep hW).cell 0 rfl
        have xl := (HX12.out.keep hW).lt
        have f2 := (HF12.out.keep hW).cell 2 rfl
        have fl := (HF12.out.keep hW).lt
        have e0 := (HE12.out.keep hW).cell 0 rfl
        have el := (HE12.out.keep hW).lt
        have c0 := (HC12.out.keep hW).cell 0 rfl
        have cl := (HC12.out.keep hW).lt
        have g0 := (HG12.out.keep hW).cell 0 rfl
        have g1 := (HG12.out.keep hW).cell 1 rfl
        have g2 := (HG12.out.keep hW).cell 2 rfl
        have g3 := (HG12.out.keep hW).cell 3 rfl
        have g4 := (HG12.out.keep hW).cell 4 rfl
        have g5 := (HG12.out.keep hW).cell 5 rfl
        have gl := (HG12.out.keep hW).lt
        have hj : k * u + i < u * v := by
          have := Nat.mul_le_mul_right u (show k + 1 ≤ v by omega)
          rw [Nat.add_mul, Nat.mul_comm v u] at this
          omega
        have hat := fldC_at es l2 x y p s u c (u * v) (k * u + i) hj
        rw [show (k * u + i) % u = i by rw [Nat.mul_comm, Nat.mul_add_mod]; exact Nat.mod_eq_of_lt hi, show (k * u + i) / u = k by rw [Nat.mul_comm, Nat.mul_add_div (by omega), Nat.div_eq_of_lt hi]; rfl] at hat
        obtain ⟨hLL, a, rfl, ha, hbyte⟩ := (HV12.out.below hW).byte _ hat
        obtain ⟨z, hz⟩ : ∃ z, k * u = z := ⟨_, rfl⟩
        have hzb : z ≤ 100 := by rw [← hz]; exact Nat.mul_le_mul (show k ≤ 10 by omega) (show u ≤ 10 by omega)
        have hzw : IntKind.i64.wrap ((k : Int) * u) = (z : Int) := by rw [← hz, Int.natCast_mul]; exact wI (by have := hzb; rw [← Int.natCast_mul]; omega) (by rw [← Int.natCast_mul]; omega)
        rw [hz] at hbyte hj
        obtain ⟨j, hjz⟩ : ∃ j : Nat, z + i = j := ⟨_, rfl⟩
        have hjw : IntKind.i64.wrap ((z : Int) + i) = (j : Int) := by rw [← hjz, Int.natCast_add]; exact wI (by omega) (by omega)
        have hjL : j < L := by rw [← HLU.out]; omega
        rw [hjz] at hbyte
        have HCE := Lib.hid (fun w h1 h2 => lchannel_any S (.slice Au N capu) (.slice Av M2 capv) es l2 x y p s u v i k c w h1 HLN.out HIN.out h2 HPL.out HP16.out (by omega) bp bs (by omega) (by omega) hck hi hk hc3)
        have hWd : Below W.heap.size W W.drew := (Below.refl _ W).drew
        have HUW := Lib.hid ((HU12.out.keep hW).keep hWd)
        have HLW := Lib.hid ((HL12.out.keep hW).keep hWd)
        clear hWd
        have HWW := Lib.hid hW
        generalize chN es l2 s (midP x y p i k) c = T at *
        have HKO := Lib.hid (fun W' (h : Below W.heap.size W W') => KeepsOthers.mk h.size (fun k o hk _ => (h.block k (Array.getElem?_eq_some_iff.1 hk).1).trans hk))
        have HBW := Lib.hid (Nat.lt_of_lt_of_le hBl hW.size)
        clear hat hj hz hjz hLL hW hE1
        have hmx : Try.prog.follows .mixedOrders = true := by kernel_rfl
        gi_wp2
        have AB : Below W.heap.size W W.drew := (Below.refl _ W).drew
        have FE := Lib.hid ((HE12.out.keep HWW.out).keep AB)
        have FC := Lib.hid ((HC12.out.keep HWW.out).keep AB)
        have FG := Lib.hid ((HG12.out.keep HWW.out).keep AB)
        have FX := Lib.hid ((HX12.out.keep HWW.out).keep AB)
        have FF := Lib.hid ((HF12.out.keep HWW.out).keep AB)
        have FY : Hid (W.drew.cell? (a.add j) = some (.int .u8 (T : Nat))) := Lib.hid hbyte
        have FL : Hid (a.block < W.drew.heap.size) := Lib.hid ha
        clear hbyte ha HE12 HC12 HG12 HX12 HF12 HE10 HC10 HG10 HQ10 HU10 HL10 HB10 HQ12 HU12 HL12 HM12 HV12 HB12
        refine region_heldIn (F := Fence.wide.inRound lq) (S := fun wx => wx.cell? ⟨X + 1, 2, none⟩ = some (.slice (some a) L d) ∧ wx.cell? (a.add j) = some (.int .u8 (T : Nat)) ∧ wx.cell? ⟨E, 0, none⟩ = some (.slice Au N capu) ∧ wx.cell? ⟨E + 1, 0, none⟩ = some (.slice Av M2 capv) ∧ wx.cell? ⟨X, 0, none⟩ = some (.int .i64 (c : Nat)) ∧ wx.cell? ⟨G, 0, none⟩ = some (.int .i64 x) ∧ wx.cell? ⟨G, 1, none⟩ = some (.int .i64 y) ∧ wx.cell? ⟨G, 2, none⟩ = some (.int .i64 p) ∧ wx.cell? ⟨G, 3, none⟩ = some (.int .i64 (u : Nat)) ∧ wx.cell? ⟨G, 4, none⟩ = some (.int .i64 (v : Nat)) ∧ wx.cell? ⟨G, 5, none⟩ = some (.int .i64 s)) (by kernel_rfl) (⟨FF.out.cell 2 rfl, FY.out, FE.out.cell 0 rfl, FC.out.cell 0 rfl, FX.out.cell 0 rfl, FG.out.cell 0 rfl, FG.out.cell 1 rfl, FG.out.cell 2 rfl, FG.out.cell 3 rfl, FG.out.cell 4 rfl, FG.out.cell 5 rfl⟩) (fun hHeld => ?_)
        refine AnyHI.take (fun _ => trivial) (by kernel_rfl) (i := 0) (v := ?_) rfl (by kernel_rfl) (by kernel_rfl) (by kernel_rfl) (fun _ _ _ h => h) (Or.inl ⟨by rfl, ?_⟩) hHeld ?_
        rotate_left
        · intro w hSw
          (try dsimp only at hSw)
          (try simp only [List.getElem_toArray, List.getElem_cons_zero])
          go_simp
          all_goals with_reducible rfl
        try simp only [List.getElem_toArray, List.getElem_cons_zero, Act.put, List.setIfInBounds_toArray, List.set_cons_zero, List.set_cons_succ]
        refine AnyHI.take (fun _ => trivial) (by kernel_rfl) (i := 1) (v := ?_) rfl (by kernel_rfl) (by kernel_rfl) (by kernel_rfl) (fun _ _ _ h => h) (Or.inl ⟨by rfl, ?_⟩) hHeld ?_
        rotate_left
        · intro w hSw
          (try dsimp only at hSw)
          (try simp only [List.getElem_toArray, List.getElem_cons_zero, List.getElem_cons_succ])
          go_simp
          all_goals with_reducible rfl
        try simp only [List.getElem_toArray, List.getElem_cons_zero, List.getElem_cons_succ, Act.put, List.setIfInBounds_toArray, List.set_cons_zero, List.set_cons_succ]
        refine AnyHI.take (fun _ => trivial) (by kernel_rfl) (i := 2) (v := ?_) rfl (by kernel_rfl) (by kernel_rfl) (by kernel_rfl) (fun _ _ _ h => h) (Or.inl ⟨by rfl, ?_⟩) hHeld ?_
        rotate_left
        · intro w hSw
          (try dsimp only at hSw)
          (try simp only [List.getElem_toArray, List.getElem_cons_zero, List.getElem_cons_succ])
          go_simp
          all_goals with_reducible rfl
        try simp only [List.getElem_toArray, List.getElem_cons_zero, List.getElem_cons_succ, Act.put, List.setIfInBounds_toArray, List.set_cons_zero, List.set_cons_succ]
        refine AnyHI.take (fun _ => trivial) (by kernel_rfl) (i := 3) (v := ?_) rfl (by kernel_rfl) (by kernel_rfl) (by kernel_rfl) (fun _ _ _ h => h) (Or.inl ⟨by rfl, ?_⟩) hHeld ?_
        rotate_left
        · intro w hSw
          (try dsimp only at hSw)
          (try simp only [List.getElem_toArray, List.getElem_cons_zero, List.getElem_cons_succ])
          go_simp
          all_goals with_reducible rfl
        try simp only [List.getElem_toArray, List.getElem_cons_zero, List.getElem_cons_succ, Act.put, List.setIfInBounds_toArray, List.set_cons_zero, List.set_cons_succ]
        refine AnyHI.take (fun _ => trivial) (by kernel_rfl) (i := 4) (v := ?_) rfl (by kernel_rfl) (by kernel_rfl) (by kernel_rfl) (fun _ _ _ h => h) (Or.inl ⟨by rfl, ?_⟩) hHeld ?_
        rotate_left
        · intro w hSw
          (try dsimp only at hSw)
          (try simp only [List.getElem_toArray, List.getElem_cons_zero, List.getElem_cons_succ])
          go_simp
          all_goals with_reducible rfl
        try simp only [List.getElem_toArray, List.getElem_cons_zero, List.getElem_cons_succ, Act.put, List.setIfInBounds_toArray, List.set_cons_zero, List.set_cons_succ]
        refine AnyHI.take (fun _ => trivial) (by kernel_rfl) (i := 5) (v := ?_) rfl (by kernel_rfl) (by kernel_rfl) (by kernel_rfl) (fun _ _ _ h => h) (Or.inl ⟨by rfl, ?_⟩) hHeld ?_
        rotate_left
        · intro w hSw
          (try dsimp only at hSw)
          (try simp only [List.getElem_toArray, List.getElem_cons_zero, List.getElem_cons_succ])
          go_simp
          all_goals with_reducible rfl
        try simp only [List.getElem_toArray, List.getElem_cons_zero, List.getElem_cons_succ, Act.put, List.setIfInBounds_toArray, List.set_cons_zero, List.set_cons_succ]
        refine AnyHI.take (fun _ => trivial) (by kernel_rfl) (i := 6) (v := ?_) rfl (by kernel_rfl) (by kernel_rfl) (by kernel_rfl) (fun _ _ _ h => h) (Or.inl ⟨by rfl, ?_⟩) hHeld ?_
        rotate_left
        · intro w hSw
          (try dsimp only at hSw)
          (try simp only [List.getElem_toArray, List.getElem_cons_zero, List.getElem_cons_succ])
          go_simp
          all_goals with_reducible rfl
        try simp only [List.getElem_toArray, List.getElem_cons_zero, List.getElem_cons_succ, Act.put, List.setIfInBounds_toArray, List.set_cons_zero, List.set_cons_succ]
        refine AnyHI.take (fun _ => trivial) (by kernel_rfl) (i := 7) (v := ?_) rfl (by kernel_rfl) (by kernel_rfl) (by kernel_rfl) (fun _ _ _ h => h) (Or.inl ⟨by rfl, ?_⟩) hHeld ?_
        rotate_left
        · intro w hSw
          (try dsimp only at hSw)
          (try simp only [List.getElem_toArray, List.getElem_cons_zero, List.getElem_cons_succ])
          go_simp
          all_goals with_reducible rfl
        try simp only [List.getElem_toArray, List.getElem_cons_zero, List.getElem_cons_succ, Act.put, List.setIfInBounds_toArray, List.set_cons_zero, List.set_cons_succ]
        refine AnyHI.take (fun _ => trivial) (by kernel_rfl) (i := 8) (v := ?_) rfl (by kernel_rfl) (by kernel_rfl) (by kernel_rfl) (fun _ _ _ h => h) (Or.inl ⟨by rfl, ?_⟩) hHeld ?_
        rotate_left
        · intro w hSw
          (try dsimp only at hSw)
          (try simp only [List.getElem_toArray, List.getElem_cons_zero, List.getElem_cons_succ])
          go_simp
          all_goals with_reducible rfl
        try simp only [List.getElem_toArray, List.getElem_cons_zero, List.getElem_cons_succ, Act.put, List.setIfInBounds_toArray, List.set_cons_zero, List.set_cons_succ]
        refine AnyHI.take (fun _ => trivial) (by kernel_rfl) (i := 9) (v := ?_) rfl (by kernel_rfl) (by kernel_rfl) (by kernel_rfl) (fun _ _ _ h => h) (Or.inl ⟨by rfl, ?_⟩) hHeld ?_
        rotate_left
        · intro w hSw
          (try dsimp only at hSw)
          (try simp only [List.getElem_toArray, List.getElem_cons_zero, List.getElem_cons_succ])
          go_simp
          all_goals with_reducible rfl
        try simp only [List.getElem_toArray, List.getElem_cons_zero, List.getElem_cons_succ, Act.put, List.setIfInBounds_toArray, List.set_cons_zero, List.set_cons_succ]
        refine AnyHI.take (fun _ => trivial) (by kernel_rfl) (i := 10) (v := ?_) rfl (by kernel_rfl) (by kernel_rfl) (by kernel_rfl) (fun _ _ _ h => h) (Or.inl ⟨by rfl, ?_⟩) hHeld ?_
        rotate_left
        · intro w hSw
          (try dsimp only at hSw)
          (try simp only [List.getElem_toArray, List.getElem_cons_zero, List.getElem_cons_succ])
          go_simp
          all_goals with_reducible rfl
        try simp only [List.getElem_toArray, List.getElem_cons_zero, List.getElem_cons_succ, Act.put, List.setIfInBounds_toArray, List.set_cons_zero, List.set_cons_succ]
        refine AnyHI.take (fun _ => trivial) (by kernel_rfl) (i := 11) (v := ?_) rfl (by kernel_rfl) (by kernel_rfl) (by kernel_rfl) (fun _ _ _ h => h) (Or.inl ⟨by rfl, ?_⟩) hHeld ?_
        rotate_left
        · intro w hSw
          (try dsimp only at hSw)
          (try simp only [List.getElem_toArray, List.getElem_cons_zero, List.getElem_cons_succ])
          go_simp
          all_goals with_reducible rfl
        try simp only [List.getElem_toArray, List.getElem_cons_zero, List.getElem_cons_succ, Act.put, List.setIfInBounds_toArray, List.set_cons_zero, List.set_cons_succ]
        refine AnyHI.take (fun _ => trivial) (by kernel_rfl) (i := 12) (v := ?_) rfl (by kernel_rfl) (by kernel_rfl) (by kernel_rfl) (fun _ _ _ h => h) (Or.inl ⟨by rfl, ?_⟩) hHeld ?_
        rotate_left
        · intro w hSw
          (try dsimp only at hSw)
          (try simp only [List.getElem_toArray, List.getElem_cons_zero, List.getElem_cons_succ])
          go_simp
          all_goals with_reducible rfl
        try simp only [List.getElem_toArray, List.getElem_cons_zero, List.getElem_cons_succ, Act.put, List.setIfInBounds_toArray, List.set_cons_zero, List.set_cons_succ]
        refine AnyHI.take (fun _ => trivial) (by kernel_rfl) (i := 13) (v := ?_) rfl (by kernel_rfl) (by kernel_rfl) (by kernel_rfl) (fun _ _ _ h => h) (Or.inl ⟨by rfl, ?_⟩) hHeld ?_
        rotate_left
        · intro w hSw
          (try dsimp only at hSw)
          (try simp only [List.getElem_toArray, List.getElem_cons_zero, List.getElem_cons_succ])
          go_simp
          all_goals with_reducible rfl
        try simp only [List.getElem_toArray, List.getElem_cons_zero, List.getElem_cons_succ, Act.put, List.setIfInBounds_toArray, List.set_cons_zero, List.set_cons_succ]
        refine AnyHI.take (fun _ => trivial) (by kernel_rfl) (i := 14) (v := ?_) rfl (by kernel_rfl) (by kernel_rfl) (by kernel_rfl) (fun _ _ _ h => h) (Or.inl ⟨by rfl, ?_⟩) hHeld ?_
        rotate_left
        · intro w hSw
          (try dsimp only at hSw)
          (try simp only [List.getElem_toArray, List.getElem_cons_zero, List.getElem_cons_succ])
          go_simp
          all_goals with_reducible rfl
        try simp only [List.getElem_toArray, List.getElem_cons_zero, List.getElem_cons_succ, Act.put, List.setIfInBounds_toArray, List.set_cons_zero, List.set_cons_succ]
        refine AnyHI.take (fun _ => trivial) (by kernel_rfl) (i := 15) (v := ?_) rfl (by kernel_rfl) (by kernel_rfl) (by kernel_rfl) (fun _ _ _ h => h) (Or.inl ⟨by rfl, ?_⟩) hHeld ?_
        rotate_left
        · intro w hSw
          (try dsimp only at hSw)
          (try simp only [List.getElem_toArray, List.getElem_cons_zero, List.getElem_cons_succ])
          go_simp
          all_goals with_reducible rfl
        try simp only [List.getElem_toArray, List.getElem_cons_zero, List.getElem_cons_succ, Act.put, List.setIfInBounds_toArray, List.set_cons_zero, List.set_cons_succ]
        refine AnyHI.ready (rs := [16]) (by kernel_rfl) (by simp) ?_
        refine AllHI.cons (fun _ => trivial) rfl (fun K hK => ?_) AllHI.nil
        try simp only [List.getElem_toArray, List.getElem_cons_zero, List.getElem_cons_succ]
        go_simp
        refine ⟨trivial, ?_⟩
        gi_at_call 16
        (with_reducible refine (CallsIn.inRound lq (callsIn_wide.2 (HCE.out _ HUW.out HLW.out))).mono ?_)
        rintro e wn ⟨rfl, hbn⟩
        have AB := AB.trans (hbn.mono AB.size)
        have FE := Lib.hid (FE.out.keep hbn)
        have FC := Lib.hid (FC.out.keep hbn)
        have FG := Lib.hid (FG.out.keep hbn)
        have FX := Lib.hid (FX.out.keep hbn)
        have FF := Lib.hid (FF.out.keep hbn)
        have FY := Lib.hid ((cell_eqb (p := a.add j) (hbn.block (a.add j).block (by have h := FL.out; first | exact h | simpa [Addr.add] using h | (unfold Addr.add; split <;> exact h)))).trans FY.out)
        clear hbn
        gi_wp2
        refine hK.out _ _ (⟨FF.out.cell 2 rfl, FY.out, FE.out.cell 0 rfl, FC.out.cell 0 rfl, FX.out.cell 0 rfl, FG.out.cell 0 rfl, FG.out.cell 1 rfl, FG.out.cell 2 rfl, FG.out.cell 3 rfl, FG.out.cell 4 rfl, FG.out.cell 5 rfl⟩) (fun hHeld => ?_)
        clear hK K
        try simp only [List.getElem_toArray, List.getElem_cons_zero, List.getElem_cons_succ, Act.put, List.setIfInBounds_toArray, List.set_cons_zero, List.set_cons_succ]
        refine AnyHI.take (fun _ => trivial) (by kernel_rfl) (i := 17) (v := ?_) rfl (by kernel_rfl) (by kernel_rfl) (by kernel_rfl) (fun _ _ _ h => h) (Or.inl ⟨by rfl, ?_⟩) hHeld ?_
        rotate_left
        · intro w hSw
          (try dsimp only at hSw)
          (try simp only [List.getElem_toArray, List.getElem_cons_zero, List.getElem_cons_succ])
          go_simp
          all_goals with_reducible rfl
        try simp only [List.getElem_toArray, List.getElem_cons_zero, List.getElem_cons_succ, Act.put, List.setIfInBounds_toArray, List.set_cons_zero, List.set_cons_succ]
        refine AnyHI.done (by kernel_rfl) ?_ _
        clear FE FC FG FX FF FY FL HCE HUW HLW
        gi_wp2
        exact ⟨HKO.out _ AB, AB.block B HBW.out, below2 HWW.out AB⟩
      case done =>
        rintro D ys W hD - hW hK
        have HMz := Lib.hid (HM12.out.cons hW hD (Nat.le_trans HB12.out.size hD) hK)
        have HBz := Lib.hid (below2 HB12.out hW)
        clear hE1 HSQ hK
        go_wp2_with fail
        rw [show (c : Int) + 1 = ((c + 1 : Nat) : Int) by omega]
        go_roundg (gk - 1)
        case measure => omega
        case rel => exact ⟨by omega, HBz, HMz⟩
      case stop =>
        rintro D c pre W _ _ h _
        exact h.elim
    · have hc3' : c = 3 := by omega
      subst hc3'
      have r0 := (HQ10.out.keep HB.out).cell 0 rfl
      have rf := (HQ10.out.keep HB.out).frozen 0
      have rl := (HQ10.out.keep HB.out).lt
      have HRz := Lib.hid ((HQ10.out.keep HB.out).set 0 (.bool true))
      have HBz := Lib.hid ((below2 HB10.out HB.out).setCell (p := ⟨w.heap.size + 1, 0, none⟩) (show w.heap.size ≤ w.heap.size + 1 by omega) (.bool true))
      have HMz : Hid (Marks w10.heap.size ds (wr.setCell ⟨w.heap.size + 1, 0, none⟩ (.bool true))) := Lib.hid ⟨HM.out.1, fun d hd => by
        obtain ⟨D, e, h1, h2⟩ := HM.out.2 d hd
        exact ⟨D, e, h1, (heap_set wr ⟨w.heap.size + 1, 0, none⟩ (.bool true) D (show D ≠ w.heap.size + 1 by omega)).trans h2⟩⟩
      clear HM HB HS0 HS1 HS2
      go_wp2_with fail
      refine leaves_marks ds _ HMz.out (fun w' hb' => ⟨.bool true, ?_, rfl, HBz.out.trans (hb'.mono (show w.heap.size ≤ w10.heap.size by omega))⟩)
      have hcc := (hb'.cell (p := ⟨w.heap.size + 1, 0, none⟩) h10).trans (HRz.out.cell 0 rfl)
      simp [results, Try.f3, go_sem, hcc]

end Go.Proofs.Ytnpklcmbiamocaa
