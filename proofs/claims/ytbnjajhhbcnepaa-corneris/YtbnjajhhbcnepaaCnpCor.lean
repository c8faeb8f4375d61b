/-
  What the program's Corners of layer 11 does to any world: a contract (no claim is made here).
-/
import Derived.Test.YtbnjajhhbcnepaaCnpIs
namespace Go.Proofs.Ytbnjajhhbcnepaa
open Go.RowKit

set_option maxRecDepth 100000 in
set_option maxHeartbeats 3200000 in
theorem pcorners_any (ve : Value) (es : List Ed) (w : World) (hv : ERd w ve es) (hl : es.length ≤ 200000) (hin : ∀ s ∈ es, InD s) :
    Calls Try.prog 15 #[ve] w fun e w' => ∃ V, e = .returned V ∧ NRow w' w.heap.size V (cornersL es) ∧ Below w.heap.size w w' := by
  obtain ⟨A, cap, he, hce, -⟩ := id hv
  subst he
  have HV := Lib.hid hv
  have HI := Lib.hid hin
  obtain ⟨n, hN⟩ : ∃ N, es.length = N := ⟨_, rfl⟩
  have HN := Lib.hid hN
  rw [hN] at hv hl hce HV
  rw [hN]
  obtain ⟨i0, hi0, hz0, hz1, hz2⟩ := infos ninfo
  clear hv hin hN
  go_enter Try.func15, Try.ntmps15
  go_wp2_with fail
  go_loopw [9, 3] (fun i u wr => ∃ r : Nat, r ≤ n ∧ i = .int .i64 r ∧ Hid (NRow wr w.heap.size u (cornersTo es r)) ∧ Hid (Below w.heap.size w wr)) (fun i _ _ => n - (intOf i).toNat)
  case atStart => exact ⟨0, Nat.zero_le _, rfl, Lib.hid (NRow.nil _ _), Lib.hid (Below.refl _ _)⟩
  case round =>
    obtain ⟨r, hr, rfl, HR, HB⟩ := hrel
    by_cases hrn : r < n
    · have hrb : decide ((r : Int) < n) = true := by simp; omega
      obtain ⟨k, hk, hkn, hkm⟩ : ∃ k : Nat, (if r = 0 then n - 1 else r - 1) = k ∧ k < n ∧ ((r : Int) + n - 1).tmod n = (k : Int) := by
        refine ⟨_, rfl, by split <;> omega, ?_⟩
        rw [show (r : Int) + n - 1 = ((r + n - 1 : Nat) : Int) by omega, ← Int.ofNat_tmod]
        congr 1
        by_cases h0 : r = 0
        · subst h0; rw [if_pos rfl, Nat.zero_add, Nat.mod_eq_of_lt (by omega)]
        · rw [if_neg h0, show r + n - 1 = (r - 1) + n by omega, Nat.add_mod_right, Nat.mod_eq_of_lt (by omega)]
      obtain ⟨P, hP⟩ : ∃ c, es[k]? = some c := ⟨_, List.getElem?_eq_getElem (by rw [HN.out]; omega)⟩
      obtain ⟨E, hE⟩ : ∃ c, es[r]? = some c := ⟨_, List.getElem?_eq_getElem (by rw [HN.out]; omega)⟩
      have HIE := Lib.hid (HI.out E (List.mem_of_getElem? hE))
      have HIP := Lib.hid (HI.out P (List.mem_of_getElem? hP))
      have HAT : Hid (isC P E = atC es r) := Lib.hid (by
        unfold atC
        rw [HN.out, hk, List.getD_eq_getElem?_getD, List.getD_eq_getElem?_getD, hP, hE]
        rfl)
      have HIS := Lib.hid (fun w => pis_any P E HIP.out HIE.out w)
      rw [HAT.out] at HIS
      have HCS := Lib.hid (cornersTo_succ es r)
      obtain ⟨a, rfl, hal, e0, e1, e2, e3⟩ := (HV.out.keep HB.out).at r E hE
      have h1 : Below wr.heap.size wr (wr.alloc (.cells #[.int .i64 E.a.x, .int .i64 E.a.y, .int .i64 E.b.x, .int .i64 E.b.y] 29)) := (Below.refl _ _).alloc (Nat.le_refl _) _
      have HB4 := Lib.hid (below2 HB.out h1)
      obtain ⟨_, e, hap4, p0, p1, p2, p3⟩ := (HV.out.keep HB4.out).at k P hP
      cases e
      have z1 : IntKind.i64.wrap ((r : Int) + n) = r + n := wI (by omega) (by omega)
      have z2 : IntKind.i64.wrap ((r : Int) + n - 1) = r + n - 1 := wI (by omega) (by omega)
      have z3 : ((n : Int) == 0) = false := by simp; omega
      have z4 : IntKind.i64.wrap (k : Int) = k := wI (by omega) (by omega)
      have HE4 := Lib.hid (Blk.new wr 29 [.int .i64 E.a.x, .int .i64 E.a.y, .int .i64 E.b.x, .int .i64 E.b.y] rfl)
      have hb5 : Below wr.heap.size wr ((wr.alloc (.cells #[.int .i64 E.a.x, .int .i64 E.a.y, .int .i64 E.b.x, .int .i64 E.b.y] 29)).alloc (.cells #[.int .i64 P.a.x, .int .i64 P.a.y, .int .i64 P.b.x, .int .i64 P.b.y] 29)) := alloc2 _ _ _
      have HE5 := Lib.hid (HE4.out.alloc (.cells #[.int .i64 P.a.x, .int .i64 P.a.y, .int .i64 P.b.x, .int .i64 P.b.y] 29))
      have HP5 := Lib.hid (Blk.new (wr.alloc (.cells #[.int .i64 E.a.x, .int .i64 E.a.y, .int .i64 E.b.x, .int .i64 E.b.y] 29)) 29 [.int .i64 P.a.x, .int .i64 P.a.y, .int .i64 P.b.x, .int .i64 P.b.y] (g := wr.heap.size + 1) (by simp))
      have HB5 := Lib.hid (below2 HB.out hb5)
      have HR5 := Lib.hid (HR.out.below hb5)
      clear h1 hb5 HE4 hP hE hk
      go_upto_region 6 with fail
      clear HB4 hap4 p0 p1 p2 p3 hal e0 e1 e2 e3 z1 z2 z3 z4 hkm HR HB
      generalize (wr.alloc (.cells #[.int .i64 E.a.x, .int .i64 E.a.y, .int .i64 E.b.x, .int .i64 E.b.y] 29)).alloc (.cells #[.int .i64 P.a.x, .int .i64 P.a.y, .int .i64 P.b.x, .int .i64 P.b.y] 29) = w5 at *
      obtain ⟨X, hX⟩ : ∃ X, wr.heap.size = X := ⟨_, rfl⟩
      rw [hX] at HE5 HP5 ⊢
      clear hX
      have x0 := HE5.out.cell 0 rfl
      have x1 := HE5.out.cell 1 rfl
      have x2 := HE5.out.cell 2 rfl
      have x3 := HE5.out.cell 3 rfl
      have y0 := HP5.out.cell 0 rfl
      have y1 := HP5.out.cell 1 rfl
      have y2 := HP5.out.cell 2 rfl
      have y3 := HP5.out.cell 3 rfl
      go_wp2_with fail
      refine (HIS.out _).mono ?_
      rintro e wn ⟨rfl, hbn⟩
      have AB := below2 HB5.out hbn
      have HRX := Lib.hid (HR5.out.below hbn)
      clear HR5 HB5 HE5 HP5 hbn x0 x1 x2 x3 y0 y1 y2 y3 HIS HAT
      generalize atC es r = b at *
      cases b
      · have HC2 := Lib.hid (HCS.out.trans (if_neg (by simp)))
        clear HCS
        go_wp2_with fail
        exact ⟨⟨r + 1, hrn, by go_num, Lib.hid (by rw [HC2.out]; exact HRX.out), Lib.hid AB⟩, by simp [intOf]; omega⟩
      · have HC2 := Lib.hid (HCS.out.trans (if_pos rfl))
        obtain ⟨K, hK⟩ : ∃ K, (cornersTo es r).length = K := ⟨_, rfl⟩
        have hKb : K ≤ r := by rw [← hK]; exact cornersTo_len es r
        have HK := Lib.hid hK
        have HOwn := Lib.hid (HRX.out.own hK)
        obtain ⟨Au, capu, rfl⟩ := HRX.out.form
        rw [hK] at HOwn ⊢
        clear hK HCS HRX
        generalize cornersTo es r = cur at *
        have hsz := AB.size
        have HAB := Lib.hid AB
        have HNB := Lib.hid (heap_alloc_new wn (.cells #[.int .i64 (r : Int)] 3))
        clear AB
        go_wp2_with (at_builtin; refine wpList_append_lies _ rfl _ _ _ (by rfl) w.heap.size 3 i0 _ 1 8 Try.underlying38 hi0 hz0 hz1 hz2 (by rfl) (by omega) _ K _ (by rfl) (HOwn.out.alloc _) ⟨wn.heap.size, 0, none⟩ 1 1 [.int .i64 (r : Int)] (by rfl) (by rfl) (World.news_of_block HNB.out) (by simp [Value.oneCell']) (by omega) (by simp [maxLen]; omega) (by omega) (by simp; omega) (wn.heap.size + 1) (by simp) ?_; intro g cp w4 hown hgrow hat hlt)
        have BN : Below w.heap.size w w4 := (HAB.out.alloc HAB.out.size _).grown hgrow (by simp; omega) (fun q hq => (HOwn.out.lt q hq).1)
        exact ⟨⟨r + 1, hrn, by go_num, Lib.hid (by rw [HC2.out]; exact NRow.push1 HK.out hown), Lib.hid BN⟩, by simp [intOf]; omega⟩
    · obtain rfl : r = n := by omega
      obtain ⟨Au, capu, rfl⟩ := HR.out.form
      go_wp2_with fail
      go_ret
      exact ⟨_, rfl, by unfold cornersL; rw [HN.out]; exact HR.out, HB.out⟩

end Go.Proofs.Ytbnjajhhbcnepaa
