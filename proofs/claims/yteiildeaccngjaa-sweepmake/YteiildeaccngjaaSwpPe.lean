/-
  The program's Known of layer 13: its contract (no claim is made here).
-/
import Derived.Test.YteiildeaccngjaaSwpPd
namespace Go.Proofs.Yteiildeaccngjaa
open Go.RowKit


set_option maxRecDepth 100000 in
set_option maxHeartbeats 3200000 in
theorem pknown13_any (ve : Value) (es : List Ed) (x y p s : Int) (u v : Nat) (w : World) (hv : ERd w ve es) (hl : es.length ≤ 200000) (hin : ∀ s ∈ es, InD s) (hck : checkG x y p u v s = 0) :
    Calls Try.prog 12 #[ve, .agg #[.int .i64 x, .int .i64 y, .int .i64 p, .int .i64 u, .int .i64 v, .int .i64 s]] w fun e w' => ∃ V, e = .returned V ∧ IRd w' V (knownL es x y p u v) ∧ Below w.heap.size w w' := by
  obtain ⟨⟨hx, hy⟩, hp, hs, hu, hv2⟩ := checkG_zero hck
  have hu' : 0 < u ∧ u ≤ 24 := by omega
  have hv' : 0 < v ∧ v ≤ 24 := by omega
  have HCK := Lib.hid (fun w => gcheck_any x y p u v s w)
  rw [hck] at HCK
  have hve0 : es ≠ [] → ∀ g, ve.ownBlock = some g → g < w.heap.size := by
    intro h g hg
    obtain ⟨Ae, cape, rfl, h1, h3⟩ := id hv
    obtain ⟨a, rfl, hlt, _⟩ := h3 0 (by cases es; exact absurd rfl h; simp)
    simp only [Value.ownBlock, Option.some.injEq] at hg
    omega
  obtain ⟨Ae, cape, rfl, hce, -⟩ := id hv
  have HIG := Lib.hid (fun w => pign_any Ae es.length cape es (cenS x y p u) x y p s u v w hu' hv')
  have HPT := Lib.hid (fun gA gQ m st w E h1 h2 hne h3 h4 h5 h6 => ppts_any gA gQ m (.slice Ae es.length cape) es x y p s u v st w h1 h2 hne h3 h4 hin hx hy hp hu' hv' h5 E h6)
  have HAS := Lib.hid (fun d hd gA gQ n st w h1 h2 hne h3 h4 h5 h6 => pask_any d hd gA gQ n (.slice Ae es.length cape) es x y p s u v st w h1 h2 hne h3 h4 hin hx hy hp hu' hv' h5 h6)
  have HKL := Lib.hid (show knownL es x y p u v = passTo es x y p u v (-1) (passTo es x y p u v 1 (seedTo es x y p u v es.length) (u * v)) (u * v) from rfl)
  have HV0 := Lib.hid hv
  have HVE := Lib.hid hve0
  have HMb := Lib.hid (show u * v ≤ 24 * 24 from Nat.mul_le_mul hu'.2 hv'.2)
  obtain ⟨M, hM⟩ : ∃ M, u * v = M := ⟨_, rfl⟩
  have HMM := Lib.hid hM
  obtain ⟨N, hN⟩ : ∃ N, es.length = N := ⟨_, rfl⟩
  have HLN := Lib.hid hN
  have HIN := Lib.hid hin
  have HG0 := Lib.hid (Blk.new w 29 [.int .i64 x, .int .i64 y, .int .i64 p, .int .i64 u, .int .i64 v, .int .i64 s] rfl)
  have hk0 : Below w.heap.size w (w.alloc (.cells #[.int .i64 x, .int .i64 y, .int .i64 p, .int .i64 u, .int .i64 v, .int .i64 s] 29)) := (Below.refl _ _).alloc (Nat.le_refl _) _
  have HB0 := Lib.hid hk0
  replace HV0 := Lib.hid (HV0.out.keep hk0)
  rw [hN] at HV0 HIG HPT HAS hl hce HVE ⊢
  rw [hM] at HIG HPT HAS HMb
  clear hv hin hck hM hN hk0 hve0
  go_enter Try.func12, Try.ntmps12
  go_wp2_with fail
  refine (HCK.out _).mono ?_
  rintro e w1 ⟨rfl, hb⟩
  have HG1 := Lib.hid (HG0.out.keep hb)
  have HV1 := Lib.hid (HV0.out.keep hb)
  have HB1 := Lib.hid (below2 HB0.out hb)
  have g0 := HG1.out.cell 0 rfl
  have g1 := HG1.out.cell 1 rfl
  have g2 := HG1.out.cell 2 rfl
  have g3 := HG1.out.cell 3 rfl
  have g4 := HG1.out.cell 4 rfl
  have g5 := HG1.out.cell 5 rfl
  have gl := HG1.out.lt
  clear hb HG0 HV0 HB0 HCK
  go_wp2_with fail
  refine (HIG.out _).mono ?_
  rintro e w2 ⟨gA, gQ, rfl, ⟨h1, h2, hne⟩, hA, hQ, hb⟩
  have hal : Below w2.heap.size w2 (w2.alloc (.cells #[.slice Ae N cape, .int .i64 x, .int .i64 y, .int .i64 p, .int .i64 u, .int .i64 v, .int .i64 s, .slice (some ⟨gA, 0, none⟩) M M, .slice (some ⟨gQ, 0, none⟩) M M] 72)) := (Below.refl _ _).alloc (Nat.le_refl _) _
  have HT := Lib.hid (Blk.new w2 72 [.slice Ae N cape, .int .i64 x, .int .i64 y, .int .i64 p, .int .i64 u, .int .i64 v, .int .i64 s, .slice (some ⟨gA, 0, none⟩) M M, .slice (some ⟨gQ, 0, none⟩) M M] rfl)
  have HA := Lib.hid (hA.keep hal)
  have HQ := Lib.hid (hQ.keep hal)
  have HV := Lib.hid ((HV1.out.keep hb).keep hal)
  have HB2 := Lib.hid (below2 (below2 HB1.out hb) hal)
  have hTk : ¬ (w2.heap.size = gA ∨ w2.heap.size = gQ) := by have := hA.lt; have := hQ.lt; omega
  have hsz := HB1.out.size
  have hAQ : w.heap.size ≤ gA ∧ w.heap.size ≤ gQ := by omega
  have HVK := Lib.hid (show es ≠ [] → ∀ g, (Value.slice Ae N cape).ownBlock = some g → ¬ (g = gA ∨ g = gQ) from fun h g hg => by have := HVE.out h g hg; omega)
  have HSD : List.replicate M (-1) = seedTo es x y p u v 0 := by unfold seedTo; rw [HMM.out]
  rw [HSD] at HA HQ
  clear hb hal hA hQ HG1 HV1 HB1 HSD HIG g0 g1 g2 g3 g4 g5 gl h1 h2 hsz HVE
  go_wp2_with fail
  generalize w2.alloc (.cells #[.slice Ae N cape, .int .i64 x, .int .i64 y, .int .i64 p, .int .i64 u, .int .i64 v, .int .i64 s, .slice (some ⟨gA, 0, none⟩) M M, .slice (some ⟨gQ, 0, none⟩) M M] 72) = w3 at *
  generalize w2.heap.size = gT at *
  have HSI := Lib.hid (fun r (hr : r ≤ N) => seedTo_in es x y p u v hu'.1 hv'.1 (M := (N : Nat)) (by omega) r (by omega))
  have HSS := Lib.hid (fun r => show seed3 es x y p u v (seedTo es x y p u v r) r 3 = seedTo es x y p u v (r + 1) from rfl)
  have HSL := Lib.hid (seedTo_len es x y p u v N)
  rw [HLN.out] at HKL
  generalize seedTo es x y p u v = F0 at *
  have HP1I := Lib.hid (fun n (hn : n ≤ M) => passTo_in es x y p u v 1 HSL.out (HSI.out N (Nat.le_refl _)) n (by rw [HMM.out]; exact hn))
  have HP1S := Lib.hid (fun n => show near4 es x y p u v 1 (passTo es x y p u v 1 (F0 N) n) n 4 = passTo es x y p u v 1 (F0 N) (n + 1) from rfl)
  have HP10 : passTo es x y p u v 1 (F0 N) 0 = F0 N := rfl
  have HP1L := Lib.hid (fun n => (passTo_len es x y p u v 1 (F0 N) n).trans HSL.out)
  generalize passTo es x y p u v 1 (F0 N) = F1 at *
  rw [HMM.out] at HKL
  have HP2I := Lib.hid (fun n (hn : n ≤ M) => passTo_in es x y p u v (-1) (HP1L.out M) (HP1I.out M (Nat.le_refl _)) n (by rw [HMM.out]; exact hn))
  have HP2S := Lib.hid (fun n => show near4 es x y p u v (-1) (passTo es x y p u v (-1) (F1 M) n) (M - 1 - n) 4 = passTo es x y p u v (-1) (F1 M) (n + 1) by rw [← HMM.out]; rfl)
  have HP20 : passTo es x y p u v (-1) (F1 M) 0 = F1 M := rfl
  generalize passTo es x y p u v (-1) (F1 M) = F2 at *
  clear HSL HP1L
  go_loopw [19] (fun i wr => ∃ r : Nat, r ≤ N ∧ i = .int .i64 r ∧ Hid (NRw wr gA M (ivals (F0 r))) ∧ Hid (SQw wr gQ M es (cenS x y p u) (F0 r)) ∧ Hid (But (fun g => g = gA ∨ g = gQ) w3 wr)) (fun i _ => N - (intOf i).toNat)
  case atStart => exact ⟨0, Nat.zero_le _, rfl, HA, HQ, Lib.hid (But.of (Below.refl _ _))⟩
  case round =>
    clear HA HQ
    obtain ⟨r, hr, rfl, HAr, HQr, HWr⟩ := hrel
    by_cases hrn : r < N
    · as_aux_lemma =>
      have hrb : decide ((r : Int) < N) = true := by simp; omega
      have HTr := Lib.hid (HT.out.but HWr.out hTk)
      have HVr := Lib.hid (erd_but HV.out HWr.out HVK.out)
      obtain ⟨E, hE0⟩ : ∃ c, es[r]? = some c := ⟨_, List.getElem?_eq_getElem (by rw [HLN.out]; exact hrn)⟩
      obtain ⟨ae, rfl, hel, hEm⟩ := HVr.out.at r E hE0
      have hEs := HSI.out r hr
      have HCL := Lib.hid (fun w h1 h2 h3 => HPT.out gA gQ r (F0 r) w E h1 h2 hne h3 HVK.out hEs hE0)
      rw [HSS.out r] at HCL
      have hal : Below wr.heap.size wr (wr.alloc (.cells #[.int .i64 E.a.x, .int .i64 E.a.y, .int .i64 E.b.x, .int .i64 E.b.y] 50)) := (Below.refl _ _).alloc (Nat.le_refl _) _
      have HA4 := Lib.hid (HAr.out.keep hal)
      have HQ4 := Lib.hid (HQr.out.keep hal)
      have HV4 := Lib.hid (HVr.out.keep hal)
      have HW4 := Lib.hid (HWr.out.then (hal.mono HWr.out.size))
      have t0 := HTr.out.cell 0 rfl
      have t1 := HTr.out.cell 1 rfl
      have t2 := HTr.out.cell 2 rfl
      have t3 := HTr.out.cell 3 rfl
      have t4 := HTr.out.cell 4 rfl
      have t5 := HTr.out.cell 5 rfl
      have t6 := HTr.out.cell 6 rfl
      have t7 := HTr.out.cell 7 rfl
      have t8 := HTr.out.cell 8 rfl
      have tl := HTr.out.lt
      obtain ⟨e0, e1, e2, e3⟩ := hEm
      clear hal hE0 hEs HAr HQr HWr HVr HTr
      go_wp2_with fail
      refine (HCL.out _ HA4.out HQ4.out HV4.out).mono ?_
      rintro e w5 ⟨⟨V, rfl⟩, hA, hQ, hb⟩
      have HA5 := Lib.hid hA
      have HQ5 := Lib.hid hQ
      have HW5 := Lib.hid (HW4.out.trans hb)
      clear hA hQ hb
      go_wp2_with fail
      exact ⟨⟨r + 1, hrn, by go_num, HA5, HQ5, HW5⟩, by simp [intOf]; omega⟩
    · as_aux_lemma =>
      obtain rfl : r = N := by omega
      have hrb : decide ((r : Int) < r) = false := by simp
      rw [← HP10] at HAr HQr
      have HTr := Lib.hid (HT.out.but HWr.out hTk)
      have HVr := Lib.hid (erd_but HV.out HWr.out HVK.out)
      have HBr := Lib.hid (HB2.out.trans (HWr.out.below (B := w.heap.size) (fun k hk => by rcases hk with rfl | rfl; exact hAQ.1; exact hAQ.2) HB2.out.size))
      have t0 := HTr.out.cell 0 rfl
      have t1 := HTr.out.cell 1 rfl
      have t2 := HTr.out.cell 2 rfl
      have t3 := HTr.out.cell 3 rfl
      have t4 := HTr.out.cell 4 rfl
      have t5 := HTr.out.cell 5 rfl
      have t6 := HTr.out.cell 6 rfl
      have t7 := HTr.out.cell 7 rfl
      have t8 := HTr.out.cell 8 rfl
      have tl := HTr.out.lt
      clear HT HV HB2 HWr HP10
      go_wp2_with fail
      generalize wr = w4 at *
      go_loopw [33] (fun i wr => ∃ r : Nat, r ≤ M ∧ i = .int .i64 r ∧ Hid (NRw wr gA M (ivals (F1 r))) ∧ Hid (SQw wr gQ M es (cenS x y p u) (F1 r)) ∧ Hid (But (fun g => g = gA ∨ g = gQ) w4 wr)) (fun i _ => M - (intOf i).toNat)
      case atStart => exact ⟨0, Nat.zero_le _, rfl, HAr, HQr, Lib.hid (But.of (Below.refl _ _))⟩
      case round =>
        clear HAr HQr
        obtain ⟨n, hn, rfl, HAn, HQn, HWn⟩ := hrel
        have HT4 := Lib.hid (HTr.out.but HWn.out hTk)
        have HV4 := Lib.hid (erd_but HVr.out HWn.out HVK.out)
        clear t0 t1 t2 t3 t4 t5 t6 t7 t8 tl
        have t0 := HT4.out.cell 0 rfl
        have t1 := HT4.out.cell 1 rfl
        have t2 := HT4.out.cell 2 rfl
        have t3 := HT4.out.cell 3 rfl
        have t4 := HT4.out.cell 4 rfl
        have t5 := HT4.out.cell 5 rfl
        have t6 := HT4.out.cell 6 rfl
        have t7 := HT4.out.cell 7 rfl
        have t8 := HT4.out.cell 8 rfl
        have tl := HT4.out.lt
        by_cases hnn : n < M
        · as_aux_lemma =>
          have hMb := HMb.out
          have hnb : decide ((n : Int) < M) = true := by simp; omega
          have hEs := HP1I.out n hn
          have HCL := Lib.hid (fun w h1 h2 h3 => HAS.out 1 (.inl rfl) gA gQ n (F1 n) w h1 h2 hne h3 HVK.out hEs hnn)
          rw [HP1S.out n] at HCL
          go_wp2_with fail
          refine (HCL.out _ HAn.out HQn.out HV4.out).mono ?_
          rintro e w5 ⟨⟨V, rfl⟩, hA, hQ, hb⟩
          have HA5 := Lib.hid hA
          have HQ5 := Lib.hid hQ
          have HW5 := Lib.hid (HWn.out.trans hb)
          clear hA hQ hb
          go_wp2_with fail
          exact ⟨⟨n + 1, hnn, by go_num, HA5, HQ5, HW5⟩, by simp [intOf]; omega⟩
        · as_aux_lemma =>
          obtain rfl : n = M := by omega
          have hnb : decide ((n : Int) < n) = false := by simp
          rw [← HP20] at HAn HQn
          have HB5 := Lib.hid (HBr.out.trans (HWn.out.below (B := w.heap.size) (fun k hk => by rcases hk with rfl | rfl; exact hAQ.1; exact hAQ.2) HBr.out.size))
          clear HTr HVr HBr HWn HP20
          go_wp2_with fail
          generalize wr = w5 at *
          go_loopw [41] (fun i wr => ∃ r : Nat, r ≤ n ∧ i = .int .i64 r ∧ Hid (NRw wr gA n (ivals (F2 r))) ∧ Hid (SQw wr gQ n es (cenS x y p u) (F2 r)) ∧ Hid (But (fun g => g = gA ∨ g = gQ) w5 wr)) (fun i _ => n - (intOf i).toNat)
          case atStart => exact ⟨0, Nat.zero_le _, rfl, HAn, HQn, Lib.hid (But.of (Below.refl _ _))⟩
          case round =>
            clear HAn HQn
            obtain ⟨k, hk, rfl, HAk, HQk, HWk⟩ := hrel
            have HT5 := Lib.hid (HT4.out.but HWk.out hTk)
            have HV5 := Lib.hid (erd_but HV4.out HWk.out HVK.out)
            clear t0 t1 t2 t3 t4 t5 t6 t7 t8 tl
            have t0 := HT5.out.cell 0 rfl
            have t1 := HT5.out.cell 1 rfl
            have t2 := HT5.out.cell 2 rfl
            have t3 := HT5.out.cell 3 rfl
            have t4 := HT5.out.cell 4 rfl
            have t5 := HT5.out.cell 5 rfl
            have t6 := HT5.out.cell 6 rfl
            have t7 := HT5.out.cell 7 rfl
            have t8 := HT5.out.cell 8 rfl
            have tl := HT5.out.lt
            by_cases hkn : k < n
            · as_aux_lemma =>
              have hkb : decide ((k : Int) < n) = true := by simp; omega
              have hEs := HP2I.out k hk
              have HCL := Lib.hid (fun w h1 h2 h3 => HAS.out (-1) (.inr rfl) gA gQ (n - 1 - k) (F2 k) w h1 h2 hne h3 HVK.out hEs (by omega))
              rw [HP2S.out k] at HCL
              have hMb := HMb.out
              have m1 : IntKind.i64.wrap ((n : Int) - 1) = (n : Int) - 1 := wI (by omega) (by omega)
              have m2 : IntKind.i64.wrap ((n : Int) - 1 - k) = ((n - 1 - k : Nat) : Int) := by rw [show ((n - 1 - k : Nat) : Int) = (n : Int) - 1 - k by omega]; exact wI (by omega) (by omega)
              go_wp2_with fail
              refine (HCL.out _ HAk.out HQk.out HV5.out).mono ?_
              rintro e w6 ⟨⟨V, rfl⟩, hA, hQ, hb⟩
              have HA5 := Lib.hid hA
              have HQ5 := Lib.hid hQ
              have HW5 := Lib.hid (HWk.out.trans hb)
              clear hA hQ hb
              go_wp2_with fail
              exact ⟨⟨k + 1, hkn, by go_num, HA5, HQ5, HW5⟩, by simp [intOf]; omega⟩
            · as_aux_lemma =>
              obtain rfl : k = n := by omega
              have hkb : decide ((k : Int) < k) = false := by simp
              have HB6 := Lib.hid (HB5.out.trans (HWk.out.below (B := w.heap.size) (fun k hk => by rcases hk with rfl | rfl; exact hAQ.1; exact hAQ.2) HB5.out.size))
              go_wp2_with fail
              go_ret
              refine ⟨_, rfl, ?_, HB6.out⟩
              rw [HKL.out]
              exact HAk.out.ird


end Go.Proofs.Yteiildeaccngjaa
