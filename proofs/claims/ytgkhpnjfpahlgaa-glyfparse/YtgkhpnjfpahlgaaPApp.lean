/-
  What the program's appendStep and appendFlags of layer 4 do to any world (no claim is made here).
-/
import Derived.Test.YtgkhpnjfpahlgaaPRun
import Derived.Test.YtgkhpnjfpahlgaaPRep
import Derived.Deep.RegionHeld3
namespace Go.Proofs.Ytgkhpnjfpahlgaa
open Go.RowKit

theorem wrap_lo (d : Int) : IntKind.u8.wrap d = ((loB d : Nat) : Int) := by rw [IntKind.wrap_u8]; unfold loB; omega
theorem wrap_hi (d : Int) : IntKind.u8.wrap (d / 256) = ((hiB d : Nat) : Int) := by rw [IntKind.wrap_u8]; unfold hiB; omega

set_option maxHeartbeats 800000 in
theorem appendStep_any (base : Nat) (v : Value) (bs : List Nat) (d : Int) (t : Bool) (ht : t = far d) (hd : -600 ≤ d ∧ d ≤ 600) (w : World) (hv : BRow w base v bs) (hbase : base ≤ w.heap.size) (hl : bs.length ≤ 1000) :
    Calls Try.prog 24 #[v, .int .i64 d, .bool t] w fun e w' => ∃ v', e = .returned v' ∧ App w w' base v v' (bs ++ stepB d) := by
  obtain ⟨k, hk⟩ : ∃ k, bs.length = k := ⟨_, rfl⟩
  have HK := Lib.hid hk
  have HV := Lib.hid hv
  obtain ⟨A, cap, rfl⟩ := hv.form
  have HO := Lib.hid (hv.own hk)
  rw [hk] at HV HO hl
  rw [hk]
  have hlo := wrap_lo d
  have hhi := wrap_hi d
  obtain ⟨lo, hlo'⟩ : ∃ lo, loB d = lo := ⟨_, rfl⟩
  obtain ⟨hi, hhi'⟩ : ∃ hi, hiB d = hi := ⟨_, rfl⟩
  have HSB : Hid (stepB d = if t = true then [hi, lo] else [lo]) := Lib.hid (by unfold stepB; rw [ht, hlo', hhi'])
  rw [hlo'] at hlo
  rw [hhi'] at hhi
  obtain ⟨i0, hi0, hz0, hz1, hz2⟩ := infos binfo
  have hw8 : IntKind.i64.wrap (d / 256) = d / 256 := by rw [IntKind.wrap_i64]; omega
  clear hv hk hlo' hhi' ht
  cases t with
  | false =>
    have hnb : (w.alloc (.cells #[.int .u8 lo] 5)).heap[w.heap.size]? = some (.cells #[.int .u8 lo] 5 (0, 0)) := heap_alloc_new _ _
    have HNB := Lib.hid hnb
    clear hnb
    go_enter Try.func24, Try.ntmps24
    go_wp2_with (at_builtin; refine wpList_append_lies _ rfl _ _ _ (by rfl) base 5 i0 _ 1 1 Try.underlying34 hi0 hz0 hz1 hz2 (by rfl) (by omega) _ k _ (by rfl) (HO.out.alloc _) ⟨w.heap.size, 0, none⟩ 1 1 [.int .u8 lo] (by rfl) (by rfl) (World.news_of_block HNB.out) (by simp [Value.oneCell']) (by omega) (by simp [maxLen]; omega) (by omega) (by simp; omega) (w.heap.size + 1) (by simp) ?_; intro g cp w1 hown hgrow hat hlt)
    go_ret
    refine ⟨_, rfl, ?_⟩
    rw [HSB.out]
    exact App.of (new := [lo]) ((Below.refl _ w).alloc (Nat.le_refl _) _) hgrow hat (by omega) HK.out rfl hown
  | true =>
    have hnb : (w.alloc (.cells #[.int .u8 hi] 5)).heap[w.heap.size]? = some (.cells #[.int .u8 hi] 5 (0, 0)) := heap_alloc_new _ _
    have HNB := Lib.hid hnb
    clear hnb
    go_enter Try.func24, Try.ntmps24
    go_upto_region 3 with (at_builtin; refine wpList_append_lies _ rfl _ _ _ (by rfl) base 5 i0 _ 1 1 Try.underlying34 hi0 hz0 hz1 hz2 (by rfl) (by omega) _ k _ (by rfl) (HO.out.alloc _) ⟨w.heap.size, 0, none⟩ 1 1 [.int .u8 hi] (by rfl) (by rfl) (World.news_of_block HNB.out) (by simp [Value.oneCell']) (by omega) (by simp [maxLen]; omega) (by omega) (by simp; omega) (w.heap.size + 1) (by simp) ?_; intro g cp w1 hown hgrow hat hlt)
    have HA1 := Lib.hid (App.of (new := [hi]) ((Below.refl _ w).alloc (Nat.le_refl _) _) hgrow hat (by omega) HK.out rfl hown)
    have HO1 := Lib.hid hown
    have HZ : Hid (w.heap.size + 1 ≤ w1.heap.size) := Lib.hid (by have := hgrow.size; simpa using this)
    have hz : base ≤ w1.heap.size := by have := HZ.out; omega
    have hnb : (w1.alloc (.cells #[.int .u8 lo] 5)).heap[w1.heap.size]? = some (.cells #[.int .u8 lo] 5 (0, 0)) := heap_alloc_new _ _
    have HNB1 := Lib.hid hnb
    clear hnb hown hgrow hat hlt HNB HO HV
    go_wp2_with (at_builtin; refine wpList_append_lies _ rfl _ _ _ (by rfl) base 5 i0 _ 1 1 Try.underlying34 hi0 hz0 hz1 hz2 (by rfl) (by omega) _ (k + 1) _ (by rfl) (HO1.out.alloc _) ⟨w1.heap.size, 0, none⟩ 1 1 [.int .u8 lo] (by rfl) (by rfl) (World.news_of_block HNB1.out) (by simp [Value.oneCell']) (by omega) (by simp [maxLen]; omega) (by omega) (by simp; omega) (w1.heap.size + 1) (by simp) ?_; intro g2 cp2 w2 hown2 hgrow2 hat2 hlt2)
    go_ret
    refine ⟨_, rfl, ?_⟩
    rw [HSB.out]
    have e : bs ++ [hi, lo] = (bs ++ [hi]) ++ [lo] := by simp
    rw [if_pos trivial, e]
    have hown2' : w2.ownsRow base 5 1 (.slice (some ⟨g2, 0, none⟩) (k + 1 + 1) cp2) (k + 1 + 1) (bvals (bs ++ [hi]) ++ bvals [lo]) := by
      rw [bvals_append]; exact hown2
    exact HA1.out.trans (App.of (new := [lo]) ((Below.refl _ w1).alloc (Nat.le_refl _) _) hgrow2 hat2 (by omega) (by rw [List.length_append, HK.out]; rfl) rfl hown2')

theorem rleN_fuel : ∀ (k : Nat) (l : List Nat) (k' : Nat), l.length ≤ k → l.length ≤ k' → rleN k l = rleN k' l
  | 0, l, k', h, _ => by
    obtain rfl : l = [] := List.eq_nil_of_length_eq_zero (by omega)
    cases k' <;> rfl
  | k + 1, [], k', _, _ => by cases k' <;> rfl
  | k + 1, f :: l, 0, _, h => by simp at h
  | k + 1, f :: l, k' + 1, h, h' => by
    simp only [List.length_cons] at h h'
    unfold rleN
    split
    · rw [rleN_fuel k l k' (by omega) (by omega)]
    · rw [rleN_fuel k (l.drop (runLen f l)) k' (by rw [List.length_drop]; omega) (by rw [List.length_drop]; omega)]
theorem rle_cons (f : Nat) (t : List Nat) : rle (f :: t) = (if 3 ≤ runLen f (f :: t) then [f + 8, runLen f (f :: t) - 1] else List.replicate (runLen f (f :: t)) f) ++ rle ((f :: t).drop (runLen f (f :: t))) := by
  have e1 : runLen f (f :: t) = runLen f t + 1 := by rw [runLen, if_pos rfl]
  rw [e1, List.drop_succ_cons]
  unfold rle
  rw [List.length_cons, rleN]
  split
  · next h =>
    rw [if_neg (by omega)]
    rcases (by omega : runLen f t = 0 ∨ runLen f t = 1) with h0 | h1
    · rw [h0]; rfl
    · rw [h1]
      cases t with
      | nil => simp [runLen] at h1
      | cons g t =>
        have hg : g = f := by
          rcases Decidable.em (g = f) with h | h
          · exact h
          · rw [runLen, if_neg h] at h1; cases h1
        subst hg
        have h2 : runLen g t = 0 := by rw [runLen, if_pos rfl] at h1; omega
        rw [List.length_cons, rleN, if_pos (by omega)]
        rfl
  · next h =>
    rw [if_pos (by omega), rleN_fuel t.length (t.drop (runLen f t)) _ (by rw [List.length_drop]; omega) (Nat.le_refl _)]
    rfl
theorem or8 (f : Nat) (h : f < 8) : bits .or .u8 (f : Int) 8 = ((f + 8 : Nat) : Int) := by
  rcases (by omega : f = 0 ∨ f = 1 ∨ f = 2 ∨ f = 3 ∨ f = 4 ∨ f = 5 ∨ f = 6 ∨ f = 7) with rfl | rfl | rfl | rfl | rfl | rfl | rfl | rfl <;> rfl
def lenV : Value → Nat | .slice _ n _ => n | _ => 0
theorem undrew {w w' : World} (h : Below w.drew.heap.size w.drew w') : Below w.heap.size w w' := ⟨h.os, h.tape, h.output, h.size, h.block⟩

end Go.Proofs.Ytgkhpnjfpahlgaa
