/-
  What flat.Edges does to any world (no claim is made here).
-/
import Derived.Test.YtglmgenifjaakaaFlt2
import Derived.Test.YtglmgenifjaakaaPthS
namespace Go.Proofs.Ytglmgenifjaakaa
open Go.RowKit

theorem ERow.apart {w : World} {base g : Nat} {u : Value} {l : List Ed} {t : TypeId} {vs : List Value} (h : ERow w base u l) (k : Blk w g t vs) (ht : t ≠ 37) : u.ownBlock ≠ some g := by
  intro e
  rcases h.2 with ⟨rfl, _⟩ | ⟨g', cap, cur, rfl, _, hg, _⟩
  · cases e
  · have : g' = g := by simpa [Value.ownBlock] using e
    subst this
    unfold Blk at k
    rw [hg] at k
    injection k with k
    injection k with _ k
    exact ht k.symm
/-- The edges so far, in the variable gs. -/
def ESt (w0 wr : World) (gs : Nat) (acc : List Ed) : Prop := (∃ u, Blk wr gs 28 [u] ∧ ERow wr (gs + 1) u acc) ∧ Below w0.heap.size w0 wr
theorem ESt.alloc {w0 wr : World} {gs : Nat} {acc : List Ed} (h : ESt w0 wr gs acc) (o : Obj) : ESt w0 (wr.alloc o) gs acc := by
  obtain ⟨⟨u, h1, h2⟩, h3⟩ := h
  exact ⟨⟨u, h1.alloc o, h2.alloc o⟩, h3.alloc h3.size o⟩
theorem lead_step (s0 s1 s2 s3 s4 s5 : Int) (s6 : Bool) (s : Sg) (hs : s = ⟨⟨s0, s1⟩, ⟨s2, s3⟩, ⟨s4, s5⟩, s6⟩) (i j : Nat) (hi : i ≤ 4) (hj : j ≤ 4) (hin : inS s) (gs g : Nat) (acc : List Ed) (w0 w : World) (h : ESt w0 w gs acc) (hg : w0.heap.size ≤ gs) (hl : acc.length ≤ 20000) (hB : Blk w g 70 (scell s)) :
    Calls Try.prog 33 #[.agg #[.int .i64 s0, .int .i64 s1, .int .i64 s2, .int .i64 s3, .int .i64 s4, .int .i64 s5, .bool s6], .int .i64 i, .int .i64 j, .pointer (some ⟨gs, 0, none⟩)] w fun e w' => e = .returned (.tuple #[]) ∧ ESt w0 w' gs (acc ++ edge (onV s i) (onV s j)) ∧ Blk w' g 70 (scell s) := by
  obtain ⟨⟨u, h1, h2⟩, h3⟩ := h
  subst hs
  refine (lead_any s0 s1 s2 s3 s4 s5 s6 i j hi hj hin gs (gs + 1) u acc w h1 h2 (Nat.lt_succ_self _) hl h1.lt).mono ?_
  rintro e w' ⟨rfl, ⟨u', k1, k2⟩, k3⟩
  refine ⟨rfl, ⟨⟨u', k1, k2⟩, ?_⟩, ?_⟩
  · refine h3.trans (k3.below ?_ h3.size)
    rintro k (rfl | hk)
    · exact hg
    · have := (World.ownsRow.lt h2 k hk).1
      omega
  · refine hB.heap (k3.block g hB.lt ?_)
    rintro (rfl | hk)
    · unfold Blk at h1 hB
      rw [h1] at hB
      simp at hB
    · exact ERow.apart h2 hB (by decide) hk
theorem take_next {α : Type} {l : List α} {r : Nat} {s : α} (h : l[r]? = some s) : l.take (r + 1) = l.take r ++ [s] := by
  obtain ⟨hi, rfl⟩ := List.getElem?_eq_some_iff.1 h
  rw [List.take_succ_eq_append_getElem hi]
theorem edgesOf_line {s : Sg} (h : s.curve = false) : edgesOf s = edge (onV s 0) (onV s 4) := by unfold edgesOf ptsOf; rw [if_neg (by simp [h])]; simp [chain]
/-- A curve's edges, some of them. -/
def curveE (s : Sg) : Nat → List Ed
  | 0 => []
  | k + 1 => curveE s k ++ edge (onV s k) (onV s (k + 1))
theorem edgesOf_curve {s : Sg} (h : s.curve = true) : edgesOf s = curveE s 4 := by unfold edgesOf ptsOf; rw [if_pos h]; simp [chain, curveE]
theorem curveE_len (s : Sg) : ∀ k, (curveE s k).length ≤ k
  | 0 => Nat.le_refl _
  | k + 1 => by have := curveE_len s k; have := edge_len (onV s k) (onV s (k + 1)); simp only [curveE, List.length_append]; omega

set_option maxHeartbeats 1600000 in
theorem edges_any (v : Value) (l : List Sg) (w : World) (hv : SRd w v l) (hl : l.length ≤ 4000) (hin : ∀ s ∈ l, inS s) :
    Calls Try.prog 26 #[v] w fun e w' => ∃ u, e = .returned u ∧ ERow w' w.heap.size u (edgesS l) ∧ Below w.heap.size w w' := by
  have HV := Lib.hid hv
  have HI := Lib.hid hin
  obtain ⟨A, cap, rfl, hc, -⟩ := hv
  obtain ⟨n, hn⟩ : ∃ n : Nat, l.length = n := ⟨_, rfl⟩
  rw [hn] at HV hl hc
  rw [hn]
  have HN := Lib.hid hn
  have E0 : ESt w (w.alloc (.cells #[.slice none 0 0] 28)) w.heap.size [] := ⟨⟨_, Blk.new w 28 [.slice none 0 0] rfl, ERow.nil _ _⟩, (Below.refl _ w).alloc (Nat.le_refl _) _⟩
  have HE0 := Lib.hid E0
  clear hn hin E0
  go_enter Try.func26, Try.ntmps26
  go_wp2_with fail
  go_loopw [11] (fun i wr => ∃ r : Nat, r ≤ n ∧ i = .int .i64 r ∧ Hid (ESt w wr w.heap.size (edgesS (l.take r)))) (fun i _ => n - (intOf i).toNat)
  case atStart => exact ⟨0, Nat.zero_le _, rfl, HE0⟩
  case round =>
    obtain ⟨r, hr, rfl, HW⟩ := hrel
    by_cases hrn : r < n
    · have hrb : decide ((r : Int) < n) = true := by simp; omega
      obtain ⟨s, hs⟩ : ∃ s, l[r]? = some s := ⟨_, List.getElem?_eq_getElem (by rw [HN.out]; exact hrn)⟩
      obtain ⟨a, rfl, ha, x0, x1, x2, x3, x4, x5, x6⟩ := (HV.out.keep HW.out.2).at r s hs
      have HIS := Lib.hid (HI.out s (List.mem_of_getElem? hs))
      have HT := Lib.hid (take_next hs)
      have hlen := edgesS_len (l.take r)
      have hlen2 : (l.take r).length ≤ n := by rw [List.length_take, HN.out]; omega
      have HL := Lib.hid (show (edgesS (l.take r)).length ≤ 16000 by omega)
      obtain ⟨⟨s0, s1⟩, ⟨s2, s3⟩, ⟨s4, s5⟩, s6⟩ := s
      simp only [] at x0 x1 x2 x3 x4 x5 x6
      have HW1 := Lib.hid (HW.out.alloc (.cells #[.int .i64 s0, .int .i64 s1, .int .i64 s2, .int .i64 s3, .int .i64 s4, .int .i64 s5, .bool s6] 70))
      have HB1 : Hid (Blk (wr.alloc (.cells #[.int .i64 s0, .int .i64 s1, .int .i64 s2, .int .i64 s3, .int .i64 s4, .int .i64 s5, .bool s6] 70)) wr.heap.size 70 (scell ⟨⟨s0, s1⟩, ⟨s2, s3⟩, ⟨s4, s5⟩, s6⟩)) := Lib.hid (Blk.new wr 70 [.int .i64 s0, .int .i64 s1, .int .i64 s2, .int .i64 s3, .int .i64 s4, .int .i64 s5, .bool s6] rfl)
      clear hs hlen hlen2
      cases s6 with
      | false =>
        have HC := Lib.hid (lead_step s0 s1 s2 s3 s4 s5 false _ rfl 0 4 (by omega) (by omega) HIS.out w.heap.size wr.heap.size _ w _ HW1.out (Nat.le_refl _) (by have := HL.out; omega) HB1.out)
        go_wp2_with fail
        refine HC.out.mono ?_
        rintro e w2 ⟨rfl, h2, h3⟩
        have HW2 : Hid (ESt w w2 w.heap.size (edgesS (l.take (r + 1)))) := Lib.hid (by rw [HT.out, edgesS_push, edgesOf_line rfl]; exact h2)
        clear h2 h3
        go_wp2_with fail
        exact ⟨⟨r + 1, by omega, by go_num, HW2⟩, by simp [intOf]; omega⟩
      | true =>
        go_wp2_with fail
        obtain ⟨wo, rfl⟩ : ∃ x, x = wr := ⟨wr, rfl⟩
        go_loopw [21] (fun i wr => ∃ m : Nat, m ≤ 4 ∧ i = .int .i64 m ∧ Hid (ESt w wr w.heap.size (edgesS (l.take r) ++ curveE ⟨⟨s0, s1⟩, ⟨s2, s3⟩, ⟨s4, s5⟩, true⟩ m)) ∧ Hid (Blk wr wo.heap.size 70 (scell ⟨⟨s0, s1⟩, ⟨s2, s3⟩, ⟨s4, s5⟩, true⟩))) (fun i _ => 4 - (intOf i).toNat)
        case atStart => exact ⟨0, by omega, rfl, Lib.hid (by rw [curveE, List.append_nil]; exact HW1.out), HB1⟩
        case round =>
          obtain ⟨m, hm, rfl, HWk, HBk⟩ := hrel
          by_cases hm4 : m < 4
          · have hmb : decide ((m : Int) < 4) = true := by simp; omega
            have hcl := curveE_len ⟨⟨s0, s1⟩, ⟨s2, s3⟩, ⟨s4, s5⟩, true⟩ m
            have C := lead_step s0 s1 s2 s3 s4 s5 true _ rfl m (m + 1) (by omega) (by omega) HIS.out w.heap.size wo.heap.size _ w wr HWk.out (Nat.le_refl _) (by have := HL.out; rw [List.length_append]; omega) HBk.out
            rw [Int.natCast_add] at C
            have HC := Lib.hid C
            have y0 := HBk.out.cell 0 rfl
            have y1 := HBk.out.cell 1 rfl
            have y2 := HBk.out.cell 2 rfl
            have y3 := HBk.out.cell 3 rfl
            have y4 := HBk.out.cell 4 rfl
            have y5 := HBk.out.cell 5 rfl
            have y6 := HBk.out.cell 6 rfl
            clear C hcl x0 x1 x2 x3 x4 x5 x6
            go_wp2_with fail
            refine HC.out.mono ?_
            rintro e w2 ⟨rfl, h2, h3⟩
            have HW2 : Hid (ESt w w2 w.heap.size (edgesS (l.take r) ++ curveE ⟨⟨s0, s1⟩, ⟨s2, s3⟩, ⟨s4, s5⟩, true⟩ (m + 1))) := Lib.hid (by rw [curveE, ← List.append_assoc]; exact h2)
            have HB2 := Lib.hid h3
            clear h2 h3 y0 y1 y2 y3 y4 y5 y6
            go_wp2_with fail
            exact ⟨⟨m + 1, by omega, by go_num, HW2, HB2⟩, by simp [intOf]; omega⟩
          · obtain rfl : m = 4 := by omega
            have HW2 : Hid (ESt w wr w.heap.size (edgesS (l.take (r + 1)))) := Lib.hid (by rw [HT.out, edgesS_push, edgesOf_curve rfl]; exact HWk.out)
            clear HWk HBk x0 x1 x2 x3 x4 x5 x6
            go_wp2_with fail
            exact ⟨⟨r + 1, by omega, by go_num, HW2⟩, by simp [intOf]; omega⟩
    · obtain rfl : r = n := by omega
      have HF : Hid (ESt w wr w.heap.size (edgesS l)) := Lib.hid (by have h := HW.out; rwa [List.take_of_length_le (by rw [HN.out]; exact Nat.le_refl _)] at h)
      obtain ⟨⟨u, f1, f2⟩, f3⟩ := HF.out
      have f4 := f1.cell 0 rfl
      have H2 := Lib.hid f2
      have H3 := Lib.hid f3
      clear f1 f2 f3 HF HW
      go_wp2_with fail
      go_ret
      exact ⟨_, rfl, H2.out.mono (Nat.le_succ _), H3.out⟩

end Go.Proofs.Ytglmgenifjaakaa
