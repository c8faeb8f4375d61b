/-
  What slices.Grow and slices.Concat of edges do to any world: contracts (no claim is made here).
-/
import Derived.Test.YtbnjajhhbcnepaaCorn4
import Derived.Test.YtbnjajhhbcnepaaJoin
import Derived.Lib.AppendZeros
namespace Go.Proofs.Ytbnjajhhbcnepaa
open Go.RowKit

set_option maxHeartbeats 800000 in
set_option maxRecDepth 100000 in
theorem egrow_any (n : Nat) (hn : n ≤ 100000) (w : World) :
    Calls Try.prog 37 #[.slice none 0 0, .int .i64 n] w fun e w' => ∃ v, e = .returned v ∧ ERow w' w.heap.size v [] ∧ Below w.heap.size w w' := by
  by_cases h0 : n = 0
  · subst h0
    go_enter Try.func37, Try.ntmps37
    go_wp2
    go_ret
    exact ⟨_, rfl, World.ownsRow_nil _ _ _ _, Below.refl _ _⟩
  · obtain ⟨i0, hi0, hz0, hz1, hz2⟩ := infos einfo
    have hr := Lib.run_append_nil_zeros (P := Try.prog) w 36 3 36 29 i0 _ .i64 .i64 Try.underlying36 Try.underlying3 hi0 hz0 n (by omega) (by omega) (by omega) (by rw [hz2]; omega)
    have hge := grownCap_ge w n 0 29
    have hle := grownCap_le_maxLen w n 0 29 (by unfold maxLen; omega)
    obtain ⟨cp, hcp⟩ : ∃ cp, grownCap w n 0 29 = cp := ⟨_, rfl⟩
    rw [hcp] at hr hge hle
    have HR := Lib.hid hr
    have hn1 : (0 : Int) < n := by omega
    have hn2 : decide ((n : Int) < 0) = false := by simp
    clear hr hcp
    go_enter Try.func37, Try.ntmps37
    go_wp2_with (at_builtin; refine Lib.wpList_append_run _ rfl _ _ _ _ rfl _ _ rfl rfl _ _ HR.out ?_)
    go_ret
    refine ⟨_, rfl, ⟨rfl, .inr ⟨w.heap.size, cp, _, rfl, Nat.le_refl _, heap_alloc_new w.drew _, Nat.zero_le _, hle, ?_, by simp [ecells]⟩⟩, ((Below.refl _ w).drew).alloc (Nat.le_refl _) _⟩
    rw [Array.size_append, size_zeroCells, size_zeroCells]
    simp only [List.size_toArray, List.length_cons, List.length_nil]
    omega

theorem eflat_take {o : List (List Ed)} {r : Nat} {c : List Ed} (h : o[r]? = some c) : (o.take (r + 1)).flatten = (o.take r).flatten ++ c := by
  rw [take_push o r c h, List.flatten_append]; simp
theorem eflat_le (o : List (List Ed)) (r : Nat) : (o.take r).flatten.length ≤ o.flatten.length := by
  have : o.flatten = (o.take r).flatten ++ (o.drop r).flatten := by rw [← List.flatten_append, List.take_append_drop]
  rw [this, List.length_append]; omega

theorem ejoin_list {w : World} {ops : Array Oper} {rest : List Oper} {o : Oper} {a : Act} {Q : Exit → Act → World → Prop} (hgd : o.guard = none) (s x : Operand)
    (ho : o.op = .call { callee := .builtin .append, args := #[s, x], argTypes := #[36, 36] }) (base : Nat) (u : Value) (es : List Ed) (N : Nat) (hs : a.eval s = u) (hown : ERow w base u es) (hN : es.length = N)
    (A : Option Addr) (M cap : Nat) (fs : List Ed) (hx : a.eval x = .slice A M cap) (hfs : ERd w (.slice A M cap) fs) (hM : fs.length = M) (hlen : N + M ≤ 1000000) (hbase : base ≤ w.heap.size)
    (h : ∀ A' cap' w', ERow w' base (.slice A' (N + M) cap') (es ++ fs) → Below base w w' → wpList Try.prog ops Q rest (a.put o.dst (.slice A' (N + M) cap')) w') :
    wpList Try.prog ops Q (o :: rest) a w :=
  wpList_plain hgd fun _ hK => join_wp s x ho base u es N hs hown hN A M cap fs hx hfs hM hlen hbase fun A' cap' w' h1 h2 => hK _ _ (h A' cap' w' h1 h2)

set_option maxHeartbeats 1600000 in
set_option maxRecDepth 100000 in
theorem econcat_any (v : Value) (o : List (List Ed)) (w : World) (ho : EORd w v o) (hl : o.length ≤ 1000) (hf : o.flatten.length ≤ 100000) :
    Calls Try.prog 31 #[v] w fun e w' => ∃ u, e = .returned u ∧ ERow w' w.heap.size u o.flatten ∧ Below w.heap.size w w' := by
  obtain ⟨A, cap, rfl, hc, -⟩ := id ho
  obtain ⟨n, hn⟩ : ∃ n : Nat, o.length = n := ⟨_, rfl⟩
  rw [hn] at hc hl ho
  rw [hn]
  have H3 := Lib.hid ho
  have HN := Lib.hid hn
  have HF := Lib.hid hf
  clear ho hn hf
  go_enter Try.func31, Try.ntmps31
  go_wp2_with fail
  go_loop [11, 3] (fun i s => ∃ (r t : Nat), r ≤ n ∧ i = .int .i64 r ∧ s = .int .i64 t ∧ t ≤ 100000 ∧ Hid ((o.take r).flatten.length = t)) (fun i _ => n - (intOf i).toNat)
  case atStart => exact ⟨0, 0, Nat.zero_le _, rfl, rfl, by omega, Lib.hid rfl⟩
  case round =>
    obtain ⟨r, t, hr, rfl, rfl, ht, HT⟩ := hrel
    by_cases hrn : r < n
    · have hrb : decide ((r : Int) < n) = true := by simp; omega
      obtain ⟨c, hcr⟩ : ∃ c, o[r]? = some c := ⟨_, List.getElem?_eq_getElem (by have := HN.out; omega)⟩
      have HCR := Lib.hid hcr
      obtain ⟨a, u, rfl, hal, hac, hrow⟩ := H3.out.at r c hcr
      obtain ⟨A1, cap1, rfl, hcl, -⟩ := hrow
      obtain ⟨L, hL⟩ : ∃ L : Nat, c.length = L := ⟨_, rfl⟩
      rw [hL] at hac hcl
      have hsum : (o.take (r + 1)).flatten.length = t + L := by rw [eflat_take HCR.out, List.length_append, HT.out, hL]
      have hle : t + L ≤ 100000 := by have := eflat_le o (r + 1); have := HF.out; omega
      have HS := Lib.hid hsum
      have hneg : decide ((t : Int) + L < 0) = false := by simp; omega
      clear hsum hL hcr
      go_wp2_with fail
      exact ⟨⟨r + 1, t + L, by omega, by go_num, by go_num, hle, HS⟩, by simp [intOf]; omega⟩
    · obtain rfl : r = n := by omega
      clear hrn
      go_wp2_with fail
      refine (egrow_any t ht _).mono ?_
      rintro e w1 ⟨v1, rfl, hv1, hb1⟩
      have HV1 := Lib.hid hv1
      have HB1 := Lib.hid hb1
      clear hv1 hb1 HT
      go_wp2_with fail
      go_loopw [27, 6] (fun i u wr => ∃ (s : Nat), s ≤ r ∧ i = .int .i64 s ∧ Hid (ERow wr w.heap.size u (o.take s).flatten) ∧ Hid (Below w.heap.size w wr)) (fun i _ _ => r - (intOf i).toNat)
      case atStart => exact ⟨0, Nat.zero_le _, rfl, HV1, HB1⟩
      case round =>
        obtain ⟨s, hs, rfl, HV, HB⟩ := hrel
        clear HV1 HB1
        by_cases hsn : s < r
        · have hsb : decide ((s : Int) < r) = true := by simp; omega
          obtain ⟨c, hcr⟩ : ∃ c, o[s]? = some c := ⟨_, List.getElem?_eq_getElem (by have := HN.out; omega)⟩
          obtain ⟨a, u, rfl, hal, hac, hrow⟩ := (H3.out.keep HB.out).at s c hcr
          have HFT := Lib.hid (eflat_take hcr)
          obtain ⟨A1, cap1, rfl, hcl, -⟩ := id hrow
          obtain ⟨L, hL⟩ : ∃ L : Nat, c.length = L := ⟨_, rfl⟩
          rw [hL] at hac hcl hrow
          have HLn := Lib.hid hL
          have HW := Lib.hid hrow
          have hbz := HB.out.size
          obtain ⟨m, hm⟩ : ∃ m, (o.take s).flatten.length = m := ⟨_, rfl⟩
          have hmL : m + L ≤ 100000 := by have h1 := eflat_le o (s + 1); have h2 := HF.out; rw [HFT.out, List.length_append, hm, hL] at h1; omega
          have HM := Lib.hid hm
          obtain ⟨Au, cu, rfl⟩ := HV.out.form
          rw [hm] at HV ⊢
          clear hcr hL hm hrow
          go_wp2_with (at_builtin; refine ejoin_list (by rfl) _ _ (by rfl) w.heap.size _ _ m (by rfl) HV.out HM.out A1 L cap1 c (by rfl) HW.out HLn.out (by omega) hbz ?_; intro A2 cap2 w2 hown hb2)
          exact ⟨⟨s + 1, by omega, by go_num, Lib.hid (by rw [HFT.out]; exact hown), Lib.hid (HB.out.trans hb2)⟩, by simp [intOf]; omega⟩
        · obtain rfl : s = r := by omega
          have HV' := HV.out
          rw [List.take_of_length_le (by rw [HN.out]; omega)] at HV'
          have HVV := Lib.hid HV'
          clear HV'
          go_wp2
          go_ret
          exact ⟨_, rfl, HVV.out, HB.out⟩

end Go.Proofs.Ytbnjajhhbcnepaa
