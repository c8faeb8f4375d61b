/-
  What the law's Paint of layer 12 does to any world: a contract (no claim is made here).
-/
import Derived.Test.YtnpklcmbiamocaaMsd2
import Derived.Test.YtnpklcmbiamocaaByt
import Derived.Deep.AppendLies
namespace Go.Proofs.Ytnpklcmbiamocaa
open Go.RowKit

theorem NRd.aside {w : World} {V : Value} {l : List Nat} {F k : Nat} (h : NRd w V l) (hne : ∀ g, V.ownBlock = some g → g ≠ F) (x : Value) : NRd (w.setCell ⟨F, k, none⟩ x) V l := by
  obtain ⟨A, cap, rfl, h1, h3⟩ := h
  refine ⟨A, cap, rfl, h1, fun i hi => ?_⟩
  obtain ⟨a, rfl, hlt, hc⟩ := h3 i hi
  refine ⟨a, rfl, by simpa using hlt, ?_⟩
  rw [World.cell?_of_block (a := a.add i) (heap_set w ⟨F, k, none⟩ x _ (by rw [block_add]; exact hne _ rfl))]
  exact hc
theorem ERd.aside {w : World} {V : Value} {l : List Ed} {F k : Nat} (h : ERd w V l) (hne : ∀ g, V.ownBlock = some g → g ≠ F) (x : Value) : ERd (w.setCell ⟨F, k, none⟩ x) V l := by
  obtain ⟨A, cap, rfl, h1, h3⟩ := h
  refine ⟨A, cap, rfl, h1, fun i hi => ?_⟩
  obtain ⟨a, rfl, hlt, p0, p1, p2, p3⟩ := h3 i hi
  have hk : ∀ j, (w.setCell ⟨F, k, none⟩ x).cell? (a.add j) = w.cell? (a.add j) := fun j => World.cell?_of_block (a := a.add j) (heap_set w ⟨F, k, none⟩ x _ (by rw [block_add]; exact hne _ rfl))
  exact ⟨a, rfl, by simpa using hlt, (hk _).trans p0, (hk _).trans p1, (hk _).trans p2, (hk _).trans p3⟩
/-- Colours by numbers, or those of contours. -/
def paintL (l bs : List Nat) : List Nat := if bs = [] then l else bs.map (· % 9)
theorem paint_lt {l bs : List Nat} (h : ∀ x ∈ l, x < 16) : ∀ x ∈ paintL l bs, x < 16 := by
  intro x hx
  unfold paintL at hx
  split at hx
  · exact h x hx
  · obtain ⟨b, _, rfl⟩ := List.mem_map.1 hx
    omega
theorem paint_len {l bs : List Nat} (h : l.length ≤ 2000000) (hb : bs.length ≤ 2000000) : (paintL l bs).length ≤ 2000000 := by
  unfold paintL
  split
  · exact h
  · rw [List.length_map]; exact hb

set_option maxRecDepth 100000 in
set_option maxHeartbeats 1600000 in
theorem paint_any (vl : Value) (l : List Nat) (A : Option Addr) (n cap : Nat) (bs : List Nat) (w : World) (hl : NRd w vl l) (hr : BRd w (.slice A n cap) bs) (hn : bs.length = n) (hnb : n ≤ 1048576) :
    Calls Try.prog 12 #[vl, .slice A n cap] w fun e w' => ∃ V, e = .returned V ∧ NRd w' V (paintL l bs) ∧ (∀ g, V.ownBlock = some g → vl.ownBlock = some g ∨ w.heap.size ≤ g) ∧ Below w.heap.size w w' := by
  obtain ⟨i0, hi0, hz0, hz1, hz2⟩ := infos ninfo
  have HN := Lib.hid hn
  have HR := Lib.hid hr
  have HLl := Lib.hid hl
  obtain ⟨Al, capl, rfl, hlc, -⟩ := id hl
  by_cases h0 : n = 0
  · subst h0
    have he : bs = [] := List.eq_nil_of_length_eq_zero hn
    go_enter Try.func12, Try.ntmps12
    go_wp2_with fail
    go_ret
    exact ⟨_, rfl, by unfold paintL; rw [if_pos he]; exact HLl.out, fun g hg => .inl hg, Below.refl _ _⟩
  · have hb0 : ((n : Int) == 0) = false := by simp; omega
    have HPL := Lib.hid (show paintL l bs = bs.map (· % 9) from if_neg (fun e => by rw [e] at hn; simp at hn; omega))
    clear hl hr hn
    go_enter Try.func12, Try.ntmps12
    go_wp2_with fail
    go_loopw [14, 5] (fun i u wr => ∃ r : Nat, r ≤ n ∧ i = .int .i64 r ∧ Hid (NRow wr w.heap.size u ((bs.take r).map (· % 9))) ∧ Hid (Below w.heap.size w wr)) (fun i _ _ => n - (intOf i).toNat)
    case atStart => exact ⟨0, Nat.zero_le _, rfl, Lib.hid (NRow.nil _ _), Lib.hid (Below.refl _ _)⟩
    case round =>
      obtain ⟨r, hr, rfl, HRW, HB⟩ := hrel
      by_cases hrn : r < n
      · have hrb : decide ((r : Int) < n) = true := by simp; omega
        obtain ⟨b, hb⟩ : ∃ b, bs[r]? = some b := ⟨_, List.getElem?_eq_getElem (by rw [HN.out]; exact hrn)⟩
        obtain ⟨A', cap', e', hcc, hcm, hbb, h3⟩ := HR.out.keep HB.out
        simp only [Value.slice.injEq] at e'
        obtain ⟨rfl, -, rfl⟩ := e'
        obtain ⟨a, rfl, hal, hac⟩ := h3 r (by rw [HN.out]; exact hrn)
        have hbe : bs[r]'(by rw [HN.out]; exact hrn) = b := (List.getElem?_eq_some_iff.1 hb).2
        rw [hbe] at hac
        have hb2 := hbb b (List.mem_of_getElem? hb)
        obtain ⟨c, hc⟩ : ∃ c, b % 9 = c := ⟨_, rfl⟩
        have hc9 : c < 9 := by omega
        have HTK := Lib.hid (show (bs.take (r + 1)).map (· % 9) = (bs.take r).map (· % 9) ++ [c] by rw [take_next hb, List.map_append, ← hc]; rfl)
        have hbm : (b : Int).tmod 9 = (c : Int) := by rw [← hc]; exact (Int.ofNat_tmod b 9).symm
        have hbm2 : (b : Int) % 9 = (c : Int) := by rw [← hc]; rfl
        have hcw : IntKind.i64.wrap (c : Int) = c := wI (by omega) (by omega)
        have hK : ((bs.take r).map (· % 9)).length = r := by rw [List.length_map, List.length_take, HN.out]; omega
        have HOwn := Lib.hid (HRW.out.own hK)
        have HK := Lib.hid hK
        obtain ⟨Au, capu, rfl⟩ := HRW.out.form
        rw [hK] at HOwn ⊢
        have hsz := HB.out.size
        have HNB := Lib.hid (heap_alloc_new wr (.cells #[.int .i64 (c : Int)] 3))
        generalize (bs.take r).map (· % 9) = cur at *
        clear hb hbe hbb h3 hK HRW hcc hcm hc
        go_wp2_with (at_builtin; refine wpList_append_lies _ rfl _ _ _ (by rfl) w.heap.size 3 i0 _ 1 8 Try.underlying28 hi0 hz0 hz1 hz2 (by rfl) (by omega) _ r _ (by rfl) (HOwn.out.alloc _) ⟨wr.heap.size, 0, none⟩ 1 1 [.int .i64 (c : Int)] (by rfl) (by rfl) (World.news_of_block HNB.out) (by simp [Value.oneCell']) (by omega) (by simp [maxLen]; omega) (by omega) (by simp; omega) (wr.heap.size + 1) (by simp) ?_; intro g cp w4 hown hgrow hat hlt)
        have BN : Below w.heap.size w w4 := (HB.out.alloc HB.out.size _).grown hgrow (by simp; omega) (fun q hq => (HOwn.out.lt q hq).1)
        exact ⟨⟨r + 1, hrn, by go_num, Lib.hid (by rw [HTK.out]; exact NRow.push1 HK.out hown), Lib.hid BN⟩, by simp [intOf]; omega⟩
      · obtain rfl : r = n := by omega
        have h := HRW.out
        rw [List.take_of_length_le (by rw [HN.out]; omega)] at h
        have HH := Lib.hid h
        clear h HRW
        go_wp2_with fail
        go_ret
        exact ⟨_, rfl, by rw [HPL.out]; exact HH.out.read, fun g hg => .inr (World.ownsRow.lt HH.out g hg).1, HB.out⟩

end Go.Proofs.Ytnpklcmbiamocaa
