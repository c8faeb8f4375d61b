/-
  What the program's field and Make of layer 12 do to any world: contracts (no claim is made here).
-/
import Derived.Test.YtnpklcmbiamocaaMsdPa
import Derived.Test.YtnpklcmbiamocaaMsd7
import Derived.Test.YtnpklcmbiamocaaHeldIn
import Derived.Test.YtnpklcmbiamocaaIapp
namespace Go.Proofs.Ytnpklcmbiamocaa
open Go.RowKit Go.Shelf

attribute [local go_sem] Oper.semAt_some

/-- A field's row grows by a byte. -/
theorem fgr_push {wn w4 : World} {F B : Nat} {u v : Nat} {T V : Value} {o : Obj} {bs : List Nat} {b : Nat} (hF : Blk wn F 38 [.int .i64 u, .int .i64 v, T]) (hT : BRow wn (B + 1) T bs) (hFB : F < B) (hB : B < wn.heap.size) (hgrow : (wn.alloc o).grownBy w4 T.ownBlock) (hV : BRow w4 (B + 1) V (bs ++ [b])) :
    Blk (w4.setCell ⟨F, 2, none⟩ V) F 38 [.int .i64 u, .int .i64 v, V] ∧ BRow (w4.setCell ⟨F, 2, none⟩ V) (B + 1) V (bs ++ [b]) ∧ KeepsOthers wn (w4.setCell ⟨F, 2, none⟩ V) ∧ Below F wn (w4.setCell ⟨F, 2, none⟩ V) ∧ KeepB B wn (w4.setCell ⟨F, 2, none⟩ V) := by
  have hne : ∀ k, k ≤ B → some k ≠ T.ownBlock := fun k hk e => by have := (hT.ge e.symm).1; omega
  have h4 := (hF.alloc o).grown hgrow (hne F (by omega))
  refine ⟨h4.set 2 V, hV.set (p := ⟨F, 2, none⟩) (by simp; omega) V, ?_, ?_, ?_⟩
  · refine ((KeepsOthers.alloc wn o).trans (KeepsOthers.of_grownBy hgrow fun j ob ej hj => ?_)).trans (KeepsOthers.setCell _ _ _)
    rcases (BRow.alloc hT o).2 with ⟨rfl, _⟩ | ⟨g, cap, cur, rfl, _, hgb, _⟩
    · simp [Value.ownBlock] at ej
    · obtain rfl : g = j := by simpa [Value.ownBlock] using ej
      rw [hgb] at hj; cases hj; rfl
  · exact (((Below.refl F wn).alloc (by have := hF.lt; omega) o).grown hgrow (by simp; omega) (fun q hq => by have := (hT.ge hq).1; omega)).setCell (p := ⟨F, 2, none⟩) (Nat.le_refl _) V
  · unfold KeepB
    rw [heap_set w4 ⟨F, 2, none⟩ V B (by simp; omega), hgrow.block B (by simp; omega) (hne B (Nat.le_refl _))]
    exact Below.heap_alloc _ _ _ hB

set_option maxRecDepth 100000 in
set_option maxHeartbeats 3200000 in
theorem pfield_any (ve vl : Value) (es : List Ed) (l : List Nat) (x y p s : Int) (u v c : Nat) (w : World) (hv : ERd w ve es) (hl : es.length ≤ 200000) (hin : ∀ s ∈ es, InD s) (hvl : NRd w vl l) (hll : l.length ≤ 2000000) (hlb : ∀ x ∈ l, x < 16) (hg : checkG x y p u v s = 0) (hc : c < 3) :
    Calls Try.prog 35 #[ve, vl, .agg #[.int .i64 x, .int .i64 y, .int .i64 p, .int .i64 u, .int .i64 v, .int .i64 s], .int .i64 c] w fun e w' => ∃ T, e = .returned (.agg #[.int .i64 u, .int .i64 v, T]) ∧ BRow w' w.heap.size T (fldC es l x y p s u c (u * v)) ∧ Below w.heap.size w w' := by
  obtain ⟨hx, hp, hs, hu, hv2⟩ := checkG_zero hg
  have HV := Lib.hid hv
  have HL := Lib.hid hvl
  have HCH := Lib.hid (fun w i k h1 h2 hi hk => pchannel_any ve vl es l x y p s u v i k c w h1 hl hin h2 hll hlb hg hi hk hc)
  have HEC := Lib.hid (fun w => each_any x y p u v s w)
  obtain ⟨Ae, cape, rfl, hce, -⟩ := id hv
  obtain ⟨Al, capl, rfl, hcl, -⟩ := id hvl
  obtain ⟨N, hN⟩ : ∃ N, es.length = N := ⟨_, rfl⟩
  obtain ⟨NL, hNL⟩ : ∃ N, l.length = N := ⟨_, rfl⟩
  rw [hN] at HV HCH
  rw [hNL] at HL HCH
  rw [hN, hNL]
  clear hN hNL hv hvl hin hlb hg hce hcl hl hll
  refine (callsIn_wide (n := 4)).1 (callsIn_of_wp_marks Try.func35 rfl trivial (wpIn_wide.2 ?_) rfl)
  simp only [Try.ntmps35, List.size_toArray, List.length_cons, List.length_nil, Nat.reduceAdd, Nat.reduceSub, Array.replicate_succ, Array.replicate_zero, List.push_toArray, List.append_toArray, List.nil_append, List.cons_append]
  have HE0 := Lib.hid ((((((Blk.new (w) 27 [.slice Ae N cape] (g := w.heap.size) (by simp)).alloc (.cells #[.slice Al NL capl] 28)).alloc (.cells #[.int .i64 x, .int .i64 y, .int .i64 p, .int .i64 u, .int .i64 v, .int .i64 s] 35)).alloc (.cells #[.int .i64 c] 3)).alloc (.cells #[.int .i64 0, .int .i64 0, .slice none 0 0] 38)).alloc (.cells #[.int .i64 u, .int .i64 v, .slice none 0 0] 38))
  have HC0 := Lib.hid (((((Blk.new (w.alloc (.cells #[.slice Ae N cape] 27)) 28 [.slice Al NL capl] (g := w.heap.size + 1) (by simp)).alloc (.cells #[.int .i64 x, .int .i64 y, .int .i64 p, .int .i64 u, .int .i64 v, .int .i64 s] 35)).alloc (.cells #[.int .i64 c] 3)).alloc (.cells #[.int .i64 0, .int .i64 0, .slice none 0 0] 38)).alloc (.cells #[.int .i64 u, .int .i64 v, .slice none 0 0] 38))
  have HG0 := Lib.hid ((((Blk.new ((w.alloc (.cells #[.slice Ae N cape] 27)).alloc (.cells #[.slice Al NL capl] 28)) 35 [.int .i64 x, .int .i64 y, .int .i64 p, .int .i64 u, .int .i64 v, .int .i64 s] (g := w.heap.size + 1 + 1) (by simp)).alloc (.cells #[.int .i64 c] 3)).alloc (.cells #[.int .i64 0, .int .i64 0, .slice none 0 0] 38)).alloc (.cells #[.int .i64 u, .int .i64 v, .slice none 0 0] 38))
  have HI0 := Lib.hid (((Blk.new (((w.alloc (.cells #[.slice Ae N cape] 27)).alloc (.cells #[.slice Al NL capl] 28)).alloc (.cells #[.int .i64 x, .int .i64 y, .int .i64 p, .int .i64 u, .int .i64 v, .int .i64 s] 35)) 3 [.int .i64 c] (g := w.heap.size + 1 + 1 + 1) (by simp)).alloc (.cells #[.int .i64 0, .int .i64 0, .slice none 0 0] 38)).alloc (.cells #[.int .i64 u, .int .i64 v, .slice none 0 0] 38))
  have HR0 := Lib.hid ((Blk.new ((((w.alloc (.cells #[.slice Ae N cape] 27)).alloc (.cells #[.slice Al NL capl] 28)).alloc (.cells #[.int .i64 x, .int .i64 y, .int .i64 p, .int .i64 u, .int .i64 v, .int .i64 s] 35)).alloc (.cells #[.int .i64 c] 3)) 38 [.int .i64 0, .int .i64 0, .slice none 0 0] (g := w.heap.size + 1 + 1 + 1 + 1) (by simp)).alloc (.cells #[.int .i64 u, .int .i64 v, .slice none 0 0] 38))
  have HF0 := Lib.hid (Blk.new (((((w.alloc (.cells #[.slice Ae N cape] 27)).alloc (.cells #[.slice Al NL capl] 28)).alloc (.cells #[.int .i64 x, .int .i64 y, .int .i64 p, .int .i64 u, .int .i64 v, .int .i64 s] 35)).alloc (.cells #[.int .i64 c] 3)).alloc (.cells #[.int .i64 0, .int .i64 0, .slice none 0 0] 38)) 38 [.int .i64 u, .int .i64 v, .slice none 0 0] (g := w.heap.size + 1 + 1 + 1 + 1 + 1) (by simp))
  have HB0 : Hid (Below w.heap.size w ((((((w.alloc (.cells #[.slice Ae N cape] 27)).alloc (.cells #[.slice Al NL capl] 28)).alloc (.cells #[.int .i64 x, .int .i64 y, .int .i64 p, .int .i64 u, .int .i64 v, .int .i64 s] 35)).alloc (.cells #[.int .i64 c] 3)).alloc (.cells #[.int .i64 0, .int .i64 0, .slice none 0 0] 38)).alloc (.cells #[.int .i64 u, .int .i64 v, .slice none 0 0] 38))) := Lib.hid (((((((Below.refl w.heap.size w).alloc (by first | omega | (simp only [World.size_alloc]; omega)) (.cells #[.slice Ae N cape] 27)).alloc (by first | omega | (simp only [World.size_alloc]; omega)) (.cells #[.slice Al NL capl] 28)).alloc (by first | omega | (simp only [World.size_alloc]; omega)) (.cells #[.int .i64 x, .int .i64 y, .int .i64 p, .int .i64 u, .int .i64 v, .int .i64 s] 35)).alloc (by first | omega | (simp only [World.size_alloc]; omega)) (.cells #[.int .i64 c] 3)).alloc (by first | omega | (simp only [World.size_alloc]; omega)) (.cells #[.int .i64 0, .int .i64 0, .slice none 0 0] 38)).alloc (by first | omega | (simp only [World.size_alloc]; omega)) (.cells #[.int .i64 u, .int .i64 v, .slice none 0 0] 38))
  have hsz : ((((((w.alloc (.cells #[.slice Ae N cape] 27)).alloc (.cells #[.slice Al NL capl] 28)).alloc (.cells #[.int .i64 x, .int .i64 y, .int .i64 p, .int .i64 u, .int .i64 v, .int .i64 s] 35)).alloc (.cells #[.int .i64 c] 3)).alloc (.cells #[.int .i64 0, .int .i64 0, .slice none 0 0] 38)).alloc (.cells #[.int .i64 u, .int .i64 v, .slice none 0 0] 38)).heap.size = w.heap.size + 1 + 1 + 1 + 1 + 1 + 1 := by simp
  go_wp2_with fail
  obtain ⟨w6, hw6⟩ : ∃ w6, (((((w.alloc (.cells #[.slice Ae N cape] 27)).alloc (.cells #[.slice Al NL capl] 28)).alloc (.cells #[.int .i64 x, .int .i64 y, .int .i64 p, .int .i64 u, .int .i64 v, .int .i64 s] 35)).alloc (.cells #[.int .i64 c] 3)).alloc (.cells #[.int .i64 0, .int .i64 0, .slice none 0 0] 38)).alloc (.cells #[.int .i64 u, .int .i64 v, .slice none 0 0] 38) = w6 := ⟨_, rfl⟩
  rw [hw6] at HE0 HC0 HG0 HI0 HR0 HF0 HB0 hsz ⊢
  clear hw6
  refine (HEC.out _).mono ?_
  rintro e w7 ⟨rfl, hw7⟩
  have hal : Below w6.heap.size w6 w7 := by rw [hw7]; exact (Below.refl _ _).alloc (Nat.le_refl _) _
  have hE1 : Blk w7 w6.heap.size 35 [.int .i64 x, .int .i64 y, .int .i64 p, .int .i64 u, .int .i64 v, .int .i64 s] := by rw [hw7]; exact Blk.new w6 35 [.int .i64 x, .int .i64 y, .int .i64 p, .int .i64 u, .int .i64 v, .int .i64 s] rfl
  have HF7 := Lib.hid (HF0.out.keep hal)
  have HB7 := Lib.hid (below2 HB0.out hal)
  have HA7 := Lib.hid hal
  clear hw7 hal HEC HB0 HF0
  go_wp2_with fail
  have HSQ := each_stops_in Fence.wide 3 trivial rfl (by decide) w6.heap.size u v x y p s (by omega) (by omega) w7 hE1
  have h6 := hsz
  rw [hsz] at HSQ hE1
  have HEL := Lib.hid hE1.lt
  refine (wpIn_wide (n := 4)).1 (wpIn_rangeFunc_ownF rfl (by decide) (gf := 36) (lb := #[.pointer (some ⟨w.heap.size + 1 + 1 + 1 + 1 + 1 + 1, 0, none⟩)]) rfl trivial (enters_of Try.func36 (by kernel_rfl) rfl)
    HSQ KeepB.t (KeepB.b hE1.lt) (Below.refl _ _) (fun _ => rfl)
    (fun pre W => ∃ T, Blk W (w.heap.size + 1 + 1 + 1 + 1 + 1) 38 [.int .i64 u, .int .i64 v, T] ∧ BRow W (w.heap.size + 1 + 1 + 1 + 1 + 1 + 1 + 1) T (pre.map (fun q : InG u v => chN es l s (midP x y p q.1.1 q.1.2) c)) ∧ Below (w.heap.size + 1 + 1 + 1 + 1 + 1) w7 W) (fun _ _ _ => False) ?own (fun _ _ _ _ _ hs _ _ => hs) ⟨_, HF7.out, BRow.nil _ _, Below.refl _ _⟩
    (fun q => { tmps := #[.slice Ae N cape, .slice Al NL capl, .agg #[.int .i64 x, .int .i64 y, .int .i64 p, .int .i64 u, .int .i64 v, .int .i64 s], .int .i64 c, .pointer (some ⟨w.heap.size, 0, none⟩), .pointer (some ⟨w.heap.size + 1, 0, none⟩), .pointer (some ⟨w.heap.size + 1 + 1, 0, none⟩), .pointer (some ⟨w.heap.size + 1 + 1 + 1, 0, none⟩), .pointer (some ⟨w.heap.size + 1 + 1 + 1 + 1, 0, none⟩), .pointer (some ⟨w.heap.size + 1 + 1 + 1 + 1 + 1, 0, none⟩), .int .i64 q.1.1, .int .i64 q.1.2, .pointer (some ⟨w.heap.size + 1 + 1, 3, none⟩), .int .i64 u, .pointer (some ⟨w.heap.size + 1 + 1, 4, none⟩), .int .i64 v, .agg #[.int .i64 u, .int .i64 v, .slice none 0 0], .agg #[.int .i64 x, .int .i64 y, .int .i64 p, .int .i64 u, .int .i64 v, .int .i64 s], .func (.func 36) #[] #[.pointer (some ⟨w.heap.size + 1 + 1 + 1 + 1 + 1 + 1, 0, none⟩)], .int .i64 q.1.1, .int .i64 q.1.2, undef, undef, undef, undef, undef, undef, undef, undef, undef, undef, undef, undef, undef], defers := [] }) ?assign ?body ?done ?stop)
  case own =>
    rintro pre W W' row ⟨T, h1, h2, h3⟩ hg hr
    refine ⟨T, h1.grown hg (fun e => ?_), World.ownsRow.kept h2 hg ?_, h3.grown hg (by have := h3.size; have := HEL.out; omega) (fun k ek => by have := (hr k ek).1; have := HEL.out; omega)⟩
    · obtain ⟨_, o, ho, hcl⟩ := hr _ e.symm
      unfold Blk at h1
      rw [h1] at ho
      cases ho
      cases hcl
    · rcases h2.2 with ⟨rfl, _⟩ | ⟨g, cap, cur, rfl, _, hgb, _⟩
      · exact .inl rfl
      · refine .inr fun e' => ?_
        obtain ⟨_, o, ho, hcl⟩ := hr g (by simpa [Value.ownBlock] using e'.symm)
        rw [hgb] at ho; cases ho; cases hcl
  case assign =>
    intro l q W K hK
    gi_wp2
    exact hK
  case body =>
    clear HSQ
    rintro lq pre ⟨⟨i, k⟩, hi, hk⟩ W ⟨T, hF, hT, hW⟩ hlt
    simp only [] at hi hk
    obtain ⟨cur, hcur⟩ : ∃ cur, pre.map (fun q : InG u v => chN es l s (midP x y p q.1.1 q.1.2) c) = cur := ⟨_, rfl⟩
    have hlen : cur.length = pre.length := by rw [← hcur, List.length_map]
    have HNX : Hid ((pre ++ [(⟨(i, k), hi, hk⟩ : InG u v)]).map (fun q : InG u v => chN es l s (midP x y p q.1.1 q.1.2) c) = cur ++ [chN es l s (midP x y p i k) c]) := Lib.hid (by rw [List.map_append, hcur]; rfl)
    rw [hcur] at hT
    have hLb : pre.length ≤ 576 := by have := Nat.mul_le_mul (show u ≤ 24 by omega) (show v ≤ 24 by omega); omega
    obtain ⟨L, hL⟩ : ∃ L, pre.length = L := ⟨_, rfl⟩
    rw [hL] at hlen hLb
    obtain ⟨At, capt, rfl⟩ := hT.form
    rw [hlen] at hF hT
    have HLN := Lib.hid hlen
    have HBW : Hid (Below w.heap.size w W) := Lib.hid (HB7.out.trans (hW.mono (by omega)))
    have hAA : Below (w.heap.size + 1 + 1 + 1 + 1 + 1) w6 W := (HA7.out.mono (by omega)).trans hW
    have hd : Below W.heap.size W W.drew := (Below.refl _ W).drew
    have FE := Lib.hid ((HE0.out.heap (hAA.block _ (by omega))).keep hd)
    have FC := Lib.hid ((HC0.out.heap (hAA.block _ (by omega))).keep hd)
    have FG := Lib.hid ((HG0.out.heap (hAA.block _ (by omega))).keep hd)
    have FI := Lib.hid ((HI0.out.heap (hAA.block _ (by omega))).keep hd)
    have FF := Lib.hid (hF.keep hd)
    have FT := Lib.hid (hT.keep hd)
    have FV := Lib.hid ((HV.out.keep HBW.out).keep hd)
    have FL := Lib.hid ((HL.out.keep HBW.out).keep hd)
    have HWW := Lib.hid hW
    have HBS : Hid (w.heap.size + 1 + 1 + 1 + 1 + 1 + 1 < W.heap.size) := Lib.hid (Nat.lt_of_lt_of_le HEL.out hW.size)
    have AB := hd
    have HKO := Lib.hid (fun W' (h : Below W.heap.size W W') => KeepsOthers.mk h.size (fun k o hk _ => (h.block k (Array.getElem?_eq_some_iff.1 hk).1).trans hk))
    have HCK := Lib.hid (fun w h1 h2 => HCH.out w i k h1 h2 hi hk)
    generalize chN es l s (midP x y p i k) c = TX at *
    obtain ⟨i0, hi0, hz0, hz1, hz2⟩ := infos binfo
    have hmx : Try.prog.follows .mixedOrders = true := by kernel_rfl
    clear hF hT hW hcur hlen hd hAA HBW hL hlt
    gi_wp2
    refine region_heldIn (F := Fence.wide.inRound lq) (S := fun wx => wx.cell? ⟨w.heap.size, 0, none⟩ = some (.slice Ae N cape) ∧ wx.cell? ⟨w.heap.size + 1, 0, none⟩ = some (.slice Al NL capl) ∧ wx.cell? ⟨w.heap.size + 1 + 1 + 1, 0, none⟩ = some (.int .i64 c) ∧ wx.cell? ⟨w.heap.size + 1 + 1, 0, none⟩ = some (.int .i64 x) ∧ wx.cell? ⟨w.heap.size + 1 + 1, 1, none⟩ = some (.int .i64 y) ∧ wx.cell? ⟨w.heap.size + 1 + 1, 2, none⟩ = some (.int .i64 p) ∧ wx.cell? ⟨w.heap.size + 1 + 1, 3, none⟩ = some (.int .i64 u) ∧ wx.cell? ⟨w.heap.size + 1 + 1, 4, none⟩ = some (.int .i64 v) ∧ wx.cell? ⟨w.heap.size + 1 + 1, 5, none⟩ = some (.int .i64 s)) (by kernel_rfl) (⟨FE.out.cell 0 rfl, FC.out.cell 0 rfl, FI.out.cell 0 rfl, FG.out.cell 0 rfl, FG.out.cell 1 rfl, FG.out.cell 2 rfl, FG.out.cell 3 rfl, FG.out.cell 4 rfl, FG.out.cell 5 rfl⟩) (fun hHeld => ?_)
    refine AnyHI.take (fun _ => trivial) (by kernel_rfl) (i := 0) (v := ?_) rfl (by kernel_rfl) (by kernel_rfl) (by kernel_rfl) (fun _ _ _ h => h) (Or.inl ⟨by rfl, ?_⟩) hHeld ?_
    rotate_left
    · intro w hSw
      (try dsimp only at hSw)
      (try simp only [List.getElem_toArray, List.getElem_cons_zero])
      go_simp
      all_goals with_reducible rfl
    try simp only [List.getElem_toArray, List.getElem_cons_zero, Act.put, List.setIfInBounds_toArray, List.set_cons_zero, List.set_cons_succ]
    refine AnyHI.take (fun _ => trivial) (by kernel_rfl) (i := 2) (v := ?_) rfl (by kernel_rfl) (by kernel_rfl) (by kernel_rfl) (fun _ _ _ h => h) (Or.inl ⟨by rfl, ?_⟩) hHeld ?_
    rotate_left
    · intro w hSw
      (try dsimp only at hSw)
      (try simp only [List.getElem_toArray, List.getElem_cons_zero, List.getElem_cons_succ])
      go_simp
      all_goals with_reducible rfl
    try simp only [List.getElem_toArray, List.getElem_cons_zero, List.getElem_cons_succ, Act.put, List.setIfInBounds_toArray, List.set_cons_zero, List.set_cons_succ]
    refine AnyHI.take (fun _ => trivial) (by kernel_rfl) (i := 3) (v := ?_) rfl (by kernel_rfl) (by kernel_rfl) (by kernel_rfl) (fun _ _ _ h => h) (Or.inl ⟨by rfl, ?_⟩) hHeld ?_
    rotate_left
    · intro w hSw
      (try dsimp only at hSw)
      (try simp only [List.getElem_toArray, List.getElem_cons_zero, List.getElem_cons_succ])
      go_simp
      all_goals with_reducible rfl
    try simp only [List.getElem_toArray, List.getElem_cons_zero, List.getElem_cons_succ, Act.put, List.setIfInBounds_toArray, List.set_cons_zero, List.set_cons_succ]
    refine AnyHI.take (fun _ => trivial) (by kernel_rfl) (i := 4) (v := ?_) rfl (by kernel_rfl) (by kernel_rfl) (by kernel_rfl) (fun _ _ _ h => h) (Or.inl ⟨by rfl, ?_⟩) hHeld ?_
    rotate_left
    · intro w hSw
      (try dsimp only at hSw)
      (try simp only [List.getElem_toArray, List.getElem_cons_zero, List.getElem_cons_succ])
      go_simp
      all_goals with_reducible rfl
    try simp only [List.getElem_toArray, List.getElem_cons_zero, List.getElem_cons_succ, Act.put, List.setIfInBounds_toArray, List.set_cons_zero, List.set_cons_succ]
    refine AnyHI.take (fun _ => trivial) (by kernel_rfl) (i := 5) (v := ?_) rfl (by kernel_rfl) (by kernel_rfl) (by kernel_rfl) (fun _ _ _ h => h) (Or.inl ⟨by rfl, ?_⟩) hHeld ?_
    rotate_left
    · intro w hSw
      (try dsimp only at hSw)
      (try simp only [List.getElem_toArray, List.getElem_cons_zero, List.getElem_cons_succ])
      go_simp
      all_goals with_reducible rfl
    try simp only [List.getElem_toArray, List.getElem_cons_zero, List.getElem_cons_succ, Act.put, List.setIfInBounds_toArray, List.set_cons_zero, List.set_cons_succ]
    refine AnyHI.take (fun _ => trivial) (by kernel_rfl) (i := 6) (v := ?_) rfl (by kernel_rfl) (by kernel_rfl) (by kernel_rfl) (fun _ _ _ h => h) (Or.inl ⟨by rfl, ?_⟩) hHeld ?_
    rotate_left
    · intro w hSw
      (try dsimp only at hSw)
      (try simp only [List.getElem_toArray, List.getElem_cons_zero, List.getElem_cons_succ])
      go_simp
      all_goals with_reducible rfl
    try simp only [List.getElem_toArray, List.getElem_cons_zero, List.getElem_cons_succ, Act.put, List.setIfInBounds_toArray, List.set_cons_zero, List.set_cons_succ]
    refine AnyHI.take (fun _ => trivial) (by kernel_rfl) (i := 7) (v := ?_) rfl (by kernel_rfl) (by kernel_rfl) (by kernel_rfl) (fun _ _ _ h => h) (Or.inl ⟨by rfl, ?_⟩) hHeld ?_
    rotate_left
    · intro w hSw
      (try dsimp only at hSw)
      (try simp only [List.getElem_toArray, List.getElem_cons_zero, List.getElem_cons_succ])
      go_simp
      all_goals with_reducible rfl
    try simp only [List.getElem_toArray, List.getElem_cons_zero, List.getElem_cons_succ, Act.put, List.setIfInBounds_toArray, List.set_cons_zero, List.set_cons_succ]
    refine AnyHI.ready (rs := [1, 8]) (by kernel_rfl) (by simp) ?_
    refine AllHI.cons (fun _ => trivial) rfl (fun K hK => ?_) (AllHI.cons (fun _ => trivial) rfl (fun K hK => ?_) AllHI.nil)
    · try simp only [List.getElem_toArray, List.getElem_cons_zero, List.getElem_cons_succ]
      have f2 := FF.out.cell 2 rfl
      have fl := FF.out.lt
      go_simp
      clear f2 fl
      refine hK.out _ _ (⟨FE.out.cell 0 rfl, FC.out.cell 0 rfl, FI.out.cell 0 rfl, FG.out.cell 0 rfl, FG.out.cell 1 rfl, FG.out.cell 2 rfl, FG.out.cell 3 rfl, FG.out.cell 4 rfl, FG.out.cell 5 rfl⟩) (fun hHeld => ?_)
      clear hK K
      try simp only [List.getElem_toArray, List.getElem_cons_zero, List.getElem_cons_succ, Act.put, List.setIfInBounds_toArray, List.set_cons_zero, List.set_cons_succ]
      refine AnyHI.ready (rs := [8]) (by kernel_rfl) (by simp) ?_
      refine AllHI.cons (fun _ => trivial) rfl (fun K hK => ?_) AllHI.nil
      try simp only [List.getElem_toArray, List.getElem_cons_zero, List.getElem_cons_succ]
      go_simp
      refine ⟨trivial, ?_⟩
      gi_at_call 17
      (with_reducible refine (CallsIn.inRound lq (callsIn_wide.2 (HCK.out _ FV.out FL.out))).mono ?_)
      rintro e wn ⟨rfl, hbn⟩
      have AB := AB.trans (hbn.mono AB.size)
      have FE := Lib.hid (FE.out.keep hbn)
      have FC := Lib.hid (FC.out.keep hbn)
      have FG := Lib.hid (FG.out.keep hbn)
      have FI := Lib.hid (FI.out.keep hbn)
      have FF := Lib.hid (FF.out.keep hbn)
      have FT := Lib.hid (FT.out.keep hbn)
      clear hbn
      gi_wp2
      refine hK.out _ _ (⟨FE.out.cell 0 rfl, FC.out.cell 0 rfl, FI.out.cell 0 rfl, FG.out.cell 0 rfl, FG.out.cell 1 rfl, FG.out.cell 2 rfl, FG.out.cell 3 rfl, FG.out.cell 4 rfl, FG.out.cell 5 rfl⟩) (fun hHeld => ?_)
      clear hK K
      try simp only [List.getElem_toArray, List.getElem_cons_zero, List.getElem_cons_succ, Act.put, List.setIfInBounds_toArray, List.set_cons_zero, List.set_cons_succ]
      refine AnyHI.ready (rs := [9]) (by kernel_rfl) (by simp) ?_
      refine AllHI.cons (fun _ => trivial) rfl (fun K hK => ?_) AllHI.nil
      try simp only [List.getElem_toArray, List.getElem_cons_zero, List.getElem_cons_succ]
      go_simp
      have hal : Below wn.heap.size wn (wn.alloc (.cells #[.int .u8 (TX : Nat)] 5)) := (Below.refl _ _).alloc (Nat.le_refl _) _
      have FN := FF
      have TN := FT
      have AN := AB
      have FE := Lib.hid (FE.out.keep hal)
      have FC := Lib.hid (FC.out.keep hal)
      have FG := Lib.hid (FG.out.keep hal)
      have FI := Lib.hid (FI.out.keep hal)
      have FF := Lib.hid (FF.out.keep hal)
      clear hal
      refine hK.out _ _ (⟨FE.out.cell 0 rfl, FC.out.cell 0 rfl, FI.out.cell 0 rfl, FG.out.cell 0 rfl, FG.out.cell 1 rfl, FG.out.cell 2 rfl, FG.out.cell 3 rfl, FG.out.cell 4 rfl, FG.out.cell 5 rfl⟩) (fun hHeld => ?_)
      clear hK K
      try simp only [List.getElem_toArray, List.getElem_cons_zero, List.getElem_cons_succ, Act.put, List.setIfInBounds_toArray, List.set_cons_zero, List.set_cons_succ]
      refine AnyHI.ready (rs := [10]) (by kernel_rfl) (by simp) ?_
      refine AllHI.cons (fun _ => trivial) rfl (fun K hK => ?_) AllHI.nil
      try simp only [List.getElem_toArray, List.getElem_cons_zero, List.getElem_cons_succ]
      have HNB := heap_alloc_new wn (.cells #[.int .u8 (TX : Nat)] 5)
      have hsw := AN.size
      have hbs := HBS.out
      refine istep_if (by kernel_rfl) ?_
      refine iwp_append_lies (.tmp 22) (.tmp 30) 25 rfl (w.heap.size + 1 + 1 + 1 + 1 + 1 + 1 + 1) 5 i0 _ 1 1 Try.underlying25 hi0 hz0 hz1 hz2 (by rfl) (by omega) (.slice At L capt) L _ (by rfl) ((TN.out.own HLN.out).alloc _) ⟨wn.heap.size, 0, none⟩ 1 1 [.int .u8 (TX : Nat)] (by rfl) (by rfl) (World.news_of_block HNB) (by simp [Value.oneCell']) (by omega) (by simp [maxLen]; omega) (by omega) (by simp; omega) ?_
      intro g cp w4 hown hgrow hat hlt
      have hne : ∀ k, k ≤ w.heap.size + 1 + 1 + 1 + 1 + 1 + 1 → some k ≠ (Value.slice At L capt).ownBlock := fun k hk e => by have := (TN.out.ge e.symm).1; omega
      have HPU := Lib.hid (fgr_push FN.out TN.out (by omega) (by omega) hgrow (BRow.push1 HLN.out hown))
      have FE := Lib.hid (FE.out.grown hgrow (hne _ (by omega)))
      have FC := Lib.hid (FC.out.grown hgrow (hne _ (by omega)))
      have FG := Lib.hid (FG.out.grown hgrow (hne _ (by omega)))
      have FI := Lib.hid (FI.out.grown hgrow (hne _ (by omega)))
      have FF := Lib.hid (FF.out.grown hgrow (hne _ (by omega)))
      clear hgrow hown hat hlt hne HNB
      refine hK.out _ _ (⟨FE.out.cell 0 rfl, FC.out.cell 0 rfl, FI.out.cell 0 rfl, FG.out.cell 0 rfl, FG.out.cell 1 rfl, FG.out.cell 2 rfl, FG.out.cell 3 rfl, FG.out.cell 4 rfl, FG.out.cell 5 rfl⟩) (fun hHeld => ?_)
      clear hK K
      try simp only [Act.put, List.setIfInBounds_toArray, List.set_cons_zero, List.set_cons_succ]
      refine AnyHI.take (fun _ => trivial) (by kernel_rfl) (i := 11) (v := ?_) rfl (by kernel_rfl) (by kernel_rfl) (by kernel_rfl) (fun _ _ _ h => h) (Or.inl ⟨by rfl, ?_⟩) hHeld ?_
      rotate_left
      · intro w hSw
        (try dsimp only at hSw)
        (try simp only [List.getElem_toArray, List.getElem_cons_zero, List.getElem_cons_succ])
        go_simp
        all_goals with_reducible rfl
      try simp only [List.getElem_toArray, List.getElem_cons_zero, List.getElem_cons_succ, Act.put, List.setIfInBounds_toArray, List.set_cons_zero, List.set_cons_succ]
      refine AnyHI.ready (rs := [12]) (by kernel_rfl) (by simp) ?_
      refine AllHI.cons (fun _ => trivial) rfl (fun K hK => ?_) AllHI.nil
      try simp only [List.getElem_toArray, List.getElem_cons_zero, List.getElem_cons_succ]
      have f2 := FF.out.cell 2 rfl
      have ff := FF.out.frozen 2
      have fl := FF.out.lt
      go_simp
      have FE := Lib.hid (FE.out.other (k := w.heap.size + 1 + 1 + 1 + 1 + 1) 2 (.slice (some ⟨g, 0, none⟩) (L + 1) cp) (by omega))
      have FC := Lib.hid (FC.out.other (k := w.heap.size + 1 + 1 + 1 + 1 + 1) 2 (.slice (some ⟨g, 0, none⟩) (L + 1) cp) (by omega))
      have FG := Lib.hid (FG.out.other (k := w.heap.size + 1 + 1 + 1 + 1 + 1) 2 (.slice (some ⟨g, 0, none⟩) (L + 1) cp) (by omega))
      have FI := Lib.hid (FI.out.other (k := w.heap.size + 1 + 1 + 1 + 1 + 1) 2 (.slice (some ⟨g, 0, none⟩) (L + 1) cp) (by omega))
      refine hK.out _ _ (⟨FE.out.cell 0 rfl, FC.out.cell 0 rfl, FI.out.cell 0 rfl, FG.out.cell 0 rfl, FG.out.cell 1 rfl, FG.out.cell 2 rfl, FG.out.cell 3 rfl, FG.out.cell 4 rfl, FG.out.cell 5 rfl⟩) (fun hHeld => ?_)
      clear hK K
      try simp only [List.getElem_toArray, List.getElem_cons_zero, List.getElem_cons_succ, Act.put, List.setIfInBounds_toArray, List.set_cons_zero, List.set_cons_succ]
      refine AnyHI.done (by kernel_rfl) ?_ _
      gi_wp2
      refine ⟨(HKO.out _ AN).trans HPU.out.2.2.1, HPU.out.2.2.2.2.trans (AN.block _ HBS.out), _, HPU.out.1, ?_, HWW.out.trans ((AN.mono (by omega)).trans HPU.out.2.2.2.1)⟩
      rw [HNX.out]
      exact HPU.out.2.1
    · try simp only [List.getElem_toArray, List.getElem_cons_zero, List.getElem_cons_succ]
      go_simp
      refine ⟨trivial, ?_⟩
      gi_at_call 17
      (with_reducible refine (CallsIn.inRound lq (callsIn_wide.2 (HCK.out _ FV.out FL.out))).mono ?_)
      rintro e wn ⟨rfl, hbn⟩
      have AB := AB.trans (hbn.mono AB.size)
      have FE := Lib.hid (FE.out.keep hbn)
      have FC := Lib.hid (FC.out.keep hbn)
      have FG := Lib.hid (FG.out.keep hbn)
      have FI := Lib.hid (FI.out.keep hbn)
      have FF := Lib.hid (FF.out.keep hbn)
      have FT := Lib.hid (FT.out.keep hbn)
      clear hbn
      gi_wp2
      refine hK.out _ _ (⟨FE.out.cell 0 rfl, FC.out.cell 0 rfl, FI.out.cell 0 rfl, FG.out.cell 0 rfl, FG.out.cell 1 rfl, FG.out.cell 2 rfl, FG.out.cell 3 rfl, FG.out.cell 4 rfl, FG.out.cell 5 rfl⟩) (fun hHeld => ?_)
      clear hK K
      try simp only [List.getElem_toArray, List.getElem_cons_zero, List.getElem_cons_succ, Act.put, List.setIfInBounds_toArray, List.set_cons_zero, List.set_cons_succ]
      refine AnyHI.ready (rs := [1, 9]) (by kernel_rfl) (by simp) ?_
      refine AllHI.cons (fun _ => trivial) rfl (fun K hK => ?_) (AllHI.cons (fun _ => trivial) rfl (fun K hK => ?_) AllHI.nil)
      · try simp only [List.getElem_toArray, List.getElem_cons_zero, List.getElem_cons_succ]
        have f2 := FF.out.cell 2 rfl
        have fl := FF.out.lt
        go_simp
        clear f2 fl
        refine hK.out _ _ (⟨FE.out.cell 0 rfl, FC.out.cell 0 rfl, FI.out.cell 0 rfl, FG.out.cell 0 rfl, FG.out.cell 1 rfl, FG.out.cell 2 rfl, FG.out.cell 3 rfl, FG.out.cell 4 rfl, FG.out.cell 5 rfl⟩) (fun hHeld => ?_)
        clear hK K
        try simp only [List.getElem_toArray, List.getElem_cons_zero, List.getElem_cons_succ, Act.put, List.setIfInBounds_toArray, List.set_cons_zero, List.set_cons_succ]
        refine AnyHI.ready (rs := [9]) (by kernel_rfl) (by simp) ?_
        refine AllHI.cons (fun _ => trivial) rfl (fun K hK => ?_) AllHI.nil
        try simp only [List.getElem_toArray, List.getElem_cons_zero, List.getElem_cons_succ]
        go_simp
        have hal : Below wn.heap.size wn (wn.alloc (.cells #[.int .u8 (TX : Nat)] 5)) := (Below.refl _ _).alloc (Nat.le_refl _) _
        have FN := FF
        have TN := FT
        have AN := AB
        have FE := Lib.hid (FE.out.keep hal)
        have FC := Lib.hid (FC.out.keep hal)
        have FG := Lib.hid (FG.out.keep hal)
        have FI := Lib.hid (FI.out.keep hal)
        have FF := Lib.hid (FF.out.keep hal)
        clear hal
        refine hK.out _ _ (⟨FE.out.cell 0 rfl, FC.out.cell 0 rfl, FI.out.cell 0 rfl, FG.out.cell 0 rfl, FG.out.cell 1 rfl, FG.out.cell 2 rfl, FG.out.cell 3 rfl, FG.out.cell 4 rfl, FG.out.cell 5 rfl⟩) (fun hHeld => ?_)
        clear hK K
        try simp only [List.getElem_toArray, List.getElem_cons_zero, List.getElem_cons_succ, Act.put, List.setIfInBounds_toArray, List.set_cons_zero, List.set_cons_succ]
        refine AnyHI.ready (rs := [10]) (by kernel_rfl) (by simp) ?_
        refine AllHI.cons (fun _ => trivial) rfl (fun K hK => ?_) AllHI.nil
        try simp only [List.getElem_toArray, List.getElem_cons_zero, List.getElem_cons_succ]
        have HNB := heap_alloc_new wn (.cells #[.int .u8 (TX : Nat)] 5)
        have hsw := AN.size
        have hbs := HBS.out
        refine istep_if (by kernel_rfl) ?_
        refine iwp_append_lies (.tmp 22) (.tmp 30) 25 rfl (w.heap.size + 1 + 1 + 1 + 1 + 1 + 1 + 1) 5 i0 _ 1 1 Try.underlying25 hi0 hz0 hz1 hz2 (by rfl) (by omega) (.slice At L capt) L _ (by rfl) ((TN.out.own HLN.out).alloc _) ⟨wn.heap.size, 0, none⟩ 1 1 [.int .u8 (TX : Nat)] (by rfl) (by rfl) (World.news_of_block HNB) (by simp [Value.oneCell']) (by omega) (by simp [maxLen]; omega) (by omega) (by simp; omega) ?_
        intro g cp w4 hown hgrow hat hlt
        have hne : ∀ k, k ≤ w.heap.size + 1 + 1 + 1 + 1 + 1 + 1 → some k ≠ (Value.slice At L capt).ownBlock := fun k hk e => by have := (TN.out.ge e.symm).1; omega
        have HPU := Lib.hid (fgr_push FN.out TN.out (by omega) (by omega) hgrow (BRow.push1 HLN.out hown))
        have FE := Lib.hid (FE.out.grown hgrow (hne _ (by omega)))
        have FC := Lib.hid (FC.out.grown hgrow (hne _ (by omega)))
        have FG := Lib.hid (FG.out.grown hgrow (hne _ (by omega)))
        have FI := Lib.hid (FI.out.grown hgrow (hne _ (by omega)))
        have FF := Lib.hid (FF.out.grown hgrow (hne _ (by omega)))
        clear hgrow hown hat hlt hne HNB
        refine hK.out _ _ (⟨FE.out.cell 0 rfl, FC.out.cell 0 rfl, FI.out.cell 0 rfl, FG.out.cell 0 rfl, FG.out.cell 1 rfl, FG.out.cell 2 rfl, FG.out.cell 3 rfl, FG.out.cell 4 rfl, FG.out.cell 5 rfl⟩) (fun hHeld => ?_)
        clear hK K
        try simp only [Act.put, List.setIfInBounds_toArray, List.set_cons_zero, List.set_cons_succ]
        refine AnyHI.take (fun _ => trivial) (by kernel_rfl) (i := 11) (v := ?_) rfl (by kernel_rfl) (by kernel_rfl) (by kernel_rfl) (fun _ _ _ h => h) (Or.inl ⟨by rfl, ?_⟩) hHeld ?_
        rotate_left
        · intro w hSw
          (try dsimp only at hSw)
          (try simp only [List.getElem_toArray, List.getElem_cons_zero, List.getElem_cons_succ])
          go_simp
          all_goals with_reducible rfl
        try simp only [List.getElem_toArray, List.getElem_cons_zero, List.getElem_cons_succ, Act.put, List.setIfInBounds_toArray, List.set_cons_zero, List.set_cons_succ]
        refine AnyHI.ready (rs := [12]) (by kernel_rfl) (by simp) ?_
        refine AllHI.cons (fun _ => trivial) rfl (fun K hK => ?_) AllHI.nil
        try simp only [List.getElem_toArray, List.getElem_cons_zero, List.getElem_cons_succ]
        have f2 := FF.out.cell 2 rfl
        have ff := FF.out.frozen 2
        have fl := FF.out.lt
        go_simp
        have FE := Lib.hid (FE.out.other (k := w.heap.size + 1 + 1 + 1 + 1 + 1) 2 (.slice (some ⟨g, 0, none⟩) (L + 1) cp) (by omega))
        have FC := Lib.hid (FC.out.other (k := w.heap.size + 1 + 1 + 1 + 1 + 1) 2 (.slice (some ⟨g, 0, none⟩) (L + 1) cp) (by omega))
        have FG := Lib.hid (FG.out.other (k := w.heap.size + 1 + 1 + 1 + 1 + 1) 2 (.slice (some ⟨g, 0, none⟩) (L + 1) cp) (by omega))
        have FI := Lib.hid (FI.out.other (k := w.heap.size + 1 + 1 + 1 + 1 + 1) 2 (.slice (some ⟨g, 0, none⟩) (L + 1) cp) (by omega))
        refine hK.out _ _ (⟨FE.out.cell 0 rfl, FC.out.cell 0 rfl, FI.out.cell 0 rfl, FG.out.cell 0 rfl, FG.out.cell 1 rfl, FG.out.cell 2 rfl, FG.out.cell 3 rfl, FG.out.cell 4 rfl, FG.out.cell 5 rfl⟩) (fun hHeld => ?_)
        clear hK K
        try simp only [List.getElem_toArray, List.getElem_cons_zero, List.getElem_cons_succ, Act.put, List.setIfInBounds_toArray, List.set_cons_zero, List.set_cons_succ]
        refine AnyHI.done (by kernel_rfl) ?_ _
        gi_wp2
        refine ⟨(HKO.out _ AN).trans HPU.out.2.2.1, HPU.out.2.2.2.2.trans (AN.block _ HBS.out), _, HPU.out.1, ?_, HWW.out.trans ((AN.mono (by omega)).trans HPU.out.2.2.2.1)⟩
        rw [HNX.out]
        exact HPU.out.2.1
      · try simp only [List.getElem_toArray, List.getElem_cons_zero, List.getElem_cons_succ]
        go_simp
        have hal : Below wn.heap.size wn (wn.alloc (.cells #[.int .u8 (TX : Nat)] 5)) := (Below.refl _ _).alloc (Nat.le_refl _) _
        have FN := FF
        have TN := FT
        have AN := AB
        have FE := Lib.hid (FE.out.keep hal)
        have FC := Lib.hid (FC.out.keep hal)
        have FG := Lib.hid (FG.out.keep hal)
        have FI := Lib.hid (FI.out.keep hal)
        have FF := Lib.hid (FF.out.keep hal)
        clear hal
        refine hK.out _ _ (⟨FE.out.cell 0 rfl, FC.out.cell 0 rfl, FI.out.cell 0 rfl, FG.out.cell 0 rfl, FG.out.cell 1 rfl, FG.out.cell 2 rfl, FG.out.cell 3 rfl, FG.out.cell 4 rfl, FG.out.cell 5 rfl⟩) (fun hHeld => ?_)
        clear hK K
        try simp only [List.getElem_toArray, List.getElem_cons_zero, List.getElem_cons_succ, Act.put, List.setIfInBounds_toArray, List.set_cons_zero, List.set_cons_succ]
        refine AnyHI.ready (rs := [1]) (by kernel_rfl) (by simp) ?_
        refine AllHI.cons (fun _ => trivial) rfl (fun K hK => ?_) AllHI.nil
        try simp only [List.getElem_toArray, List.getElem_cons_zero, List.getElem_cons_succ]
        have f2 := FF.out.cell 2 rfl
        have fl := FF.out.lt
        go_simp
        clear f2 fl
        refine hK.out _ _ (⟨FE.out.cell 0 rfl, FC.out.cell 0 rfl, FI.out.cell 0 rfl, FG.out.cell 0 rfl, FG.out.cell 1 rfl, FG.out.cell 2 rfl, FG.out.cell 3 rfl, FG.out.cell 4 rfl, FG.out.cell 5 rfl⟩) (fun hHeld => ?_)
        clear hK K
        try simp only [List.getElem_toArray, List.getElem_cons_zero, List.getElem_cons_succ, Act.put, List.setIfInBounds_toArray, List.set_cons_zero, List.set_cons_succ]
        refine AnyHI.ready (rs := [10]) (by kernel_rfl) (by simp) ?_
        refine AllHI.cons (fun _ => trivial) rfl (fun K hK => ?_) AllHI.nil
        try simp only [List.getElem_toArray, List.getElem_cons_zero, List.getElem_cons_succ]
        have HNB := heap_alloc_new wn (.cells #[.int .u8 (TX : Nat)] 5)
        have hsw := AN.size
        have hbs := HBS.out
        refine istep_if (by kernel_rfl) ?_
        refine iwp_append_lies (.tmp 22) (.tmp 30) 25 rfl (w.heap.size + 1 + 1 + 1 + 1 + 1 + 1 + 1) 5 i0 _ 1 1 Try.underlying25 hi0 hz0 hz1 hz2 (by rfl) (by omega) (.slice At L capt) L _ (by rfl) ((TN.out.own HLN.out).alloc _) ⟨wn.heap.size, 0, none⟩ 1 1 [.int .u8 (TX : Nat)] (by rfl) (by rfl) (World.news_of_block HNB) (by simp [Value.oneCell']) (by omega) (by simp [maxLen]; omega) (by omega) (by simp; omega) ?_
        intro g cp w4 hown hgrow hat hlt
        have hne : ∀ k, k ≤ w.heap.size + 1 + 1 + 1 + 1 + 1 + 1 → some k ≠ (Value.slice At L capt).ownBlock := fun k hk e => by have := (TN.out.ge e.symm).1; omega
        have HPU := Lib.hid (fgr_push FN.out TN.out (by omega) (by omega) hgrow (BRow.push1 HLN.out hown))
        have FE := Lib.hid (FE.out.grown hgrow (hne _ (by omega)))
        have FC := Lib.hid (FC.out.grown hgrow (hne _ (by omega)))
        have FG := Lib.hid (FG.out.grown hgrow (hne _ (by omega)))
        have FI := Lib.hid (FI.out.grown hgrow (hne _ (by omega)))
        have FF := Lib.hid (FF.out.grown hgrow (hne _ (by omega)))
        clear hgrow hown hat hlt hne HNB
        refine hK.out _ _ (⟨FE.out.cell 0 rfl, FC.out.cell 0 rfl, FI.out.cell 0 rfl, FG.out.cell 0 rfl, FG.out.cell 1 rfl, FG.out.cell 2 rfl, FG.out.cell 3 rfl, FG.out.cell 4 rfl, FG.out.cell 5 rfl⟩) (fun hHeld => ?_)
        clear hK K
        try simp only [Act.put, List.setIfInBounds_toArray, List.set_cons_zero, List.set_cons_succ]
        refine AnyHI.take (fun _ => trivial) (by kernel_rfl) (i := 11) (v := ?_) rfl (by kernel_rfl) (by kernel_rfl) (by kernel_rfl) (fun _ _ _ h => h) (Or.inl ⟨by rfl, ?_⟩) hHeld ?_
        rotate_left
        · intro w hSw
          (try dsimp only at hSw)
          (try simp only [List.getElem_toArray, List.getElem_cons_zero, List.getElem_cons_succ])
          go_simp
          all_goals with_reducible rfl
        try simp only [List.getElem_toArray, List.getElem_cons_zero, List.getElem_cons_succ, Act.put, List.setIfInBounds_toArray, List.set_cons_zero, List.set_cons_succ]
        refine AnyHI.ready (rs := [12]) (by kernel_rfl) (by simp) ?_
        refine AllHI.cons (fun _ => trivial) rfl (fun K hK => ?_) AllHI.nil
        try simp only [List.getElem_toArray, List.getElem_cons_zero, List.getElem_cons_succ]
        have f2 := FF.out.cell 2 rfl
        have ff := FF.out.frozen 2
        have fl := FF.out.lt
        go_simp
        have FE := Lib.hid (FE.out.other (k := w.heap.size + 1 + 1 + 1 + 1 + 1) 2 (.slice (some ⟨g, 0, none⟩) (L + 1) cp) (by omega))
        have FC := Lib.hid (FC.out.other (k := w.heap.size + 1 + 1 + 1 + 1 + 1) 2 (.slice (some ⟨g, 0, none⟩) (L + 1) cp) (by omega))
        have FG := Lib.hid (FG.out.other (k := w.heap.size + 1 + 1 + 1 + 1 + 1) 2 (.slice (some ⟨g, 0, none⟩) (L + 1) cp) (by omega))
        have FI := Lib.hid (FI.out.other (k := w.heap.size + 1 + 1 + 1 + 1 + 1) 2 (.slice (some ⟨g, 0, none⟩) (L + 1) cp) (by omega))
        refine hK.out _ _ (⟨FE.out.cell 0 rfl, FC.out.cell 0 rfl, FI.out.cell 0 rfl, FG.out.cell 0 rfl, FG.out.cell 1 rfl, FG.out.cell 2 rfl, FG.out.cell 3 rfl, FG.out.cell 4 rfl, FG.out.cell 5 rfl⟩) (fun hHeld => ?_)
        clear hK K
        try simp only [List.getElem_toArray, List.getElem_cons_zero, List.getElem_cons_succ, Act.put, List.setIfInBounds_toArray, List.set_cons_zero, List.set_cons_succ]
        refine AnyHI.done (by kernel_rfl) ?_ _
        gi_wp2
        refine ⟨(HKO.out _ AN).trans HPU.out.2.2.1, HPU.out.2.2.2.2.trans (AN.block _ HBS.out), _, HPU.out.1, ?_, HWW.out.trans ((AN.mono (by omega)).trans HPU.out.2.2.2.1)⟩
        rw [HNX.out]
        exact HPU.out.2.1
  case done =>
    rintro D ys W hD hys ⟨T, hF, hT, hW⟩ hK
    have hel := HEL.out
    have HROW : Hid (BRow W (w.heap.size + 1 + 1 + 1 + 1 + 1 + 1 + 1) T (fldC es l x y p s u c (u * v))) := Lib.hid (by
      have h : ys.map (fun q : InG u v => chN es l s (midP x y p q.1.1 q.1.2) c) = fldC es l x y p s u c (u * v) := by
        rw [show ys.map (fun q : InG u v => chN es l s (midP x y p q.1.1 q.1.2) c) = (ys.map (·.1)).map (fun q => chN es l s (midP x y p q.1 q.2) c) by rw [List.map_map]; rfl, hys]
        unfold upG fldC
        rw [List.map_map]
        rfl
      rw [← h]
      exact hT)
    have hAA : Below (w.heap.size + 1 + 1 + 1 + 1 + 1) w6 W := (HA7.out.mono (by omega)).trans hW
    have HBW : Hid (Below w.heap.size w W) := Lib.hid (HB7.out.trans (hW.mono (by omega)))
    have HRW := Lib.hid (HR0.out.heap (hAA.block _ (by omega)))
    obtain ⟨At, capt, rfl⟩ := HROW.out.form
    rw [fldC_length] at hF HROW
    have f0 := hF.cell 0 rfl
    have f1 := hF.cell 1 rfl
    have f2 := hF.cell 2 rfl
    have fl := hF.lt
    have r0 := HRW.out.cell 0 rfl
    have r1 := HRW.out.cell 1 rfl
    have r2 := HRW.out.cell 2 rfl
    have rf := HRW.out.frozen
    have rl := HRW.out.lt
    have HQ := Lib.hid (((HRW.out.set 0 (.int .i64 u)).set 1 (.int .i64 v)).set 2 (.slice At (u * v) capt))
    have HBQ := Lib.hid (((HBW.out.setCell (p := ⟨w.heap.size + 1 + 1 + 1 + 1, 0, none⟩) (show w.heap.size ≤ w.heap.size + 1 + 1 + 1 + 1 by omega) (.int .i64 u)).setCell (p := ⟨w.heap.size + 1 + 1 + 1 + 1, 1, none⟩) (show w.heap.size ≤ w.heap.size + 1 + 1 + 1 + 1 by omega) (.int .i64 v)).setCell (p := ⟨w.heap.size + 1 + 1 + 1 + 1, 2, none⟩) (show w.heap.size ≤ w.heap.size + 1 + 1 + 1 + 1 by omega) (.slice At (u * v) capt))
    have HTQ := Lib.hid (((HROW.out.set (p := ⟨w.heap.size + 1 + 1 + 1 + 1, 0, none⟩) (show w.heap.size + 1 + 1 + 1 + 1 < w.heap.size + 1 + 1 + 1 + 1 + 1 + 1 + 1 by omega) (.int .i64 u)).set (p := ⟨w.heap.size + 1 + 1 + 1 + 1, 1, none⟩) (show w.heap.size + 1 + 1 + 1 + 1 < w.heap.size + 1 + 1 + 1 + 1 + 1 + 1 + 1 by omega) (.int .i64 v)).set (p := ⟨w.heap.size + 1 + 1 + 1 + 1, 2, none⟩) (show w.heap.size + 1 + 1 + 1 + 1 < w.heap.size + 1 + 1 + 1 + 1 + 1 + 1 + 1 by omega) (.slice At (u * v) capt))
    have HKK : Hid ((((W.setCell ⟨w.heap.size + 1 + 1 + 1 + 1, 0, none⟩ (.int .i64 u)).setCell ⟨w.heap.size + 1 + 1 + 1 + 1, 1, none⟩ (.int .i64 v)).setCell ⟨w.heap.size + 1 + 1 + 1 + 1, 2, none⟩ (.slice At (u * v) capt)).heap[D]? = some (.deferred (some []))) := Lib.hid (by
      rw [heap_set _ ⟨w.heap.size + 1 + 1 + 1 + 1, 2, none⟩ _ D (show D ≠ w.heap.size + 1 + 1 + 1 + 1 by omega), heap_set _ ⟨w.heap.size + 1 + 1 + 1 + 1, 1, none⟩ _ D (show D ≠ w.heap.size + 1 + 1 + 1 + 1 by omega), heap_set _ ⟨w.heap.size + 1 + 1 + 1 + 1, 0, none⟩ _ D (show D ≠ w.heap.size + 1 + 1 + 1 + 1 by omega)]
      exact hK)
    clear HSQ hE1 hT hF hW hK hAA HBW HRW HROW
    go_wp2_with fail
    refine ⟨by simp, .inl ⟨_, _, rfl, run_takeDeferred HKK.out, ?_⟩⟩
    have hgb : (((W.setCell ⟨w.heap.size + 1 + 1 + 1 + 1, 0, none⟩ (.int .i64 u)).setCell ⟨w.heap.size + 1 + 1 + 1 + 1, 1, none⟩ (.int .i64 v)).setCell ⟨w.heap.size + 1 + 1 + 1 + 1, 2, none⟩ (.slice At (u * v) capt)).grownBy ((((W.setCell ⟨w.heap.size + 1 + 1 + 1 + 1, 0, none⟩ (.int .i64 u)).setCell ⟨w.heap.size + 1 + 1 + 1 + 1, 1, none⟩ (.int .i64 v)).setCell ⟨w.heap.size + 1 + 1 + 1 + 1, 2, none⟩ (.slice At (u * v) capt)).putObj D (.deferred none)) (some D) := grownBy_putObj' _ D _
    have c0 := cell_kept (HQ.out.cell 0 rfl) hgb (fun r e => by cases e; exact ⟨_, HKK.out, rfl⟩)
    have c1 := cell_kept (HQ.out.cell 1 rfl) hgb (fun r e => by cases e; exact ⟨_, HKK.out, rfl⟩)
    have c2 := cell_kept (HQ.out.cell 2 rfl) hgb (fun r e => by cases e; exact ⟨_, HKK.out, rfl⟩)
    refine ⟨.agg #[.int .i64 u, .int .i64 v, .slice At (u * v) capt], ?_, _, rfl, ?_, HBQ.out.trans (belowK_b (w := w) (Nat.le_refl _) _ D _ _ (by omega) HKK.out rfl rfl)⟩
    · simp [results, Try.f35, go_sem, c0, c1, c2]
    · exact BRow.mono (ownsRow_putObj HTQ.out _ HKK.out rfl) (by omega)
  case stop =>
    rintro D c pre W _ _ h _
    exact h.elim

end Go.Proofs.Ytnpklcmbiamocaa
