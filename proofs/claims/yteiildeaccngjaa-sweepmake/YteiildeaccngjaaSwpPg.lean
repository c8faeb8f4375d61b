/-
  The program's Make of layer 13: its contract (no claim is made here).
-/
import Derived.Test.YteiildeaccngjaaSwpPe
import Derived.Test.YteiildeaccngjaaSwpPf
import Derived.Test.YteiildeaccngjaaGrd5
import Derived.Test.YteiildeaccngjaaHeldIn
import Derived.Test.YteiildeaccngjaaIapp
namespace Go.Proofs.Yteiildeaccngjaa
open Go.RowKit Go.Shelf

attribute [local go_sem] Oper.semAt_some


/-- A field's row grows by a byte. -/
theorem swp_push {wn w4 : World} {F B : Nat} {u v : Nat} {T V : Value} {o : Obj} {bs : List Nat} {b : Nat} (hF : Blk wn F 36 [.int .i64 u, .int .i64 v, T]) (hT : BRow wn (B + 1) T bs) (hFB : F < B) (hB : B < wn.heap.size) (hgrow : (wn.alloc o).grownBy w4 T.ownBlock) (hV : BRow w4 (B + 1) V (bs ++ [b])) :
    Blk (w4.setCell ⟨F, 2, none⟩ V) F 36 [.int .i64 u, .int .i64 v, V] ∧ BRow (w4.setCell ⟨F, 2, none⟩ V) (B + 1) V (bs ++ [b]) ∧ KeepsOthers wn (w4.setCell ⟨F, 2, none⟩ V) ∧ Below F wn (w4.setCell ⟨F, 2, none⟩ V) ∧ KeepB B wn (w4.setCell ⟨F, 2, none⟩ V) := by
  have hne : ∀ k, k ≤ B → some k ≠ T.ownBlock := fun k hk e => by have := (hT.ge e.symm).1; omega
  have h4 := (hF.alloc o).grown hgrow (hne F (by omega))
  refine ⟨h4.set 2 V, hV.set (p := ⟨F, 2, none⟩) (by simp; omega) V, ?_, ?_, ?_⟩
  · refine ((KeepsOthers.alloc wn o).trans (KeepsOthers.of_grownBy hgrow fun j ob ej hj => ?_)).trans (KeepsOthers.setCell _ _ _)
    rcases (BRow.alloc hT o).2 with ⟨rfl, _⟩ | ⟨g, cap, cur, rfl, _, hgb, _⟩
    · simp [Value.ownBlock] at ej
    · obtain rfl : g = j := by simpa [Value.ownBlock] using ej
      rw [hgb] at hj; cases hj; rfl
  · exact (((Below.refl F wn).alloc (by have := hF.lt; omega) o).grown hgrow (by simp; omega) (fun q hq => by have := (hT.ge hq).1; omega)).setCell (p := ⟨F, 2, none⟩) (Nat.le_refl _) V
  · unfold KeepB
    rw [heap_set w4 ⟨F, 2, none⟩ V B (by simp; omega), hgrow.block B (by simp; omega) (hne B (Nat.le_refl _))]
    exact Below.heap_alloc _ _ _ hB

set_option maxRecDepth 100000 in
set_option maxHeartbeats 3200000 in
theorem pwrong13_any (ve : Value) (es : List Ed) (x y p u v s : Int) (w : World) (hv : ERd w ve es) (hck : checkG x y p u v s ≠ 0) :
    Calls Try.prog 14 #[ve, .agg #[.int .i64 x, .int .i64 y, .int .i64 p, .int .i64 u, .int .i64 v, .int .i64 s]] w fun e w' => e = .returned (.tuple #[.agg #[.int .i64 0, .int .i64 0, .slice none 0 0], .int .i64 (checkG x y p u v s)]) ∧ Below w.heap.size w w' := by
  have HCK := Lib.hid (fun w => gcheck_any x y p u v s w)
  obtain ⟨Ae, cape, rfl, hce, -⟩ := id hv
  generalize checkG x y p u v s = c at *
  have hcb : (c != 0) = true := by simpa using hck
  have HR0 := Lib.hid (Blk.new ((w.alloc (.cells #[.slice Ae es.length cape] 26)).alloc (.cells #[.int .i64 x, .int .i64 y, .int .i64 p, .int .i64 u, .int .i64 v, .int .i64 s] 29)) 36 [.int .i64 0, .int .i64 0, .slice none 0 0] (g := w.heap.size + 1 + 1) (by simp))
  have HB0 := Lib.hid ((((Below.refl w.heap.size w).alloc (Nat.le_refl _) (.cells #[.slice Ae es.length cape] 26)).alloc (by simp) (.cells #[.int .i64 x, .int .i64 y, .int .i64 p, .int .i64 u, .int .i64 v, .int .i64 s] 29)).alloc (by simp; omega) (.cells #[.int .i64 0, .int .i64 0, .slice none 0 0] 36))
  go_enter Try.func14, Try.ntmps14
  go_wp2_with fail
  refine (HCK.out _).mono ?_
  rintro e w4 ⟨rfl, hb⟩
  have HR := Lib.hid (HR0.out.keep hb)
  have HB := Lib.hid (below2 HB0.out hb)
  have r0 := HR.out.cell 0 rfl
  have r1 := HR.out.cell 1 rfl
  have r2 := HR.out.cell 2 rfl
  have rf := HR.out.frozen
  have rl := HR.out.lt
  have HQ := Lib.hid (((HR.out.set 0 (.int .i64 0)).set 1 (.int .i64 0)).set 2 (.slice none 0 0))
  have HBQ := Lib.hid (((HB.out.setCell (p := ⟨w.heap.size + 1 + 1, 0, none⟩) (show w.heap.size ≤ w.heap.size + 1 + 1 by omega) (.int .i64 0)).setCell (p := ⟨w.heap.size + 1 + 1, 1, none⟩) (show w.heap.size ≤ w.heap.size + 1 + 1 by omega) (.int .i64 0)).setCell (p := ⟨w.heap.size + 1 + 1, 2, none⟩) (show w.heap.size ≤ w.heap.size + 1 + 1 by omega) (.slice none 0 0))
  clear hb HR0 HB0 HCK HR HB
  go_wp2_with fail
  have c0 := HQ.out.cell 0 rfl
  have c1 := HQ.out.cell 1 rfl
  have c2 := HQ.out.cell 2 rfl
  refine bodyPost_ret (v := .tuple #[.agg #[.int .i64 0, .int .i64 0, .slice none 0 0], .int .i64 c]) (by simp [results, Try.results14, go_sem, c0, c1, c2]) rfl ⟨rfl, HBQ.out⟩

set_option maxRecDepth 100000 in
set_option maxHeartbeats 3200000 in
theorem pmake13_any (ve : Value) (es : List Ed) (x y p s : Int) (u v : Nat) (w : World) (hv : ERd w ve es) (hl : es.length ≤ 200000) (hin : ∀ s ∈ es, InD s) (hck : checkG x y p u v s = 0) :
    Calls Try.prog 14 #[ve, .agg #[.int .i64 x, .int .i64 y, .int .i64 p, .int .i64 u, .int .i64 v, .int .i64 s]] w fun e w' => ∃ V, e = .returned (.tuple #[.agg #[.int .i64 u, .int .i64 v, V], .int .i64 0]) ∧ BRow w' w.heap.size V (fldS es x y p s u v) ∧ Below w.heap.size w w' := by
  obtain ⟨⟨hx, hy⟩, hp, hs, hu, hv2⟩ := checkG_zero hck
  have HCK := Lib.hid (fun w => gcheck_any x y p u v s w)
  rw [hck] at HCK
  obtain ⟨Ae, cape, rfl, hce, -⟩ := id hv
  have HKN := Lib.hid (fun w h => pknown13_any (.slice Ae es.length cape) es x y p s u v w h hl hin hck)
  have HEC := Lib.hid (fun w => each_any x y p u v s w)
  have HV := Lib.hid hv
  have HLN := Lib.hid hl
  have HIN := Lib.hid hin
  have HKI := Lib.hid (knownL_in es x y p u v (by omega) (by omega))
  have HKL := Lib.hid (knownL_len es x y p u v)
  obtain ⟨N, hN⟩ : ∃ N, es.length = N := ⟨_, rfl⟩
  rw [hN] at HV HKN
  rw [hN]
  clear hv hl hin hck hce
  refine (callsIn_wide (n := 4)).1 (callsIn_of_wp_marks Try.func14 rfl trivial (wpIn_wide.2 ?_) rfl)
  simp only [Try.ntmps14, List.size_toArray, List.length_cons, List.length_nil, Nat.reduceAdd, Nat.reduceSub, Array.replicate_succ, Array.replicate_zero, List.push_toArray, List.append_toArray, List.nil_append, List.cons_append]
  have HE0 := Lib.hid (((Blk.new w 26 [.slice Ae N cape] rfl).alloc (.cells #[.int .i64 x, .int .i64 y, .int .i64 p, .int .i64 u, .int .i64 v, .int .i64 s] 29)).alloc (.cells #[.int .i64 0, .int .i64 0, .slice none 0 0] 36))
  have HG0 := Lib.hid ((Blk.new (w.alloc (.cells #[.slice Ae N cape] 26)) 29 [.int .i64 x, .int .i64 y, .int .i64 p, .int .i64 u, .int .i64 v, .int .i64 s] (g := w.heap.size + 1) (by simp)).alloc (.cells #[.int .i64 0, .int .i64 0, .slice none 0 0] 36))
  have HR0 := Lib.hid (Blk.new ((w.alloc (.cells #[.slice Ae N cape] 26)).alloc (.cells #[.int .i64 x, .int .i64 y, .int .i64 p, .int .i64 u, .int .i64 v, .int .i64 s] 29)) 36 [.int .i64 0, .int .i64 0, .slice none 0 0] (g := w.heap.size + 1 + 1) (by simp))
  have hal3 : Below w.heap.size w (((w.alloc (.cells #[.slice Ae N cape] 26)).alloc (.cells #[.int .i64 x, .int .i64 y, .int .i64 p, .int .i64 u, .int .i64 v, .int .i64 s] 29)).alloc (.cells #[.int .i64 0, .int .i64 0, .slice none 0 0] 36)) := ((Below.refl w.heap.size w).alloc (Nat.le_refl _) (.cells #[.slice Ae N cape] 26)).alloc (by simp) (.cells #[.int .i64 x, .int .i64 y, .int .i64 p, .int .i64 u, .int .i64 v, .int .i64 s] 29) |>.alloc (by simp; omega) (.cells #[.int .i64 0, .int .i64 0, .slice none 0 0] 36)
  have HB0 := Lib.hid hal3
  have HV3 := Lib.hid (HV.out.keep hal3)
  have hsz : w.heap.size + 1 + 1 < (((w.alloc (.cells #[.slice Ae N cape] 26)).alloc (.cells #[.int .i64 x, .int .i64 y, .int .i64 p, .int .i64 u, .int .i64 v, .int .i64 s] 29)).alloc (.cells #[.int .i64 0, .int .i64 0, .slice none 0 0] 36)).heap.size := HR0.out.lt
  clear HV hal3
  go_wp2_with fail
  generalize ((w.alloc (.cells #[.slice Ae N cape] 26)).alloc (.cells #[.int .i64 x, .int .i64 y, .int .i64 p, .int .i64 u, .int .i64 v, .int .i64 s] 29)).alloc (.cells #[.int .i64 0, .int .i64 0, .slice none 0 0] 36) = w3 at *
  refine (HCK.out _).mono ?_
  rintro e w4 ⟨rfl, hb⟩
  have HE4 := Lib.hid (HE0.out.keep hb)
  have HG4 := Lib.hid (HG0.out.keep hb)
  have HR4 := Lib.hid (HR0.out.keep hb)
  have HB4 := Lib.hid (below2 HB0.out hb)
  have HV4 := Lib.hid (HV3.out.keep hb)
  have hs4 := Nat.lt_of_lt_of_le hsz hb.size
  have c0 := HE4.out.cell 0 rfl
  have g0 := HG4.out.cell 0 rfl
  have g1 := HG4.out.cell 1 rfl
  have g2 := HG4.out.cell 2 rfl
  have g3 := HG4.out.cell 3 rfl
  have g4 := HG4.out.cell 4 rfl
  have g5 := HG4.out.cell 5 rfl
  have el := HE4.out.lt
  have gl := HG4.out.lt
  clear hb HE0 HG0 HR0 HB0 HV3 HCK hsz
  go_wp2_with fail
  refine (HKN.out _ HV4.out).mono ?_
  rintro e w5 ⟨K, rfl, hK, hb⟩
  obtain ⟨Ak, capk, rfl⟩ := hK.form
  rw [HKL.out] at hK ⊢
  have HK5 := Lib.hid hK
  have HE5 := Lib.hid (HE4.out.keep hb)
  have HG5 := Lib.hid (HG4.out.keep hb)
  have HR5 := Lib.hid (HR4.out.keep hb)
  have HB5 := Lib.hid (below2 HB4.out hb)
  have HV5 := Lib.hid (HV4.out.keep hb)
  have hs5 := Nat.lt_of_lt_of_le hs4 hb.size
  clear hb hK HE4 HG4 HR4 HB4 HV4 HKN hs4 c0 g0 g1 g2 g3 g4 g5 el gl
  have g0 := HG5.out.cell 0 rfl
  have g1 := HG5.out.cell 1 rfl
  have g2 := HG5.out.cell 2 rfl
  have g3 := HG5.out.cell 3 rfl
  have g4 := HG5.out.cell 4 rfl
  have g5 := HG5.out.cell 5 rfl
  have gl := HG5.out.lt
  have hn1 : ¬ w.heap.size = w5.heap.size := by omega
  have hn2 : ¬ w.heap.size + 1 = w5.heap.size := by omega
  have hn3 : w.heap.size < w5.heap.size := by omega
  have hr5 := HR5.out.lt
  have HE6 := Lib.hid ((HE5.out.alloc (.cells #[.slice Ak (u * v) capk] 31)).alloc (.cells #[.int .i64 u, .int .i64 v, .slice none 0 0] 36))
  have HG6 := Lib.hid ((HG5.out.alloc (.cells #[.slice Ak (u * v) capk] 31)).alloc (.cells #[.int .i64 u, .int .i64 v, .slice none 0 0] 36))
  have HR6 := Lib.hid ((HR5.out.alloc (.cells #[.slice Ak (u * v) capk] 31)).alloc (.cells #[.int .i64 u, .int .i64 v, .slice none 0 0] 36))
  have HC6 := Lib.hid ((Blk.new w5 31 [.slice Ak (u * v) capk] rfl).alloc (.cells #[.int .i64 u, .int .i64 v, .slice none 0 0] 36))
  have HF6 := Lib.hid (Blk.new (w5.alloc (.cells #[.slice Ak (u * v) capk] 31)) 36 [.int .i64 u, .int .i64 v, .slice none 0 0] (g := w5.heap.size + 1) (by simp))
  have hal2 : Below w5.heap.size w5 ((w5.alloc (.cells #[.slice Ak (u * v) capk] 31)).alloc (.cells #[.int .i64 u, .int .i64 v, .slice none 0 0] 36)) := alloc2 w5 (.cells #[.slice Ak (u * v) capk] 31) (.cells #[.int .i64 u, .int .i64 v, .slice none 0 0] 36)
  have HA6 := Lib.hid hal2
  have hsz : ((w5.alloc (.cells #[.slice Ak (u * v) capk] 31)).alloc (.cells #[.int .i64 u, .int .i64 v, .slice none 0 0] 36)).heap.size = w5.heap.size + 1 + 1 := by simp
  clear HE5 HG5 HR5 hal2
  go_wp2_with fail
  obtain ⟨w6, hw6⟩ : ∃ w6, (w5.alloc (.cells #[.slice Ak (u * v) capk] 31)).alloc (.cells #[.int .i64 u, .int .i64 v, .slice none 0 0] 36) = w6 := ⟨_, rfl⟩
  rw [hw6] at HE6 HG6 HR6 HC6 HF6 HA6 hsz ⊢
  clear hw6
  refine (HEC.out _).mono ?_
  rintro e w7 ⟨rfl, hw7⟩
  have hal : Below w6.heap.size w6 w7 := by rw [hw7]; exact (Below.refl _ _).alloc (Nat.le_refl _) _
  have hE1 : Blk w7 w6.heap.size 29 [.int .i64 x, .int .i64 y, .int .i64 p, .int .i64 u, .int .i64 v, .int .i64 s] := by rw [hw7]; exact Blk.new w6 29 [.int .i64 x, .int .i64 y, .int .i64 p, .int .i64 u, .int .i64 v, .int .i64 s] rfl
  have HE7 := Lib.hid (HE6.out.keep hal)
  have HG7 := Lib.hid (HG6.out.keep hal)
  have HR7 := Lib.hid (HR6.out.keep hal)
  have HC7 := Lib.hid (HC6.out.keep hal)
  have HF7 := Lib.hid (HF6.out.keep hal)
  have HA7 := Lib.hid (HA6.out.trans (hal.mono (by omega)))
  clear hw7 hal HEC HE6 HG6 HR6 HC6 HF6 HA6 g0 g1 g2 g3 g4 g5 gl
  go_wp2_with fail
  have HSQ := each_stops_in Fence.wide 3 trivial rfl (by decide) w6.heap.size u v x y p s (by omega) (by omega) w7 hE1
  have h6 := hsz
  rw [hsz] at HSQ hE1
  have HEL := Lib.hid hE1.lt
  refine (wpIn_wide (n := 4)).1 (wpIn_rangeFunc_ownF rfl (by decide) (gf := 54) (lb := #[.pointer (some ⟨w5.heap.size + 1 + 1, 0, none⟩)]) rfl trivial (enters_of Try.func54 (by kernel_rfl) rfl)
    HSQ KeepB.t (KeepB.b hE1.lt) (Below.refl _ _) (fun _ => rfl)
    (fun pre W => ∃ T, Blk W (w5.heap.size + 1) 36 [.int .i64 u, .int .i64 v, T] ∧ BRow W (w5.heap.size + 1 + 1 + 1) T (pre.map (fun q : InG u v => swN es s (midP x y p q.1.1 q.1.2) (knS (knownL es x y p u v) (q.1.2 * u + q.1.1)))) ∧ Below (w5.heap.size + 1) w7 W) (fun _ _ _ => False) ?own (fun _ _ _ _ _ hs _ _ => hs) ⟨_, HF7.out, BRow.nil _ _, Below.refl _ _⟩
    (fun q => { tmps := #[.slice Ae N cape, .agg #[.int .i64 x, .int .i64 y, .int .i64 p, .int .i64 u, .int .i64 v, .int .i64 s], .pointer (some ⟨w.heap.size, 0, none⟩), .pointer (some ⟨w.heap.size + 1, 0, none⟩), .pointer (some ⟨w.heap.size + 1 + 1, 0, none⟩), .int .i64 0, .int .i64 0, .pointer (some ⟨w5.heap.size, 0, none⟩), .pointer (some ⟨w5.heap.size + 1, 0, none⟩), .int .i64 q.1.1, .int .i64 q.1.2, .agg #[.int .i64 x, .int .i64 y, .int .i64 p, .int .i64 u, .int .i64 v, .int .i64 s], .int .i64 0, .int .i64 0, .bool false, undef, undef, .slice Ae N cape, .agg #[.int .i64 x, .int .i64 y, .int .i64 p, .int .i64 u, .int .i64 v, .int .i64 s], .slice Ak (u * v) capk, .pointer (some ⟨w.heap.size + 1, 3, none⟩), .int .i64 u, .pointer (some ⟨w.heap.size + 1, 4, none⟩), .int .i64 v, .agg #[.int .i64 u, .int .i64 v, .slice none 0 0], .agg #[.int .i64 x, .int .i64 y, .int .i64 p, .int .i64 u, .int .i64 v, .int .i64 s], .func (.func 54) #[] #[.pointer (some ⟨w5.heap.size + 1 + 1, 0, none⟩)], .int .i64 q.1.1, .int .i64 q.1.2, undef, undef, undef, undef, undef, undef, undef, undef, undef, undef, undef, undef, undef, undef, undef, undef, undef, undef, undef, undef, undef, undef], defers := [] }) ?assign ?body ?done ?stop)
  case own =>
    rintro pre W W' row ⟨T, h1, h2, h3⟩ hg hr
    refine ⟨T, h1.grown hg (fun e => ?_), World.ownsRow.kept h2 hg ?_, h3.grown hg (by have := h3.size; have := HEL.out; omega) (fun k ek => by have := (hr k ek).1; have := HEL.out; omega)⟩
    · obtain ⟨_, o, ho, hcl⟩ := hr _ e.symm
      unfold Blk at h1
      rw [h1] at ho
      cases ho
      cases hcl
    · rcases h2.2 with ⟨rfl, _⟩ | ⟨g, cap, cur, rfl, _, hgb, _⟩
      · exact .inl rfl
      · refine .inr fun e' => ?_
        obtain ⟨_, o, ho, hcl⟩ := hr g (by simpa [Value.ownBlock] using e'.symm)
        rw [hgb] at ho; cases ho; cases hcl
  case assign =>
    intro l q W K hK
    gi_wp2
    exact hK
  case body =>
    clear HSQ
    rintro lq pre ⟨⟨i, k⟩, hi, hk⟩ W ⟨T, hF, hT, hW⟩ hlt
    simp only [] at hi hk
    obtain ⟨cur, hcur⟩ : ∃ cur, pre.map (fun q : InG u v => swN es s (midP x y p q.1.1 q.1.2) (knS (knownL es x y p u v) (q.1.2 * u + q.1.1))) = cur := ⟨_, rfl⟩
    have hlen : cur.length = pre.length := by rw [← hcur, List.length_map]
    have HNX : Hid ((pre ++ [(⟨(i, k), hi, hk⟩ : InG u v)]).map (fun q : InG u v => swN es s (midP x y p q.1.1 q.1.2) (knS (knownL es x y p u v) (q.1.2 * u + q.1.1))) = cur ++ [swN es s (midP x y p i k) (knS (knownL es x y p u v) (k * u + i))]) := Lib.hid (by rw [List.map_append, hcur]; rfl)
    rw [hcur] at hT
    have hLb : pre.length ≤ 576 := by have := Nat.mul_le_mul (show u ≤ 24 by omega) (show v ≤ 24 by omega); omega
    obtain ⟨L, hL⟩ : ∃ L, pre.length = L := ⟨_, rfl⟩
    rw [hL] at hlen hLb
    obtain ⟨At, capt, rfl⟩ := hT.form
    rw [hlen] at hF hT
    have HLT := Lib.hid hlen
    have hJ : k * u + i < u * v := by
      have h1 : (k + 1) * u ≤ v * u := Nat.mul_le_mul_right _ hk
      rw [Nat.add_mul, Nat.one_mul, Nat.mul_comm v u] at h1; omega
    have hJ2 : u * v ≤ 576 := Nat.mul_le_mul (show u ≤ 24 by omega) (show v ≤ 24 by omega)
    obtain ⟨ak, rfl, hak, hcK⟩ := HK5.out.at (k * u + i) (by rw [HKL.out]; exact hJ)
    have hcE := HKI.out (k * u + i)
    have hBW : Below w5.heap.size w5 W := HA7.out.trans (hW.mono (by omega))
    have hAA : Below (w5.heap.size + 1) w7 W := hW
    have hd : Below W.heap.size W W.drew := (Below.refl _ W).drew
    have HBW := Lib.hid (hBW.trans (hd.mono hBW.size))
    have FE := Lib.hid ((HE7.out.heap (hAA.block _ (by omega))).keep hd)
    have FG := Lib.hid ((HG7.out.heap (hAA.block _ (by omega))).keep hd)
    have FC := Lib.hid ((HC7.out.heap (hAA.block _ (by omega))).keep hd)
    have FF := Lib.hid (hF.keep hd)
    have FT := Lib.hid (hT.keep hd)
    have FV := Lib.hid (HV5.out.keep HBW.out)
    have HCL := Lib.hid ((HBW.out.cell (p := ak.add (k * u + i)) (by first | exact hak | simpa [Addr.add] using hak | (unfold Addr.add; split <;> exact hak))).trans hcK)
    have HAK : Hid ((ak.add (k * u + i)).block < w5.heap.size) := Lib.hid (by first | exact hak | simpa [Addr.add] using hak | (unfold Addr.add; split <;> exact hak))
    have HWW := Lib.hid hW
    have HW5S := Lib.hid hBW.size
    have HBS : Hid (w5.heap.size + 1 + 1 < W.heap.size) := Lib.hid (Nat.lt_of_lt_of_le HEL.out hW.size)
    have AB := hd
    have HKO := Lib.hid (fun W' (h : Below W.heap.size W W') => KeepsOthers.mk h.size (fun k o hk _ => (h.block k (Array.getElem?_eq_some_iff.1 hk).1).trans hk))
    have hmd := mid_in x y p (i : Int) (k : Int) hx hy hp (by omega) (by omega)
    have HCT := Lib.hid (fun w => centre_any x y p u v s (i : Int) (k : Int) (by omega) (by omega) (by omega) (by omega) (by omega) w)
    have HTX : Hid (∀ w, ERd w (.slice Ae N cape) es → Calls Try.prog 35 #[.slice Ae N cape, .int .i64 (knS (knownL es x y p u v) (k * u + i)), .agg #[.int .i64 x, .int .i64 y, .int .i64 p, .int .i64 u, .int .i64 v, .int .i64 s], .agg #[.int .i64 (midG x p i), .int .i64 (midG y p k)]] w fun e w' => e = .returned (.int .u8 ((swN es s (midP x y p i k) (knS (knownL es x y p u v) (k * u + i)) : Nat) : Int)) ∧ Below w.heap.size w w') := Lib.hid (fun w h => ptexel13_any (.slice Ae N cape) es x y p s u v _ _ _ w h HLN.out HIN.out hs hmd hcE)
    clear hmd hcE
    generalize swN es s (midP x y p i k) (knS (knownL es x y p u v) (k * u + i)) = TX at *
    generalize knS (knownL es x y p u v) (k * u + i) = KX at *
    generalize midG x p i = MX at *
    generalize midG y p k = MY at *
    obtain ⟨i0, hi0, hz0, hz1, hz2⟩ := infos binfo
    have hmx : Try.prog.follows .mixedOrders = true := by kernel_rfl
    clear hF hT hW hcur hlen hd hAA hBW hL hlt hcK hak HV5 HK5 HA7 HE7 HG7 HC7 HF7 HR7 HB5
    have hmu : k * u ≤ 24 * 24 := Nat.mul_le_mul (by omega) (by omega)
    have k1 : IntKind.i64.wrap ((k : Int) * u) = ((k * u : Nat) : Int) := by rw [← Int.natCast_mul]; exact wI (by omega) (by omega)
    obtain ⟨z, hz⟩ : ∃ z, k * u = z := ⟨_, rfl⟩
    rw [hz] at k1 hJ HCL HAK hmu
    have k2 : IntKind.i64.wrap ((z : Int) + i) = ((z + i : Nat) : Int) := by rw [← Int.natCast_add]; exact wI (by omega) (by omega)
    obtain ⟨q, hq⟩ : ∃ q, z + i = q := ⟨_, rfl⟩
    rw [hq] at hJ k2 HCL HAK
    clear hz hq hmu
    generalize u * v = M at *
    gi_wp2
    refine region_heldIn (F := Fence.wide.inRound lq) (S := fun wx => wx.cell? ⟨w.heap.size, 0, none⟩ = some (.slice Ae N cape) ∧ wx.cell? ⟨w5.heap.size, 0, none⟩ = some (.slice (some ak) M capk) ∧ wx.cell? (ak.add q) = some (.int .i64 KX) ∧ wx.cell? ⟨w.heap.size + 1, 0, none⟩ = some (.int .i64 x) ∧ wx.cell? ⟨w.heap.size + 1, 1, none⟩ = some (.int .i64 y) ∧ wx.cell? ⟨w.heap.size + 1, 2, none⟩ = some (.int .i64 p) ∧ wx.cell? ⟨w.heap.size + 1, 3, none⟩ = some (.int .i64 u) ∧ wx.cell? ⟨w.heap.size + 1, 4, none⟩ = some (.int .i64 v) ∧ wx.cell? ⟨w.heap.size + 1, 5, none⟩ = some (.int .i64 s)) (by kernel_rfl) (⟨FE.out.cell 0 rfl, FC.out.cell 0 rfl, HCL.out, FG.out.cell 0 rfl, FG.out.cell 1 rfl, FG.out.cell 2 rfl, FG.out.cell 3 rfl, FG.out.cell 4 rfl, FG.out.cell 5 rfl⟩) (fun hHeld => ?_)
    refine AnyHI.take (fun _ => trivial) (by kernel_rfl) (i := 0) (v := ?_) rfl (by kernel_rfl) (by kernel_rfl) (by kernel_rfl) (fun _ _ _ h => h) (Or.inl ⟨by rfl, ?_⟩) hHeld ?_
    rotate_left
    · intro w hSw
      (try dsimp only at hSw)
      (try simp only [List.getElem_toArray, List.getElem_cons_zero])
      go_simp
      all_goals with_reducible rfl
    try simp only [List.getElem_toArray, List.getElem_cons_zero, Act.put, List.setIfInBounds_toArray, List.set_cons_zero, List.set_cons_succ]
    refine AnyHI.take (fun _ => trivial) (by kernel_rfl) (i := 2) (v := ?_) rfl (by kernel_rfl) (by kernel_rfl) (by kernel_rfl) (fun _ _ _ h => h) (Or.inl ⟨by rfl, ?_⟩) hHeld ?_
    rotate_left
    · intro w hSw
      (try dsimp only at hSw)
      (try simp only [List.getElem_toArray, List.getElem_cons_zero, List.getElem_cons_succ])
      go_simp
      all_goals with_reducible rfl
    try simp only [List.getElem_toArray, List.getElem_cons_zero, List.getElem_cons_succ, Act.put, List.setIfInBounds_toArray, List.set_cons_zero, List.set_cons_succ]
    refine AnyHI.take (fun _ => trivial) (by kernel_rfl) (i := 3) (v := ?_) rfl (by kernel_rfl) (by kernel_rfl) (by kernel_rfl) (fun _ _ _ h => h) (Or.inl ⟨by rfl, ?_⟩) hHeld ?_
    rotate_left
    · intro w hSw
      (try dsimp only at hSw)
      (try simp only [List.getElem_toArray, List.getElem_cons_zero, List.getElem_cons_succ])
      go_simp
      all_goals with_reducible rfl
    try simp only [List.getElem_toArray, List.getElem_cons_zero, List.getElem_cons_succ, Act.put, List.setIfInBounds_toArray, List.set_cons_zero, List.set_cons_succ]
    refine AnyHI.take (fun _ => trivial) (by kernel_rfl) (i := 4) (v := ?_) rfl (by kernel_rfl) (by kernel_rfl) (by kernel_rfl) (fun _ _ _ h => h) (Or.inl ⟨by rfl, ?_⟩) hHeld ?_
    rotate_left
    · intro w hSw
      (try dsimp only at hSw)
      (try simp only [List.getElem_toArray, List.getElem_cons_zero, List.getElem_cons_succ])
      go_simp
      all_goals with_reducible rfl
    try simp only [List.getElem_toArray, List.getElem_cons_zero, List.getElem_cons_succ, Act.put, List.setIfInBounds_toArray, List.set_cons_zero, List.set_cons_succ]
    refine AnyHI.take (fun _ => trivial) (by kernel_rfl) (i := 5) (v := ?_) rfl (by kernel_rfl) (by kernel_rfl) (by kernel_rfl) (fun _ _ _ h => h) (Or.inl ⟨by rfl, ?_⟩) hHeld ?_
    rotate_left
    · intro w hSw
      (try dsimp only at hSw)
      (try simp only [List.getElem_toArray, List.getElem_cons_zero, List.getElem_cons_succ])
      go_simp
      all_goals with_reducible rfl
    try simp only [List.getElem_toArray, List.getElem_cons_zero, List.getElem_cons_succ, Act.put, List.setIfInBounds_toArray, List.set_cons_zero, List.set_cons_succ]
    refine AnyHI.take (fun _ => trivial) (by kernel_rfl) (i := 6) (v := ?_) rfl (by kernel_rfl) (by kernel_rfl) (by kernel_rfl) (fun _ _ _ h => h) (Or.inl ⟨by rfl, ?_⟩) hHeld ?_
    rotate_left
    · intro w hSw
      (try dsimp only at hSw)
      (try simp only [List.getElem_toArray, List.getElem_cons_zero, List.getElem_cons_succ])
      go_simp
      all_goals with_reducible rfl
    try simp only [List.getElem_toArray, List.getElem_cons_zero, List.getElem_cons_succ, Act.put, List.setIfInBounds_toArray, List.set_cons_zero, List.set_cons_succ]
    refine AnyHI.take (fun _ => trivial) (by kernel_rfl) (i := 7) (v := ?_) rfl (by kernel_rfl) (by kernel_rfl) (by kernel_rfl) (fun _ _ _ h => h) (Or.inl ⟨by rfl, ?_⟩) hHeld ?_
    rotate_left
    · intro w hSw
      (try dsimp only at hSw)
      (try simp only [List.getElem_toArray, List.getElem_cons_zero, List.getElem_cons_succ])
      go_simp
      all_goals with_reducible rfl
    try simp only [List.getElem_toArray, List.getElem_cons_zero, List.getElem_cons_succ, Act.put, List.setIfInBounds_toArray, List.set_cons_zero, List.set_cons_succ]
    refine AnyHI.take (fun _ => trivial) (by kernel_rfl) (i := 8) (v := ?_) rfl (by kernel_rfl) (by kernel_rfl) (by kernel_rfl) (fun _ _ _ h => h) (Or.inl ⟨by rfl, ?_⟩) hHeld ?_
    rotate_left
    · intro w hSw
      (try dsimp only at hSw)
      (try simp only [List.getElem_toArray, List.getElem_cons_zero, List.getElem_cons_succ])
      go_simp
      all_goals with_reducible rfl
    try simp only [List.getElem_toArray, List.getElem_cons_zero, List.getElem_cons_succ, Act.put, List.setIfInBounds_toArray, List.set_cons_zero, List.set_cons_succ]
    refine AnyHI.take (fun _ => trivial) (by kernel_rfl) (i := 9) (v := ?_) rfl (by kernel_rfl) (by kernel_rfl) (by kernel_rfl) (fun _ _ _ h => h) (Or.inl ⟨by rfl, ?_⟩) hHeld ?_
    rotate_left
    · intro w hSw
      (try dsimp only at hSw)
      (try simp only [List.getElem_toArray, List.getElem_cons_zero, List.getElem_cons_succ])
      go_simp
      all_goals with_reducible rfl
    try simp only [List.getElem_toArray, List.getElem_cons_zero, List.getElem_cons_succ, Act.put, List.setIfInBounds_toArray, List.set_cons_zero, List.set_cons_succ]
    refine AnyHI.take (fun _ => trivial) (by kernel_rfl) (i := 10) (v := ?_) rfl (by kernel_rfl) (by kernel_rfl) (by kernel_rfl) (fun _ _ _ h => h) (Or.inl ⟨by rfl, ?_⟩) hHeld ?_
    rotate_left
    · intro w hSw
      (try dsimp only at hSw)
      (try simp only [List.getElem_toArray, List.getElem_cons_zero, List.getElem_cons_succ])
      go_simp
      all_goals with_reducible rfl
    try simp only [List.getElem_toArray, List.getElem_cons_zero, List.getElem_cons_succ, Act.put, List.setIfInBounds_toArray, List.set_cons_zero, List.set_cons_succ]
    refine AnyHI.take (fun _ => trivial) (by kernel_rfl) (i := 11) (v := ?_) rfl (by kernel_rfl) (by kernel_rfl) (by kernel_rfl) (fun _ _ _ h => h) (Or.inl ⟨by rfl, ?_⟩) hHeld ?_
    rotate_left
    · intro w hSw
      (try dsimp only at hSw)
      (try simp only [List.getElem_toArray, List.getElem_cons_zero, List.getElem_cons_succ])
      go_simp
      all_goals with_reducible rfl
    try simp only [List.getElem_toArray, List.getElem_cons_zero, List.getElem_cons_succ, Act.put, List.setIfInBounds_toArray, List.set_cons_zero, List.set_cons_succ]
    refine AnyHI.take (fun _ => trivial) (by kernel_rfl) (i := 12) (v := ?_) rfl (by kernel_rfl) (by kernel_rfl) (by kernel_rfl) (fun _ _ _ h => h) (Or.inl ⟨by rfl, ?_⟩) hHeld ?_
    rotate_left
    · intro w hSw
      (try dsimp only at hSw)
      (try simp only [List.getElem_toArray, List.getElem_cons_zero, List.getElem_cons_succ])
      go_simp
      all_goals with_reducible rfl
    try simp only [List.getElem_toArray, List.getElem_cons_zero, List.getElem_cons_succ, Act.put, List.setIfInBounds_toArray, List.set_cons_zero, List.set_cons_succ]
    refine AnyHI.take (fun _ => trivial) (by kernel_rfl) (i := 13) (v := ?_) rfl (by kernel_rfl) (by kernel_rfl) (by kernel_rfl) (fun _ _ _ h => h) (Or.inl ⟨by rfl, ?_⟩) hHeld ?_
    rotate_left
    · intro w hSw
      (try dsimp only at hSw)
      (try simp only [List.getElem_toArray, List.getElem_cons_zero, List.getElem_cons_succ])
      go_simp
      all_goals with_reducible rfl
    try simp only [List.getElem_toArray, List.getElem_cons_zero, List.getElem_cons_succ, Act.put, List.setIfInBounds_toArray, List.set_cons_zero, List.set_cons_succ]
    refine AnyHI.take (fun _ => trivial) (by kernel_rfl) (i := 14) (v := ?_) rfl (by kernel_rfl) (by kernel_rfl) (by kernel_rfl) (fun _ _ _ h => h) (Or.inl ⟨by rfl, ?_⟩) hHeld ?_
    rotate_left
    · intro w hSw
      (try dsimp only at hSw)
      (try simp only [List.getElem_toArray, List.getElem_cons_zero, List.getElem_cons_succ])
      go_simp
      all_goals with_reducible rfl
    try simp only [List.getElem_toArray, List.getElem_cons_zero, List.getElem_cons_succ, Act.put, List.setIfInBounds_toArray, List.set_cons_zero, List.set_cons_succ]
    refine AnyHI.take (fun _ => trivial) (by kernel_rfl) (i := 15) (v := ?_) rfl (by kernel_rfl) (by kernel_rfl) (by kernel_rfl) (fun _ _ _ h => h) (Or.inl ⟨by rfl, ?_⟩) hHeld ?_
    rotate_left
    · intro w hSw
      (try dsimp only at hSw)
      (try simp only [List.getElem_toArray, List.getElem_cons_zero, List.getElem_cons_succ])
      go_simp
      all_goals with_reducible rfl
    try simp only [List.getElem_toArray, List.getElem_cons_zero, List.getElem_cons_succ, Act.put, List.setIfInBounds_toArray, List.set_cons_zero, List.set_cons_succ]
    refine AnyHI.ready (rs := [1, 16]) (by kernel_rfl) (by simp) ?_
    refine AllHI.cons (fun _ => trivial) rfl (fun K hK => ?_) (AllHI.cons (fun _ => trivial) rfl (fun K hK => ?_) AllHI.nil)
    · try simp only [List.getElem_toArray, List.getElem_cons_zero, List.getElem_cons_succ]
      have f2 := FF.out.cell 2 rfl
      have fl := FF.out.lt
      go_simp
      clear f2 fl
      refine hK.out _ _ (⟨FE.out.cell 0 rfl, FC.out.cell 0 rfl, HCL.out, FG.out.cell 0 rfl, FG.out.cell 1 rfl, FG.out.cell 2 rfl, FG.out.cell 3 rfl, FG.out.cell 4 rfl, FG.out.cell 5 rfl⟩) (fun hHeld => ?_)
      clear hK K
      try simp only [List.getElem_toArray, List.getElem_cons_zero, List.getElem_cons_succ, Act.put, List.setIfInBounds_toArray, List.set_cons_zero, List.set_cons_succ]
      refine AnyHI.ready (rs := [16]) (by kernel_rfl) (by simp) ?_
      refine AllHI.cons (fun _ => trivial) rfl (fun K hK => ?_) AllHI.nil
      try simp only [List.getElem_toArray, List.getElem_cons_zero, List.getElem_cons_succ]
      go_simp
      refine ⟨trivial, ?_⟩
      gi_at_call 15
      (with_reducible refine (CallsIn.inRound lq (callsIn_wide.2 (HCT.out _))).mono ?_)
      rintro e wn ⟨rfl, hbn⟩
      have ABs := AB.size
      have AB := AB.trans (hbn.mono AB.size)
      have FE := Lib.hid (FE.out.keep hbn)
      have FG := Lib.hid (FG.out.keep hbn)
      have FC := Lib.hid (FC.out.keep hbn)
      have FF := Lib.hid (FF.out.keep hbn)
      have FT := Lib.hid (FT.out.keep hbn)
      have FV := Lib.hid (FV.out.keep hbn)
      have HCL := Lib.hid ((hbn.cell (p := ak.add q) (Nat.lt_of_lt_of_le HAK.out (Nat.le_trans HW5S.out ABs))).trans HCL.out)
      clear hbn
      gi_wp2
      refine hK.out _ _ (⟨FE.out.cell 0 rfl, FC.out.cell 0 rfl, HCL.out, FG.out.cell 0 rfl, FG.out.cell 1 rfl, FG.out.cell 2 rfl, FG.out.cell 3 rfl, FG.out.cell 4 rfl, FG.out.cell 5 rfl⟩) (fun hHeld => ?_)
      clear hK K
      try simp only [List.getElem_toArray, List.getElem_cons_zero, List.getElem_cons_succ, Act.put, List.setIfInBounds_toArray, List.set_cons_zero, List.set_cons_succ]
      refine AnyHI.ready (rs := [17]) (by kernel_rfl) (by simp) ?_
      refine AllHI.cons (fun _ => trivial) rfl (fun K hK => ?_) AllHI.nil
      try simp only [List.getElem_toArray, List.getElem_cons_zero, List.getElem_cons_succ]
      go_simp
      refine ⟨trivial, ?_⟩
      gi_at_call 35
      (with_reducible refine (CallsIn.inRound lq (callsIn_wide.2 (HTX.out _ FV.out))).mono ?_)
      rintro e wn ⟨rfl, hbn⟩
      have ABs := AB.size
      have AB := AB.trans (hbn.mono AB.size)
      have FE := Lib.hid (FE.out.keep hbn)
      have FG := Lib.hid (FG.out.keep hbn)
      have FC := Lib.hid (FC.out.keep hbn)
      have FF := Lib.hid (FF.out.keep hbn)
      have FT := Lib.hid (FT.out.keep hbn)
      have FV := Lib.hid (FV.out.keep hbn)
      have HCL := Lib.hid ((hbn.cell (p := ak.add q) (Nat.lt_of_lt_of_le HAK.out (Nat.le_trans HW5S.out ABs))).trans HCL.out)
      clear hbn
      gi_wp2
      refine hK.out _ _ (⟨FE.out.cell 0 rfl, FC.out.cell 0 rfl, HCL.out, FG.out.cell 0 rfl, FG.out.cell 1 rfl, FG.out.cell 2 rfl, FG.out.cell 3 rfl, FG.out.cell 4 rfl, FG.out.cell 5 rfl⟩) (fun hHeld => ?_)
      clear hK K
      try simp only [List.getElem_toArray, List.getElem_cons_zero, List.getElem_cons_succ, Act.put, List.setIfInBounds_toArray, List.set_cons_zero, List.set_cons_succ]
      refine AnyHI.ready (rs := [18]) (by kernel_rfl) (by simp) ?_
      refine AllHI.cons (fun _ => trivial) rfl (fun K hK => ?_) AllHI.nil
      try simp only [List.getElem_toArray, List.getElem_cons_zero, List.getElem_cons_succ]
      go_simp
      have hal : Below wn.heap.size wn (wn.alloc (.cells #[.int .u8 (TX : Nat)] 5)) := (Below.refl _ _).alloc (Nat.le_refl _) _
      have FN := FF
      have TN := FT
      have AN := AB
      have FE := Lib.hid (FE.out.keep hal)
      have FG := Lib.hid (FG.out.keep hal)
      have FC := Lib.hid (FC.out.keep hal)
      have FF := Lib.hid (FF.out.keep hal)
      have HCL := Lib.hid ((hal.cell (p := ak.add q) (Nat.lt_of_lt_of_le HAK.out (Nat.le_trans HW5S.out AN.size))).trans HCL.out)
      clear hal
      refine hK.out _ _ (⟨FE.out.cell 0 rfl, FC.out.cell 0 rfl, HCL.out, FG.out.cell 0 rfl, FG.out.cell 1 rfl, FG.out.cell 2 rfl, FG.out.cell 3 rfl, FG.out.cell 4 rfl, FG.out.cell 5 rfl⟩) (fun hHeld => ?_)
      clear hK K
      try simp only [List.getElem_toArray, List.getElem_cons_zero, List.getElem_cons_succ, Act.put, List.setIfInBounds_toArray, List.set_cons_zero, List.set_cons_succ]
      refine AnyHI.ready (rs := [19]) (by kernel_rfl) (by simp) ?_
      refine AllHI.cons (fun _ => trivial) rfl (fun K hK => ?_) AllHI.nil
      try simp only [List.getElem_toArray, List.getElem_cons_zero, List.getElem_cons_succ]
      have HNB := heap_alloc_new wn (.cells #[.int .u8 (TX : Nat)] 5)
      have hsw := AN.size
      have hbs := HBS.out
      refine istep_if (by kernel_rfl) ?_
      refine iwp_append_lies (.tmp 30) (.tmp 47) 34 rfl (w5.heap.size + 1 + 1 + 1) 5 i0 _ 1 1 Try.underlying34 hi0 hz0 hz1 hz2 (by rfl) (by omega) (.slice At L capt) L _ (by rfl) ((TN.out.own HLT.out).alloc _) ⟨wn.heap.size, 0, none⟩ 1 1 [.int .u8 (TX : Nat)] (by rfl) (by rfl) (World.news_of_block HNB) (by simp [Value.oneCell']) (by omega) (by simp [maxLen]; omega) (by omega) (by simp; omega) ?_
      intro g cp w4 hown hgrow hat hlt
      have hne : ∀ k, k ≤ w5.heap.size + 1 + 1 → some k ≠ (Value.slice At L capt).ownBlock := fun k hk e => by have := (TN.out.ge e.symm).1; omega
      have HPU := Lib.hid (swp_push FN.out TN.out (by omega) (by omega) hgrow (BRow.push1 HLT.out hown))
      have FE := Lib.hid (FE.out.grown hgrow (hne _ (by omega)))
      have FG := Lib.hid (FG.out.grown hgrow (hne _ (by omega)))
      have FC := Lib.hid (FC.out.grown hgrow (hne _ (by omega)))
      have FF := Lib.hid (FF.out.grown hgrow (hne _ (by omega)))
      have hak := HAK.out
      have HCL := Lib.hid ((cell_eqb (p := ak.add q) (hgrow.block (ak.add q).block (by simp; omega) (hne _ (by omega)))).trans HCL.out)
      clear hgrow hown hat hlt hne HNB hak
      refine hK.out _ _ (⟨FE.out.cell 0 rfl, FC.out.cell 0 rfl, HCL.out, FG.out.cell 0 rfl, FG.out.cell 1 rfl, FG.out.cell 2 rfl, FG.out.cell 3 rfl, FG.out.cell 4 rfl, FG.out.cell 5 rfl⟩) (fun hHeld => ?_)
      clear hK K
      try simp only [Act.put, List.setIfInBounds_toArray, List.set_cons_zero, List.set_cons_succ]
      refine AnyHI.take (fun _ => trivial) (by kernel_rfl) (i := 20) (v := ?_) rfl (by kernel_rfl) (by kernel_rfl) (by kernel_rfl) (fun _ _ _ h => h) (Or.inl ⟨by rfl, ?_⟩) hHeld ?_
      rotate_left
      · intro w hSw
        (try dsimp only at hSw)
        (try simp only [List.getElem_toArray, List.getElem_cons_zero, List.getElem_cons_succ])
        go_simp
        all_goals with_reducible rfl
      try simp only [List.getElem_toArray, List.getElem_cons_zero, List.getElem_cons_succ, Act.put, List.setIfInBounds_toArray, List.set_cons_zero, List.set_cons_succ]
      refine AnyHI.ready (rs := [21]) (by kernel_rfl) (by simp) ?_
      refine AllHI.cons (fun _ => trivial) rfl (fun K hK => ?_) AllHI.nil
      try simp only [List.getElem_toArray, List.getElem_cons_zero, List.getElem_cons_succ]
      have f2 := FF.out.cell 2 rfl
      have ff := FF.out.frozen 2
      have fl := FF.out.lt
      go_simp
      have hak := HAK.out
      have FE := Lib.hid (FE.out.other (k := w5.heap.size + 1) 2 (.slice (some ⟨g, 0, none⟩) (L + 1) cp) (by omega))
      have FG := Lib.hid (FG.out.other (k := w5.heap.size + 1) 2 (.slice (some ⟨g, 0, none⟩) (L + 1) cp) (by omega))
      have FC := Lib.hid (FC.out.other (k := w5.heap.size + 1) 2 (.slice (some ⟨g, 0, none⟩) (L + 1) cp) (by omega))
      have HCL := Lib.hid ((cell_eqb (p := ak.add q) (heap_set _ ⟨w5.heap.size + 1, 2, none⟩ (.slice (some ⟨g, 0, none⟩) (L + 1) cp) (ak.add q).block (show (ak.add q).block ≠ w5.heap.size + 1 by omega))).trans HCL.out)
      clear hak
      refine hK.out _ _ (⟨FE.out.cell 0 rfl, FC.out.cell 0 rfl, HCL.out, FG.out.cell 0 rfl, FG.out.cell 1 rfl, FG.out.cell 2 rfl, FG.out.cell 3 rfl, FG.out.cell 4 rfl, FG.out.cell 5 rfl⟩) (fun hHeld => ?_)
      clear hK K
      try simp only [List.getElem_toArray, List.getElem_cons_zero, List.getElem_cons_succ, Act.put, List.setIfInBounds_toArray, List.set_cons_zero, List.set_cons_succ]
      refine AnyHI.done (by kernel_rfl) ?_ _
      gi_wp2
      refine ⟨(HKO.out _ AN).trans HPU.out.2.2.1, HPU.out.2.2.2.2.trans (AN.block _ HBS.out), _, HPU.out.1, ?_, HWW.out.trans ((AN.mono (by omega)).trans HPU.out.2.2.2.1)⟩
      rw [HNX.out]
      exact HPU.out.2.1
    · try simp only [List.getElem_toArray, List.getElem_cons_zero, List.getElem_cons_succ]
      go_simp
      refine ⟨trivial, ?_⟩
      gi_at_call 15
      (with_reducible refine (CallsIn.inRound lq (callsIn_wide.2 (HCT.out _))).mono ?_)
      rintro e wn ⟨rfl, hbn⟩
      have ABs := AB.size
      have AB := AB.trans (hbn.mono AB.size)
      have FE := Lib.hid (FE.out.keep hbn)
      have FG := Lib.hid (FG.out.keep hbn)
      have FC := Lib.hid (FC.out.keep hbn)
      have FF := Lib.hid (FF.out.keep hbn)
      have FT := Lib.hid (FT.out.keep hbn)
      have FV := Lib.hid (FV.out.keep hbn)
      have HCL := Lib.hid ((hbn.cell (p := ak.add q) (Nat.lt_of_lt_of_le HAK.out (Nat.le_trans HW5S.out ABs))).trans HCL.out)
      clear hbn
      gi_wp2
      refine hK.out _ _ (⟨FE.out.cell 0 rfl, FC.out.cell 0 rfl, HCL.out, FG.out.cell 0 rfl, FG.out.cell 1 rfl, FG.out.cell 2 rfl, FG.out.cell 3 rfl, FG.out.cell 4 rfl, FG.out.cell 5 rfl⟩) (fun hHeld => ?_)
      clear hK K
      try simp only [List.getElem_toArray, List.getElem_cons_zero, List.getElem_cons_succ, Act.put, List.setIfInBounds_toArray, List.set_cons_zero, List.set_cons_succ]
      refine AnyHI.ready (rs := [1, 17]) (by kernel_rfl) (by simp) ?_
      refine AllHI.cons (fun _ => trivial) rfl (fun K hK => ?_) (AllHI.cons (fun _ => trivial) rfl (fun K hK => ?_) AllHI.nil)
      · try simp only [List.getElem_toArray, List.getElem_cons_zero, List.getElem_cons_succ]
        have f2 := FF.out.cell 2 rfl
        have fl := FF.out.lt
        go_simp
        clear f2 fl
        refine hK.out _ _ (⟨FE.out.cell 0 rfl, FC.out.cell 0 rfl, HCL.out, FG.out.cell 0 rfl, FG.out.cell 1 rfl, FG.out.cell 2 rfl, FG.out.cell 3 rfl, FG.out.cell 4 rfl, FG.out.cell 5 rfl⟩) (fun hHeld => ?_)
        clear hK K
        try simp only [List.getElem_toArray, List.getElem_cons_zero, List.getElem_cons_succ, Act.put, List.setIfInBounds_toArray, List.set_cons_zero, List.set_cons_succ]
        refine AnyHI.ready (rs := [17]) (by kernel_rfl) (by simp) ?_
        refine AllHI.cons (fun _ => trivial) rfl (fun K hK => ?_) AllHI.nil
        try simp only [List.getElem_toArray, List.getElem_cons_zero, List.getElem_cons_succ]
        go_simp
        refine ⟨trivial, ?_⟩
        gi_at_call 35
        (with_reducible refine (CallsIn.inRound lq (callsIn_wide.2 (HTX.out _ FV.out))).mono ?_)
        rintro e wn ⟨rfl, hbn⟩
        have ABs := AB.size
        have AB := AB.trans (hbn.mono AB.size)
        have FE := Lib.hid (FE.out.keep hbn)
        have FG := Lib.hid (FG.out.keep hbn)
        have FC := Lib.hid (FC.out.keep hbn)
        have FF := Lib.hid (FF.out.keep hbn)
        have FT := Lib.hid (FT.out.keep hbn)
        have FV := Lib.hid (FV.out.keep hbn)
        have HCL := Lib.hid ((hbn.cell (p := ak.add q) (Nat.lt_of_lt_of_le HAK.out (Nat.le_trans HW5S.out ABs))).trans HCL.out)
        clear hbn
        gi_wp2
        refine hK.out _ _ (⟨FE.out.cell 0 rfl, FC.out.cell 0 rfl, HCL.out, FG.out.cell 0 rfl, FG.out.cell 1 rfl, FG.out.cell 2 rfl, FG.out.cell 3 rfl, FG.out.cell 4 rfl, FG.out.cell 5 rfl⟩) (fun hHeld => ?_)
        clear hK K
        try simp only [List.getElem_toArray, List.getElem_cons_zero, List.getElem_cons_succ, Act.put, List.setIfInBounds_toArray, List.set_cons_zero, List.set_cons_succ]
        refine AnyHI.ready (rs := [18]) (by kernel_rfl) (by simp) ?_
        refine AllHI.cons (fun _ => trivial) rfl (fun K hK => ?_) AllHI.nil
        try simp only [List.getElem_toArray, List.getElem_cons_zero, List.getElem_cons_succ]
        go_simp
        have hal : Below wn.heap.size wn (wn.alloc (.cells #[.int .u8 (TX : Nat)] 5)) := (Below.refl _ _).alloc (Nat.le_refl _) _
        have FN := FF
        have TN := FT
        have AN := AB
        have FE := Lib.hid (FE.out.keep hal)
        have FG := Lib.hid (FG.out.keep hal)
        have FC := Lib.hid (FC.out.keep hal)
        have FF := Lib.hid (FF.out.keep hal)
        have HCL := Lib.hid ((hal.cell (p := ak.add q) (Nat.lt_of_lt_of_le HAK.out (Nat.le_trans HW5S.out AN.size))).trans HCL.out)
        clear hal
        refine hK.out _ _ (⟨FE.out.cell 0 rfl, FC.out.cell 0 rfl, HCL.out, FG.out.cell 0 rfl, FG.out.cell 1 rfl, FG.out.cell 2 rfl, FG.out.cell 3 rfl, FG.out.cell 4 rfl, FG.out.cell 5 rfl⟩) (fun hHeld => ?_)
        clear hK K
        try simp only [List.getElem_toArray, List.getElem_cons_zero, List.getElem_cons_succ, Act.put, List.setIfInBounds_toArray, List.set_cons_zero, List.set_cons_succ]
        refine AnyHI.ready (rs := [19]) (by kernel_rfl) (by simp) ?_
        refine AllHI.cons (fun _ => trivial) rfl (fun K hK => ?_) AllHI.nil
        try simp only [List.getElem_toArray, List.getElem_cons_zero, List.getElem_cons_succ]
        have HNB := heap_alloc_new wn (.cells #[.int .u8 (TX : Nat)] 5)
        have hsw := AN.size
        have hbs := HBS.out
        refine istep_if (by kernel_rfl) ?_
        refine iwp_append_lies (.tmp 30) (.tmp 47) 34 rfl (w5.heap.size + 1 + 1 + 1) 5 i0 _ 1 1 Try.underlying34 hi0 hz0 hz1 hz2 (by rfl) (by omega) (.slice At L capt) L _ (by rfl) ((TN.out.own HLT.out).alloc _) ⟨wn.heap.size, 0, none⟩ 1 1 [.int .u8 (TX : Nat)] (by rfl) (by rfl) (World.news_of_block HNB) (by simp [Value.oneCell']) (by omega) (by simp [maxLen]; omega) (by omega) (by simp; omega) ?_
        intro g cp w4 hown hgrow hat hlt
        have hne : ∀ k, k ≤ w5.heap.size + 1 + 1 → some k ≠ (Value.slice At L capt).ownBlock := fun k hk e => by have := (TN.out.ge e.symm).1; omega
        have HPU := Lib.hid (swp_push FN.out TN.out (by omega) (by omega) hgrow (BRow.push1 HLT.out hown))
        have FE := Lib.hid (FE.out.grown hgrow (hne _ (by omega)))
        have FG := Lib.hid (FG.out.grown hgrow (hne _ (by omega)))
        have FC := Lib.hid (FC.out.grown hgrow (hne _ (by omega)))
        have FF := Lib.hid (FF.out.grown hgrow (hne _ (by omega)))
        have hak := HAK.out
        have HCL := Lib.hid ((cell_eqb (p := ak.add q) (hgrow.block (ak.add q).block (by simp; omega) (hne _ (by omega)))).trans HCL.out)
        clear hgrow hown hat hlt hne HNB hak
        refine hK.out _ _ (⟨FE.out.cell 0 rfl, FC.out.cell 0 rfl, HCL.out, FG.out.cell 0 rfl, FG.out.cell 1 rfl, FG.out.cell 2 rfl, FG.out.cell 3 rfl, FG.out.cell 4 rfl, FG.out.cell 5 rfl⟩) (fun hHeld => ?_)
        clear hK K
        try simp only [Act.put, List.setIfInBounds_toArray, List.set_cons_zero, List.set_cons_succ]
        refine AnyHI.take (fun _ => trivial) (by kernel_rfl) (i := 20) (v := ?_) rfl (by kernel_rfl) (by kernel_rfl) (by kernel_rfl) (fun _ _ _ h => h) (Or.inl ⟨by rfl, ?_⟩) hHeld ?_
        rotate_left
        · intro w hSw
          (try dsimp only at hSw)
          (try simp only [List.getElem_toArray, List.getElem_cons_zero, List.getElem_cons_succ])
          go_simp
          all_goals with_reducible rfl
        try simp only [List.getElem_toArray, List.getElem_cons_zero, List.getElem_cons_succ, Act.put, List.setIfInBounds_toArray, List.set_cons_zero, List.set_cons_succ]
        refine AnyHI.ready (rs := [21]) (by kernel_rfl) (by simp) ?_
        refine AllHI.cons (fun _ => trivial) rfl (fun K hK => ?_) AllHI.nil
        try simp only [List.getElem_toArray, List.getElem_cons_zero, List.getElem_cons_succ]
        have f2 := FF.out.cell 2 rfl
        have ff := FF.out.frozen 2
        have fl := FF.out.lt
        go_simp
        have hak := HAK.out
        have FE := Lib.hid (FE.out.other (k := w5.heap.size + 1) 2 (.slice (some ⟨g, 0, none⟩) (L + 1) cp) (by omega))
        have FG := Lib.hid (FG.out.other (k := w5.heap.size + 1) 2 (.slice (some ⟨g, 0, none⟩) (L + 1) cp) (by omega))
        have FC := Lib.hid (FC.out.other (k := w5.heap.size + 1) 2 (.slice (some ⟨g, 0, none⟩) (L + 1) cp) (by omega))
        have HCL := Lib.hid ((cell_eqb (p := ak.add q) (heap_set _ ⟨w5.heap.size + 1, 2, none⟩ (.slice (some ⟨g, 0, none⟩) (L + 1) cp) (ak.add q).block (show (ak.add q).block ≠ w5.heap.size + 1 by omega))).trans HCL.out)
        clear hak
        refine hK.out _ _ (⟨FE.out.cell 0 rfl, FC.out.cell 0 rfl, HCL.out, FG.out.cell 0 rfl, FG.out.cell 1 rfl, FG.out.cell 2 rfl, FG.out.cell 3 rfl, FG.out.cell 4 rfl, FG.out.cell 5 rfl⟩) (fun hHeld => ?_)
        clear hK K
        try simp only [List.getElem_toArray, List.getElem_cons_zero, List.getElem_cons_succ, Act.put, List.setIfInBounds_toArray, List.set_cons_zero, List.set_cons_succ]
        refine AnyHI.done (by kernel_rfl) ?_ _
        gi_wp2
        refine ⟨(HKO.out _ AN).trans HPU.out.2.2.1, HPU.out.2.2.2.2.trans (AN.block _ HBS.out), _, HPU.out.1, ?_, HWW.out.trans ((AN.mono (by omega)).trans HPU.out.2.2.2.1)⟩
        rw [HNX.out]
        exact HPU.out.2.1
      · try simp only [List.getElem_toArray, List.getElem_cons_zero, List.getElem_cons_succ]
        go_simp
        refine ⟨trivial, ?_⟩
        gi_at_call 35
        (with_reducible refine (CallsIn.inRound lq (callsIn_wide.2 (HTX.out _ FV.out))).mono ?_)
        rintro e wn ⟨rfl, hbn⟩
        have ABs := AB.size
        have AB := AB.trans (hbn.mono AB.size)
        have FE := Lib.hid (FE.out.keep hbn)
        have FG := Lib.hid (FG.out.keep hbn)
        have FC := Lib.hid (FC.out.keep hbn)
        have FF := Lib.hid (FF.out.keep hbn)
        have FT := Lib.hid (FT.out.keep hbn)
        have FV := Lib.hid (FV.out.keep hbn)
        have HCL := Lib.hid ((hbn.cell (p := ak.add q) (Nat.lt_of_lt_of_le HAK.out (Nat.le_trans HW5S.out ABs))).trans HCL.out)
        clear hbn
        gi_wp2
        refine hK.out _ _ (⟨FE.out.cell 0 rfl, FC.out.cell 0 rfl, HCL.out, FG.out.cell 0 rfl, FG.out.cell 1 rfl, FG.out.cell 2 rfl, FG.out.cell 3 rfl, FG.out.cell 4 rfl, FG.out.cell 5 rfl⟩) (fun hHeld => ?_)
        clear hK K
        try simp only [List.getElem_toArray, List.getElem_cons_zero, List.getElem_cons_succ, Act.put, List.setIfInBounds_toArray, List.set_cons_zero, List.set_cons_succ]
        refine AnyHI.ready (rs := [1, 18]) (by kernel_rfl) (by simp) ?_
        refine AllHI.cons (fun _ => trivial) rfl (fun K hK => ?_) (AllHI.cons (fun _ => trivial) rfl (fun K hK => ?_) AllHI.nil)
        · try simp only [List.getElem_toArray, List.getElem_cons_zero, List.getElem_cons_succ]
          have f2 := FF.out.cell 2 rfl
          have fl := FF.out.lt
          go_simp
          clear f2 fl
          refine hK.out _ _ (⟨FE.out.cell 0 rfl, FC.out.cell 0 rfl, HCL.out, FG.out.cell 0 rfl, FG.out.cell 1 rfl, FG.out.cell 2 rfl, FG.out.cell 3 rfl, FG.out.cell 4 rfl, FG.out.cell 5 rfl⟩) (fun hHeld => ?_)
          clear hK K
          try simp only [List.getElem_toArray, List.getElem_cons_zero, List.getElem_cons_succ, Act.put, List.setIfInBounds_toArray, List.set_cons_zero, List.set_cons_succ]
          refine AnyHI.ready (rs := [18]) (by kernel_rfl) (by simp) ?_
          refine AllHI.cons (fun _ => trivial) rfl (fun K hK => ?_) AllHI.nil
          try simp only [List.getElem_toArray, List.getElem_cons_zero, List.getElem_cons_succ]
          go_simp
          have hal : Below wn.heap.size wn (wn.alloc (.cells #[.int .u8 (TX : Nat)] 5)) := (Below.refl _ _).alloc (Nat.le_refl _) _
          have FN := FF
          have TN := FT
          have AN := AB
          have FE := Lib.hid (FE.out.keep hal)
          have FG := Lib.hid (FG.out.keep hal)
          have FC := Lib.hid (FC.out.keep hal)
          have FF := Lib.hid (FF.out.keep hal)
          have HCL := Lib.hid ((hal.cell (p := ak.add q) (Nat.lt_of_lt_of_le HAK.out (Nat.le_trans HW5S.out AN.size))).trans HCL.out)
          clear hal
          refine hK.out _ _ (⟨FE.out.cell 0 rfl, FC.out.cell 0 rfl, HCL.out, FG.out.cell 0 rfl, FG.out.cell 1 rfl, FG.out.cell 2 rfl, FG.out.cell 3 rfl, FG.out.cell 4 rfl, FG.out.cell 5 rfl⟩) (fun hHeld => ?_)
          clear hK K
          try simp only [List.getElem_toArray, List.getElem_cons_zero, List.getElem_cons_succ, Act.put, List.setIfInBounds_toArray, List.set_cons_zero, List.set_cons_succ]
          refine AnyHI.ready (rs := [19]) (by kernel_rfl) (by simp) ?_
          refine AllHI.cons (fun _ => trivial) rfl (fun K hK => ?_) AllHI.nil
          try simp only [List.getElem_toArray, List.getElem_cons_zero, List.getElem_cons_succ]
          have HNB := heap_alloc_new wn (.cells #[.int .u8 (TX : Nat)] 5)
          have hsw := AN.size
          have hbs := HBS.out
          refine istep_if (by kernel_rfl) ?_
          refine iwp_append_lies (.tmp 30) (.tmp 47) 34 rfl (w5.heap.size + 1 + 1 + 1) 5 i0 _ 1 1 Try.underlying34 hi0 hz0 hz1 hz2 (by rfl) (by omega) (.slice At L capt) L _ (by rfl) ((TN.out.own HLT.out).alloc _) ⟨wn.heap.size, 0, none⟩ 1 1 [.int .u8 (TX : Nat)] (by rfl) (by rfl) (World.news_of_block HNB) (by simp [Value.oneCell']) (by omega) (by simp [maxLen]; omega) (by omega) (by simp; omega) ?_
          intro g cp w4 hown hgrow hat hlt
          have hne : ∀ k, k ≤ w5.heap.size + 1 + 1 → some k ≠ (Value.slice At L capt).ownBlock := fun k hk e => by have := (TN.out.ge e.symm).1; omega
          have HPU := Lib.hid (swp_push FN.out TN.out (by omega) (by omega) hgrow (BRow.push1 HLT.out hown))
          have FE := Lib.hid (FE.out.grown hgrow (hne _ (by omega)))
          have FG := Lib.hid (FG.out.grown hgrow (hne _ (by omega)))
          have FC := Lib.hid (FC.out.grown hgrow (hne _ (by omega)))
          have FF := Lib.hid (FF.out.grown hgrow (hne _ (by omega)))
          have hak := HAK.out
          have HCL := Lib.hid ((cell_eqb (p := ak.add q) (hgrow.block (ak.add q).block (by simp; omega) (hne _ (by omega)))).trans HCL.out)
          clear hgrow hown hat hlt hne HNB hak
          refine hK.out _ _ (⟨FE.out.cell 0 rfl, FC.out.cell 0 rfl, HCL.out, FG.out.cell 0 rfl, FG.out.cell 1 rfl, FG.out.cell 2 rfl, FG.out.cell 3 rfl, FG.out.cell 4 rfl, FG.out.cell 5 rfl⟩) (fun hHeld => ?_)
          clear hK K
          try simp only [Act.put, List.setIfInBounds_toArray, List.set_cons_zero, List.set_cons_succ]
          refine AnyHI.take (fun _ => trivial) (by kernel_rfl) (i := 20) (v := ?_) rfl (by kernel_rfl) (by kernel_rfl) (by kernel_rfl) (fun _ _ _ h => h) (Or.inl ⟨by rfl, ?_⟩) hHeld ?_
          rotate_left
          · intro w hSw
            (try dsimp only at hSw)
            (try simp only [List.getElem_toArray, List.getElem_cons_zero, List.getElem_cons_succ])
            go_simp
            all_goals with_reducible rfl
          try simp only [List.getElem_toArray, List.getElem_cons_zero, List.getElem_cons_succ, Act.put, List.setIfInBounds_toArray, List.set_cons_zero, List.set_cons_succ]
          refine AnyHI.ready (rs := [21]) (by kernel_rfl) (by simp) ?_
          refine AllHI.cons (fun _ => trivial) rfl (fun K hK => ?_) AllHI.nil
          try simp only [List.getElem_toArray, List.getElem_cons_zero, List.getElem_cons_succ]
          have f2 := FF.out.cell 2 rfl
          have ff := FF.out.frozen 2
          have fl := FF.out.lt
          go_simp
          have hak := HAK.out
          have FE := Lib.hid (FE.out.other (k := w5.heap.size + 1) 2 (.slice (some ⟨g, 0, none⟩) (L + 1) cp) (by omega))
          have FG := Lib.hid (FG.out.other (k := w5.heap.size + 1) 2 (.slice (some ⟨g, 0, none⟩) (L + 1) cp) (by omega))
          have FC := Lib.hid (FC.out.other (k := w5.heap.size + 1) 2 (.slice (some ⟨g, 0, none⟩) (L + 1) cp) (by omega))
          have HCL := Lib.hid ((cell_eqb (p := ak.add q) (heap_set _ ⟨w5.heap.size + 1, 2, none⟩ (.slice (some ⟨g, 0, none⟩) (L + 1) cp) (ak.add q).block (show (ak.add q).block ≠ w5.heap.size + 1 by omega))).trans HCL.out)
          clear hak
          refine hK.out _ _ (⟨FE.out.cell 0 rfl, FC.out.cell 0 rfl, HCL.out, FG.out.cell 0 rfl, FG.out.cell 1 rfl, FG.out.cell 2 rfl, FG.out.cell 3 rfl, FG.out.cell 4 rfl, FG.out.cell 5 rfl⟩) (fun hHeld => ?_)
          clear hK K
          try simp only [List.getElem_toArray, List.getElem_cons_zero, List.getElem_cons_succ, Act.put, List.setIfInBounds_toArray, List.set_cons_zero, List.set_cons_succ]
          refine AnyHI.done (by kernel_rfl) ?_ _
          gi_wp2
          refine ⟨(HKO.out _ AN).trans HPU.out.2.2.1, HPU.out.2.2.2.2.trans (AN.block _ HBS.out), _, HPU.out.1, ?_, HWW.out.trans ((AN.mono (by omega)).trans HPU.out.2.2.2.1)⟩
          rw [HNX.out]
          exact HPU.out.2.1
        · try simp only [List.getElem_toArray, List.getElem_cons_zero, List.getElem_cons_succ]
          go_simp
          have hal : Below wn.heap.size wn (wn.alloc (.cells #[.int .u8 (TX : Nat)] 5)) := (Below.refl _ _).alloc (Nat.le_refl _) _
          have FN := FF
          have TN := FT
          have AN := AB
          have FE := Lib.hid (FE.out.keep hal)
          have FG := Lib.hid (FG.out.keep hal)
          have FC := Lib.hid (FC.out.keep hal)
          have FF := Lib.hid (FF.out.keep hal)
          have HCL := Lib.hid ((hal.cell (p := ak.add q) (Nat.lt_of_lt_of_le HAK.out (Nat.le_trans HW5S.out AN.size))).trans HCL.out)
          clear hal
          refine hK.out _ _ (⟨FE.out.cell 0 rfl, FC.out.cell 0 rfl, HCL.out, FG.out.cell 0 rfl, FG.out.cell 1 rfl, FG.out.cell 2 rfl, FG.out.cell 3 rfl, FG.out.cell 4 rfl, FG.out.cell 5 rfl⟩) (fun hHeld => ?_)
          clear hK K
          try simp only [List.getElem_toArray, List.getElem_cons_zero, List.getElem_cons_succ, Act.put, List.setIfInBounds_toArray, List.set_cons_zero, List.set_cons_succ]
          refine AnyHI.ready (rs := [1]) (by kernel_rfl) (by simp) ?_
          refine AllHI.cons (fun _ => trivial) rfl (fun K hK => ?_) AllHI.nil
          try simp only [List.getElem_toArray, List.getElem_cons_zero, List.getElem_cons_succ]
          have f2 := FF.out.cell 2 rfl
          have fl := FF.out.lt
          go_simp
          clear f2 fl
          refine hK.out _ _ (⟨FE.out.cell 0 rfl, FC.out.cell 0 rfl, HCL.out, FG.out.cell 0 rfl, FG.out.cell 1 rfl, FG.out.cell 2 rfl, FG.out.cell 3 rfl, FG.out.cell 4 rfl, FG.out.cell 5 rfl⟩) (fun hHeld => ?_)
          clear hK K
          try simp only [List.getElem_toArray, List.getElem_cons_zero, List.getElem_cons_succ, Act.put, List.setIfInBounds_toArray, List.set_cons_zero, List.set_cons_succ]
          refine AnyHI.ready (rs := [19]) (by kernel_rfl) (by simp) ?_
          refine AllHI.cons (fun _ => trivial) rfl (fun K hK => ?_) AllHI.nil
          try simp only [List.getElem_toArray, List.getElem_cons_zero, List.getElem_cons_succ]
          have HNB := heap_alloc_new wn (.cells #[.int .u8 (TX : Nat)] 5)
          have hsw := AN.size
          have hbs := HBS.out
          refine istep_if (by kernel_rfl) ?_
          refine iwp_append_lies (.tmp 30) (.tmp 47) 34 rfl (w5.heap.size + 1 + 1 + 1) 5 i0 _ 1 1 Try.underlying34 hi0 hz0 hz1 hz2 (by rfl) (by omega) (.slice At L capt) L _ (by rfl) ((TN.out.own HLT.out).alloc _) ⟨wn.heap.size, 0, none⟩ 1 1 [.int .u8 (TX : Nat)] (by rfl) (by rfl) (World.news_of_block HNB) (by simp [Value.oneCell']) (by omega) (by simp [maxLen]; omega) (by omega) (by simp; omega) ?_
          intro g cp w4 hown hgrow hat hlt
          have hne : ∀ k, k ≤ w5.heap.size + 1 + 1 → some k ≠ (Value.slice At L capt).ownBlock := fun k hk e => by have := (TN.out.ge e.symm).1; omega
          have HPU := Lib.hid (swp_push FN.out TN.out (by omega) (by omega) hgrow (BRow.push1 HLT.out hown))
          have FE := Lib.hid (FE.out.grown hgrow (hne _ (by omega)))
          have FG := Lib.hid (FG.out.grown hgrow (hne _ (by omega)))
          have FC := Lib.hid (FC.out.grown hgrow (hne _ (by omega)))
          have FF := Lib.hid (FF.out.grown hgrow (hne _ (by omega)))
          have hak := HAK.out
          have HCL := Lib.hid ((cell_eqb (p := ak.add q) (hgrow.block (ak.add q).block (by simp; omega) (hne _ (by omega)))).trans HCL.out)
          clear hgrow hown hat hlt hne HNB hak
          refine hK.out _ _ (⟨FE.out.cell 0 rfl, FC.out.cell 0 rfl, HCL.out, FG.out.cell 0 rfl, FG.out.cell 1 rfl, FG.out.cell 2 rfl, FG.out.cell 3 rfl, FG.out.cell 4 rfl, FG.out.cell 5 rfl⟩) (fun hHeld => ?_)
          clear hK K
          try simp only [Act.put, List.setIfInBounds_toArray, List.set_cons_zero, List.set_cons_succ]
          refine AnyHI.take (fun _ => trivial) (by kernel_rfl) (i := 20) (v := ?_) rfl (by kernel_rfl) (by kernel_rfl) (by kernel_rfl) (fun _ _ _ h => h) (Or.inl ⟨by rfl, ?_⟩) hHeld ?_
          rotate_left
          · intro w hSw
            (try dsimp only at hSw)
            (try simp only [List.getElem_toArray, List.getElem_cons_zero, List.getElem_cons_succ])
            go_simp
            all_goals with_reducible rfl
          try simp only [List.getElem_toArray, List.getElem_cons_zero, List.getElem_cons_succ, Act.put, List.setIfInBounds_toArray, List.set_cons_zero, List.set_cons_succ]
          refine AnyHI.ready (rs := [21]) (by kernel_rfl) (by simp) ?_
          refine AllHI.cons (fun _ => trivial) rfl (fun K hK => ?_) AllHI.nil
          try simp only [List.getElem_toArray, List.getElem_cons_zero, List.getElem_cons_succ]
          have f2 := FF.out.cell 2 rfl
          have ff := FF.out.frozen 2
          have fl := FF.out.lt
          go_simp
          have hak := HAK.out
          have FE := Lib.hid (FE.out.other (k := w5.heap.size + 1) 2 (.slice (some ⟨g, 0, none⟩) (L + 1) cp) (by omega))
          have FG := Lib.hid (FG.out.other (k := w5.heap.size + 1) 2 (.slice (some ⟨g, 0, none⟩) (L + 1) cp) (by omega))
          have FC := Lib.hid (FC.out.other (k := w5.heap.size + 1) 2 (.slice (some ⟨g, 0, none⟩) (L + 1) cp) (by omega))
          have HCL := Lib.hid ((cell_eqb (p := ak.add q) (heap_set _ ⟨w5.heap.size + 1, 2, none⟩ (.slice (some ⟨g, 0, none⟩) (L + 1) cp) (ak.add q).block (show (ak.add q).block ≠ w5.heap.size + 1 by omega))).trans HCL.out)
          clear hak
          refine hK.out _ _ (⟨FE.out.cell 0 rfl, FC.out.cell 0 rfl, HCL.out, FG.out.cell 0 rfl, FG.out.cell 1 rfl, FG.out.cell 2 rfl, FG.out.cell 3 rfl, FG.out.cell 4 rfl, FG.out.cell 5 rfl⟩) (fun hHeld => ?_)
          clear hK K
          try simp only [List.getElem_toArray, List.getElem_cons_zero, List.getElem_cons_succ, Act.put, List.setIfInBounds_toArray, List.set_cons_zero, List.set_cons_succ]
          refine AnyHI.done (by kernel_rfl) ?_ _
          gi_wp2
          refine ⟨(HKO.out _ AN).trans HPU.out.2.2.1, HPU.out.2.2.2.2.trans (AN.block _ HBS.out), _, HPU.out.1, ?_, HWW.out.trans ((AN.mono (by omega)).trans HPU.out.2.2.2.1)⟩
          rw [HNX.out]
          exact HPU.out.2.1
  case done =>
    rintro D ys W hD hys ⟨T, hF, hT, hW⟩ hK
    have hel := HEL.out
    have HROW : Hid (BRow W (w5.heap.size + 1 + 1 + 1) T (fldS es x y p s u v)) := Lib.hid (by
      have h : ys.map (fun q : InG u v => swN es s (midP x y p q.1.1 q.1.2) (knS (knownL es x y p u v) (q.1.2 * u + q.1.1))) = fldS es x y p s u v := by
        rw [show ys.map (fun q : InG u v => swN es s (midP x y p q.1.1 q.1.2) (knS (knownL es x y p u v) (q.1.2 * u + q.1.1))) = (ys.map (·.1)).map (fun q => swN es s (midP x y p q.1 q.2) (knS (knownL es x y p u v) (q.2 * u + q.1))) by rw [List.map_map]; rfl, hys]
        unfold upG fldS
        rw [List.map_map]
        refine List.map_congr_left fun j _ => ?_
        simp only [Function.comp, cenS, Nat.div_add_mod']
      rw [← h]
      exact hT)
    have HBW : Hid (Below w.heap.size w W) := Lib.hid (HB5.out.trans ((HA7.out.trans (hW.mono (by omega))).mono (by omega)))
    have HRW := Lib.hid (HR7.out.heap (hW.block _ (by omega)))
    obtain ⟨At, capt, rfl⟩ := HROW.out.form
    rw [fldS_length] at hF HROW
    have f0 := hF.cell 0 rfl
    have f1 := hF.cell 1 rfl
    have f2 := hF.cell 2 rfl
    have fl := hF.lt
    have r0 := HRW.out.cell 0 rfl
    have r1 := HRW.out.cell 1 rfl
    have r2 := HRW.out.cell 2 rfl
    have rf := HRW.out.frozen
    have rl := HRW.out.lt
    have HQ := Lib.hid (((HRW.out.set 0 (.int .i64 u)).set 1 (.int .i64 v)).set 2 (.slice At (u * v) capt))
    have HBQ := Lib.hid (((HBW.out.setCell (p := ⟨(w.heap.size + 1 + 1), 0, none⟩) (show w.heap.size ≤ (w.heap.size + 1 + 1) by omega) (.int .i64 u)).setCell (p := ⟨(w.heap.size + 1 + 1), 1, none⟩) (show w.heap.size ≤ (w.heap.size + 1 + 1) by omega) (.int .i64 v)).setCell (p := ⟨(w.heap.size + 1 + 1), 2, none⟩) (show w.heap.size ≤ (w.heap.size + 1 + 1) by omega) (.slice At (u * v) capt))
    have HTQ := Lib.hid (((HROW.out.set (p := ⟨(w.heap.size + 1 + 1), 0, none⟩) (show (w.heap.size + 1 + 1) < w5.heap.size + 1 + 1 + 1 by omega) (.int .i64 u)).set (p := ⟨(w.heap.size + 1 + 1), 1, none⟩) (show (w.heap.size + 1 + 1) < w5.heap.size + 1 + 1 + 1 by omega) (.int .i64 v)).set (p := ⟨(w.heap.size + 1 + 1), 2, none⟩) (show (w.heap.size + 1 + 1) < w5.heap.size + 1 + 1 + 1 by omega) (.slice At (u * v) capt))
    have HKK : Hid ((((W.setCell ⟨(w.heap.size + 1 + 1), 0, none⟩ (.int .i64 u)).setCell ⟨(w.heap.size + 1 + 1), 1, none⟩ (.int .i64 v)).setCell ⟨(w.heap.size + 1 + 1), 2, none⟩ (.slice At (u * v) capt)).heap[D]? = some (.deferred (some []))) := Lib.hid (by
      rw [heap_set _ ⟨(w.heap.size + 1 + 1), 2, none⟩ _ D (show D ≠ (w.heap.size + 1 + 1) by omega), heap_set _ ⟨(w.heap.size + 1 + 1), 1, none⟩ _ D (show D ≠ (w.heap.size + 1 + 1) by omega), heap_set _ ⟨(w.heap.size + 1 + 1), 0, none⟩ _ D (show D ≠ (w.heap.size + 1 + 1) by omega)]
      exact hK)
    clear HSQ hE1 hT hF hW hK HBW HRW HROW
    go_wp2_with fail
    refine ⟨by simp, .inl ⟨_, _, rfl, run_takeDeferred HKK.out, ?_⟩⟩
    have hgb : (((W.setCell ⟨(w.heap.size + 1 + 1), 0, none⟩ (.int .i64 u)).setCell ⟨(w.heap.size + 1 + 1), 1, none⟩ (.int .i64 v)).setCell ⟨(w.heap.size + 1 + 1), 2, none⟩ (.slice At (u * v) capt)).grownBy ((((W.setCell ⟨(w.heap.size + 1 + 1), 0, none⟩ (.int .i64 u)).setCell ⟨(w.heap.size + 1 + 1), 1, none⟩ (.int .i64 v)).setCell ⟨(w.heap.size + 1 + 1), 2, none⟩ (.slice At (u * v) capt)).putObj D (.deferred none)) (some D) := grownBy_putObj' _ D _
    have c0 := cell_kept (HQ.out.cell 0 rfl) hgb (fun r e => by cases e; exact ⟨_, HKK.out, rfl⟩)
    have c1 := cell_kept (HQ.out.cell 1 rfl) hgb (fun r e => by cases e; exact ⟨_, HKK.out, rfl⟩)
    have c2 := cell_kept (HQ.out.cell 2 rfl) hgb (fun r e => by cases e; exact ⟨_, HKK.out, rfl⟩)
    refine ⟨.tuple #[.agg #[.int .i64 u, .int .i64 v, .slice At (u * v) capt], .int .i64 0], ?_, _, rfl, ?_, HBQ.out.trans (belowK_b (w := w) (Nat.le_refl _) _ D _ _ (by omega) HKK.out rfl rfl)⟩
    · simp [results, Try.f14, go_sem, c0, c1, c2]
    · exact BRow.mono (ownsRow_putObj HTQ.out _ HKK.out rfl) (by omega)
  case stop =>
    rintro D c pre W _ _ h _
    exact h.elim

end Go.Proofs.Yteiildeaccngjaa
