/-
  The closures of the law DistSome (no claim is made here).
-/
import Derived.Test.YtkolfdoclchaaaaDst1
import Derived.Test.YtkolfdoclchaaaaOpen8
import Derived.Laws.EntriesVeiled
namespace Go.Proofs.Ytkolfdoclchaaaa
open Go.RowKit

/-- Which indices are taken. -/
def takS (ts : List Bool) (k : Nat) : Bool := ts.getD k false
theorem BoRd.at {w : World} {T : Option Addr} {nt capt : Nat} {ts : List Bool} (h : BoRd w (.slice T nt capt) ts) (k : Nat) (hk : k < nt) : nt = ts.length ∧ ∃ a, T = some a ∧ w.cell? (a.add k) = some (.bool (takS ts k)) := by
  obtain ⟨A, cap, e, h1, h3⟩ := h
  simp only [Value.slice.injEq] at e
  obtain ⟨rfl, rfl, rfl⟩ := e
  obtain ⟨a, ha, hc⟩ := h3 k hk
  refine ⟨rfl, a, ha, ?_⟩
  unfold takS
  rw [List.getD_eq_getElem?_getD, List.getElem?_eq_getElem hk]
  exact hc
set_option maxRecDepth 100000 in
theorem is_any (k : Nat) (gt : Nat) (T : Option Addr) (nt capt : Nat) (ts : List Bool) (w : World) (hts : BoRd w (.slice T nt capt) ts) (hcell : w.cell? ⟨gt, 0, none⟩ = some (.slice T nt capt)) :
    Calls Try.prog 15 #[.int .i64 k, .pointer (some ⟨gt, 0, none⟩)] w fun e w' => e = .returned (.bool (takS ts k)) ∧ Below w.heap.size w w' := by
  by_cases hk : k < nt
  · obtain ⟨h1, a, rfl, hc⟩ := hts.at k hk
    have hb : decide ((k : Int) < nt) = true := by simp; omega
    generalize takS ts k = b at *
    clear hts h1
    go_enter Try.func15, Try.ntmps15
    go_wp2_with fail
    go_ret
    exact ⟨rfl, Below.refl _ _⟩
  · have hb : decide ((k : Int) < nt) = false := by simp; omega
    have hf : takS ts k = false := by
      obtain ⟨A, cap, e, h1, h3⟩ := hts
      simp only [Value.slice.injEq] at e
      obtain ⟨rfl, rfl, rfl⟩ := e
      unfold takS
      rw [List.getD_eq_getElem?_getD, List.getElem?_eq_none (by omega)]
      rfl
    rw [hf]
    clear hts hf
    go_enter Try.func15, Try.ntmps15
    go_wp2_with fail
    go_ret
    exact ⟨rfl, Below.refl _ _⟩

/-- What is asked, in order. -/
def askN (v : Int) (k : Nat) : Int := wrap64 (wrap64 (v * 2) + (k : Int) % 2)
set_option maxRecDepth 100000 in
theorem ask_any (k : Nat) (ga gi gt : Nat) (ta : TypeId) (v : Int) (T : Option Addr) (nt capt : Nat) (ts : List Bool) (w0 w : World) (hts0 : BoRd w0 (.slice T nt capt) ts) (hb0 : Below w0.heap.size w0 w) (hga : w0.heap.size ≤ ga) (hai : ga ≠ gi) (hat : ga ≠ gt)
    (hA : Blk w ga ta [.int .i64 v]) (hI : w.cell? ⟨gi, 0, none⟩ = some (.func (.func 15) #[] #[.pointer (some ⟨gt, 0, none⟩)])) (hcell : w.cell? ⟨gt, 0, none⟩ = some (.slice T nt capt)) :
    Calls Try.prog 17 #[.int .i64 k, .pointer (some ⟨ga, 0, none⟩), .pointer (some ⟨gi, 0, none⟩)] w fun e w' => e = .returned (.bool (takS ts k)) ∧ Blk w' ga ta [.int .i64 (askN v k)] ∧ But (fun g => g = ga) w w' := by
  have c0 := hA.cell 0 rfl
  have c1 := hA.frozen 0
  have c2 := hA.lt
  have HA := Lib.hid (hA.set 0 (.int .i64 (askN v k)))
  have HB := Lib.hid ((But.of (Below.refl _ w) : But (fun g => g = ga) w w).set ⟨ga, 0, none⟩ rfl (.int .i64 (askN v k)))
  have HT := Lib.hid (hts0.keep (hb0.setCell (p := ⟨ga, 0, none⟩) hga (.int .i64 (askN v k))))
  have hI2 : (w.setCell ⟨ga, 0, none⟩ (.int .i64 (askN v k))).cell? ⟨gi, 0, none⟩ = some (.func (.func 15) #[] #[.pointer (some ⟨gt, 0, none⟩)]) := by
    rw [World.cell?_setCell_other _ _ _ _ (by intro h; simp only [Addr.mk.injEq] at h; omega)]; exact hI
  have hC2 : (w.setCell ⟨ga, 0, none⟩ (.int .i64 (askN v k))).cell? ⟨gt, 0, none⟩ = some (.slice T nt capt) := by
    rw [World.cell?_setCell_other _ _ _ _ (by intro h; simp only [Addr.mk.injEq] at h; omega)]; exact hcell
  have HC := Lib.hid (is_any k gt T nt capt ts _ HT.out hC2)
  have hk : wrap64 (wrap64 (v * 2) + (k : Int) % 2) = askN v k := rfl
  generalize askN v k = v' at *
  clear hA hts0 hb0 hcell hC2 HT
  go_enter Try.func17, Try.ntmps17
  go_wp2_with fail
  refine HC.out.mono ?_
  rintro e w1 ⟨rfl, hb1⟩
  have HR := Lib.hid (HA.out.keep hb1)
  have HS := Lib.hid (HB.out.trans (But.of hb1))
  clear hb1
  go_wp2
  go_ret
  exact ⟨rfl, HR.out, HS.out⟩

/-- An edge of a row that is read, at its place. -/
def EJ (w : World) (a : Addr) (j : Nat) (s0 s1 s2 s3 : Int) : Prop := a.block < w.heap.size ∧ EAtS w a j s0 s1 s2 s3
theorem EJ.keep {w w' : World} {a : Addr} {j : Nat} {s0 s1 s2 s3 : Int} (h : EJ w a j s0 s1 s2 s3) (hb : Below w.heap.size w w') : EJ w' a j s0 s1 s2 s3 := by
  obtain ⟨hl, h0, h1, h2, h3⟩ := h
  exact ⟨Nat.lt_of_lt_of_le hl hb.size, (hb.cell (by rw [block_add]; exact hl)).trans h0, (hb.cell (by simp only [block_add]; exact hl)).trans h1, (hb.cell (by simp only [block_add]; exact hl)).trans h2, (hb.cell (by simp only [block_add]; exact hl)).trans h3⟩
def askF : Nat → Int
  | 0 => 0
  | k + 1 => askN (askF k) k
/-- Some, with the law's closure. -/
theorem asked_any (v : Value) (es : List Ed) (x y : Int) (ga gi gt : Nat) (ta : TypeId) (T : Option Addr) (nt capt : Nat) (ts : List Bool) (w0 w : World) (hv : ERd w v es) (hl : es.length ≤ 200000) (hin : ∀ s ∈ es, InD s) (hp : InP ⟨x, y⟩)
    (hts0 : BoRd w0 (.slice T nt capt) ts) (hb0 : Below w0.heap.size w0 w) (hga : w0.heap.size ≤ ga) (hai : ga ≠ gi) (hat : ga ≠ gt) (hva : v.ownBlock ≠ some ga)
    (hA : Blk w ga ta [.int .i64 0]) (hI : w.cell? ⟨gi, 0, none⟩ = some (.func (.func 15) #[] #[.pointer (some ⟨gt, 0, none⟩)])) (hcell : w.cell? ⟨gt, 0, none⟩ = some (.slice T nt capt)) :
    Calls Try.prog 16 #[v, .agg #[.int .i64 x, .int .i64 y], .func (.func 17) #[] #[.pointer (some ⟨ga, 0, none⟩), .pointer (some ⟨gi, 0, none⟩)]] w
      fun e w' => ∃ n d k, e = .returned (.tuple #[.agg #[.int .i64 n, .int .i64 d], .int .i64 k]) ∧ Best es ⟨x, y⟩ (takS ts) (n, d) k ∧ Blk w' ga ta [.int .i64 (askF es.length)] ∧ But (fun g => g = ga) w w' ∧ Below w0.heap.size w0 w' := by
  have hgi := World.block_lt_of_cell? w _ hI
  have hgt := World.block_lt_of_cell? w _ hcell
  have key := some_any v es x y 17 #[.pointer (some ⟨ga, 0, none⟩), .pointer (some ⟨gi, 0, none⟩)] (takS ts)
    (fun k w1 => Blk w1 ga ta [.int .i64 (askF k)] ∧ w1.cell? ⟨gi, 0, none⟩ = some (.func (.func 15) #[] #[.pointer (some ⟨gt, 0, none⟩)]) ∧ w1.cell? ⟨gt, 0, none⟩ = some (.slice T nt capt) ∧ Below w0.heap.size w0 w1)
    (fun g => g = ga) w hv hl hin hp (fun args w => by kernel_rfl) ?_ ?_ ⟨hA, hI, hcell, hb0⟩ (fun g hg => by subst hg; exact ⟨hA.lt, hva⟩)
  · refine key.mono ?_
    rintro e w' ⟨n, d, k, rfl, h1, ⟨h2, _, _, h3⟩, h4⟩
    exact ⟨n, d, k, rfl, h1, h2, h4, h3⟩
  · intro k w1 hk hw ⟨h1, h2, h3, h4⟩
    refine (ask_any k ga gi gt ta (askF k) T nt capt ts w0 w1 hts0 h4 hga hai hat h1 h2 h3).mono ?_
    rintro e w' ⟨rfl, g1, g2⟩
    have kp : ∀ g, g < w.heap.size → g ≠ ga → w'.cell? ⟨g, 0, none⟩ = w1.cell? ⟨g, 0, none⟩ := fun g hg hne => cell_eqb (g2.block g (Nat.lt_of_lt_of_le hg hw) hne)
    exact ⟨rfl, ⟨g1, (kp gi hgi (Ne.symm hai)).trans h2, (kp gt hgt (Ne.symm hat)).trans h3, h4.trans (g2.below (fun g hg => by subst hg; exact hga) h4.size)⟩, g2⟩
  · intro k w1 w2 ⟨h1, h2, h3, h4⟩ hb
    exact ⟨h1.heap (hb.block ga hA.lt), (hb.cell hgi).trans h2, (hb.cell hgt).trans h3, h4.trans (hb.mono hb0.size)⟩

end Go.Proofs.Ytkolfdoclchaaaa
