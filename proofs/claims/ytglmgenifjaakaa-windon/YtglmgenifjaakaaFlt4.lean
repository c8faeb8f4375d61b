/-
  What flat.Box does to any world (no claim is made here).
-/
import Derived.Test.YtglmgenifjaakaaEdg
import Derived.Test.YtglmgenifjaakaaPth3
import Derived.Test.YtglmgenifjaakaaFlt1
namespace Go.Proofs.Ytglmgenifjaakaa
open Go.RowKit

/-- The least, the greatest of three, as the program's builtin finds them. -/
def mn3 (a b c : Int) : Int := if c < (if b < a then b else a) then c else if b < a then b else a
def mx3 (a b c : Int) : Int := if (if a < b then b else a) < c then c else if a < b then b else a
theorem mn3_is (a b c : Int) : mn3 a b c = min (min a b) c := by unfold mn3; simp only [Int.min_def]; split <;> split <;> split <;> omega
theorem mx3_is (a b c : Int) : mx3 a b c = max (max a b) c := by unfold mx3; simp only [Int.max_def]; split <;> split <;> split <;> omega
theorem run_mn {P : Program} (ats : Array TypeId) (ty : TypeId) (a b c : Int) (w : World) : Sem.run P (Builtin.min_ ats ty #[.int .i64 a, .int .i64 b, .int .i64 c]) w = .ok (.int .i64 (mn3 a b c)) w := by
  simp [Builtin.min_, Builtin.min2, mn3]
theorem run_mx {P : Program} (ats : Array TypeId) (ty : TypeId) (a b c : Int) (w : World) : Sem.run P (Builtin.max_ ats ty #[.int .i64 a, .int .i64 b, .int .i64 c]) w = .ok (.int .i64 (mx3 a b c)) w := by
  simp [Builtin.max_, Builtin.max2, mx3]
def boxAt (e : Ed) (l : List Ed) : Pt × Pt := l.foldl boxF (e.a, e.a)
theorem boxAt_push (e : Ed) (l : List Ed) (d : Ed) : boxAt e (l ++ [d]) = boxF (boxAt e l) d := by simp [boxAt]
theorem boxF_is (b : Pt × Pt) (e : Ed) : boxF b e = (⟨mn3 b.1.x e.a.x e.b.x, mn3 b.1.y e.a.y e.b.y⟩, ⟨mx3 b.2.x e.a.x e.b.x, mx3 b.2.y e.a.y e.b.y⟩) := by simp only [boxF, mn3_is, mx3_is]

set_option maxHeartbeats 1600000 in
theorem box_nil (A : Option Addr) (cap : Nat) (w : World) : Calls Try.prog 18 #[.slice A 0 cap] w fun e w' => e = .returned (.tuple #[.agg #[.int .i64 0, .int .i64 0], .agg #[.int .i64 0, .int .i64 0]]) ∧ Below w.heap.size w w' := by
  go_enter Try.func18, Try.ntmps18
  go_wp2
  refine bodyPost_ret (v := .tuple #[.agg #[.int .i64 0, .int .i64 0], .agg #[.int .i64 0, .int .i64 0]]) (by simp [results, Try.results18, go_sem]) rfl ⟨rfl, below_a2 _ _ _⟩

theorem twoB (w : World) (t : TypeId) (x y : Value) : Blk ((w.alloc (.cells #[x, y] t)).alloc (.cells #[x, y] t)).drew w.heap.size t [x, y] ∧ Blk ((w.alloc (.cells #[x, y] t)).alloc (.cells #[x, y] t)).drew (w.heap.size + 1) t [x, y] :=
  ⟨((Blk.new w t [x, y] rfl).alloc _).drew, (Blk.new (w.alloc (.cells #[x, y] t)) t [x, y] (by simp)).drew⟩
theorem take_next4 {α : Type} {l : List α} {r : Nat} {s : α} (h : l[r]? = some s) : l.take (r + 1) = l.take r ++ [s] := by
  obtain ⟨hi, rfl⟩ := List.getElem?_eq_some_iff.1 h
  rw [List.take_succ_eq_append_getElem hi]
/-- The place so far. -/
def BSt (w wr : World) (g h : Nat) (b : Pt × Pt) : Prop := Blk wr g 31 [.int .i64 b.1.x, .int .i64 b.1.y] ∧ Blk wr h 31 [.int .i64 b.2.x, .int .i64 b.2.y] ∧ Blk wr w.heap.size 31 [.int .i64 0, .int .i64 0] ∧ Blk wr (w.heap.size + 1) 31 [.int .i64 0, .int .i64 0] ∧ Below w.heap.size w wr

theorem BSt.step {w wr : World} {g h : Nat} {b : Pt × Pt} (k : BSt w wr g h b) (hgh : g ≠ h) (hg1 : ¬ g = w.heap.size) (hg2 : ¬ g = w.heap.size + 1) (hh1 : ¬ h = w.heap.size) (hh2 : ¬ h = w.heap.size + 1) (hgw : w.heap.size ≤ g) (hhw : w.heap.size ≤ h) (x y z u : Int) (o : Obj) :
    BSt w (((((wr.setCell ⟨g, 0, none⟩ (.int .i64 x)).setCell ⟨g, 1, none⟩ (.int .i64 y)).setCell ⟨h, 0, none⟩ (.int .i64 z)).setCell ⟨h, 1, none⟩ (.int .i64 u)).alloc o) g h (⟨x, y⟩, ⟨z, u⟩) := by
  obtain ⟨k1, k2, k3, k4, k5⟩ := k
  have B := (((k5.setCell (p := ⟨g, 0, none⟩) hgw (.int .i64 x)).setCell (p := ⟨g, 1, none⟩) hgw (.int .i64 y)).setCell (p := ⟨h, 0, none⟩) hhw (.int .i64 z)).setCell (p := ⟨h, 1, none⟩) hhw (.int .i64 u)
  have f : ∀ {q : Nat} {t : TypeId} {vs : List Value}, Blk wr q t vs → ¬ g = q → ¬ h = q → Blk (((((wr.setCell ⟨g, 0, none⟩ (.int .i64 x)).setCell ⟨g, 1, none⟩ (.int .i64 y)).setCell ⟨h, 0, none⟩ (.int .i64 z)).setCell ⟨h, 1, none⟩ (.int .i64 u)).alloc o) q t vs :=
    fun kq e1 e2 => ((((kq.other 0 _ (fun e => e1 e.symm)).other 1 _ (fun e => e1 e.symm)).other 0 _ (fun e => e2 e.symm)).other 1 _ (fun e => e2 e.symm)).alloc o
  exact ⟨((((k1.set 0 (.int .i64 x)).set 1 (.int .i64 y)).other (k := h) 0 _ hgh).other (k := h) 1 _ hgh).alloc o, ((((k2.other (k := g) 0 _ (fun e => hgh e.symm)).other (k := g) 1 _ (fun e => hgh e.symm)).set 0 (.int .i64 z)).set 1 (.int .i64 u)).alloc o, f k3 hg1 hh1, f k4 hg2 hh2, B.alloc B.size o⟩

set_option maxHeartbeats 1600000 in
theorem box_some (A : Option Addr) (cap : Nat) (es : List Ed) (n : Nat) (hn : es.length = n) (hn0 : 0 < n) (e0 : Ed) (he0 : es[0]? = some e0) (w : World) (hv : ERd w (.slice A n cap) es) (hl : n ≤ 100000) :
    Calls Try.prog 18 #[.slice A n cap] w fun e w' => e = .returned (.tuple #[ptA (boxAt e0 es).1, ptA (boxAt e0 es).2]) ∧ Below w.heap.size w w' := by
  have HN := Lib.hid hn
  have HV := Lib.hid hv
  obtain ⟨a, rfl, ha, x0, x1, x2, x3⟩ := hv.at 0 e0 he0
  rw [Nat.zero_mul, show a.add 0 = a from rfl] at x0 x1 x2 x3
  have hc : n ≤ cap := by obtain ⟨A', cap', e, h, _⟩ := hv; injection e with _ _ e3; omega
  obtain ⟨⟨p0, p1⟩, p2, p3⟩ := e0
  simp only [] at x0 x1 x2 x3
  clear hv hn x2 x3
  have hz : ((n : Int) == 0) = false := by simp; omega
  have hz' : ¬ (n : Int) = 0 := by omega
  go_enter Try.func18, Try.ntmps18
  go_wp2_with fail
  obtain ⟨ws, hws⟩ : ∃ ws, ws = (w.alloc (.cells #[.int .i64 0, .int .i64 0] 31)).alloc (.cells #[.int .i64 0, .int .i64 0] 31) := ⟨_, rfl⟩
  have B0 : Below w.heap.size w ws := by rw [hws]; exact below_a2 _ _ _
  have R0 : Blk ws w.heap.size 31 [.int .i64 0, .int .i64 0] := by rw [hws]; exact (Blk.new w 31 [.int .i64 0, .int .i64 0] rfl).alloc _
  have R1 : Blk ws (w.heap.size + 1) 31 [.int .i64 0, .int .i64 0] := by rw [hws]; exact Blk.new (w.alloc (.cells #[.int .i64 0, .int .i64 0] 31)) 31 [.int .i64 0, .int .i64 0] (by simp)
  rw [← hws]
  have hsz : w.heap.size + 1 < ws.heap.size := R1.lt
  have x0' := keepc B0 x0
  have x1' := keepc B0 x1
  have HB0 := Lib.hid B0
  have HR0 := Lib.hid R0
  have HR1 := Lib.hid R1
  have hz2 : a.block < ws.heap.size := Nat.lt_of_lt_of_le ha B0.size
  clear hws B0 R0 R1 x0 x1
  go_cut [4, 5] (fun s4 s5 wx => ∃ g h : Nat, s4 = .pointer (some ⟨g, 0, none⟩) ∧ s5 = .pointer (some ⟨h, 0, none⟩) ∧ ws.heap.size ≤ g ∧ ws.heap.size ≤ h ∧ g ≠ h ∧ Hid (Blk wx g 31 [.int .i64 p0, .int .i64 p1]) ∧ Hid (Blk wx h 31 [.int .i64 p0, .int .i64 p1]) ∧ Hid (Below ws.heap.size ws wx))
  case first =>
    go_region
    all_goals
      go_wp2_with fail
      go_meet
    · exact ⟨_, _, rfl, rfl, Nat.le_refl _, Nat.le_succ _, by omega, Lib.hid (twoB _ _ _ _).1, Lib.hid (twoB _ _ _ _).2, Lib.hid (below_a2 _ _ _).drew⟩
    · exact ⟨_, _, rfl, rfl, Nat.le_succ _, Nat.le_refl _, by omega, Lib.hid (twoB _ _ _ _).2, Lib.hid (twoB _ _ _ _).1, Lib.hid (below_a2 _ _ _).drew⟩
  case rest =>
    obtain ⟨g, h, rfl, rfl, hg, hh, hgh, HG, HH, HBW⟩ := hcut
    have HS0 : Hid (BSt w wc g h (boxAt ⟨⟨p0, p1⟩, p2, p3⟩ (es.take 0))) := Lib.hid ⟨HG.out, HH.out, HR0.out.keep HBW.out, HR1.out.keep HBW.out, HB0.out.trans (HBW.out.mono HB0.out.size)⟩
    have hg1 : ¬ g = w.heap.size := by omega
    have hg2 : ¬ g = w.heap.size + 1 := by omega
    have hh1 : ¬ h = w.heap.size := by omega
    have hh2 : ¬ h = w.heap.size + 1 := by omega
    have hgw : w.heap.size ≤ g := by omega
    have hhw : w.heap.size ≤ h := by omega
    have hhg : ¬ h = g := fun e => hgh e.symm
    clear HG HH HBW HR0 HR1 HB0 x0' x1' hsz hz2 hg hh
    go_wp2_with fail
    go_loopw [23] (fun i wr => ∃ r : Nat, r ≤ n ∧ i = .int .i64 r ∧ Hid (BSt w wr g h (boxAt ⟨⟨p0, p1⟩, p2, p3⟩ (es.take r)))) (fun i _ => n - (intOf i).toNat)
    case atStart => exact ⟨0, Nat.zero_le _, rfl, HS0⟩
    case round =>
      obtain ⟨r, hr, rfl, HW⟩ := hrel
      obtain ⟨⟨⟨b0, b1⟩, b2, b3⟩, hb⟩ : ∃ b, boxAt ⟨⟨p0, p1⟩, p2, p3⟩ (es.take r) = b := ⟨_, rfl⟩
      have HB := Lib.hid hb
      rw [hb] at HW
      clear hb
      have c0 := HW.out.1.cell 0 rfl
      have c1 := HW.out.1.cell 1 rfl
      have c2 := HW.out.1.frozen 0
      have c3 := HW.out.1.frozen 1
      have c4 := HW.out.1.lt
      have d0 := HW.out.2.1.cell 0 rfl
      have d1 := HW.out.2.1.cell 1 rfl
      have d2 := HW.out.2.1.frozen 0
      have d3 := HW.out.2.1.frozen 1
      have d4 := HW.out.2.1.lt
      simp only [] at c0 c1 d0 d1
      by_cases hrn : r < n
      · have hrb : decide ((r : Int) < n) = true := by simp; omega
        obtain ⟨s, hs⟩ : ∃ s, es[r]? = some s := ⟨_, List.getElem?_eq_getElem (by rw [HN.out]; exact hrn)⟩
        obtain ⟨a', e', ha', x0, x1, x2, x3⟩ := (HV.out.keep HW.out.2.2.2.2).at r s hs
        cases e'
        have HT := Lib.hid (take_next4 hs)
        obtain ⟨⟨s0, s1⟩, s2, s3⟩ := s
        simp only [] at x0 x1 x2 x3
        have m1 := run_mn (P := Try.prog) #[3, 3, 3] 3 b0 s0 s2
        have m2 := run_mn (P := Try.prog) #[3, 3, 3] 3 b1 s1 s3
        have m3 := run_mx (P := Try.prog) #[3, 3, 3] 3 b2 s0 s2
        have m4 := run_mx (P := Try.prog) #[3, 3, 3] 3 b3 s1 s3
        clear hs HS0
        have HS1 := Lib.hid (HW.out.step hgh hg1 hg2 hh1 hh2 hgw hhw (mn3 b0 s0 s2) (mn3 b1 s1 s3) (mx3 b2 s0 s2) (mx3 b3 s1 s3) (.cells #[.int .i64 s0, .int .i64 s1, .int .i64 s2, .int .i64 s3] 37))
        go_wp2_with fail
        exact ⟨⟨r + 1, by omega, by go_num, Lib.hid (by rw [HT.out, boxAt_push, HB.out, boxF_is]; exact HS1.out)⟩, by simp [intOf]; omega⟩
      · obtain rfl : r = n := by omega
        have r0 := HW.out.2.2.1.cell 0 rfl
        have r1 := HW.out.2.2.1.cell 1 rfl
        have r2 := HW.out.2.2.1.frozen 0
        have r3 := HW.out.2.2.1.frozen 1
        have r4 := HW.out.2.2.1.lt
        have t0 := HW.out.2.2.2.1.cell 0 rfl
        have t1 := HW.out.2.2.2.1.cell 1 rfl
        have t2 := HW.out.2.2.2.1.frozen 0
        have t3 := HW.out.2.2.2.1.frozen 1
        have t4 := HW.out.2.2.2.1.lt
        have HF : Hid (boxAt ⟨⟨p0, p1⟩, p2, p3⟩ es = (⟨b0, b1⟩, ⟨b2, b3⟩)) := Lib.hid (by have h := HB.out; rwa [List.take_of_length_le (by rw [HN.out]; exact Nat.le_refl _)] at h)
        clear HS0
        go_wp2_with fail
        go_region
        go_wp2_with fail
        rw [HF.out]
        have n1 : w.heap.size ≠ w.heap.size + 1 := by omega
        have Q0 := ((((HW.out.2.2.1.set 0 (.int .i64 b0)).set 1 (.int .i64 b1)).other (k := w.heap.size + 1) 0 (.int .i64 b2) n1).other (k := w.heap.size + 1) 1 (.int .i64 b3) n1).drew
        have Q1 := ((((HW.out.2.2.2.1.other (k := w.heap.size) 0 (.int .i64 b0) n1.symm).other (k := w.heap.size) 1 (.int .i64 b1) n1.symm).set 0 (.int .i64 b2)).set 1 (.int .i64 b3)).drew
        have q0 := Q0.cell 0 rfl
        have q1 := Q0.cell 1 rfl
        have q2 := Q1.cell 0 rfl
        have q3 := Q1.cell 1 rfl
        have QB := ((((HW.out.2.2.2.2.setCell (p := ⟨w.heap.size, 0, none⟩) (Nat.le_refl _) (.int .i64 b0)).setCell (p := ⟨w.heap.size, 1, none⟩) (Nat.le_refl _) (.int .i64 b1)).setCell (p := ⟨w.heap.size + 1, 0, none⟩) (Nat.le_succ _) (.int .i64 b2)).setCell (p := ⟨w.heap.size + 1, 1, none⟩) (Nat.le_succ _) (.int .i64 b3)).drew
        exact bodyPost_ret (v := .tuple #[.agg #[.int .i64 b0, .int .i64 b1], .agg #[.int .i64 b2, .int .i64 b3]]) (by simp [results, Try.results18, go_sem, q0, q1, q2, q3]) rfl ⟨rfl, QB⟩
theorem box_any (v : Value) (es : List Ed) (w : World) (hv : ERd w v es) (hl : es.length ≤ 100000) :
    Calls Try.prog 18 #[v] w fun e w' => e = .returned (.tuple #[ptA (boxS es).1, ptA (boxS es).2]) ∧ Below w.heap.size w w' := by
  obtain ⟨A, cap, rfl, h⟩ := id hv
  cases es with
  | nil => exact box_nil A cap w
  | cons e l => exact box_some A cap (e :: l) _ rfl (Nat.zero_lt_succ _) e rfl w hv hl

end Go.Proofs.Ytglmgenifjaakaa
