/-
  What the law's edges does to any world (no claim is made here).
-/
import Derived.Test.YtnejdngeeppphaaFlt6
import Derived.Deep.AppendLies
import Derived.Deep.RegionLawGrows
namespace Go.Proofs.Ytnejdngeeppphaa
open Go.RowKit

theorem heap_at8 {w : World} {k : Nat} (h : w.heap.size = k) (o : Obj) : (w.drew.alloc o).heap[k]? = some o := by subst h; exact heap_alloc_new w.drew o
theorem size_at8 {w : World} {k b : Nat} (hb : b ≤ k) (h : w.heap.size = k) (o : Obj) : b ≤ (w.drew.alloc o).heap.size := by subst h; rw [World.size_alloc]; exact Nat.le_succ_of_le hb
theorem ERow.push8 {w : World} {base n : Nat} {u : Value} {l : List Ed} {p0 p1 q0 q1 : Int} (hn : l.length = n) (h : w.ownsRow base 44 4 u (n + 1) (ecells l ++ [.int .i64 p0, .int .i64 p1, .int .i64 q0, .int .i64 q1])) : ERow w base u (l ++ [⟨⟨p0, p1⟩, ⟨q0, q1⟩⟩]) := by
  unfold ERow
  rw [List.length_append, hn, ecells_push]
  exact h
theorem chain_len : ∀ l : List Pt, (chain l).length ≤ l.length
  | [] => by simp [chain]
  | [_] => by simp [chain]
  | p :: q :: l => by have h1 := edge_len p q; have h2 := chain_len (q :: l); rw [chain, List.length_append, List.length_cons]; omega
def pcell (p : Pt) : List Value := [.int .i64 p.x, .int .i64 p.y]
def pcells (l : List Pt) : List Value := l.flatMap pcell
theorem pcells_at : ∀ (l : List Pt) (i j : Nat) (p : Pt), l[i]? = some p → j < 2 → (pcells l)[i * 2 + j]? = (pcell p)[j]?
  | [], i, j, p, h, hj => by cases h
  | q :: l, 0, j, p, h, hj => by
    have : q = p := by simpa using h
    subst this
    have e : pcells (q :: l) = pcell q ++ pcells l := by simp [pcells]
    rw [e, Nat.zero_mul, Nat.zero_add, List.getElem?_append_left (by simp [pcell]; omega)]
  | q :: l, i + 1, j, p, h, hj => by
    have e : pcells (q :: l) = pcell q ++ pcells l := by simp [pcells]
    rw [e, List.getElem?_append_right (by simp [pcell]; omega)]
    have := pcells_at l i j p (by simpa using h) hj
    rw [show (i + 1) * 2 + j - (pcell q).length = i * 2 + j by simp [pcell]; omega, this]
theorem chain_take : ∀ (l : List Pt) (k : Nat) (p q : Pt), l[k]? = some p → l[k + 1]? = some q → chain (l.take (k + 2)) = chain (l.take (k + 1)) ++ edge p q
  | a :: b :: l, 0, p, q, h1, h2 => by
    have e1 : a = p := by simpa using h1
    have e2 : b = q := by simpa using h2
    subst e1 e2
    simp [chain]
  | a :: b :: l, k + 1, p, q, h1, h2 => by
    have h := chain_take (b :: l) k p q (by simpa using h1) (by simpa using h2)
    rw [List.take_succ_cons] at h
    rw [List.take_succ_cons, List.take_succ_cons, chain, h]
    rw [List.take_succ_cons (i := k + 1), List.take_succ_cons, chain]
    rw [List.append_assoc]
  | [a], k, p, q, h1, h2 => by simp at h2
  | [], k, p, q, h1, h2 => by simp at h2

set_option maxRecDepth 100000 in
set_option maxHeartbeats 6400000 in
theorem ledges_any (v : Value) (l : List Sg) (w : World) (hv : SRd w v l) (hl : l.length ≤ 4000) (hin : ∀ s ∈ l, inS s) :
    Calls Try.prog 14 #[v] w fun e w' => ∃ u, e = .returned u ∧ ERow w' w.heap.size u (edgesS l) ∧ Below w.heap.size w w' := by
  have HV := Lib.hid hv
  have HI := Lib.hid hin
  obtain ⟨A, cap, rfl, hc, -⟩ := hv
  obtain ⟨n, hn⟩ : ∃ n : Nat, l.length = n := ⟨_, rfl⟩
  rw [hn] at HV hl hc
  rw [hn]
  have HN := Lib.hid hn
  clear hn hin
  go_enter Try.func14, Try.ntmps14
  go_wp2_with fail
  go_loopw [10, 3] (fun i u wr => ∃ r : Nat, r ≤ n ∧ i = .int .i64 r ∧ Hid (ERow wr w.heap.size u (edgesS (l.take r))) ∧ Hid (Below w.heap.size w wr)) (fun i _ _ => n - (intOf i).toNat)
  case atStart => exact ⟨0, Nat.zero_le _, rfl, Lib.hid (ERow.nil _ _), Lib.hid (Below.refl _ _)⟩
  case round =>
    obtain ⟨r, hr, rfl, HE, HW⟩ := hrel
    by_cases hrn : r < n
    · have hrb : decide ((r : Int) < n) = true := by simp; omega
      obtain ⟨s, hs⟩ : ∃ s, l[r]? = some s := ⟨_, List.getElem?_eq_getElem (by rw [HN.out]; exact hrn)⟩
      obtain ⟨a, rfl, ha, x0, x1, x2, x3, x4, x5, x6⟩ := (HV.out.keep HW.out).at r s hs
      have HIS := Lib.hid (HI.out s (List.mem_of_getElem? hs))
      have HT := Lib.hid (take_next hs)
      have hlen := edgesS_len (l.take r)
      have hlen2 : (l.take r).length ≤ n := by rw [List.length_take, HN.out]; omega
      have HL := Lib.hid (show (edgesS (l.take r)).length ≤ 16000 by omega)
      obtain ⟨⟨s0, s1⟩, ⟨s2, s3⟩, ⟨s4, s5⟩, s6⟩ := s
      simp only [] at x0 x1 x2 x3 x4 x5 x6
      obtain ⟨wo, rfl⟩ : ∃ x, x = wr := ⟨wr, rfl⟩
      have HE0 := Lib.hid (HE.out.alloc (.cells #[.int .i64 s0, .int .i64 s1, .int .i64 s2, .int .i64 s3, .int .i64 s4, .int .i64 s5, .bool s6] 25))
      have HW0 := Lib.hid (HW.out.alloc HW.out.size (.cells #[.int .i64 s0, .int .i64 s1, .int .i64 s2, .int .i64 s3, .int .i64 s4, .int .i64 s5, .bool s6] 25))
      have HB1 := Lib.hid (Blk.new wo 25 [.int .i64 s0, .int .i64 s1, .int .i64 s2, .int .i64 s3, .int .i64 s4, .int .i64 s5, .bool s6] rfl)
      clear hs hlen hlen2
      go_wp2_with fail
      obtain ⟨ws, hws⟩ : ∃ ws, ws = wo.alloc (.cells #[.int .i64 s0, .int .i64 s1, .int .i64 s2, .int .i64 s3, .int .i64 s4, .int .i64 s5, .bool s6] 25) := ⟨_, rfl⟩
      rw [← hws] at HE0 HW0 HB1 ⊢
      clear hws x0 x1 x2 x3 x4 x5 x6
      cases s6 with
      | false =>
        · obtain ⟨d0, d1, d2, d3, d4, d5, d6⟩ := S7_blk HB1.out
          have hE : ws.cell? ⟨wo.heap.size, 0, none⟩ = some (.int .i64 s0) ∧ ws.cell? ⟨wo.heap.size, 1, none⟩ = some (.int .i64 s1) ∧ ws.cell? ⟨wo.heap.size, 2, none⟩ = some (.int .i64 s2) ∧ ws.cell? ⟨wo.heap.size, 3, none⟩ = some (.int .i64 s3) ∧ ws.cell? ⟨wo.heap.size, 4, none⟩ = some (.int .i64 s4) ∧ ws.cell? ⟨wo.heap.size, 5, none⟩ = some (.int .i64 s5) ∧ ws.cell? ⟨wo.heap.size, 6, none⟩ = some (.bool false) ∧ Below ws.heap.size ws ws := ⟨d0, d1, d2, d3, d4, d5, d6, Below.refl _ _⟩
          have hD : ws.drew.cell? ⟨wo.heap.size, 0, none⟩ = some (.int .i64 s0) ∧ ws.drew.cell? ⟨wo.heap.size, 1, none⟩ = some (.int .i64 s1) ∧ ws.drew.cell? ⟨wo.heap.size, 2, none⟩ = some (.int .i64 s2) ∧ ws.drew.cell? ⟨wo.heap.size, 3, none⟩ = some (.int .i64 s3) ∧ ws.drew.cell? ⟨wo.heap.size, 4, none⟩ = some (.int .i64 s4) ∧ ws.drew.cell? ⟨wo.heap.size, 5, none⟩ = some (.int .i64 s5) ∧ ws.drew.cell? ⟨wo.heap.size, 6, none⟩ = some (.bool false) ∧ Below ws.heap.size ws ws.drew := ⟨d0, d1, d2, d3, d4, d5, d6, (Below.refl _ _).drew⟩
          obtain ⟨x0, hx0⟩ : ∃ x, onX 0 s0 s2 s4 = x := ⟨_, rfl⟩
          obtain ⟨y0, hy0⟩ : ∃ x, onX 0 s1 s3 s5 = x := ⟨_, rfl⟩
          obtain ⟨x1, hx1⟩ : ∃ x, onX 1 s0 s2 s4 = x := ⟨_, rfl⟩
          obtain ⟨y1, hy1⟩ : ∃ x, onX 1 s1 s3 s5 = x := ⟨_, rfl⟩
          obtain ⟨x2, hx2⟩ : ∃ x, onX 2 s0 s2 s4 = x := ⟨_, rfl⟩
          obtain ⟨y2, hy2⟩ : ∃ x, onX 2 s1 s3 s5 = x := ⟨_, rfl⟩
          obtain ⟨x3, hx3⟩ : ∃ x, onX 3 s0 s2 s4 = x := ⟨_, rfl⟩
          obtain ⟨y3, hy3⟩ : ∃ x, onX 3 s1 s3 s5 = x := ⟨_, rfl⟩
          obtain ⟨x4, hx4⟩ : ∃ x, onX 4 s0 s2 s4 = x := ⟨_, rfl⟩
          obtain ⟨y4, hy4⟩ : ∃ x, onX 4 s1 s3 s5 = x := ⟨_, rfl⟩
          have HL0 := Lib.hid (fun w => lon_at s0 s1 s2 s3 s4 s5 false 0 0 rfl (by omega) HIS.out x0 y0 hx0 hy0 w)
          have HL4 := Lib.hid (fun w => lon_at s0 s1 s2 s3 s4 s5 false 4 4 rfl (by omega) HIS.out x4 y4 hx4 hy4 w)
          have HPT : Hid (ptsOf ⟨⟨s0, s1⟩, ⟨s2, s3⟩, ⟨s4, s5⟩, false⟩ = [⟨x0, y0⟩, ⟨x4, y4⟩]) := Lib.hid (by subst hx0 hy0 hx1 hy1 hx2 hy2 hx3 hy3 hx4 hy4; rfl)
          clear hx0 hy0 hx1 hy1 hx2 hy2 hx3 hy3 hx4 hy4 d0 d1 d2 d3 d4 d5 d6
          go_cut [6] (fun s6 wx => ∃ g : Nat, s6 = .slice (some ⟨g, 0, none⟩) 2 2 ∧ ws.heap.size ≤ g ∧ Hid (Blk wx g 23 [.int .i64 x0, .int .i64 y0, .int .i64 x4, .int .i64 y4]) ∧ (wx.cell? ⟨wo.heap.size, 0, none⟩ = some (.int .i64 s0) ∧ wx.cell? ⟨wo.heap.size, 1, none⟩ = some (.int .i64 s1) ∧ wx.cell? ⟨wo.heap.size, 2, none⟩ = some (.int .i64 s2) ∧ wx.cell? ⟨wo.heap.size, 3, none⟩ = some (.int .i64 s3) ∧ wx.cell? ⟨wo.heap.size, 4, none⟩ = some (.int .i64 s4) ∧ wx.cell? ⟨wo.heap.size, 5, none⟩ = some (.int .i64 s5) ∧ wx.cell? ⟨wo.heap.size, 6, none⟩ = some (.bool false) ∧ Below ws.heap.size ws wx))
          case first =>
            go_region_held3 (fun wx => wx.cell? ⟨wo.heap.size, 0, none⟩ = some (.int .i64 s0) ∧ wx.cell? ⟨wo.heap.size, 1, none⟩ = some (.int .i64 s1) ∧ wx.cell? ⟨wo.heap.size, 2, none⟩ = some (.int .i64 s2) ∧ wx.cell? ⟨wo.heap.size, 3, none⟩ = some (.int .i64 s3) ∧ wx.cell? ⟨wo.heap.size, 4, none⟩ = some (.int .i64 s4) ∧ wx.cell? ⟨wo.heap.size, 5, none⟩ = some (.int .i64 s5) ∧ wx.cell? ⟨wo.heap.size, 6, none⟩ = some (.bool false) ∧ Below ws.heap.size ws wx)
              ((repeat (first | with_reducible assumption | with_reducible refine S7_alloc _ ?_ | with_reducible refine S7_drew ?_)))
              (first
              | (have hprev := hS0; clear hprev; go_at_call 11; (with_reducible refine (HL4.out _).mono ?_); rintro e v4 ⟨rfl, hb⟩; have hS4 : v4.cell? ⟨wo.heap.size, 0, none⟩ = some (.int .i64 s0) ∧ v4.cell? ⟨wo.heap.size, 1, none⟩ = some (.int .i64 s1) ∧ v4.cell? ⟨wo.heap.size, 2, none⟩ = some (.int .i64 s2) ∧ v4.cell? ⟨wo.heap.size, 3, none⟩ = some (.int .i64 s3) ∧ v4.cell? ⟨wo.heap.size, 4, none⟩ = some (.int .i64 s4) ∧ v4.cell? ⟨wo.heap.size, 5, none⟩ = some (.int .i64 s5) ∧ v4.cell? ⟨wo.heap.size, 6, none⟩ = some (.bool false) ∧ Below ws.heap.size ws v4 := S7_call hb (by (repeat (first | with_reducible assumption | with_reducible refine S7_alloc _ ?_ | with_reducible refine S7_drew ?_))))
              | (go_at_call 11; (with_reducible refine (HL0.out _).mono ?_); rintro e v0 ⟨rfl, hb⟩; have hS0 : v0.cell? ⟨wo.heap.size, 0, none⟩ = some (.int .i64 s0) ∧ v0.cell? ⟨wo.heap.size, 1, none⟩ = some (.int .i64 s1) ∧ v0.cell? ⟨wo.heap.size, 2, none⟩ = some (.int .i64 s2) ∧ v0.cell? ⟨wo.heap.size, 3, none⟩ = some (.int .i64 s3) ∧ v0.cell? ⟨wo.heap.size, 4, none⟩ = some (.int .i64 s4) ∧ v0.cell? ⟨wo.heap.size, 5, none⟩ = some (.int .i64 s5) ∧ v0.cell? ⟨wo.heap.size, 6, none⟩ = some (.bool false) ∧ Below ws.heap.size ws v0 := S7_call hb (by (repeat (first | with_reducible assumption | with_reducible refine S7_alloc _ ?_ | with_reducible refine S7_drew ?_))))
              | fail)
            have hz := hS4.2.2.2.2.2.2.2.size
            go_wp2_with fail
            go_meet
            exact ⟨_, rfl, hz, Lib.hid (Blk.new v4 23 [.int .i64 x0, .int .i64 y0, .int .i64 x4, .int .i64 y4] rfl), S7_alloc _ hS4⟩
          case rest =>
          obtain ⟨g, rfl, hg, HG, hSc⟩ := hcut
          have HBc := Lib.hid (HW0.out.trans (hSc.2.2.2.2.2.2.2.mono HW0.out.size))
          have HEc := Lib.hid (ERow.below HE0.out (Below.mono hSc.2.2.2.2.2.2.2 (Nat.le_refl _)))
          obtain ⟨d0, d1, d2, d3, d4, d5, d6, -⟩ := hSc
          have HPB : Hid (Blk wc g 23 (pcells [⟨x0, y0⟩, ⟨x4, y4⟩])) := HG
          clear HG
          go_wp2_with fail
          obtain ⟨i0, hi0, hz0, hz1, hz2⟩ := infos einfo
          obtain ⟨pts, hpts⟩ : ∃ pts : List Pt, [⟨x0, y0⟩, ⟨x4, y4⟩] = pts := ⟨_, rfl⟩
          rw [hpts] at HPB HPT
          have HPL : Hid (pts.length = 2) := Lib.hid (by rw [← hpts]; rfl)
          have HC0 : Hid (ERow wc w.heap.size u3 (edgesS (l.take r) ++ chain (pts.take (0 + 1)))) := Lib.hid (by rw [← hpts]; simpa [chain] using HEc.out)
          clear hpts
          go_loopw [7, 3] (fun i u wr => ∃ j : Nat, j + 1 ≤ 2 ∧ i = .int .i64 ((j : Int) + 1) ∧ Hid (ERow wr w.heap.size u (edgesS (l.take r) ++ chain (pts.take (j + 1)))) ∧ Hid (Blk wr g 23 (pcells pts)) ∧ Hid (Below w.heap.size w wr)) (fun i _ _ => 2 - (intOf i).toNat)
          case atStart => exact ⟨0, by omega, rfl, HC0, HPB, HBc⟩
          case round =>
            obtain ⟨j, hj, rfl, HEr, HPr, HBr⟩ := hrel
            clear HC0 HPB HBc HEc
            by_cases hjM : j + 1 < 2
            · have hjb : decide ((j : Int) + 1 < 2) = true := by simp; omega
              obtain ⟨p, hp⟩ : ∃ p, pts[j]? = some p := ⟨_, List.getElem?_eq_getElem (by rw [HPL.out]; omega)⟩
              obtain ⟨q, hq⟩ : ∃ p, pts[j + 1]? = some p := ⟨_, List.getElem?_eq_getElem (by rw [HPL.out]; omega)⟩
              have HCT := Lib.hid (chain_take pts j p q hp hq)
              have e0 := HPr.out.cell (j * 2) (pcells_at pts j 0 p hp (by omega))
              have e1 := HPr.out.cell (j * 2 + 1) (pcells_at pts j 1 p hp (by omega))
              have e2 := HPr.out.cell ((j + 1) * 2) (pcells_at pts (j + 1) 0 q hq (by omega))
              have e3 := HPr.out.cell ((j + 1) * 2 + 1) (pcells_at pts (j + 1) 1 q hq (by omega))
              have ez := HPr.out.lt
              have hI1 : (j : Int) + 1 < 2 := by omega
              have hI2 : (j : Int) < 2 := by omega
              have hI3 : (0 : Int) ≤ (j : Int) + 1 := by omega
              have hI4 : (0 : Int) ≤ j := by omega
              have hI5 : ((j : Int) + 1).toNat = j + 1 := by omega
              obtain ⟨p0, p1⟩ := p
              obtain ⟨q0, q1⟩ := q
              simp only [] at e0 e1 e2 e3
              obtain ⟨N3, hN3⟩ : ∃ N3, (edgesS (l.take r) ++ chain (pts.take (j + 1))).length = N3 := ⟨_, rfl⟩
              obtain ⟨A3, cap3, hu3⟩ := HEr.out.form
              rw [hN3] at hu3
              subst hu3
              have HN3 := Lib.hid hN3
              clear hp hq hN3
              have hjw : IntKind.i64.wrap (j : Int) = j := by rw [IntKind.wrap_i64]; omega
              have hcase : (p0 = q0 ∧ p1 = q1) ∨ q0 ≠ p0 ∨ (q0 = p0 ∧ q1 ≠ p1) := by omega
              rcases hcase with ⟨rfl, rfl⟩ | h | ⟨rfl, h⟩
              · have HS : Hid (ERow wr w.heap.size (.slice A3 N3 cap3) (edgesS (l.take r) ++ chain (pts.take (j + 1 + 1)))) := Lib.hid (by have h := HCT.out; rw [show edge ⟨p0, p1⟩ ⟨p0, p1⟩ = [] by unfold edge; rw [if_pos rfl], List.append_nil] at h; rw [h]; exact HEr.out)
                go_wp2_with fail
                go_region
                have HS2 := Lib.hid (HS.out.below ((Below.refl _ wr).drew))
                have HP2 := Lib.hid HPr.out.drew
                have HB2 := Lib.hid HBr.out.drew
                go_wp2_with fail
                exact ⟨⟨j + 1, by omega, by go_num, HS2, HP2, HB2⟩, by simp [intOf]; omega⟩
              · have hb1 : (q0 == p0) = false := by simpa using h
                go_wp2_with fail
                go_region
                have f0 : wr.drew.cell? ⟨g, j * 2, none⟩ = some (.int .i64 p0) := e0
                have f1 : wr.drew.cell? ⟨g, j * 2 + 1, none⟩ = some (.int .i64 p1) := e1
                have f2 : wr.drew.cell? ⟨g, (j + 1) * 2, none⟩ = some (.int .i64 q0) := e2
                have f3 : wr.drew.cell? ⟨g, (j + 1) * 2 + 1, none⟩ = some (.int .i64 q1) := e3
                have fz : g < wr.drew.heap.size := ez
                have HEd := Lib.hid (HEr.out.below ((Below.refl _ wr).drew))
                have HPd := Lib.hid HPr.out.drew
                have HBd := Lib.hid HBr.out.drew
                obtain ⟨wd, hwd⟩ : ∃ x, x = wr.drew := ⟨_, rfl⟩
                rw [← hwd] at f0 f1 f2 f3 fz HEd HPd HBd ⊢
                have HAP := Lib.hid (ERow.apart HEd.out HPd.out (by decide))
                have hzw := HBd.out.size
                have hN3b : N3 ≤ 16005 := by rw [← HN3.out, List.length_append]; have h1 := HL.out; have h2 := chain_len (pts.take (j + 1)); rw [List.length_take] at h2; omega
                clear hwd e0 e1 e2 e3 ez HEr HPr HBr
                go_wp2_with fail
                go_region_law (first
                  | (refine step_append_lies _ ?_ (.tmp 48) (.tmp 59) 33 ?_ w.heap.size 44 i0 _ 4 32 Try.underlying33 hi0 hz0 hz1 hz2 ?_ ?_ (.slice A3 N3 cap3) N3 (ecells (edgesS (l.take r) ++ chain (pts.take (j + 1)))) ?_ ?_ ⟨wd.heap.size, 0, none⟩ 1 1 [.int .i64 p0, .int .i64 p1, .int .i64 q0, .int .i64 q1] ?_ ?_ ?_ ?_ ?_ ?_ ?_ ?_ _ rfl ?_
                     rfl
                     rfl
                     rfl
                     omega
                     kernel_rfl
                     exact ERow.own (ERow.alloc (w := wd.drew) (ERow.below HEd.out ((Below.refl _ wd).drew)) _) HN3.out
                     kernel_rfl
                     rfl
                     exact World.news_of_block (heap_at8 rfl _)
                     (simp [Value.oneCell'])
                     omega
                     (unfold maxLen; omega)
                     omega
                     exact size_at8 hzw rfl _
                     intro g5 cap5 w5 hown5 hgrow5 hat5 hlt5
                     have HO5 := Lib.hid hown5
                     have HG5 := Lib.hid hgrow5
                     clear hown5 hgrow5 hat5 hlt5))
                all_goals
                  have HS2 : Hid (ERow w5 w.heap.size (.slice (some ⟨g5, 0, none⟩) (N3 + 1) cap5) (edgesS (l.take r) ++ chain (pts.take (j + 1 + 1)))) := Lib.hid (by
                    rw [HCT.out, show edge ⟨p0, p1⟩ ⟨q0, q1⟩ = [⟨⟨p0, p1⟩, ⟨q0, q1⟩⟩] by unfold edge; rw [if_neg (by intro e; injection e with e1 e2; first | exact h e1.symm | exact h e2.symm)], ← List.append_assoc]
                    exact ERow.push8 HN3.out HO5.out)
                  have HP2 := Lib.hid ((HPd.out.drew.alloc (.cells #[.int .i64 p0, .int .i64 p1, .int .i64 q0, .int .i64 q1] 44)).grown HG5.out (fun e => HAP.out e.symm))
                  have HB2 := Lib.hid (((HBd.out.drew).alloc HBd.out.drew.size (.cells #[.int .i64 p0, .int .i64 p1, .int .i64 q0, .int .i64 q1] 44)).grown HG5.out (size_at8 hzw rfl _) (fun q hq => (World.ownsRow.lt HEd.out q hq).1))
                  go_wp2_with fail
                  exact ⟨⟨j + 1, by omega, by go_num, HS2, HP2, HB2⟩, by simp [intOf]; omega⟩
              · have hb1 : (q1 == p1) = false := by simpa using h
                go_wp2_with fail
                go_region
                have f0 : wr.drew.cell? ⟨g, j * 2, none⟩ = some (.int .i64 q0) := e0
                have f1 : wr.drew.cell? ⟨g, j * 2 + 1, none⟩ = some (.int .i64 p1) := e1
                have f2 : wr.drew.cell? ⟨g, (j + 1) * 2, none⟩ = some (.int .i64 q0) := e2
                have f3 : wr.drew.cell? ⟨g, (j + 1) * 2 + 1, none⟩ = some (.int .i64 q1) := e3
                have fz : g < wr.drew.heap.size := ez
                have HEd := Lib.hid (HEr.out.below ((Below.refl _ wr).drew))
                have HPd := Lib.hid HPr.out.drew
                have HBd := Lib.hid HBr.out.drew
                obtain ⟨wd, hwd⟩ : ∃ x, x = wr.drew := ⟨_, rfl⟩
                rw [← hwd] at f0 f1 f2 f3 fz HEd HPd HBd ⊢
                have HAP := Lib.hid (ERow.apart HEd.out HPd.out (by decide))
                have hzw := HBd.out.size
                have hN3b : N3 ≤ 16005 := by rw [← HN3.out, List.length_append]; have h1 := HL.out; have h2 := chain_len (pts.take (j + 1)); rw [List.length_take] at h2; omega
                clear hwd e0 e1 e2 e3 ez HEr HPr HBr
                go_wp2_with fail
                go_region_law (first
                  | (refine step_append_lies _ ?_ (.tmp 48) (.tmp 59) 33 ?_ w.heap.size 44 i0 _ 4 32 Try.underlying33 hi0 hz0 hz1 hz2 ?_ ?_ (.slice A3 N3 cap3) N3 (ecells (edgesS (l.take r) ++ chain (pts.take (j + 1)))) ?_ ?_ ⟨wd.heap.size, 0, none⟩ 1 1 [.int .i64 q0, .int .i64 p1, .int .i64 q0, .int .i64 q1] ?_ ?_ ?_ ?_ ?_ ?_ ?_ ?_ _ rfl ?_
                     rfl
                     rfl
                     rfl
                     omega
                     kernel_rfl
                     exact ERow.own (ERow.alloc (w := wd.drew) (ERow.below HEd.out ((Below.refl _ wd).drew)) _) HN3.out
                     kernel_rfl
                     rfl
                     exact World.news_of_block (heap_at8 rfl _)
                     (simp [Value.oneCell'])
                     omega
                     (unfold maxLen; omega)
                     omega
                     exact size_at8 hzw rfl _
                     intro g5 cap5 w5 hown5 hgrow5 hat5 hlt5
                     have HO5 := Lib.hid hown5
                     have HG5 := Lib.hid hgrow5
                     clear hown5 hgrow5 hat5 hlt5))
                all_goals
                  have HS2 : Hid (ERow w5 w.heap.size (.slice (some ⟨g5, 0, none⟩) (N3 + 1) cap5) (edgesS (l.take r) ++ chain (pts.take (j + 1 + 1)))) := Lib.hid (by
                    rw [HCT.out, show edge ⟨q0, p1⟩ ⟨q0, q1⟩ = [⟨⟨q0, p1⟩, ⟨q0, q1⟩⟩] by unfold edge; rw [if_neg (by intro e; injection e with e1 e2; first | exact h e1.symm | exact h e2.symm)], ← List.append_assoc]
                    exact ERow.push8 HN3.out HO5.out)
                  have HP2 := Lib.hid ((HPd.out.drew.alloc (.cells #[.int .i64 q0, .int .i64 p1, .int .i64 q0, .int .i64 q1] 44)).grown HG5.out (fun e => HAP.out e.symm))
                  have HB2 := Lib.hid (((HBd.out.drew).alloc HBd.out.drew.size (.cells #[.int .i64 q0, .int .i64 p1, .int .i64 q0, .int .i64 q1] 44)).grown HG5.out (size_at8 hzw rfl _) (fun q hq => (World.ownsRow.lt HEd.out q hq).1))
                  go_wp2_with fail
                  exact ⟨⟨j + 1, by omega, by go_num, HS2, HP2, HB2⟩, by simp [intOf]; omega⟩
            · obtain rfl : j = 1 := by omega
              have HS2 : Hid (ERow wr w.heap.size u3 (edgesS (l.take (r + 1)))) := Lib.hid (by have h := HEr.out; rw [List.take_of_length_le (l := pts) (by rw [HPL.out]; omega), ← HPT.out] at h; rw [HT.out, edgesS_push]; exact h)
              go_wp2_with fail
              exact ⟨⟨r + 1, by omega, by go_num, HS2, HBr⟩, by simp [intOf]; omega⟩
      | true =>
        · obtain ⟨d0, d1, d2, d3, d4, d5, d6⟩ := S7_blk HB1.out
          have hE : ws.cell? ⟨wo.heap.size, 0, none⟩ = some (.int .i64 s0) ∧ ws.cell? ⟨wo.heap.size, 1, none⟩ = some (.int .i64 s1) ∧ ws.cell? ⟨wo.heap.size, 2, none⟩ = some (.int .i64 s2) ∧ ws.cell? ⟨wo.heap.size, 3, none⟩ = some (.int .i64 s3) ∧ ws.cell? ⟨wo.heap.size, 4, none⟩ = some (.int .i64 s4) ∧ ws.cell? ⟨wo.heap.size, 5, none⟩ = some (.int .i64 s5) ∧ ws.cell? ⟨wo.heap.size, 6, none⟩ = some (.bool true) ∧ Below ws.heap.size ws ws := ⟨d0, d1, d2, d3, d4, d5, d6, Below.refl _ _⟩
          have hD : ws.drew.cell? ⟨wo.heap.size, 0, none⟩ = some (.int .i64 s0) ∧ ws.drew.cell? ⟨wo.heap.size, 1, none⟩ = some (.int .i64 s1) ∧ ws.drew.cell? ⟨wo.heap.size, 2, none⟩ = some (.int .i64 s2) ∧ ws.drew.cell? ⟨wo.heap.size, 3, none⟩ = some (.int .i64 s3) ∧ ws.drew.cell? ⟨wo.heap.size, 4, none⟩ = some (.int .i64 s4) ∧ ws.drew.cell? ⟨wo.heap.size, 5, none⟩ = some (.int .i64 s5) ∧ ws.drew.cell? ⟨wo.heap.size, 6, none⟩ = some (.bool true) ∧ Below ws.heap.size ws ws.drew := ⟨d0, d1, d2, d3, d4, d5, d6, (Below.refl _ _).drew⟩
          obtain ⟨x0, hx0⟩ : ∃ x, onX 0 s0 s2 s4 = x := ⟨_, rfl⟩
          obtain ⟨y0, hy0⟩ : ∃ x, onX 0 s1 s3 s5 = x := ⟨_, rfl⟩
          obtain ⟨x1, hx1⟩ : ∃ x, onX 1 s0 s2 s4 = x := ⟨_, rfl⟩
          obtain ⟨y1, hy1⟩ : ∃ x, onX 1 s1 s3 s5 = x := ⟨_, rfl⟩
          obtain ⟨x2, hx2⟩ : ∃ x, onX 2 s0 s2 s4 = x := ⟨_, rfl⟩
          obtain ⟨y2, hy2⟩ : ∃ x, onX 2 s1 s3 s5 = x := ⟨_, rfl⟩
          obtain ⟨x3, hx3⟩ : ∃ x, onX 3 s0 s2 s4 = x := ⟨_, rfl⟩
          obtain ⟨y3, hy3⟩ : ∃ x, onX 3 s1 s3 s5 = x := ⟨_, rfl⟩
          obtain ⟨x4, hx4⟩ : ∃ x, onX 4 s0 s2 s4 = x := ⟨_, rfl⟩
          obtain ⟨y4, hy4⟩ : ∃ x, onX 4 s1 s3 s5 = x := ⟨_, rfl⟩
          have HL0 := Lib.hid (fun w => lon_at s0 s1 s2 s3 s4 s5 true 0 0 rfl (by omega) HIS.out x0 y0 hx0 hy0 w)
          have HL1 := Lib.hid (fun w => lon_at s0 s1 s2 s3 s4 s5 true 1 1 rfl (by omega) HIS.out x1 y1 hx1 hy1 w)
          have HL2 := Lib.hid (fun w => lon_at s0 s1 s2 s3 s4 s5 true 2 2 rfl (by omega) HIS.out x2 y2 hx2 hy2 w)
          have HL3 := Lib.hid (fun w => lon_at s0 s1 s2 s3 s4 s5 true 3 3 rfl (by omega) HIS.out x3 y3 hx3 hy3 w)
          have HL4 := Lib.hid (fun w => lon_at s0 s1 s2 s3 s4 s5 true 4 4 rfl (by omega) HIS.out x4 y4 hx4 hy4 w)
          have HPT : Hid (ptsOf ⟨⟨s0, s1⟩, ⟨s2, s3⟩, ⟨s4, s5⟩, true⟩ = [⟨x0, y0⟩, ⟨x1, y1⟩, ⟨x2, y2⟩, ⟨x3, y3⟩, ⟨x4, y4⟩]) := Lib.hid (by subst hx0 hy0 hx1 hy1 hx2 hy2 hx3 hy3 hx4 hy4; rfl)
          clear hx0 hy0 hx1 hy1 hx2 hy2 hx3 hy3 hx4 hy4 d0 d1 d2 d3 d4 d5 d6
          go_cut [6] (fun s6 wx => ∃ g : Nat, s6 = .slice (some ⟨g, 0, none⟩) 2 2 ∧ ws.heap.size ≤ g ∧ Hid (Blk wx g 23 [.int .i64 x0, .int .i64 y0, .int .i64 x4, .int .i64 y4]) ∧ (wx.cell? ⟨wo.heap.size, 0, none⟩ = some (.int .i64 s0) ∧ wx.cell? ⟨wo.heap.size, 1, none⟩ = some (.int .i64 s1) ∧ wx.cell? ⟨wo.heap.size, 2, none⟩ = some (.int .i64 s2) ∧ wx.cell? ⟨wo.heap.size, 3, none⟩ = some (.int .i64 s3) ∧ wx.cell? ⟨wo.heap.size, 4, none⟩ = some (.int .i64 s4) ∧ wx.cell? ⟨wo.heap.size, 5, none⟩ = some (.int .i64 s5) ∧ wx.cell? ⟨wo.heap.size, 6, none⟩ = some (.bool true) ∧ Below ws.heap.size ws wx))
          case first =>
            go_region_held3 (fun wx => wx.cell? ⟨wo.heap.size, 0, none⟩ = some (.int .i64 s0) ∧ wx.cell? ⟨wo.heap.size, 1, none⟩ = some (.int .i64 s1) ∧ wx.cell? ⟨wo.heap.size, 2, none⟩ = some (.int .i64 s2) ∧ wx.cell? ⟨wo.heap.size, 3, none⟩ = some (.int .i64 s3) ∧ wx.cell? ⟨wo.heap.size, 4, none⟩ = some (.int .i64 s4) ∧ wx.cell? ⟨wo.heap.size, 5, none⟩ = some (.int .i64 s5) ∧ wx.cell? ⟨wo.heap.size, 6, none⟩ = some (.bool true) ∧ Below ws.heap.size ws wx)
              ((repeat (first | with_reducible assumption | with_reducible refine S7_alloc _ ?_ | with_reducible refine S7_drew ?_)))
              (first
              | (have hprev := hS0; clear hprev; go_at_call 11; (with_reducible refine (HL4.out _).mono ?_); rintro e v4 ⟨rfl, hb⟩; have hS4 : v4.cell? ⟨wo.heap.size, 0, none⟩ = some (.int .i64 s0) ∧ v4.cell? ⟨wo.heap.size, 1, none⟩ = some (.int .i64 s1) ∧ v4.cell? ⟨wo.heap.size, 2, none⟩ = some (.int .i64 s2) ∧ v4.cell? ⟨wo.heap.size, 3, none⟩ = some (.int .i64 s3) ∧ v4.cell? ⟨wo.heap.size, 4, none⟩ = some (.int .i64 s4) ∧ v4.cell? ⟨wo.heap.size, 5, none⟩ = some (.int .i64 s5) ∧ v4.cell? ⟨wo.heap.size, 6, none⟩ = some (.bool true) ∧ Below ws.heap.size ws v4 := S7_call hb (by (repeat (first | with_reducible assumption | with_reducible refine S7_alloc _ ?_ | with_reducible refine S7_drew ?_))))
              | (go_at_call 11; (with_reducible refine (HL0.out _).mono ?_); rintro e v0 ⟨rfl, hb⟩; have hS0 : v0.cell? ⟨wo.heap.size, 0, none⟩ = some (.int .i64 s0) ∧ v0.cell? ⟨wo.heap.size, 1, none⟩ = some (.int .i64 s1) ∧ v0.cell? ⟨wo.heap.size, 2, none⟩ = some (.int .i64 s2) ∧ v0.cell? ⟨wo.heap.size, 3, none⟩ = some (.int .i64 s3) ∧ v0.cell? ⟨wo.heap.size, 4, none⟩ = some (.int .i64 s4) ∧ v0.cell? ⟨wo.heap.size, 5, none⟩ = some (.int .i64 s5) ∧ v0.cell? ⟨wo.heap.size, 6, none⟩ = some (.bool true) ∧ Below ws.heap.size ws v0 := S7_call hb (by (repeat (first | with_reducible assumption | with_reducible refine S7_alloc _ ?_ | with_reducible refine S7_drew ?_))))
              | fail)
            have hz := hS4.2.2.2.2.2.2.2.size
            go_wp2_with fail
            go_meet
            exact ⟨_, rfl, hz, Lib.hid (Blk.new v4 23 [.int .i64 x0, .int .i64 y0, .int .i64 x4, .int .i64 y4] rfl), S7_alloc _ hS4⟩
          case rest =>
          obtain ⟨g, rfl, hg, HG, hSc⟩ := hcut
          obtain ⟨d0, d1, d2, d3, d4, d5, d6, hBc⟩ := hSc
          have hDc : wc.drew.cell? ⟨wo.heap.size, 0, none⟩ = some (.int .i64 s0) ∧ wc.drew.cell? ⟨wo.heap.size, 1, none⟩ = some (.int .i64 s1) ∧ wc.drew.cell? ⟨wo.heap.size, 2, none⟩ = some (.int .i64 s2) ∧ wc.drew.cell? ⟨wo.heap.size, 3, none⟩ = some (.int .i64 s3) ∧ wc.drew.cell? ⟨wo.heap.size, 4, none⟩ = some (.int .i64 s4) ∧ wc.drew.cell? ⟨wo.heap.size, 5, none⟩ = some (.int .i64 s5) ∧ wc.drew.cell? ⟨wo.heap.size, 6, none⟩ = some (.bool true) ∧ Below ws.heap.size ws wc.drew := ⟨d0, d1, d2, d3, d4, d5, d6, hBc.drew⟩
          have hEc : wc.cell? ⟨wo.heap.size, 0, none⟩ = some (.int .i64 s0) ∧ wc.cell? ⟨wo.heap.size, 1, none⟩ = some (.int .i64 s1) ∧ wc.cell? ⟨wo.heap.size, 2, none⟩ = some (.int .i64 s2) ∧ wc.cell? ⟨wo.heap.size, 3, none⟩ = some (.int .i64 s3) ∧ wc.cell? ⟨wo.heap.size, 4, none⟩ = some (.int .i64 s4) ∧ wc.cell? ⟨wo.heap.size, 5, none⟩ = some (.int .i64 s5) ∧ wc.cell? ⟨wo.heap.size, 6, none⟩ = some (.bool true) ∧ Below ws.heap.size ws wc := ⟨d0, d1, d2, d3, d4, d5, d6, hBc⟩
          clear HG hg
          go_wp2_with fail
          clear d0 d1 d2 d3 d4 d5 d6 hBc hD hE
          go_cut [6] (fun s6 wx => ∃ g : Nat, s6 = .slice (some ⟨g, 0, none⟩) 5 5 ∧ ws.heap.size ≤ g ∧ Hid (Blk wx g 23 [.int .i64 x0, .int .i64 y0, .int .i64 x1, .int .i64 y1, .int .i64 x2, .int .i64 y2, .int .i64 x3, .int .i64 y3, .int .i64 x4, .int .i64 y4]) ∧ (wx.cell? ⟨wo.heap.size, 0, none⟩ = some (.int .i64 s0) ∧ wx.cell? ⟨wo.heap.size, 1, none⟩ = some (.int .i64 s1) ∧ wx.cell? ⟨wo.heap.size, 2, none⟩ = some (.int .i64 s2) ∧ wx.cell? ⟨wo.heap.size, 3, none⟩ = some (.int .i64 s3) ∧ wx.cell? ⟨wo.heap.size, 4, none⟩ = some (.int .i64 s4) ∧ wx.cell? ⟨wo.heap.size, 5, none⟩ = some (.int .i64 s5) ∧ wx.cell? ⟨wo.heap.size, 6, none⟩ = some (.bool true) ∧ Below ws.heap.size ws wx))
          case first =>
            go_region_held3 (fun wx => wx.cell? ⟨wo.heap.size, 0, none⟩ = some (.int .i64 s0) ∧ wx.cell? ⟨wo.heap.size, 1, none⟩ = some (.int .i64 s1) ∧ wx.cell? ⟨wo.heap.size, 2, none⟩ = some (.int .i64 s2) ∧ wx.cell? ⟨wo.heap.size, 3, none⟩ = some (.int .i64 s3) ∧ wx.cell? ⟨wo.heap.size, 4, none⟩ = some (.int .i64 s4) ∧ wx.cell? ⟨wo.heap.size, 5, none⟩ = some (.int .i64 s5) ∧ wx.cell? ⟨wo.heap.size, 6, none⟩ = some (.bool true) ∧ Below ws.heap.size ws wx)
              ((repeat (first | with_reducible assumption | with_reducible refine S7_alloc _ ?_ | with_reducible refine S7_drew ?_)))
              (first
              | (have hprev := hS3; clear hprev; go_at_call 11; (with_reducible refine (HL4.out _).mono ?_); rintro e v4 ⟨rfl, hb⟩; have hS4 : v4.cell? ⟨wo.heap.size, 0, none⟩ = some (.int .i64 s0) ∧ v4.cell? ⟨wo.heap.size, 1, none⟩ = some (.int .i64 s1) ∧ v4.cell? ⟨wo.heap.size, 2, none⟩ = some (.int .i64 s2) ∧ v4.cell? ⟨wo.heap.size, 3, none⟩ = some (.int .i64 s3) ∧ v4.cell? ⟨wo.heap.size, 4, none⟩ = some (.int .i64 s4) ∧ v4.cell? ⟨wo.heap.size, 5, none⟩ = some (.int .i64 s5) ∧ v4.cell? ⟨wo.heap.size, 6, none⟩ = some (.bool true) ∧ Below ws.heap.size ws v4 := S7_call hb (by (repeat (first | with_reducible assumption | with_reducible refine S7_alloc _ ?_ | with_reducible refine S7_drew ?_))))
              | (have hprev := hS2; clear hprev; go_at_call 11; (with_reducible refine (HL3.out _).mono ?_); rintro e v3 ⟨rfl, hb⟩; have hS3 : v3.cell? ⟨wo.heap.size, 0, none⟩ = some (.int .i64 s0) ∧ v3.cell? ⟨wo.heap.size, 1, none⟩ = some (.int .i64 s1) ∧ v3.cell? ⟨wo.heap.size, 2, none⟩ = some (.int .i64 s2) ∧ v3.cell? ⟨wo.heap.size, 3, none⟩ = some (.int .i64 s3) ∧ v3.cell? ⟨wo.heap.size, 4, none⟩ = some (.int .i64 s4) ∧ v3.cell? ⟨wo.heap.size, 5, none⟩ = some (.int .i64 s5) ∧ v3.cell? ⟨wo.heap.size, 6, none⟩ = some (.bool true) ∧ Below ws.heap.size ws v3 := S7_call hb (by (repeat (first | with_reducible assumption | with_reducible refine S7_alloc _ ?_ | with_reducible refine S7_drew ?_))))
              | (have hprev := hS1; clear hprev; go_at_call 11; (with_reducible refine (HL2.out _).mono ?_); rintro e v2 ⟨rfl, hb⟩; have hS2 : v2.cell? ⟨wo.heap.size, 0, none⟩ = some (.int .i64 s0) ∧ v2.cell? ⟨wo.heap.size, 1, none⟩ = some (.int .i64 s1) ∧ v2.cell? ⟨wo.heap.size, 2, none⟩ = some (.int .i64 s2) ∧ v2.cell? ⟨wo.heap.size, 3, none⟩ = some (.int .i64 s3) ∧ v2.cell? ⟨wo.heap.size, 4, none⟩ = some (.int .i64 s4) ∧ v2.cell? ⟨wo.heap.size, 5, none⟩ = some (.int .i64 s5) ∧ v2.cell? ⟨wo.heap.size, 6, none⟩ = some (.bool true) ∧ Below ws.heap.size ws v2 := S7_call hb (by (repeat (first | with_reducible assumption | with_reducible refine S7_alloc _ ?_ | with_reducible refine S7_drew ?_))))
              | (have hprev := hS0; clear hprev; go_at_call 11; (with_reducible refine (HL1.out _).mono ?_); rintro e v1 ⟨rfl, hb⟩; have hS1 : v1.cell? ⟨wo.heap.size, 0, none⟩ = some (.int .i64 s0) ∧ v1.cell? ⟨wo.heap.size, 1, none⟩ = some (.int .i64 s1) ∧ v1.cell? ⟨wo.heap.size, 2, none⟩ = some (.int .i64 s2) ∧ v1.cell? ⟨wo.heap.size, 3, none⟩ = some (.int .i64 s3) ∧ v1.cell? ⟨wo.heap.size, 4, none⟩ = some (.int .i64 s4) ∧ v1.cell? ⟨wo.heap.size, 5, none⟩ = some (.int .i64 s5) ∧ v1.cell? ⟨wo.heap.size, 6, none⟩ = some (.bool true) ∧ Below ws.heap.size ws v1 := S7_call hb (by (repeat (first | with_reducible assumption | with_reducible refine S7_alloc _ ?_ | with_reducible refine S7_drew ?_))))
              | (go_at_call 11; (with_reducible refine (HL0.out _).mono ?_); rintro e v0 ⟨rfl, hb⟩; have hS0 : v0.cell? ⟨wo.heap.size, 0, none⟩ = some (.int .i64 s0) ∧ v0.cell? ⟨wo.heap.size, 1, none⟩ = some (.int .i64 s1) ∧ v0.cell? ⟨wo.heap.size, 2, none⟩ = some (.int .i64 s2) ∧ v0.cell? ⟨wo.heap.size, 3, none⟩ = some (.int .i64 s3) ∧ v0.cell? ⟨wo.heap.size, 4, none⟩ = some (.int .i64 s4) ∧ v0.cell? ⟨wo.heap.size, 5, none⟩ = some (.int .i64 s5) ∧ v0.cell? ⟨wo.heap.size, 6, none⟩ = some (.bool true) ∧ Below ws.heap.size ws v0 := S7_call hb (by (repeat (first | with_reducible assumption | with_reducible refine S7_alloc _ ?_ | with_reducible refine S7_drew ?_))))
              | fail)
            have hz := hS4.2.2.2.2.2.2.2.size
            go_wp2_with fail
            go_meet
            exact ⟨_, rfl, hz, Lib.hid (Blk.new v4 23 [.int .i64 x0, .int .i64 y0, .int .i64 x1, .int .i64 y1, .int .i64 x2, .int .i64 y2, .int .i64 x3, .int .i64 y3, .int .i64 x4, .int .i64 y4] rfl), S7_alloc _ hS4⟩
          case rest =>
          obtain ⟨g, rfl, hg, HG, hSc⟩ := hcut
          clear hDc hEc
          have HBc := Lib.hid (HW0.out.trans (hSc.2.2.2.2.2.2.2.mono HW0.out.size))
          have HEc := Lib.hid (ERow.below HE0.out (Below.mono hSc.2.2.2.2.2.2.2 (Nat.le_refl _)))
          obtain ⟨d0, d1, d2, d3, d4, d5, d6, -⟩ := hSc
          have HPB : Hid (Blk wc g 23 (pcells [⟨x0, y0⟩, ⟨x1, y1⟩, ⟨x2, y2⟩, ⟨x3, y3⟩, ⟨x4, y4⟩])) := HG
          clear HG
          go_wp2_with fail
          obtain ⟨i0, hi0, hz0, hz1, hz2⟩ := infos einfo
          obtain ⟨pts, hpts⟩ : ∃ pts : List Pt, [⟨x0, y0⟩, ⟨x1, y1⟩, ⟨x2, y2⟩, ⟨x3, y3⟩, ⟨x4, y4⟩] = pts := ⟨_, rfl⟩
          rw [hpts] at HPB HPT
          have HPL : Hid (pts.length = 5) := Lib.hid (by rw [← hpts]; rfl)
          have HC0 : Hid (ERow wc w.heap.size u3 (edgesS (l.take r) ++ chain (pts.take (0 + 1)))) := Lib.hid (by rw [← hpts]; simpa [chain] using HEc.out)
          clear hpts
          go_loopw [7, 3] (fun i u wr => ∃ j : Nat, j + 1 ≤ 5 ∧ i = .int .i64 ((j : Int) + 1) ∧ Hid (ERow wr w.heap.size u (edgesS (l.take r) ++ chain (pts.take (j + 1)))) ∧ Hid (Blk wr g 23 (pcells pts)) ∧ Hid (Below w.heap.size w wr)) (fun i _ _ => 5 - (intOf i).toNat)
          case atStart => exact ⟨0, by omega, rfl, HC0, HPB, HBc⟩
          case round =>
            obtain ⟨j, hj, rfl, HEr, HPr, HBr⟩ := hrel
            clear HC0 HPB HBc HEc
            by_cases hjM : j + 1 < 5
            · have hjb : decide ((j : Int) + 1 < 5) = true := by simp; omega
              obtain ⟨p, hp⟩ : ∃ p, pts[j]? = some p := ⟨_, List.getElem?_eq_getElem (by rw [HPL.out]; omega)⟩
              obtain ⟨q, hq⟩ : ∃ p, pts[j + 1]? = some p := ⟨_, List.getElem?_eq_getElem (by rw [HPL.out]; omega)⟩
              have HCT := Lib.hid (chain_take pts j p q hp hq)
              have e0 := HPr.out.cell (j * 2) (pcells_at pts j 0 p hp (by omega))
              have e1 := HPr.out.cell (j * 2 + 1) (pcells_at pts j 1 p hp (by omega))
              have e2 := HPr.out.cell ((j + 1) * 2) (pcells_at pts (j + 1) 0 q hq (by omega))
              have e3 := HPr.out.cell ((j + 1) * 2 + 1) (pcells_at pts (j + 1) 1 q hq (by omega))
              have ez := HPr.out.lt
              have hI1 : (j : Int) + 1 < 5 := by omega
              have hI2 : (j : Int) < 5 := by omega
              have hI3 : (0 : Int) ≤ (j : Int) + 1 := by omega
              have hI4 : (0 : Int) ≤ j := by omega
              have hI5 : ((j : Int) + 1).toNat = j + 1 := by omega
              obtain ⟨p0, p1⟩ := p
              obtain ⟨q0, q1⟩ := q
              simp only [] at e0 e1 e2 e3
              obtain ⟨N3, hN3⟩ : ∃ N3, (edgesS (l.take r) ++ chain (pts.take (j + 1))).length = N3 := ⟨_, rfl⟩
              obtain ⟨A3, cap3, hu3⟩ := HEr.out.form
              rw [hN3] at hu3
              subst hu3
              have HN3 := Lib.hid hN3
              clear hp hq hN3
              have hjw : IntKind.i64.wrap (j : Int) = j := by rw [IntKind.wrap_i64]; omega
              have hcase : (p0 = q0 ∧ p1 = q1) ∨ q0 ≠ p0 ∨ (q0 = p0 ∧ q1 ≠ p1) := by omega
              rcases hcase with ⟨rfl, rfl⟩ | h | ⟨rfl, h⟩
              · have HS : Hid (ERow wr w.heap.size (.slice A3 N3 cap3) (edgesS (l.take r) ++ chain (pts.take (j + 1 + 1)))) := Lib.hid (by have h := HCT.out; rw [show edge ⟨p0, p1⟩ ⟨p0, p1⟩ = [] by unfold edge; rw [if_pos rfl], List.append_nil] at h; rw [h]; exact HEr.out)
                go_wp2_with fail
                go_region
                have HS2 := Lib.hid (HS.out.below ((Below.refl _ wr).drew))
                have HP2 := Lib.hid HPr.out.drew
                have HB2 := Lib.hid HBr.out.drew
                go_wp2_with fail
                exact ⟨⟨j + 1, by omega, by go_num, HS2, HP2, HB2⟩, by simp [intOf]; omega⟩
              · have hb1 : (q0 == p0) = false := by simpa using h
                go_wp2_with fail
                go_region
                have f0 : wr.drew.cell? ⟨g, j * 2, none⟩ = some (.int .i64 p0) := e0
                have f1 : wr.drew.cell? ⟨g, j * 2 + 1, none⟩ = some (.int .i64 p1) := e1
                have f2 : wr.drew.cell? ⟨g, (j + 1) * 2, none⟩ = some (.int .i64 q0) := e2
                have f3 : wr.drew.cell? ⟨g, (j + 1) * 2 + 1, none⟩ = some (.int .i64 q1) := e3
                have fz : g < wr.drew.heap.size := ez
                have HEd := Lib.hid (HEr.out.below ((Below.refl _ wr).drew))
                have HPd := Lib.hid HPr.out.drew
                have HBd := Lib.hid HBr.out.drew
                obtain ⟨wd, hwd⟩ : ∃ x, x = wr.drew := ⟨_, rfl⟩
                rw [← hwd] at f0 f1 f2 f3 fz HEd HPd HBd ⊢
                have HAP := Lib.hid (ERow.apart HEd.out HPd.out (by decide))
                have hzw := HBd.out.size
                have hN3b : N3 ≤ 16005 := by rw [← HN3.out, List.length_append]; have h1 := HL.out; have h2 := chain_len (pts.take (j + 1)); rw [List.length_take] at h2; omega
                clear hwd e0 e1 e2 e3 ez HEr HPr HBr
                go_wp2_with fail
                go_region_law (first
                  | (refine step_append_lies _ ?_ (.tmp 48) (.tmp 59) 33 ?_ w.heap.size 44 i0 _ 4 32 Try.underlying33 hi0 hz0 hz1 hz2 ?_ ?_ (.slice A3 N3 cap3) N3 (ecells (edgesS (l.take r) ++ chain (pts.take (j + 1)))) ?_ ?_ ⟨wd.heap.size, 0, none⟩ 1 1 [.int .i64 p0, .int .i64 p1, .int .i64 q0, .int .i64 q1] ?_ ?_ ?_ ?_ ?_ ?_ ?_ ?_ _ rfl ?_
                     rfl
                     rfl
                     rfl
                     omega
                     kernel_rfl
                     exact ERow.own (ERow.alloc (w := wd.drew) (ERow.below HEd.out ((Below.refl _ wd).drew)) _) HN3.out
                     kernel_rfl
                     rfl
                     exact World.news_of_block (heap_at8 rfl _)
                     (simp [Value.oneCell'])
                     omega
                     (unfold maxLen; omega)
                     omega
                     exact size_at8 hzw rfl _
                     intro g5 cap5 w5 hown5 hgrow5 hat5 hlt5
                     have HO5 := Lib.hid hown5
                     have HG5 := Lib.hid hgrow5
                     clear hown5 hgrow5 hat5 hlt5))
                all_goals
                  have HS2 : Hid (ERow w5 w.heap.size (.slice (some ⟨g5, 0, none⟩) (N3 + 1) cap5) (edgesS (l.take r) ++ chain (pts.take (j + 1 + 1)))) := Lib.hid (by
                    rw [HCT.out, show edge ⟨p0, p1⟩ ⟨q0, q1⟩ = [⟨⟨p0, p1⟩, ⟨q0, q1⟩⟩] by unfold edge; rw [if_neg (by intro e; injection e with e1 e2; first | exact h e1.symm | exact h e2.symm)], ← List.append_assoc]
                    exact ERow.push8 HN3.out HO5.out)
                  have HP2 := Lib.hid ((HPd.out.drew.alloc (.cells #[.int .i64 p0, .int .i64 p1, .int .i64 q0, .int .i64 q1] 44)).grown HG5.out (fun e => HAP.out e.symm))
                  have HB2 := Lib.hid (((HBd.out.drew).alloc HBd.out.drew.size (.cells #[.int .i64 p0, .int .i64 p1, .int .i64 q0, .int .i64 q1] 44)).grown HG5.out (size_at8 hzw rfl _) (fun q hq => (World.ownsRow.lt HEd.out q hq).1))
                  go_wp2_with fail
                  exact ⟨⟨j + 1, by omega, by go_num, HS2, HP2, HB2⟩, by simp [intOf]; omega⟩
              · have hb1 : (q1 == p1) = false := by simpa using h
                go_wp2_with fail
                go_region
                have f0 : wr.drew.cell? ⟨g, j * 2, none⟩ = some (.int .i64 q0) := e0
                have f1 : wr.drew.cell? ⟨g, j * 2 + 1, none⟩ = some (.int .i64 p1) := e1
                have f2 : wr.drew.cell? ⟨g, (j + 1) * 2, none⟩ = some (.int .i64 q0) := e2
                have f3 : wr.drew.cell? ⟨g, (j + 1) * 2 + 1, none⟩ = some (.int .i64 q1) := e3
                have fz : g < wr.drew.heap.size := ez
                have HEd := Lib.hid (HEr.out.below ((Below.refl _ wr).drew))
                have HPd := Lib.hid HPr.out.drew
                have HBd := Lib.hid HBr.out.drew
                obtain ⟨wd, hwd⟩ : ∃ x, x = wr.drew := ⟨_, rfl⟩
                rw [← hwd] at f0 f1 f2 f3 fz HEd HPd HBd ⊢
                have HAP := Lib.hid (ERow.apart HEd.out HPd.out (by decide))
                have hzw := HBd.out.size
                have hN3b : N3 ≤ 16005 := by rw [← HN3.out, List.length_append]; have h1 := HL.out; have h2 := chain_len (pts.take (j + 1)); rw [List.length_take] at h2; omega
                clear hwd e0 e1 e2 e3 ez HEr HPr HBr
                go_wp2_with fail
                go_region_law (first
                  | (refine step_append_lies _ ?_ (.tmp 48) (.tmp 59) 33 ?_ w.heap.size 44 i0 _ 4 32 Try.underlying33 hi0 hz0 hz1 hz2 ?_ ?_ (.slice A3 N3 cap3) N3 (ecells (edgesS (l.take r) ++ chain (pts.take (j + 1)))) ?_ ?_ ⟨wd.heap.size, 0, none⟩ 1 1 [.int .i64 q0, .int .i64 p1, .int .i64 q0, .int .i64 q1] ?_ ?_ ?_ ?_ ?_ ?_ ?_ ?_ _ rfl ?_
                     rfl
                     rfl
                     rfl
                     omega
                     kernel_rfl
                     exact ERow.own (ERow.alloc (w := wd.drew) (ERow.below HEd.out ((Below.refl _ wd).drew)) _) HN3.out
                     kernel_rfl
                     rfl
                     exact World.news_of_block (heap_at8 rfl _)
                     (simp [Value.oneCell'])
                     omega
                     (unfold maxLen; omega)
                     omega
                     exact size_at8 hzw rfl _
                     intro g5 cap5 w5 hown5 hgrow5 hat5 hlt5
                     have HO5 := Lib.hid hown5
                     have HG5 := Lib.hid hgrow5
                     clear hown5 hgrow5 hat5 hlt5))
                all_goals
                  have HS2 : Hid (ERow w5 w.heap.size (.slice (some ⟨g5, 0, none⟩) (N3 + 1) cap5) (edgesS (l.take r) ++ chain (pts.take (j + 1 + 1)))) := Lib.hid (by
                    rw [HCT.out, show edge ⟨q0, p1⟩ ⟨q0, q1⟩ = [⟨⟨q0, p1⟩, ⟨q0, q1⟩⟩] by unfold edge; rw [if_neg (by intro e; injection e with e1 e2; first | exact h e1.symm | exact h e2.symm)], ← List.append_assoc]
                    exact ERow.push8 HN3.out HO5.out)
                  have HP2 := Lib.hid ((HPd.out.drew.alloc (.cells #[.int .i64 q0, .int .i64 p1, .int .i64 q0, .int .i64 q1] 44)).grown HG5.out (fun e => HAP.out e.symm))
                  have HB2 := Lib.hid (((HBd.out.drew).alloc HBd.out.drew.size (.cells #[.int .i64 q0, .int .i64 p1, .int .i64 q0, .int .i64 q1] 44)).grown HG5.out (size_at8 hzw rfl _) (fun q hq => (World.ownsRow.lt HEd.out q hq).1))
                  go_wp2_with fail
                  exact ⟨⟨j + 1, by omega, by go_num, HS2, HP2, HB2⟩, by simp [intOf]; omega⟩
            · obtain rfl : j = 4 := by omega
              have HS2 : Hid (ERow wr w.heap.size u3 (edgesS (l.take (r + 1)))) := Lib.hid (by have h := HEr.out; rw [List.take_of_length_le (l := pts) (by rw [HPL.out]; omega), ← HPT.out] at h; rw [HT.out, edgesS_push]; exact h)
              go_wp2_with fail
              exact ⟨⟨r + 1, by omega, by go_num, HS2, HBr⟩, by simp [intOf]; omega⟩
    · obtain rfl : r = n := by omega
      have HF : Hid (ERow wr w.heap.size u3 (edgesS l)) := Lib.hid (by have h := HE.out; rwa [List.take_of_length_le (by rw [HN.out]; exact Nat.le_refl _)] at h)
      clear HE
      go_wp2
      go_ret
      exact ⟨_, rfl, HF.out, HW.out⟩

end Go.Proofs.Ytnejdngeeppphaa
