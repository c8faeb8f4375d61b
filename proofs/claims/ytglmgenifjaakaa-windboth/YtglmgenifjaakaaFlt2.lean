/-
  What flat.Edges' closure does to any world: it adds an edge, if it has a length (no claim is made here).
-/
import Derived.Test.YtglmgenifjaakaaFlt1
import Derived.Test.YtglmgenifjaakaaPth3
namespace Go.Proofs.Ytglmgenifjaakaa
open Go.RowKit

theorem S7_call {w W W' : World} {k : Nat} {v0 v1 v2 v3 v4 v5 v6 : Value} (hb : Below W.heap.size W W') (hh : W.cell? ⟨k, 0, none⟩ = some v0 ∧ W.cell? ⟨k, 1, none⟩ = some v1 ∧ W.cell? ⟨k, 2, none⟩ = some v2 ∧ W.cell? ⟨k, 3, none⟩ = some v3 ∧ W.cell? ⟨k, 4, none⟩ = some v4 ∧ W.cell? ⟨k, 5, none⟩ = some v5 ∧ W.cell? ⟨k, 6, none⟩ = some v6 ∧ Below w.heap.size w W) : W'.cell? ⟨k, 0, none⟩ = some v0 ∧ W'.cell? ⟨k, 1, none⟩ = some v1 ∧ W'.cell? ⟨k, 2, none⟩ = some v2 ∧ W'.cell? ⟨k, 3, none⟩ = some v3 ∧ W'.cell? ⟨k, 4, none⟩ = some v4 ∧ W'.cell? ⟨k, 5, none⟩ = some v5 ∧ W'.cell? ⟨k, 6, none⟩ = some v6 ∧ Below w.heap.size w W' := by
  obtain ⟨h0, h1, h2, h3, h4, h5, h6, hB⟩ := hh
  exact ⟨keepc hb h0, keepc hb h1, keepc hb h2, keepc hb h3, keepc hb h4, keepc hb h5, keepc hb h6, hB.trans (hb.mono hB.size)⟩
theorem S7_alloc {w W : World} {k : Nat} {v0 v1 v2 v3 v4 v5 v6 : Value} (o : Obj) (hh : W.cell? ⟨k, 0, none⟩ = some v0 ∧ W.cell? ⟨k, 1, none⟩ = some v1 ∧ W.cell? ⟨k, 2, none⟩ = some v2 ∧ W.cell? ⟨k, 3, none⟩ = some v3 ∧ W.cell? ⟨k, 4, none⟩ = some v4 ∧ W.cell? ⟨k, 5, none⟩ = some v5 ∧ W.cell? ⟨k, 6, none⟩ = some v6 ∧ Below w.heap.size w W) : (W.alloc o).cell? ⟨k, 0, none⟩ = some v0 ∧ (W.alloc o).cell? ⟨k, 1, none⟩ = some v1 ∧ (W.alloc o).cell? ⟨k, 2, none⟩ = some v2 ∧ (W.alloc o).cell? ⟨k, 3, none⟩ = some v3 ∧ (W.alloc o).cell? ⟨k, 4, none⟩ = some v4 ∧ (W.alloc o).cell? ⟨k, 5, none⟩ = some v5 ∧ (W.alloc o).cell? ⟨k, 6, none⟩ = some v6 ∧ Below w.heap.size w (W.alloc o) := S7_call ((Below.refl _ W).alloc (Nat.le_refl _) o) hh
theorem S7_drew {w W : World} {k : Nat} {v0 v1 v2 v3 v4 v5 v6 : Value} (hh : W.cell? ⟨k, 0, none⟩ = some v0 ∧ W.cell? ⟨k, 1, none⟩ = some v1 ∧ W.cell? ⟨k, 2, none⟩ = some v2 ∧ W.cell? ⟨k, 3, none⟩ = some v3 ∧ W.cell? ⟨k, 4, none⟩ = some v4 ∧ W.cell? ⟨k, 5, none⟩ = some v5 ∧ W.cell? ⟨k, 6, none⟩ = some v6 ∧ Below w.heap.size w W) : W.drew.cell? ⟨k, 0, none⟩ = some v0 ∧ W.drew.cell? ⟨k, 1, none⟩ = some v1 ∧ W.drew.cell? ⟨k, 2, none⟩ = some v2 ∧ W.drew.cell? ⟨k, 3, none⟩ = some v3 ∧ W.drew.cell? ⟨k, 4, none⟩ = some v4 ∧ W.drew.cell? ⟨k, 5, none⟩ = some v5 ∧ W.drew.cell? ⟨k, 6, none⟩ = some v6 ∧ Below w.heap.size w W.drew := by
  obtain ⟨h0, h1, h2, h3, h4, h5, h6, hB⟩ := hh
  exact ⟨h0, h1, h2, h3, h4, h5, h6, hB.drew⟩
theorem S7_set {w W : World} {k r i : Nat} {v0 v1 v2 v3 v4 v5 v6 : Value} (v : Value) (n0 : ¬ k = r) (hg : w.heap.size ≤ r) (hh : W.cell? ⟨k, 0, none⟩ = some v0 ∧ W.cell? ⟨k, 1, none⟩ = some v1 ∧ W.cell? ⟨k, 2, none⟩ = some v2 ∧ W.cell? ⟨k, 3, none⟩ = some v3 ∧ W.cell? ⟨k, 4, none⟩ = some v4 ∧ W.cell? ⟨k, 5, none⟩ = some v5 ∧ W.cell? ⟨k, 6, none⟩ = some v6 ∧ Below w.heap.size w W) : (W.setCell ⟨r, i, none⟩ v).cell? ⟨k, 0, none⟩ = some v0 ∧ (W.setCell ⟨r, i, none⟩ v).cell? ⟨k, 1, none⟩ = some v1 ∧ (W.setCell ⟨r, i, none⟩ v).cell? ⟨k, 2, none⟩ = some v2 ∧ (W.setCell ⟨r, i, none⟩ v).cell? ⟨k, 3, none⟩ = some v3 ∧ (W.setCell ⟨r, i, none⟩ v).cell? ⟨k, 4, none⟩ = some v4 ∧ (W.setCell ⟨r, i, none⟩ v).cell? ⟨k, 5, none⟩ = some v5 ∧ (W.setCell ⟨r, i, none⟩ v).cell? ⟨k, 6, none⟩ = some v6 ∧ Below w.heap.size w (W.setCell ⟨r, i, none⟩ v) := by
  obtain ⟨h0, h1, h2, h3, h4, h5, h6, hB⟩ := hh
  have e : ∀ j, (W.setCell ⟨r, i, none⟩ v).cell? ⟨k, j, none⟩ = W.cell? ⟨k, j, none⟩ := fun j => World.cell?_setCell_other _ _ _ _ (by intro h; simp only [Addr.mk.injEq] at h; omega)
  exact ⟨(e 0).trans h0, (e 1).trans h1, (e 2).trans h2, (e 3).trans h3, (e 4).trans h4, (e 5).trans h5, (e 6).trans h6, hB.setCell hg v⟩
theorem S7_blk {W : World} {k : Nat} {t : TypeId} {v0 v1 v2 v3 v4 v5 v6 : Value} (h : Blk W k t [v0, v1, v2, v3, v4, v5, v6]) : W.cell? ⟨k, 0, none⟩ = some v0 ∧ W.cell? ⟨k, 1, none⟩ = some v1 ∧ W.cell? ⟨k, 2, none⟩ = some v2 ∧ W.cell? ⟨k, 3, none⟩ = some v3 ∧ W.cell? ⟨k, 4, none⟩ = some v4 ∧ W.cell? ⟨k, 5, none⟩ = some v5 ∧ W.cell? ⟨k, 6, none⟩ = some v6 := ⟨h.cell 0 rfl, h.cell 1 rfl, h.cell 2 rfl, h.cell 3 rfl, h.cell 4 rfl, h.cell 5 rfl, h.cell 6 rfl⟩

theorem enew4 {W : World} {g : Nat} {a b c d : Value} {t : TypeId} (h : g = W.heap.size) : Blk (W.alloc (.cells #[a, b, c, d] t)) g t [a, b, c, d] := Blk.new W t [a, b, c, d] h
theorem eset4 {W : World} {g : Nat} {x y z u a b c d : Value} {t : TypeId} (h : Blk W g t [x, y, z, u]) : Blk ((((W.setCell ⟨g, 0, none⟩ a).setCell ⟨g, 1, none⟩ b).setCell ⟨g, 2, none⟩ c).setCell ⟨g, 3, none⟩ d) g t [a, b, c, d] := (((h.set 0 a).set 1 b).set 2 c).set 3 d

/-- What the closure leaves. -/
def Lead (w : World) (gs base : Nat) (v : Value) (l : List Ed) (p q : Pt) (e : Ending) (w' : World) : Prop :=
  e = .returned (.tuple #[]) ∧ (∃ v', Blk w' gs 28 [v'] ∧ ERow w' base v' (l ++ edge p q)) ∧ But (fun k => k = gs ∨ v.ownBlock = some k) w w'

set_option maxHeartbeats 1600000 in
theorem lead_any (ax ay bx by' cx cy : Int) (cv : Bool) (i j : Nat) (hi : i ≤ 4) (hj : j ≤ 4) (hin : inS ⟨⟨ax, ay⟩, ⟨bx, by'⟩, ⟨cx, cy⟩, cv⟩) (gs base : Nat) (v : Value) (l : List Ed) (w : World) (hs : Blk w gs 28 [v]) (hv : ERow w base v l)
    (h2 : gs < base) (hl : l.length ≤ 20000) (hbase : base ≤ w.heap.size) :
    Calls Try.prog 33 #[.agg #[.int .i64 ax, .int .i64 ay, .int .i64 bx, .int .i64 by', .int .i64 cx, .int .i64 cy, .bool cv], .int .i64 i, .int .i64 j, .pointer (some ⟨gs, 0, none⟩)] w (Lead w gs base v l (onV ⟨⟨ax, ay⟩, ⟨bx, by'⟩, ⟨cx, cy⟩, cv⟩ i) (onV ⟨⟨ax, ay⟩, ⟨bx, by'⟩, ⟨cx, cy⟩, cv⟩ j)) := by
  have HS := Lib.hid hs
  have HV := Lib.hid hv
  have HP := Lib.hid (fun w => pon_any ax ay bx by' cx cy cv i hi hin w)
  have HQ := Lib.hid (fun w => pon_any ax ay bx by' cx cy cv j hj hin w)
  have hP : onV ⟨⟨ax, ay⟩, ⟨bx, by'⟩, ⟨cx, cy⟩, cv⟩ i = ⟨onX i ax bx cx, onX i ay by' cy⟩ := rfl
  have hQ : onV ⟨⟨ax, ay⟩, ⟨bx, by'⟩, ⟨cx, cy⟩, cv⟩ j = ⟨onX j ax bx cx, onX j ay by' cy⟩ := rfl
  rw [hP, hQ]
  clear hP hQ
  generalize onX i ax bx cx = px at *
  generalize onX i ay by' cy = py at *
  generalize onX j ax bx cx = qx at *
  generalize onX j ay by' cy = qy at *
  have HB1 := Lib.hid (Blk.new w 70 [.int .i64 ax, .int .i64 ay, .int .i64 bx, .int .i64 by', .int .i64 cx, .int .i64 cy, .bool cv] rfl)
  have hS0 := S7_blk HB1.out
  have s0 := hs.lt
  clear hs hv hin
  go_enter Try.func33, Try.ntmps33
  go_wp2_with fail
  obtain ⟨ws, hws⟩ : ∃ ws, ws = w.alloc (.cells #[.int .i64 ax, .int .i64 ay, .int .i64 bx, .int .i64 by', .int .i64 cx, .int .i64 cy, .bool cv] 70) := ⟨_, rfl⟩
  have hsz : w.heap.size < ws.heap.size := by rw [hws]; simp
  have B0 : Below w.heap.size w ws := by rw [hws]; exact (Below.refl _ w).alloc (Nat.le_refl _) _
  rw [← hws] at HB1 hS0 ⊢
  have HWS := Lib.hid hws
  clear hws
  have hD : ws.drew.cell? ⟨w.heap.size, 0, none⟩ = some (.int .i64 ax) ∧ ws.drew.cell? ⟨w.heap.size, 1, none⟩ = some (.int .i64 ay) ∧ ws.drew.cell? ⟨w.heap.size, 2, none⟩ = some (.int .i64 bx) ∧ ws.drew.cell? ⟨w.heap.size, 3, none⟩ = some (.int .i64 by') ∧ ws.drew.cell? ⟨w.heap.size, 4, none⟩ = some (.int .i64 cx) ∧ ws.drew.cell? ⟨w.heap.size, 5, none⟩ = some (.int .i64 cy) ∧ ws.drew.cell? ⟨w.heap.size, 6, none⟩ = some (.bool cv) ∧ Below ws.heap.size ws ws.drew := ⟨hS0.1, hS0.2.1, hS0.2.2.1, hS0.2.2.2.1, hS0.2.2.2.2.1, hS0.2.2.2.2.2.1, hS0.2.2.2.2.2.2, (Below.refl _ _).drew⟩
  have hE : ws.cell? ⟨w.heap.size, 0, none⟩ = some (.int .i64 ax) ∧ ws.cell? ⟨w.heap.size, 1, none⟩ = some (.int .i64 ay) ∧ ws.cell? ⟨w.heap.size, 2, none⟩ = some (.int .i64 bx) ∧ ws.cell? ⟨w.heap.size, 3, none⟩ = some (.int .i64 by') ∧ ws.cell? ⟨w.heap.size, 4, none⟩ = some (.int .i64 cx) ∧ ws.cell? ⟨w.heap.size, 5, none⟩ = some (.int .i64 cy) ∧ ws.cell? ⟨w.heap.size, 6, none⟩ = some (.bool cv) ∧ Below ws.heap.size ws ws := ⟨hS0.1, hS0.2.1, hS0.2.2.1, hS0.2.2.2.1, hS0.2.2.2.2.1, hS0.2.2.2.2.2.1, hS0.2.2.2.2.2.2, Below.refl _ _⟩
  go_cut [7] (fun s7 wx => ∃ g : Nat, s7 = .pointer (some ⟨g, 0, none⟩) ∧ Hid (Blk wx g 37 [.int .i64 px, .int .i64 py, .int .i64 qx, .int .i64 qy]) ∧ (wx.cell? ⟨w.heap.size, 0, none⟩ = some (.int .i64 ax) ∧ wx.cell? ⟨w.heap.size, 1, none⟩ = some (.int .i64 ay) ∧ wx.cell? ⟨w.heap.size, 2, none⟩ = some (.int .i64 bx) ∧ wx.cell? ⟨w.heap.size, 3, none⟩ = some (.int .i64 by') ∧ wx.cell? ⟨w.heap.size, 4, none⟩ = some (.int .i64 cx) ∧ wx.cell? ⟨w.heap.size, 5, none⟩ = some (.int .i64 cy) ∧ wx.cell? ⟨w.heap.size, 6, none⟩ = some (.bool cv) ∧ Below ws.heap.size ws wx))
  case first =>
    go_region_held3 (fun wx => wx.cell? ⟨w.heap.size, 0, none⟩ = some (.int .i64 ax) ∧ wx.cell? ⟨w.heap.size, 1, none⟩ = some (.int .i64 ay) ∧ wx.cell? ⟨w.heap.size, 2, none⟩ = some (.int .i64 bx) ∧ wx.cell? ⟨w.heap.size, 3, none⟩ = some (.int .i64 by') ∧ wx.cell? ⟨w.heap.size, 4, none⟩ = some (.int .i64 cx) ∧ wx.cell? ⟨w.heap.size, 5, none⟩ = some (.int .i64 cy) ∧ wx.cell? ⟨w.heap.size, 6, none⟩ = some (.bool cv) ∧ Below ws.heap.size ws wx)
      ((repeat (first | with_reducible assumption | with_reducible refine S7_alloc _ ?_ | with_reducible refine S7_drew ?_ | with_reducible refine S7_set _ (by omega) (by omega) ?_)))
      (first
        | (go_at_call 34; (with_reducible refine (HP.out _).mono ?_); rintro e w2 ⟨rfl, hb⟩; have hS2 : w2.cell? ⟨w.heap.size, 0, none⟩ = some (.int .i64 ax) ∧ w2.cell? ⟨w.heap.size, 1, none⟩ = some (.int .i64 ay) ∧ w2.cell? ⟨w.heap.size, 2, none⟩ = some (.int .i64 bx) ∧ w2.cell? ⟨w.heap.size, 3, none⟩ = some (.int .i64 by') ∧ w2.cell? ⟨w.heap.size, 4, none⟩ = some (.int .i64 cx) ∧ w2.cell? ⟨w.heap.size, 5, none⟩ = some (.int .i64 cy) ∧ w2.cell? ⟨w.heap.size, 6, none⟩ = some (.bool cv) ∧ Below ws.heap.size ws w2 := S7_call hb (by (repeat (first | with_reducible assumption | with_reducible refine S7_alloc _ ?_ | with_reducible refine S7_drew ?_))); have hz2 := hS2.2.2.2.2.2.2.2.size; (first | (have T : Blk w2 ws.heap.size 37 [.int .i64 0, .int .i64 0, .int .i64 0, .int .i64 0] := (by first | exact (Blk.new _ _ _ rfl).keep hb | exact (Blk.new _ _ _ rfl).drew.keep hb); have Tc0 := T.cell 0 rfl; have Tc1 := T.cell 1 rfl; have Tc2 := T.cell 2 rfl; have Tc3 := T.cell 3 rfl; have Tf0 := T.frozen 0; have Tf1 := T.frozen 1; have Tf2 := T.frozen 2; have Tf3 := T.frozen 3; have Tz := T.lt) | skip))
        | (go_at_call 34; (with_reducible refine (HQ.out _).mono ?_); rintro e w3 ⟨rfl, hb⟩; have hS3 : w3.cell? ⟨w.heap.size, 0, none⟩ = some (.int .i64 ax) ∧ w3.cell? ⟨w.heap.size, 1, none⟩ = some (.int .i64 ay) ∧ w3.cell? ⟨w.heap.size, 2, none⟩ = some (.int .i64 bx) ∧ w3.cell? ⟨w.heap.size, 3, none⟩ = some (.int .i64 by') ∧ w3.cell? ⟨w.heap.size, 4, none⟩ = some (.int .i64 cx) ∧ w3.cell? ⟨w.heap.size, 5, none⟩ = some (.int .i64 cy) ∧ w3.cell? ⟨w.heap.size, 6, none⟩ = some (.bool cv) ∧ Below ws.heap.size ws w3 := S7_call hb (by (repeat (first | with_reducible assumption | with_reducible refine S7_alloc _ ?_ | with_reducible refine S7_drew ?_))); have hz3 := hS3.2.2.2.2.2.2.2.size; (first | (have T := T.keep hb; have Tc0 := T.cell 0 rfl; have Tc1 := T.cell 1 rfl; have Tc2 := T.cell 2 rfl; have Tc3 := T.cell 3 rfl; have Tf0 := T.frozen 0; have Tf1 := T.frozen 1; have Tf2 := T.frozen 2; have Tf3 := T.frozen 3; have Tz := T.lt) | (have T : Blk w3 w2.heap.size 37 [.int .i64 0, .int .i64 0, .int .i64 0, .int .i64 0] := (Blk.new _ _ _ rfl).keep hb; have Tc0 := T.cell 0 rfl; have Tc1 := T.cell 1 rfl; have Tc2 := T.cell 2 rfl; have Tc3 := T.cell 3 rfl; have Tf0 := T.frozen 0; have Tf1 := T.frozen 1; have Tf2 := T.frozen 2; have Tf3 := T.frozen 3; have Tz := T.lt) | skip)))
    all_goals
      go_wp2_with fail
      go_meet
    all_goals
      first
        | with_reducible exact ⟨_, rfl, Lib.hid (enew4 rfl), by assumption⟩
        | with_reducible exact ⟨_, rfl, Lib.hid (eset4 (by assumption)), by assumption⟩
  case rest =>
    obtain ⟨g, rfl, HG, hSS⟩ := hcut
    have HBW := Lib.hid hSS.2.2.2.2.2.2.2
    clear hSS
    have g0 := HG.out.cell 0 rfl
    have g1 := HG.out.cell 1 rfl
    have g2 := HG.out.cell 2 rfl
    have g3 := HG.out.cell 3 rfl
    have BW : Below w.heap.size w wc := B0.trans (HBW.out.mono B0.size)
    have K1 := HS.out.keep BW
    have K2 := HV.out.below BW
    have HK1 := Lib.hid K1
    have HK2 := Lib.hid K2
    have HBB := Lib.hid BW
    have hbase2 : base ≤ wc.heap.size := Nat.le_trans hbase BW.size
    have e0 := K1.cell 0 rfl
    have e1 := K1.frozen 0
    have e2 := K1.lt
    obtain ⟨n, hn⟩ : ∃ n, l.length = n := ⟨_, rfl⟩
    rw [hn] at hl
    obtain ⟨A, cap, rfl⟩ := K2.form
    rw [hn] at e0 HK1 HK2
    have HN := Lib.hid hn
    clear K1 K2 BW hS0 hD hE HBW HB1 HWS B0 hsz s0
    by_cases hpq : px = qx ∧ py = qy
    · obtain ⟨rfl, rfl⟩ := hpq
      have hE0 : edge ⟨px, py⟩ ⟨px, py⟩ = [] := by unfold edge; rw [if_pos rfl]
      have HE0 := Lib.hid hE0
      clear hn hE0
      go_wp2_with fail
      exact bodyPost_ret (v := .tuple #[]) (by simp [results, Try.results33, go_sem]) rfl ⟨rfl, ⟨_, HK1.out, by rw [HE0.out, List.append_nil]; exact HK2.out⟩, But.of HBB.out⟩
    · have hE0 : edge ⟨px, py⟩ ⟨qx, qy⟩ = [⟨⟨px, py⟩, ⟨qx, qy⟩⟩] := by unfold edge; rw [if_neg (by intro h; injection h with h1 h2; exact hpq ⟨h1, h2⟩)]
      have HE0 := Lib.hid hE0
      obtain ⟨i0, hi0, hz0, hz1, hz2⟩ := infos einfo
      have HT2 := Lib.hid (HK1.out.alloc (.cells #[.int .i64 px, .int .i64 py, .int .i64 qx, .int .i64 qy] 37))
      have HT4 := Lib.hid (own_blocks (show wc.ownsRow base 37 4 (.slice A n cap) n (ecells l) from ERow.own HK2.out HN.out) fun g hg => ((Below.refl _ wc).alloc (Nat.le_refl _) (.cells #[.int .i64 px, .int .i64 py, .int .i64 qx, .int .i64 qy] 37)).block g (World.ownsRow.lt HK2.out g hg).2)
      have HT5 := Lib.hid (Blk.new wc 37 [.int .i64 px, .int .i64 py, .int .i64 qx, .int .i64 qy] rfl)
      have HT6 : Hid (But (fun k => k = gs ∨ (Value.slice A n cap).ownBlock = some k) w (wc.alloc (.cells #[.int .i64 px, .int .i64 py, .int .i64 qx, .int .i64 qy] 37))) := Lib.hid (But.of (HBB.out.alloc HBB.out.size _))
      have HR1 := Lib.hid (show some gs ≠ Value.ownBlock (.slice A n cap) from fun e => by have := (World.ownsRow.lt HK2.out gs e.symm).1; omega)
      have hcase : px ≠ qx ∨ (px = qx ∧ py ≠ qy) := by omega
      clear hn hpq hE0
      rcases hcase with h | ⟨rfl, h⟩
      · have hb1 : (px == qx) = false := by simpa using h
        go_wp2_with (at_builtin; refine wpList_append_lies _ rfl _ _ _ (by rfl) base 37 i0 _ 4 32 Try.underlying28 hi0 hz0 hz1 hz2 (by rfl) (by omega) _ n _ (by rfl) HT4.out ⟨wc.heap.size, 0, none⟩ 1 1 [.int .i64 px, .int .i64 py, .int .i64 qx, .int .i64 qy] (by rfl) (by rfl) (World.news_of_block HT5.out) (by simp [Value.oneCell']) (by omega) (by simp [maxLen]; omega) (by omega) (by simp; omega) (wc.heap.size + 1) (by simp) ?_; intro g' cp w1 hown hgrow hat hlt; have G2 := HT2.out.grown hgrow HR1.out; have q0 := G2.cell 0 rfl; have q1 := G2.frozen 0; have q2 := G2.lt)
        have VN : ERow w1 base (.slice (some ⟨g', 0, none⟩) (n + 1) cp) (l ++ [⟨⟨px, py⟩, ⟨qx, qy⟩⟩]) := by
          unfold ERow
          rw [List.length_append, HN.out, ecells_push]
          exact hown
        have R1 := G2.set 0 (.slice (some ⟨g', 0, none⟩) (n + 1) cp)
        have R2 := VN.set (p := ⟨gs, 0, none⟩) h2 (.slice (some ⟨g', 0, none⟩) (n + 1) cp)
        have R3 := ((HT6.out.grown hgrow (fun q hq _ => .inr hq)).set ⟨gs, 0, none⟩ (.inl rfl) (.slice (some ⟨g', 0, none⟩) (n + 1) cp))
        rw [HN.out]
        exact bodyPost_ret (v := .tuple #[]) (by simp [results, Try.results33, go_sem]) rfl ⟨rfl, ⟨_, R1, by rw [HE0.out]; exact R2⟩, R3⟩
      · have hb1 : (py == qy) = false := by simpa using h
        go_wp2_with (at_builtin; refine wpList_append_lies _ rfl _ _ _ (by rfl) base 37 i0 _ 4 32 Try.underlying28 hi0 hz0 hz1 hz2 (by rfl) (by omega) _ n _ (by rfl) HT4.out ⟨wc.heap.size, 0, none⟩ 1 1 [.int .i64 px, .int .i64 py, .int .i64 px, .int .i64 qy] (by rfl) (by rfl) (World.news_of_block HT5.out) (by simp [Value.oneCell']) (by omega) (by simp [maxLen]; omega) (by omega) (by simp; omega) (wc.heap.size + 1) (by simp) ?_; intro g' cp w1 hown hgrow hat hlt; have G2 := HT2.out.grown hgrow HR1.out; have q0 := G2.cell 0 rfl; have q1 := G2.frozen 0; have q2 := G2.lt)
        have VN : ERow w1 base (.slice (some ⟨g', 0, none⟩) (n + 1) cp) (l ++ [⟨⟨px, py⟩, ⟨px, qy⟩⟩]) := by
          unfold ERow
          rw [List.length_append, HN.out, ecells_push]
          exact hown
        have R1 := G2.set 0 (.slice (some ⟨g', 0, none⟩) (n + 1) cp)
        have R2 := VN.set (p := ⟨gs, 0, none⟩) h2 (.slice (some ⟨g', 0, none⟩) (n + 1) cp)
        have R3 := ((HT6.out.grown hgrow (fun q hq _ => .inr hq)).set ⟨gs, 0, none⟩ (.inl rfl) (.slice (some ⟨g', 0, none⟩) (n + 1) cp))
        rw [HN.out]
        exact bodyPost_ret (v := .tuple #[]) (by simp [results, Try.results33, go_sem]) rfl ⟨rfl, ⟨_, R1, by rw [HE0.out]; exact R2⟩, R3⟩

end Go.Proofs.Ytglmgenifjaakaa
