/-
  What grid.Each yields, to whatever loop goes over it: its contract (no claim is made here).
-/
import Derived.Test.YteiildeaccngjaaMgrd
import Derived.Test.YteiildeaccngjaaScopeIn
import Derived.RangeFuncNested
import Derived.RangeFuncBound
import Derived.RangeFuncCalls
import Derived.RangeFuncLeaves
import Derived.Shelf.Abstract
import Derived.Shelf.RegionOpen
import Derived.OwnWalkIn
import Derived.TacticsInMore
import Derived.LoopNIn
import Derived.LoopIn
namespace Go.Proofs.Yteiildeaccngjaa
open Go.RowKit Go.Shelf

attribute [local go_sem] Oper.semAt_some

/-- The texels that have come when m are over: column and row, row by row. -/
def upG (u m : Nat) : List (Nat × Nat) := (List.range m).map fun j => (j % u, j / u)
theorem upG_succ (u m : Nat) : upG u (m + 1) = upG u m ++ [(m % u, m / u)] := by simp [upG, List.range_succ]
theorem upG_length (u m : Nat) : (upG u m).length = m := by simp [upG]
/-- How a texel is handed over. -/
abbrev encG (p : Nat × Nat) : Array Value := #[.int .i64 p.1, .int .i64 p.2]
/-- What a round keeps for the next: a block. -/
def KeepB (B : Nat) (W W' : World) : Prop := W'.heap[B]? = W.heap[B]?
theorem KeepB.t {B : Nat} {a b c : World} (h : KeepB B a b) (k : KeepB B b c) : KeepB B a c := Eq.trans k h
theorem KeepB.b {B : Nat} {w : World} (hB : B < w.heap.size) (W : World) (l : Nat) (o o' : Obj) (hl : w.heap.size ≤ l) (_ : W.heap[l]? = some o) (_ : o.isCells = false) (_ : o.isWalk = false) : KeepB B W (W.putObj l o') := by
  unfold KeepB World.putObj
  simp only [Array.getElem?_setIfInBounds]
  split
  · omega
  · rfl
/-- A block that is known whole stays, while a loop over a function goes on. -/
theorem blk_from {β : Type} (B g : Nat) (t : TypeId) (f : β → List Value) : OwnFrom B (fun s W => Blk W g t (f s)) := fun s W W' row hs hg hr => hs.grown hg (fun e => by
  obtain ⟨_, o, ho, hc⟩ := hr g e.symm
  unfold Blk at hs
  rw [hs] at ho
  cases ho
  cases hc)

set_option maxRecDepth 100000 in
set_option maxHeartbeats 2000000 in
theorem each1_in (F : Fence) (n : Nat) (hF : F.fn 54) (hro : F.round = none) (hn : 1 ≤ n) (l B u v : Nat) (x y p s : Int) (hu : 1 ≤ u ∧ u ≤ 100000) (hv : v ≤ 100000) (J Jx : List (Nat × Nat) → World → Prop)
    (hY : ∀ pre x W, J pre W → pre.length < u * v → x.1 < u → x.2 < v → YieldAt F (n - 1) Try.prog l (encG x) W fun e W' =>
      (e = .returned (.bool true) ∧ J (pre ++ [x]) W' ∧ KeepB B W W') ∨ (e = .returned (.bool false) ∧ Jx (pre ++ [x]) W'))
    (W : World) (hB : Blk W B 29 [.int .i64 x, .int .i64 y, .int .i64 p, .int .i64 u, .int .i64 v, .int .i64 s]) (h0 : J [] W) :
    CallsIn F n Try.prog 54 #[.func (.yield l) #[] #[], .pointer (some ⟨B, 0, none⟩)] W fun e W' => (∃ v, e = .returned v) ∧
      ((∃ ys, ys = upG u (u * v) ∧ J ys W') ∨ (∃ pre, (∃ m, m ≤ u * v ∧ pre = upG u m) ∧ Jx pre W')) := by
  refine callsIn_of_wp Try.func54 rfl hF ?_ hro
  simp only [Try.ntmps54, List.size_toArray, List.length_cons, List.length_nil, Nat.reduceAdd, Nat.reduceSub, Array.replicate_succ, Array.replicate_zero, List.push_toArray, List.append_toArray, List.nil_append, List.cons_append]
  have HB := Lib.hid hB
  have c3 := hB.cell 3 rfl
  have c4 := hB.cell 4 rfl
  have HY := Lib.hid hY
  have HJ := Lib.hid h0
  clear hB hY h0
  refine wpIn_scope ?_
  gi_wp2_with (first | (apply wpIn_label) | (simp only [Exit.noGoto]))
  gi_loopw [10] (fun i wr => ∃ k : Nat, k ≤ v ∧ i = .int .i64 k ∧ Hid (J (upG u (k * u)) wr) ∧ Hid (Blk wr B 29 [.int .i64 x, .int .i64 y, .int .i64 p, .int .i64 u, .int .i64 v, .int .i64 s])) (fun i _ => v - (intOf i).toNat)
  case atStart => exact ⟨0, Nat.zero_le _, rfl, Lib.hid (by rw [Nat.zero_mul]; exact HJ.out), HB⟩
  case round =>
    clear HJ HB
    obtain ⟨k, hk, rfl, HJ, HB⟩ := hrel
    have c3 := HB.out.cell 3 rfl
    by_cases hkv : k < v
    · have hkb : decide ((k : Int) < v) = true := by simp; omega
      gi_wp2_with (simp only [Exit.noGoto])
      obtain ⟨wo, rfl⟩ : ∃ x, x = wr := ⟨wr, rfl⟩
      gi_loopw [15] (fun i wr => ∃ c : Nat, c ≤ u ∧ i = .int .i64 c ∧ Hid (J (upG u (k * u + c)) wr) ∧ Hid (Blk wr B 29 [.int .i64 x, .int .i64 y, .int .i64 p, .int .i64 u, .int .i64 v, .int .i64 s])) (fun i _ => u - (intOf i).toNat)
      case atStart => exact ⟨0, Nat.zero_le _, rfl, HJ, HB⟩
      case round =>
        clear HJ HB c3
        obtain ⟨c, hc, rfl, HJ, HB⟩ := hrel
        by_cases hcu : c < u
        · have hcb : decide ((c : Int) < u) = true := by simp; omega
          have hlt : k * u + c < u * v := by
            have h1 := Nat.mul_le_mul_right u (show k + 1 ≤ v by omega)
            rw [Nat.mul_comm v u] at h1
            rw [Nat.add_mul] at h1
            omega
          have HN : Hid (upG u (k * u + c) ++ [(c, k)] = upG u (k * u + (c + 1))) := Lib.hid (by
            rw [show k * u + (c + 1) = k * u + c + 1 by omega, upG_succ, show (k * u + c) % u = c by rw [Nat.mul_comm, Nat.mul_add_mod]; exact Nat.mod_eq_of_lt hcu, show (k * u + c) / u = k by rw [Nat.mul_comm, Nat.mul_add_div (by omega), Nat.div_eq_of_lt hcu]; rfl])
          have HL := Lib.hid hlt
          obtain ⟨fn, tmps, assign, body, hy, hR⟩ := HY.out _ (c, k) wr HJ.out (by rw [upG_length]; exact hlt) hcu hkv
          dsimp only [encG] at hy
          clear hlt
          gi_wp2_with (simp only [Exit.noGoto])
          refine hR.mono ?_
          rintro e W3 (⟨rfl, hJ3, hk3⟩ | ⟨rfl, hJx3⟩)
          · rw [HN.out] at hJ3
            have HJ3 := Lib.hid hJ3
            have HB3 := Lib.hid (HB.out.heap hk3)
            clear hJ3 hk3
            gi_wp2
            exact ⟨⟨c + 1, hcu, by simp, HJ3, HB3⟩, by simp [intOf]; omega⟩
          · rw [HN.out] at hJx3
            have HJ3 := Lib.hid hJx3
            clear hJx3
            gi_wp2_with (simp only [Exit.noGoto])
            go_end0
            exact ⟨⟨_, rfl⟩, .inr ⟨_, ⟨k * u + (c + 1), HL.out, rfl⟩, HJ3.out⟩⟩
        · obtain rfl : c = u := by omega
          gi_wp2
          exact ⟨⟨k + 1, hkv, by simp, by rw [Nat.add_mul, Nat.one_mul]; exact HJ, HB⟩, by simp [intOf]; omega⟩
    · obtain rfl : k = v := by omega
      gi_wp2_with (simp only [Exit.noGoto])
      go_end0
      exact ⟨⟨_, rfl⟩, .inl ⟨_, rfl, by rw [Nat.mul_comm]; exact HJ.out⟩⟩

/-- grid.Each: what it hands back yields all texels, row by row, or the first of them, where a round says 'no more'. -/
theorem each_stops (F : Fence) (n : Nat) (hF : F.fn 54) (hro : F.round = none) (hn : 1 ≤ n) (B u v : Nat) (x y p s : Int) (hu : 1 ≤ u ∧ u ≤ 100000) (hv : v ≤ 100000) (w : World)
    (hB : Blk w B 29 [.int .i64 x, .int .i64 y, .int .i64 p, .int .i64 u, .int .i64 v, .int .i64 s]) :
    SeqStopsK F n Try.prog 54 #[.pointer (some ⟨B, 0, none⟩)] encG (KeepB B) (fun ys => ys = upG u (u * v)) (fun pre => ∃ m, m ≤ u * v ∧ pre = upG u m) (u * v) w := fun l J Jx W hW _ _ hY h0 =>
  each1_in F n hF hro hn l B u v x y p s hu hv J Jx (fun pre x W h1 h2 _ _ => hY pre x W h1 h2) W (hB.heap (hW.block B hB.lt)) h0

/-- A texel of a grid of so many columns and rows. -/
abbrev InG (u v : Nat) := { q : Nat × Nat // q.1 < u ∧ q.2 < v }
/-- .. said of texels that there are: for a loop whose body may not be handed others. -/
theorem each_stops_in (F : Fence) (n : Nat) (hF : F.fn 54) (hro : F.round = none) (hn : 1 ≤ n) (B u v : Nat) (x y p s : Int) (hu : 1 ≤ u ∧ u ≤ 100000) (hv : v ≤ 100000) (w : World)
    (hB : Blk w B 29 [.int .i64 x, .int .i64 y, .int .i64 p, .int .i64 u, .int .i64 v, .int .i64 s]) :
    SeqStopsK F n Try.prog 54 #[.pointer (some ⟨B, 0, none⟩)] (fun q : InG u v => encG q.1) (KeepB B) (fun ys => ys.map (·.1) = upG u (u * v)) (fun pre => ∃ m, m ≤ u * v ∧ pre.map (·.1) = upG u m) (u * v) w := fun l J Jx W hW _ _ hY h0 => by
  refine (each1_in F n hF hro hn l B u v x y p s hu hv (fun pre W => ∃ q : List (InG u v), q.map (·.1) = pre ∧ J q W) (fun pre W => ∃ q : List (InG u v), q.map (·.1) = pre ∧ Jx q W) ?_ W (hB.heap (hW.block B hB.lt)) ⟨[], rfl, h0⟩).mono ?_
  · rintro pre z W1 ⟨q, rfl, hJ⟩ hl h1 h2
    have := hY q ⟨z, h1, h2⟩ W1 hJ (by simpa using hl)
    obtain ⟨fn, tmps, assign, body, hy, hR⟩ := this
    refine ⟨fn, tmps, assign, body, hy, hR.mono ?_⟩
    rintro e W' (⟨rfl, hJ', hk⟩ | ⟨rfl, hJ'⟩)
    · exact .inl ⟨rfl, ⟨_, by simp, hJ'⟩, hk⟩
    · exact .inr ⟨rfl, ⟨_, by simp, hJ'⟩⟩
  · rintro e W' ⟨he, ⟨ys, rfl, q, hq, hJ⟩ | ⟨pre, ⟨m, hm, rfl⟩, q, hq, hJ⟩⟩
    · exact ⟨he, .inl ⟨q, hq, hJ⟩⟩
    · exact ⟨he, .inr ⟨q, ⟨m, hm, hq⟩, hJ⟩⟩

end Go.Proofs.Yteiildeaccngjaa
