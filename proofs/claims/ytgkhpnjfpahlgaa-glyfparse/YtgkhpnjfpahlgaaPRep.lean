/-
  What bytes.Repeat does to any world: of one byte, some times (no claim is made here).
-/
import Derived.Test.YtgkhpnjfpahlgaaPRow
import Derived.WalkSpells
import Derived.WalkLawsBesides
import Derived.Lib.Mul64
import Derived.Laws.Bits64b
import Derived.Laws.Externs
import Derived.Lib.MakeNoZero
import Derived.Laws.CopyOwn
namespace Go.Proofs.Ytgkhpnjfpahlgaa
open Go.RowKit

namespace W
theorem maskN (a : Nat) (ha : a < 18446744073709551616) : bits .and .u64 (a : Int) 4294967295 = ((a % 4294967296 : Nat) : Int) := by
  have h := bits_and_u64_nat a 4294967295 ha (by omega)
  have e : a &&& 4294967295 = a % 4294967296 := Nat.and_two_pow_sub_one_eq_mod a 32
  rw [e] at h
  exact h
theorem divN (a : Nat) : (a : Int) / 4294967296 = ((a / 4294967296 : Nat) : Int) := by omega
theorem mulN (a b : Nat) : (a : Int) * (b : Int) = ((a * b : Nat) : Int) := (Int.natCast_mul a b).symm
theorem addN (a b : Nat) : (a : Int) + (b : Int) = ((a + b : Nat) : Int) := (Int.natCast_add a b).symm
theorem wrapN (a : Nat) (ha : a < 18446744073709551616) : IntKind.u64.wrap (a : Int) = (a : Int) := by rw [IntKind.wrap_u64]; omega
theorem wrapM (a : Nat) : IntKind.u64.wrap (a : Int) = ((a % 18446744073709551616 : Nat) : Int) := by rw [IntKind.wrap_u64]; omega
end W

set_option maxHeartbeats 1000000 in
theorem mul64_any (x y : Nat) (hx : x < 18446744073709551616) (hy : y < 18446744073709551616) (w : World) :
    Calls Try.prog 43 #[.int .u64 x, .int .u64 y] w fun e w' => e = .returned (.tuple #[.int .u64 ((x * y / 18446744073709551616 : Nat) : Int), .int .u64 ((x * y % 18446744073709551616 : Nat) : Int)]) ∧ w = w' := by
  obtain ⟨bd, bt, bw, hhi⟩ := Lib.mul64_hi x y hx hy
  have ba := Lib.half_mul_le (a := x / 4294967296) (b := y / 4294967296) (by omega) (by omega)
  have bb := Lib.half_mul_le (a := x / 4294967296) (b := y % 4294967296) (by omega) (by omega)
  have bc := Lib.half_mul_le (a := x % 4294967296) (b := y / 4294967296) (by omega) (by omega)
  have ba' : x / 4294967296 * (y / 4294967296) < 18446744073709551616 := by omega
  have bb' : x / 4294967296 * (y % 4294967296) < 18446744073709551616 := by omega
  have bc' : x % 4294967296 * (y / 4294967296) < 18446744073709551616 := by omega
  have bh1 : x / 4294967296 * (y / 4294967296) + (x / 4294967296 * (y % 4294967296) + x % 4294967296 * (y % 4294967296) / 4294967296) / 4294967296 < 18446744073709551616 := by omega
  have bh : x / 4294967296 * (y / 4294967296) + (x / 4294967296 * (y % 4294967296) + x % 4294967296 * (y % 4294967296) / 4294967296) / 4294967296 + ((x / 4294967296 * (y % 4294967296) + x % 4294967296 * (y % 4294967296) / 4294967296) % 4294967296 + x % 4294967296 * (y / 4294967296)) / 4294967296 < 18446744073709551616 := by omega
  go_enter Try.func43, Try.ntmps43
  go_wp2
  simp only [W.maskN x hx, W.maskN y hy, W.divN, W.mulN, W.addN, W.wrapN _ bd, W.wrapN _ bb', W.wrapN _ bt, W.maskN _ bt, W.wrapN _ bc', W.wrapN _ bw, W.wrapN _ ba', W.wrapN _ bh1, W.wrapN _ bh, W.wrapM (x * y)]
  rw [hhi]
  go_ret2
  exact ⟨rfl, rfl⟩

set_option maxHeartbeats 400000 in
theorem mul_one_any (n : Nat) (hn : n ≤ 256) (w : World) :
    Calls Try.prog 40 #[.int .u64 1, .int .u64 n] w fun e w' => e = .returned (.tuple #[.int .u64 0, .int .u64 n]) ∧ w = w' := by
  have H := Lib.hid (fun w => mul64_any 1 n (by omega) (by omega) w)
  have e1 : 1 * n / 18446744073709551616 = 0 := by omega
  have e2 : 1 * n % 18446744073709551616 = n := by omega
  rw [e1, e2] at H
  clear e1 e2
  go_enter Try.func40, Try.ntmps40
  go_wp2_with fail
  refine (H.out _).mono ?_
  rintro e w1 ⟨rfl, rfl⟩
  go_wp2
  go_ret2
  exact ⟨rfl, rfl⟩

theorem splice_fill (cur : List Value) (off k : Nat) (x : Value) (ho : off + k ≤ cur.length) (h : ∀ j, j < off → cur[j]? = some x) : (splice cur off (List.replicate k x)).length = cur.length ∧ ∀ j, j < off + k → (splice cur off (List.replicate k x))[j]? = some x := by
  unfold splice
  refine ⟨by simp; omega, fun j hj => ?_⟩
  rw [List.getElem?_append]
  split
  · next hlt => rw [List.getElem?_take_of_lt (by simp at hlt; omega)]; exact h j (by simp at hlt; omega)
  · next hlt =>
    have hl : (List.take off cur).length = off := by rw [List.length_take]; omega
    rw [hl] at hlt ⊢
    rw [List.getElem?_append_left (by simp; omega), List.getElem?_replicate, if_pos (by omega)]

set_option maxRecDepth 100000 in
set_option maxHeartbeats 1600000 in
theorem repeat_any (f n : Nat) (a : Addr) (cp : Nat) (h1 : 1 ≤ n) (hn : n ≤ 256) (w : World) (hc : w.cell? a = some (.int .u8 f)) (hlt : a.block < w.heap.size) :
    Calls Try.prog 34 #[.slice (some a) 1 cp, .int .i64 n] w fun e w' => ∃ g, e = .returned (.slice (some ⟨g, 0, none⟩) n n) ∧ (∀ j u, (bvals (List.replicate n f))[j]? = some u → w'.cell? ((⟨g, 0, none⟩ : Addr).add j) = some u) ∧ w.heap.size ≤ g ∧ g < w'.heap.size ∧ Below w.heap.size w w' := by
  have HM := Lib.hid (mul_one_any n hn)
  have hq : decide ((0 : Int) < n) = true := by simp; omega
  have hq0 : ((n : Int) == 0) = false := by simp; omega
  obtain ⟨cs, hrun, hle, hmax⟩ := Lib.run_makeNoZero (P := Try.prog) w #[3] 34 5 Try.underlying34 n (by omega)
  have hcall : (callFunc 41 #[.int .i64 n]).run Try.prog w = .ok (.value (.slice (some ⟨w.heap.size, 0, none⟩) n cs.size)) (w.drew.drew.alloc (.cells cs 5)) := by
    rw [run_callFunc_extern Try.func41 (by kernel_rfl) (by kernel_rfl) (by kernel_rfl) (e := Extern.BytealgMakeNoZero.makeNoZero #[3] #[34]) (by kernel_rfl), hrun]
    rfl
  have HC := Lib.hid hc
  clear hrun hmax
  go_enter Try.func34, Try.ntmps34
  go_wp2_with fail
  refine (HM.out _).mono ?_
  rintro e w1 ⟨rfl, rfl⟩
  have hg0 : (w.alloc (.cells cs 5)).drew.drew.heap[w.heap.size]? = some (.cells cs.toList.toArray 5 (0, 0)) := by
    rw [Array.toArray_toList]; exact heap_alloc_new w _
  have hB0 : Below w.heap.size w (w.alloc (.cells cs 5)).drew.drew := (((Below.refl _ w)).alloc (Nat.le_refl _) _).drew.drew
  have HG0 := Lib.hid hg0
  have HB0 := Lib.hid hB0
  have hc1 : (w.alloc (.cells cs 5)).drew.drew.cell? a = some (.int .u8 f) := (hB0.cell hlt).trans hc
  have hsz1 : (Try.prog.info? 5).map (·.size) = some 1 := by kernel_rfl
  have hpos : ∀ j v, [Value.int .u8 (f : Int)][j]? = some v → (w.alloc (.cells cs 5)).drew.drew.cell? (a.add j) = some v := by
    intro j v hj
    cases j with
    | zero => simp at hj; subst hj; simpa [Addr.add] using hc1
    | succ j => simp at hj
  have HPOS := Lib.hid hpos
  have hmin : [Value.int .u8 (f : Int)].length = Nat.min 1 n := by
    show 1 = min 1 n
    omega
  have HMIN := Lib.hid hmin
  have hfit : 0 + [Value.int .u8 (f : Int)].length ≤ cs.toList.length := by simp; omega
  have HFIT := Lib.hid hfit
  clear hg0 hB0 hc1 hc hpos hmin hfit
  go_wp2_with (with_reducible refine wpList_copy_splice rfl (.tmp 58) (.tmp 59) 34 34 rfl 5 Try.underlying34 hsz1 _ _ n n 1 cp rfl rfl w.heap.size 0 cs.toList 5 HG0.out [.int .u8 f] HMIN.out (fun _ => ⟨rfl, a, rfl, HPOS.out⟩) HFIT.out (by simp [Value.oneCell']) w.heap.size w HB0.out (Nat.le_refl _) ?_; intro w2 HG2 hB2)
  have HFL := Lib.hid (splice_fill cs.toList 0 1 (.int .u8 f) (by simp; omega) (fun j hj => absurd hj (Nat.not_lt_zero _)))
  have e1 : List.replicate 1 (Value.int .u8 (f : Int)) = [.int .u8 f] := rfl
  rw [e1] at HFL
  have HB2 := Lib.hid hB2
  have HLE := Lib.hid hle
  clear hB2 hcall hle HG0 HB0 HPOS HMIN HFIT e1
  generalize splice cs.toList 0 [Value.int .u8 (f : Int)] = cur0 at *
  have hL0 : cur0.length = cs.size := by rw [HFL.out.1]; simp
  go_loopw [10] (fun i wr => ∃ (bp : Nat) (cur : List Value), 1 ≤ bp ∧ bp ≤ n ∧ i = .int .i64 bp ∧ Hid (n ≤ cur.length) ∧ Hid (∀ j, j < bp → cur[j]? = some (.int .u8 f)) ∧ Hid (wr.heap[w.heap.size]? = some (.cells cur.toArray 5 (0, 0))) ∧ Hid (Below w.heap.size w wr)) (fun i _ => n - (intOf i).toNat)
  case atStart => exact ⟨1, cur0, Nat.le_refl _, h1, rfl, Lib.hid (by rw [hL0]; exact HLE.out), Lib.hid (by simpa using HFL.out.2), HG2, HB2⟩
  case round =>
    obtain ⟨bp, cur, hb1, hbn, rfl, HL, HF, HG, HB⟩ := hrel
    clear HFL HG2 HB2 hL0
    by_cases hlt2 : bp < n
    · have hbd : decide ((bp : Int) < n) = true := by simp; omega
      have hmn : ¬ (n : Int) < bp := by omega
      obtain ⟨k, hk⟩ : ∃ k, k = min bp (n - bp) := ⟨_, rfl⟩
      have HFL := Lib.hid (splice_fill cur bp k (.int .u8 f) (by have := HL.out; omega) HF.out)
      obtain ⟨cs2, hcs2⟩ : ∃ cs2, List.replicate k (Value.int .u8 (f : Int)) = cs2 := ⟨_, rfl⟩
      rw [hcs2] at HFL
      have HLN : Hid (cs2.length = k) := Lib.hid (by rw [← hcs2]; simp)
      have HMI : Hid (cs2.length = Nat.min bp (n - bp)) := Lib.hid (by rw [HLN.out]; exact hk)
      have HON : Hid (∀ v ∈ cs2, v.oneCell' = true) := Lib.hid (by rw [← hcs2]; intro v hv; rw [List.eq_of_mem_replicate hv]; rfl)
      have HSR : Hid (∀ j v, cs2[j]? = some v → wr.cell? ((⟨w.heap.size, 0, none⟩ : Addr).add j) = some v) := Lib.hid (by
        intro j v hj
        rw [← hcs2, List.getElem?_replicate] at hj
        split at hj
        · next hjk =>
          have ha : (⟨w.heap.size, 0, none⟩ : Addr).add j = ⟨w.heap.size, j, none⟩ := by unfold Addr.add; split <;> simp_all
          rw [ha, cell_of_row _ _ _ _ _ _ HG.out, ← hj]
          simpa using HF.out j (by omega)
        · cases hj)
      have HFT : Hid (bp + cs2.length ≤ cur.length) := Lib.hid (by rw [HLN.out]; have := HL.out; omega)
      have HKD := Lib.hid hk
      obtain ⟨w4, hcp, hw4, hb4⟩ : ∃ w4, (Builtin.copy_ #[34, 34] 3 #[.slice (some ⟨w.heap.size, bp, none⟩) (n - bp) (n - bp), .slice (some ⟨w.heap.size, 0, none⟩) bp n]).run Try.prog wr.drew = .ok (.int .i64 k) w4 ∧ w4.heap[w.heap.size]? = some (.cells (splice cur bp cs2).toArray 5 (0, 0)) ∧ Below w.heap.size w w4 := by
        have hr := run_copy_row (P := Try.prog) wr.drew 34 34 3 5 w.heap.size bp (n - bp) (n - bp) ⟨w.heap.size, 0, none⟩ bp n cur.toArray 5 cs2 Try.underlying34 hsz1 HG.out HMI.out HSR.out (by simpa using HFT.out) HON.out
        refine ⟨_, hr.trans (by rw [show (Value.int .i64 (k : Int)) = goInt cs2.length by rw [HLN.out]; rfl]), ?_, below_setRow HB.out.drew (Nat.le_refl _) _⟩
        have := setRow_heap wr.drew w.heap.size _ (List.take bp cur.toArray.toList ++ cs2 ++ List.drop (bp + cs2.length) cur.toArray.toList).toArray 5 _ HG.out
        simpa [splice] using this
      have HW4 := Lib.hid hw4
      have HB4 := Lib.hid hb4
      have z3 : ¬ n = bp := by omega
      have z4 : (bp : Int) + k ≤ 256 := by omega
      have z5 : IntKind.i64.wrap ((bp : Int) + k) = ((bp + k : Nat) : Int) := by rw [IntKind.wrap_i64]; omega
      clear hcs2 hk hw4 hb4
      go_wp2_with fail
      go_region
      go_wp2_with fail
      exact ⟨⟨bp + k, _, by omega, by have := HKD.out; omega, by go_num, Lib.hid (by rw [HFL.out.1]; exact HL.out), Lib.hid HFL.out.2, Lib.hid HW4.out, Lib.hid HB4.out⟩, by have := HKD.out; simp [intOf]; omega⟩
    · obtain rfl : bp = n := by omega
      have HB' := HB
      go_wp2
      go_ret
      refine ⟨w.heap.size, rfl, fun j u hj => ?_, Nat.le_refl _, ?_, HB.out⟩
      · have hj' : j < bp := by
          rcases Nat.lt_or_ge j bp with h | h
          · exact h
          · rw [List.getElem?_eq_none (by simp [bvals]; exact h)] at hj; cases hj
        have hu : u = .int .u8 f := by
          simp [bvals, hj'] at hj
          exact hj.symm
        have ha : (⟨w.heap.size, 0, none⟩ : Addr).add j = ⟨w.heap.size, j, none⟩ := by unfold Addr.add; split <;> simp_all
        rw [ha, cell_of_row _ _ _ _ _ _ HG.out, hu]
        simpa using HF.out j hj'
      · exact (Array.getElem?_eq_some_iff.1 HG.out).1

end Go.Proofs.Ytgkhpnjfpahlgaa
