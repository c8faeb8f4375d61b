/-
  append(s, make([]byte, k)...) of a row of bytes that is ours (no claim is made here).
-/
import Derived.Test.YtnpklcmbiamocaaByt
import Derived.Lib.AppendZerosOnto
import Derived.Laws.CopyRow
namespace Go.Proofs.Ytnpklcmbiamocaa
open Go.RowKit

theorem binfo0 : (Try.prog.info? 5).map (fun i => (i.zero, i.size, i.bytes)) = some (some (.int .u8 0), 1, 1) := by kernel_rfl
theorem zeroCells_list (k : Nat) : (Builtin.zeroCells #[.int .u8 0] k).toList = List.replicate k (Value.int .u8 0) := by
  refine List.ext_getElem (by simp [Builtin.zeroCells]) (fun j h1 h2 => ?_)
  simp [Builtin.zeroCells, Nat.mod_one]
theorem bvals_zeros (k : Nat) : bvals (List.replicate k 0) = List.replicate k (Value.int .u8 0) := by unfold bvals; simp
theorem bvals_one (l : List Nat) : ∀ u ∈ bvals l, u.oneCell' = true := by unfold bvals; simp [Value.oneCell']

set_option maxHeartbeats 800000 in
theorem bzeros_run {w : World} {base : Nat} {u : Value} {es : List Nat} (N k : Nat) (ty : TypeId) (hown : BRow w base u es) (hN : es.length = N) (hk : N + k ≤ 100000) (hb : base ≤ w.heap.size) :
    ∃ A' cap' w', (Builtin.append_ #[25, 3] ty #[u, .int .i64 k]).run Try.prog w = .ok (.slice A' (N + k) cap') w' ∧ BRow w' base (.slice A' (N + k) cap') (es ++ List.replicate k 0) ∧ Below base w w' := by
  subst hN
  obtain ⟨i0, hi0, hz0, hz1, hz2⟩ := infos binfo0
  have hwk : IntKind.i64.wrap (k : Int) = k := wI (by omega) (by omega)
  have hneg : ¬ ((k : Int) < 0) := by omega
  have h48 : ¬ (281474976710656 < (k : Int) * (i0.bytes : Int)) := by rw [hz2]; omega
  have hw0 : IntKind.i64.wrap 0 = 0 := wI (by omega) (by omega)
  obtain ⟨hlen, hform⟩ := id hown
  by_cases hk0 : k = 0
  · subst hk0
    rw [List.replicate_zero, List.append_nil, Nat.add_zero]
    rcases hform with ⟨rfl, h0⟩ | ⟨g, cap, cur, rfl, hg1, hg2, hg3, hg4, hg5, hg6⟩
    · refine ⟨none, 0, w, ?_, by rw [h0]; exact hown, Below.refl _ _⟩
      rw [h0]
      simp [Builtin.append_, run_underlying Try.underlying25, run_underlying Try.underlying3, sizeOf, typeInfo, hi0, asInt, asIntOf, hw0]
    · refine ⟨_, cap, w, ?_, hown, Below.refl _ _⟩
      simp [Builtin.append_, run_underlying Try.underlying25, run_underlying Try.underlying3, sizeOf, typeInfo, hi0, asInt, asIntOf, hg3, storeCells, hw0]
  · have hns : ¬ (k * i0.size = 0) := by rw [hz1]; omega
    rcases hform with ⟨rfl, h0⟩ | ⟨g, cap, cur, rfl, hg1, hg2, hg3, hg4, hg5, hg6⟩
    · have he : es = [] := List.eq_nil_of_length_eq_zero h0
      subst he
      have hr := Lib.run_append_nil_zeros (P := Try.prog) w 25 3 ty 5 i0 _ .i64 .i64 Try.underlying25 Try.underlying3 hi0 hz0 k (by omega) (by omega) (by omega) (by rw [hz2]; omega)
      have hge := grownCap_ge w k 0 5
      have hle := grownCap_le_maxLen w k 0 5 (by unfold maxLen; omega)
      refine ⟨_, _, _, by simpa using hr, ?_, ((Below.refl _ w).drew).alloc hb _⟩
      unfold BRow
      refine ⟨by simp [bvals], .inr ⟨w.heap.size, _, _, by simp, hb, heap_alloc_new w.drew _, by simpa using hge, hle, ?_, ?_⟩⟩
      · rw [Array.size_append, size_zeroCells, size_zeroCells]; simp [Value.cells]; omega
      · rw [Array.toList_append, show (Value.int IntKind.u8 0).cells = #[.int .u8 0] from rfl, zeroCells_list]
        simp [bvals]
    · have hcells : ∀ j v, (bvals es)[j]? = some v → w.drew.cell? ((⟨g, 0, none⟩ : Addr).add j) = some v := fun j v hj => World.ownsRow.cells hown rfl j v hj
      by_cases hfit : es.length + k ≤ cap
      · have hst := run_storeCells_at Try.prog g (es.length * 1) 5 (bvals (List.replicate k 0)) 0 cur w hg2 (by rw [bvals_length, List.length_replicate]; omega) (bvals_one _)
        obtain ⟨XS, hXS⟩ : ∃ XS, cur.toList.take (es.length * 1 + 0) ++ bvals (List.replicate k 0) ++ cur.toList.drop (es.length * 1 + 0 + (bvals (List.replicate k 0)).length) = XS := ⟨_, rfl⟩
        rw [hXS] at hst
        rw [Nat.mul_one] at hst
        have HS : Sem.run Try.prog (storeCells ⟨g, es.length, none⟩ (bvals (List.replicate k 0))) w = .ok () (w.setRow g XS.toArray) := hst
        clear hst
        refine ⟨some ⟨g, 0, none⟩, cap, w.setRow g XS.toArray, ?_, ?_, ⟨rfl, rfl, rfl, by simp [World.setRow], fun q hq => setRow_other w g q _ (by omega)⟩⟩
        · have hadd : (⟨g, 0, none⟩ : Addr).add (es.length * i0.size) = ⟨g, es.length, none⟩ := by rw [hz1]; unfold Addr.add; split <;> simp_all
          have hzc : (Builtin.zeroCells (Value.int IntKind.u8 0).cells k).toList = bvals (List.replicate k 0) := by rw [bvals_zeros]; exact zeroCells_list k
          simp [Builtin.append_, run_underlying Try.underlying25, run_underlying Try.underlying3, sizeOf, typeInfo, zeroValue, hi0, hz0, asInt, asIntOf, hwk, hneg, h48, hns, hfit, hadd, hzc, HS]
        · unfold BRow
          rw [List.length_append, List.length_replicate]
          subst hXS
          refine ⟨by simp [bvals], .inr ⟨g, cap, _, rfl, hg1, setRow_heap w g cur _ _ _ hg2, hfit, hg4, ?_, ?_⟩⟩
          · simp [bvals]; omega
          · rw [bvals_append]
            rw [Nat.mul_one] at hg6
            simp only [Nat.mul_one, Nat.add_zero, hg6]
            rw [List.take_append_of_le_length (by simp [bvals])]
            exact List.take_of_length_le (by simp [bvals])
      · have hold := run_firstCells_some (P := Try.prog) (w := w.drew) i0.size es.length (⟨g, 0, none⟩ : Addr) es.length cap (bvals es) (by rw [hz1, bvals_length, Nat.mul_one]) hcells
        have hnc : Builtin.nextslicecap (es.length + k) cap * i0.bytes ≤ 281474976710656 := by
          have := nextslicecap_le (show cap < es.length + k by omega)
          rw [hz2]
          omega
        have hr := Lib.run_append_grow_zeros (P := Try.prog) w 25 3 ty 5 i0 _ .i64 .i64 Try.underlying25 Try.underlying3 hi0 hz0 (some ⟨g, 0, none⟩) es.length cap (bvals es) hold k (by omega) (by omega) (by omega) (by omega) (by rw [hz2]; omega) hnc
        have hge := grownCap_ge w (es.length + k) cap 5
        have hle := grownCap_le_maxLen w (es.length + k) cap 5 (by unfold maxLen; omega)
        refine ⟨_, _, _, hr, ?_, ((Below.refl _ w).drew).alloc hb _⟩
        unfold BRow
        rw [List.length_append, List.length_replicate]
        refine ⟨by simp [bvals], .inr ⟨w.heap.size, _, _, rfl, hb, heap_alloc_new w.drew _, hge, hle, ?_, ?_⟩⟩
        · rw [Array.size_append, Array.size_append, size_zeroCells, size_zeroCells]; simp [Value.cells, bvals]; omega
        · rw [Array.toList_append, Array.toList_append, show (Value.int IntKind.u8 0).cells = #[.int .u8 0] from rfl, zeroCells_list, bvals_append, bvals_zeros, List.take_append_of_le_length (by simp [bvals])]
          exact List.take_of_length_le (by simp [bvals])

end Go.Proofs.Ytnpklcmbiamocaa
