/-
  What the program's reader of layer 4 does to any world: step (no claim is made here).
-/
import Derived.Test.YtgkhpnjfpahlgaaPRdr
namespace Go.Proofs.Ytgkhpnjfpahlgaa
open Go.RowKit

theorem Rdr.bytes {w : World} {g B : Nat} {bs : List Nat} {sh : Bool} (h : Rdr w g B bs sh) : ∀ b ∈ bs, b < 256 := by
  obtain ⟨_, _, ⟨_, _, _, _, _, h4, _⟩, _⟩ := h
  exact h4
theorem headD_lt {bs : List Nat} (h : ∀ b ∈ bs, b < 256) : bs.headD 0 < 256 := by
  cases bs with
  | nil => simp
  | cons b r => exact h b (List.mem_cons_self ..)

theorem or_step (n : Int) (b : Nat) (hn : -128 ≤ n ∧ n ≤ 127) (hb : b < 256) : bits .or .i64 (n * 256) (b : Int) = 256 * n + b := by
  show IntKind.i64.wrap ((BitVec.ofInt 64 (n * 256) ||| BitVec.ofInt 64 (b : Int)).toNat : Int) = _
  rw [BitVec.toNat_or, BitVec.toNat_ofInt, BitVec.toNat_ofInt]
  have e1 : (n * 256 % ((2 ^ 64 : Nat) : Int)).toNat = 2 ^ 8 * (n % 72057594037927936).toNat := by omega
  have e2 : ((b : Int) % ((2 ^ 64 : Nat) : Int)).toNat = b := by omega
  rw [e1, e2, ← Nat.two_pow_add_eq_or_of_lt (by omega : b < 2 ^ 8), IntKind.wrap_i64]
  omega

set_option maxHeartbeats 400000 in
theorem rstep_any (g B : Nat) (bs : List Nat) (sh t : Bool) (w : World) (h : Rdr w g B bs sh) :
    Calls Try.prog 36 #[.pointer (some ⟨g, 0, none⟩), .bool t] w fun e w' => ∃ (d : Int) (r : List Nat) (sh' : Bool), e = .returned (.int .i64 d) ∧ (-32768 ≤ d ∧ d ≤ 32767) ∧ Nigh g w w' ∧ Rdr w' g B r sh' ∧ ((stepS t bs = some (d, r) ∧ sh' = sh) ∨ (stepS t bs = none ∧ sh' = true)) := by
  have HN := Lib.hid (next_any g B bs sh w h)
  have HB := Lib.hid (headD_lt h.bytes)
  obtain ⟨b0, hb0⟩ : ∃ b0, bs.headD 0 = b0 := ⟨_, rfl⟩
  rw [hb0] at HN HB
  have hb := HB.out
  have hi8 : IntKind.i8.wrap (b0 : Int) = int8 b0 := by
    have e1 : IntKind.i8.signed = true := rfl
    have e2 : IntKind.i8.bits = 8 := rfl
    unfold int8
    simp only [IntKind.wrap, e1, e2, Bool.true_and, decide_eq_true_eq]
    split <;> split <;> omega
  have hi64 : IntKind.i64.wrap (int8 b0) = int8 b0 := by rw [IntKind.wrap_i64]; unfold int8; split <;> omega
  have hin : -128 ≤ int8 b0 ∧ int8 b0 ≤ 127 := by unfold int8; split <;> omega
  obtain ⟨n, hn⟩ : ∃ n, int8 b0 = n := ⟨_, rfl⟩
  rw [hn] at hi8 hi64 hin
  have HB0 := Lib.hid hb0
  have HI := Lib.hid hn
  clear hb0 hn HB
  cases t with
  | false =>
    go_enter Try.func36, Try.ntmps36
    go_wp2_with fail
    refine HN.out.mono ?_
    rintro e w1 ⟨rfl, hR, hN⟩
    go_wp2
    go_ret
    refine ⟨n, bs.tail, _, rfl, by omega, hN, hR, ?_⟩
    have hb0 := HB0.out
    have hI := HI.out
    cases bs with
    | nil => exact .inr ⟨rfl, by simp⟩
    | cons a r =>
      have : a = b0 := hb0
      subst this
      exact .inl ⟨by simp [stepS, hI], by simp⟩
  | true =>
    go_enter Try.func36, Try.ntmps36
    go_wp2_with fail
    refine HN.out.mono ?_
    rintro e w1 ⟨rfl, hR, hN⟩
    have HN2 := Lib.hid (next_any g B bs.tail _ w1 hR)
    have hb2 := headD_lt hR.bytes
    obtain ⟨b1, hb1⟩ : ∃ b1, bs.tail.headD 0 = b1 := ⟨_, rfl⟩
    rw [hb1] at HN2 hb2
    have hw1 : IntKind.i64.wrap (b1 : Int) = b1 := by rw [IntKind.wrap_i64]; omega
    go_wp2_with fail
    refine HN2.out.mono ?_
    rintro e w2 ⟨rfl, hR2, hN2⟩
    go_wp2
    go_ret
    refine ⟨_, bs.tail.tail, _, rfl, ?_, hN.trans hN2, hR2, ?_⟩
    · rw [or_step n b1 hin hb2]; omega
    · rw [or_step n b1 hin hb2]
      have hb0 := HB0.out
      have hI := HI.out
      cases bs with
      | nil => exact .inr ⟨rfl, by simp⟩
      | cons a r =>
        have : a = b0 := hb0
        subst this
        cases r with
        | nil => exact .inr ⟨rfl, by simp⟩
        | cons c r =>
          have : c = b1 := hb1
          subst this
          exact .inl ⟨by simp [stepS, hI], by simp⟩

end Go.Proofs.Ytgkhpnjfpahlgaa
