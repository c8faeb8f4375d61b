/-
  What the law GlyfCut does to any world (no claim is made here).
-/
import Derived.Test.YtgkhpnjfpahlgaaPAwk
import Derived.Test.YtgkhpnjfpahlgaaOpen3
namespace Go.Proofs.Ytgkhpnjfpahlgaa
open Go.RowKit

set_option maxRecDepth 100000 in
set_option maxHeartbeats 800000 in
theorem glyfCut_walk (A : Option Addr) (n cap : Nat) (cs : List (List Dot)) (c : Int) (w : World) (hcs : DotRows w A n cap cs) (hc : 0 ≤ c ∧ c ≤ 65535) :
    Calls Try.prog 9 #[.slice A n cap, .int .u16 c] w fun e w' => e = .returned (.bool true) ∧ Below w.heap.size w w' := by
  have HD := Lib.hid hcs
  have HCK := Lib.hid (outlineS_check cs)
  obtain ⟨o, ho⟩ : ∃ o, outlineS cs = o := ⟨_, rfl⟩
  rw [ho] at HCK
  have HO := Lib.hid ho
  obtain ⟨cut, rfl⟩ : ∃ cut : Nat, c = cut := ⟨c.toNat, by omega⟩
  have hcut : cut ≤ 65535 := by omega
  have hcw : IntKind.i64.wrap (cut : Int) = cut := by rw [IntKind.wrap_i64]; omega
  clear hcs ho hc
  go_enter Try.func9, Try.ntmps9
  go_wp2_with fail
  refine (awake_any _).mono ?_
  rintro e w1 ⟨rfl, hb1⟩
  have HC := Lib.hid (outline_any A n cap cs w1 (HD.out.keep hb1))
  have HB1 := Lib.hid hb1
  clear hb1
  go_wp2_with fail
  refine HC.out.mono ?_
  rintro e w2 ⟨v, rfl, hol, hb2⟩
  rw [HO.out] at hol
  have HB2 := Lib.hid (HB1.out.trans (hb2.mono HB1.out.size))
  have HE := Lib.hid (penc_ok v o w2 hol.read HCK.out)
  have hmx := encode_max o HCK.out
  obtain ⟨L, hL⟩ : ∃ L, (encodeS o).length = L := ⟨_, rfl⟩
  rw [hL] at HE hmx
  have HL := Lib.hid hL
  obtain ⟨hm1, hm2⟩ := hmx
  obtain ⟨Ao, capo, rfl⟩ := hol.form
  clear hol hb2 HC HB1 hL
  go_wp2_with fail
  refine HE.out.mono ?_
  rintro e w3 ⟨Ab, capb, rfl, hb3, hrow⟩
  have hne : ((L : Int) == 0) = false := by simp; omega
  obtain ⟨m, hm⟩ : ∃ m : Nat, cut % L = m := ⟨_, rfl⟩
  have hmL : m < L := by rw [← hm]; exact Nat.mod_lt _ (by omega)
  have hmI : (cut : Int).tmod (L : Int) = m := by rw [← hm]; exact (Int.ofNat_tmod cut L).symm
  have hLz : ¬ (L : Int) = 0 := by omega
  have hbr := hrow.read (encode_bytes o HCK.out)
  have hLb : L ≤ capb := by
    obtain ⟨_, _, e, h, _⟩ := hbr
    simp only [Value.slice.injEq] at e
    have := HL.out
    omega
  have HP := Lib.hid (ppar_of (.slice Ab m capb) ((encodeS o).take m) w3 (hbr.take m (by rw [HL.out]; omega)) (fun _ k hk => by cases Ab with | none => cases hk | some a => exact (World.ownsRow.lt hrow k hk).2) [] 1 (parse_cut o HCK.out m (by rw [HL.out]; exact hmL)))
  have HB3 := Lib.hid (HB2.out.trans (hb3.mono HB2.out.size))
  simp only [List.length_nil] at HP
  clear hrow hb3 hbr HE HB2 hm
  go_wp2_with fail
  refine HP.out.mono ?_
  rintro e w4 ⟨Ap, capp, rfl, hb4, -⟩
  have HB4 := Lib.hid (have h := HB3.out.trans (hb4.mono HB3.out.size); h.alloc h.size (.cells #[.slice Ap 0 capp] 29))
  clear hb4 HP HB3
  go_wp2
  go_ret
  exact ⟨rfl, HB4.out⟩

end Go.Proofs.Ytgkhpnjfpahlgaa
