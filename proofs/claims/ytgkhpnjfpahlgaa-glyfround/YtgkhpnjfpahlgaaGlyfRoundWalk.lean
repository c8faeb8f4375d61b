/-
  What the law GlyfRound does to any world (no claim is made here).
-/
import Derived.Test.YtgkhpnjfpahlgaaPAwk
import Derived.Test.YtgkhpnjfpahlgaaOpen3
namespace Go.Proofs.Ytgkhpnjfpahlgaa
open Go.RowKit

set_option maxRecDepth 100000 in
set_option maxHeartbeats 800000 in
theorem glyfRound_walk (A : Option Addr) (n cap : Nat) (cs : List (List Dot)) (w : World) (hcs : DotRows w A n cap cs) :
    Calls Try.prog 6 #[.slice A n cap] w fun e w' => e = .returned (.bool true) ∧ Below w.heap.size w w' := by
  have HD := Lib.hid hcs
  have HCK := Lib.hid (outlineS_check cs)
  obtain ⟨o, ho⟩ : ∃ o, outlineS cs = o := ⟨_, rfl⟩
  rw [ho] at HCK
  have HO := Lib.hid ho
  clear hcs ho
  go_enter Try.func6, Try.ntmps6
  go_wp2_with fail
  refine (awake_any _).mono ?_
  rintro e w1 ⟨rfl, hb1⟩
  have HC := Lib.hid (outline_any A n cap cs w1 (HD.out.keep hb1))
  have HB1 := Lib.hid hb1
  clear hb1
  go_wp2_with fail
  refine HC.out.mono ?_
  rintro e w2 ⟨v, rfl, hol, hb2⟩
  rw [HO.out] at hol
  have HB2 := Lib.hid (HB1.out.trans (hb2.mono HB1.out.size))
  obtain ⟨Ao, capo, rfl⟩ := hol.form
  have O2 : One (w2.alloc (.cells #[.slice Ao o.length capo] 29)) w2.heap.size (.slice Ao o.length capo) := One.new _ _ rfl
  have HR2 := Lib.hid (hol.read.keep ((Below.refl _ w2).alloc (Nat.le_refl _) (.cells #[.slice Ao o.length capo] 29)))
  have HB2a := Lib.hid (HB2.out.alloc HB2.out.size (.cells #[.slice Ao o.length capo] 29))
  have HE := Lib.hid (penc_ok _ o _ HR2.out HCK.out)
  have HO2 := Lib.hid O2
  clear hol hb2 O2 HC HB1 HB2
  obtain ⟨L, hL⟩ : ∃ L, (encodeS o).length = L := ⟨_, rfl⟩
  rw [hL] at HE
  obtain ⟨N, hN⟩ : ∃ N, o.length = N := ⟨_, rfl⟩
  rw [hN] at HE HO2 HR2 HB2a
  rw [hN]
  have HL := Lib.hid hL
  have HNN := Lib.hid hN
  clear hL hN
  go_wp2_with fail
  refine HE.out.mono ?_
  rintro e w3 ⟨Ab, capb, rfl, hb3, hrow⟩
  have HP := Lib.hid (ppar_of _ (encodeS o) w3 (hrow.read (encode_bytes o HCK.out)) (fun _ k hk => (World.ownsRow.lt hrow k hk).2) o 0 (parse_encode o HCK.out))
  rw [HNN.out] at HP
  have O3 := HO2.out.keep hb3
  have HO3 := Lib.hid O3
  have HR3 := Lib.hid (HR2.out.keep hb3)
  have HB3 := Lib.hid (HB2a.out.trans (hb3.mono HB2a.out.size))
  clear hrow hb3 O3 HE HO2 HR2 HB2a
  go_wp2_with fail
  refine HP.out.mono ?_
  rintro e w4 ⟨Ap, capp, rfl, hb4, hord⟩
  have hba : Below w4.heap.size w4 (w4.alloc (.cells #[.slice Ap N capp] 29)) := (Below.refl _ w4).alloc (Nat.le_refl _) _
  have O4 := (HO3.out.keep hb4).alloc (.cells #[.slice Ap N capp] 29)
  have HS := Lib.hid (psame_any (.slice Ao N capo) (.slice Ap N capp) o o true (by simp) (w4.alloc (.cells #[.slice Ap N capp] 29)) ((HR3.out.keep hb4).keep hba) (hord.keep hba) (by have := (checkS_zero HCK.out).1; omega) (fun c hc => by have h1 := le_flatten o c hc; have h2 := (checkS_zero HCK.out).2.1; omega))
  have HB4 := Lib.hid (have h := HB3.out.trans (hb4.mono HB3.out.size); h.alloc h.size (.cells #[.slice Ap N capp] 29))
  have oz := O4.lt
  obtain ⟨oc, of⟩ := O4
  clear hb4 hord hba HP HR3 HO3 HB3
  go_wp2_with fail
  refine HS.out.mono ?_
  rintro e w5 ⟨rfl, hb5⟩
  have HB5 := Lib.hid (HB4.out.trans (hb5.mono HB4.out.size))
  go_wp2
  go_ret
  exact ⟨rfl, HB5.out⟩

end Go.Proofs.Ytgkhpnjfpahlgaa
