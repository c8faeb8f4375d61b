/-
  Bytes as a string; what the law's awake of layer 4 does to any world (no claim is made here).
-/
import Derived.Test.YtgkhpnjfpahlgaaPPar
import Derived.Test.YtgkhpnjfpahlgaaPEnc
import Derived.Test.YtgkhpnjfpahlgaaPSam
import Derived.Laws.IdiomStrings
import Derived.Laws.BytesArg
namespace Go.Proofs.Ytgkhpnjfpahlgaa
open Go.RowKit

def strOf (bs : List Nat) : ByteArray := ⟨(bs.map UInt8.ofNat).toArray⟩
theorem run_strOf {w : World} {v : Value} {bs : List Nat} (h : BRd w v bs) : (convert 34 9 v).run Try.prog w = .ok (.string (strOf bs)) w := by
  obtain ⟨A, cap, rfl, _, _, h4, h3⟩ := h
  cases A with
  | none =>
    have hb : bs = [] := by
      cases bs with
      | nil => rfl
      | cons b r => obtain ⟨a, ha, _⟩ := h3 0 (by simp); cases ha
    subst hb
    exact run_convert_bytes_nil w 34 5 Try.underlying34 Try.underlying5 0 cap 9 Try.underlying9
  | some a =>
    have := run_convert_bytes_back (P := Try.prog) w 34 9 5 a cap (bs.map UInt8.ofNat) Try.underlying34 Try.underlying5 Try.underlying9 (by
      intro j hj
      rw [List.length_map] at hj
      obtain ⟨a', ha, _, hc⟩ := h3 j hj
      injection ha with ha
      subst ha
      rw [hc, List.getElem_map]
      have hlt := h4 bs[j] (List.getElem_mem _)
      congr 2
      rw [UInt8.toNat_ofNat']
      omega)
    rw [List.length_map] at this
    exact this
theorem strOf_inj {a b : List Nat} (ha : ∀ x ∈ a, x < 256) (hb : ∀ x ∈ b, x < 256) (h : strOf a = strOf b) : a = b := by
  unfold strOf at h
  injection h with h
  have h' := congrArg Array.toList h
  simp only [] at h'
  have key : ∀ (a b : List Nat), (∀ x ∈ a, x < 256) → (∀ x ∈ b, x < 256) → a.map UInt8.ofNat = b.map UInt8.ofNat → a = b := by
    intro a
    induction a with
    | nil => intro b _ _ h; cases b with | nil => rfl | cons _ _ => simp at h
    | cons x a ih =>
      intro b ha hb h
      cases b with
      | nil => simp at h
      | cons y b =>
        simp only [List.map_cons, List.cons.injEq] at h
        have h1 := congrArg UInt8.toNat h.1
        rw [UInt8.toNat_ofNat', UInt8.toNat_ofNat'] at h1
        have hx := ha x (List.mem_cons_self ..)
        have hy := hb y (List.mem_cons_self ..)
        rw [ih b (fun z hz => ha z (List.mem_cons_of_mem _ hz)) (fun z hz => hb z (List.mem_cons_of_mem _ hz)) h.2]
        congr 1
        omega
  exact key a b ha hb h'

def exO : List (List Vtx) := [[⟨5, 7, true⟩]]
theorem exO_check : checkS exO = 0 := by decide
theorem exO_encode : encodeS exO = [1, 1, 1, 5, 7] := by decide
theorem exO_short : parseS [1, 1, 1, 5] = ([], 1) := by
  have := parse_cut exO exO_check 4 (by rw [exO_encode]; decide)
  rw [exO_encode] at this
  exact this

/-- Encode of an outline of which nothing is wrong. -/
theorem penc_ok (v : Value) (o : List (List Vtx)) (w : World) (ho : ORd w v o) (hck : checkS o = 0) :
    Calls Try.prog 14 #[.agg #[v]] w fun e w' => ∃ A cap, e = .returned (.tuple #[.slice A (encodeS o).length cap, .int .i64 0]) ∧ Below w.heap.size w w' ∧ BRow w' w.heap.size (.slice A (encodeS o).length cap) (encodeS o) := by
  obtain ⟨h1, h2, _, _⟩ := checkS_zero hck
  refine (pencode_any v o w ho (fun c hc => by have := le_flatten o c hc; omega) (by omega)).mono ?_
  rintro e w' ⟨u, rfl, hb, hrow, -⟩
  have hrow := hrow hck
  obtain ⟨A, cap, rfl⟩ := hrow.form
  exact ⟨A, cap, by rw [hck]; rfl, hb, hrow⟩
/-- Parse, the outline's form told. -/
theorem ppar_of (v : Value) (bs : List Nat) (w : World) (hv : BRd w v bs) (hvl : bs ≠ [] → ∀ k, v.ownBlock = some k → k < w.heap.size) (o : List (List Vtx)) (er : Nat) (hp : parseS bs = (o, er)) :
    Calls Try.prog 16 #[v] w fun e w' => ∃ A cap, e = .returned (.tuple #[.agg #[.slice A o.length cap], .int .i64 er]) ∧ Below w.heap.size w w' ∧ ORd w' (.slice A o.length cap) o := by
  refine (pparse_any v bs w hv hvl).mono ?_
  rintro e w' ⟨u, er', rfl, hb, her, hord⟩
  rw [hp] at her hord
  obtain ⟨A, cap, hu, _, _⟩ := id hord
  have hu' : u = .slice A o.length cap := hu
  subst hu'
  exact ⟨A, cap, by rw [her], hb, hord⟩

set_option maxRecDepth 100000 in
set_option maxHeartbeats 800000 in
theorem awake_any (w : World) : Calls Try.prog 10 #[] w fun e w' => e = .returned (.bool true) ∧ Below w.heap.size w w' := by
  have hB2 : Below w.heap.size w ((w.alloc (.cells #[.int .i64 5, .int .i64 7, .bool true] 25)).alloc (.cells #[.slice (some ⟨w.heap.size, 0, none⟩) 1 1] 27)) := ((Below.refl _ w).alloc (Nat.le_refl _) _).alloc (by simp) _
  have hTh : Thr ((w.alloc (.cells #[.int .i64 5, .int .i64 7, .bool true] 25)).alloc (.cells #[.slice (some ⟨w.heap.size, 0, none⟩) 1 1] 27)) w.heap.size (.int .i64 5) (.int .i64 7) (.bool true) := (Thr.new _ _ _ _ rfl).alloc _
  have hOn : One ((w.alloc (.cells #[.int .i64 5, .int .i64 7, .bool true] 25)).alloc (.cells #[.slice (some ⟨w.heap.size, 0, none⟩) 1 1] 27)) (w.heap.size + 1) (.slice (some ⟨w.heap.size, 0, none⟩) 1 1) := One.new _ _ (by simp)
  have hO : ORd ((w.alloc (.cells #[.int .i64 5, .int .i64 7, .bool true] 25)).alloc (.cells #[.slice (some ⟨w.heap.size, 0, none⟩) 1 1] 27)) (.slice (some ⟨w.heap.size + 1, 0, none⟩) 1 1) exO := by
    refine ⟨_, 1, rfl, Nat.le_refl _, fun r hr => ?_⟩
    obtain rfl : r = 0 := by simp [exO] at hr; omega
    refine ⟨_, _, rfl, hOn.lt, hOn.1, _, 1, rfl, Nat.le_refl _, fun i hi => ?_⟩
    obtain rfl : i = 0 := by simp [exO] at hi; omega
    exact ⟨_, rfl, hTh.lt, hTh.1.1, hTh.1.2.1, hTh.1.2.2⟩
  have HE := Lib.hid (penc_ok _ exO _ hO exO_check)
  have HB2 := Lib.hid hB2
  rw [exO_encode] at HE
  clear hTh hOn hO hB2
  go_enter Try.func10, Try.ntmps10
  go_wp2_with fail
  refine HE.out.mono ?_
  rintro e w1 ⟨Au, capu, rfl, hb1, hrow⟩
  have hbr : BRd w1 (.slice Au 5 capu) [1, 1, 1, 5, 7] := hrow.read (by decide)
  have hpe := parse_encode exO exO_check
  rw [exO_encode] at hpe
  have HP := Lib.hid (ppar_of (.slice Au 5 capu) [1, 1, 1, 5, 7] w1 hbr (fun _ k hk => (World.ownsRow.lt hrow k hk).2) _ _ hpe)
  have HB1 := Lib.hid (HB2.out.trans (hb1.mono HB2.out.size))
  have HBR := Lib.hid hbr
  clear hrow hb1 hbr hpe HE HB2
  go_wp2_with fail
  refine HP.out.mono ?_
  rintro e w2 ⟨Ao, capo, rfl, hb2, -⟩
  have HB2 := Lib.hid (HB1.out.trans (hb2.mono HB1.out.size))
  have HBR2 := Lib.hid (HBR.out.keep hb2)
  have O3 : One (w2.alloc (.cells #[.slice Ao 1 capo] 29)) w2.heap.size (.slice Ao 1 capo) := One.new _ _ rfl
  have hrow4 : BRow ((w2.alloc (.cells #[.slice Ao 1 capo] 29)).alloc (.cells #[.int .u8 1, .int .u8 1, .int .u8 1, .int .u8 5] 5)) 0 (.slice (some ⟨w2.heap.size + 1, 0, none⟩) 4 4) [1, 1, 1, 5] := by
    have := World.ownsRow_lit (base := 0) (e := 5) (size := 1) (w2.alloc (.cells #[.slice Ao 1 capo] 29)) #[.int .u8 1, .int .u8 1, .int .u8 1, .int .u8 5] 4 (Nat.zero_le _) (by unfold maxLen; omega) rfl
    rw [World.size_alloc] at this
    exact this
  have HP2 := Lib.hid (ppar_of _ [1, 1, 1, 5] _ (hrow4.read (by decide)) (fun _ k hk => (World.ownsRow.lt hrow4 k hk).2) _ _ exO_short)
  have B4 : Below w2.heap.size w2 ((w2.alloc (.cells #[.slice Ao 1 capo] 29)).alloc (.cells #[.int .u8 1, .int .u8 1, .int .u8 1, .int .u8 5] 5)) := ((Below.refl _ w2).alloc (Nat.le_refl _) _).alloc (by simp) _
  have HB4 := Lib.hid B4
  have HO4 := Lib.hid (O3.alloc (.cells #[.int .u8 1, .int .u8 1, .int .u8 1, .int .u8 5] 5))
  clear hb2 hrow4 O3 B4 HP HB1 HBR
  go_wp2_with fail
  refine HP2.out.mono ?_
  rintro e w3 ⟨A3, cap3, rfl, hb3, -⟩
  have HB3 := Lib.hid (HB4.out.trans (hb3.mono HB4.out.size))
  have O5 := (HO4.out.keep hb3).alloc (.cells #[.slice A3 0 cap3] 29)
  have oz := O5.lt
  have hstr := run_strOf ((HBR2.out.keep HB3.out).keep ((Below.refl _ w3).alloc (Nat.le_refl _) (.cells #[.slice A3 0 cap3] 29)))
  have estr : strOf [1, 1, 1, 5, 7] = { data := #[1, 1, 1, 5, 7] } := by decide
  rw [estr] at hstr
  have HBF : Hid (Below w.heap.size w (w3.alloc (.cells #[.slice A3 0 cap3] 29))) := Lib.hid (have h := HB2.out.trans (HB3.out.mono HB2.out.size); h.alloc h.size _)
  obtain ⟨oc, of⟩ := O5
  clear hb3 HP2 estr
  go_wp2
  go_ret
  exact ⟨rfl, HBF.out⟩

end Go.Proofs.Ytgkhpnjfpahlgaa
