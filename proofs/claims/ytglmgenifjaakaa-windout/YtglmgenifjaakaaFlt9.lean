/-
  What the law's Same does to equal rows of edges, flat.All to rows of pieces (no claim is made here).
-/
import Derived.Test.YtglmgenifjaakaaFlt3
import Derived.Test.YtglmgenifjaakaaPthA
import Derived.Test.YtglmgenifjaakaaAppNil
import Derived.BigQuiet
namespace Go.Proofs.Ytglmgenifjaakaa
open Go.RowKit

theorem flat_push {l : List (List Sg)} {r : Nat} {c : List Sg} (h : l[r]? = some c) : (l.take (r + 1)).flatMap edgesS = (l.take r).flatMap edgesS ++ edgesS c := by
  rw [take_next h, List.flatMap_append]
  simp
theorem flat_len : ∀ (l : List (List Sg)) (M : Nat), (∀ c ∈ l, c.length ≤ M) → (l.flatMap edgesS).length ≤ l.length * (4 * M)
  | [], M, h => by simp
  | c :: l, M, h => by
    have h1 := flat_len l M (fun d hd => h d (List.mem_cons_of_mem _ hd))
    have h2 := edgesS_len c
    have h3 := h c List.mem_cons_self
    rw [List.flatMap_cons, List.length_append, List.length_cons, Nat.add_mul]
    omega
theorem SORd.at {w : World} {A : Option Addr} {n cap : Nat} {o : List (List Sg)} (h : SORd w (.slice A n cap) o) (r : Nat) (c : List Sg) (hc : o[r]? = some c) : ∃ a u, A = some a ∧ a.block < w.heap.size ∧ w.cell? (a.add r) = some u ∧ SRd w u c := by
  obtain ⟨A', cap', e, _, h3⟩ := h
  simp only [Value.slice.injEq] at e
  obtain ⟨rfl, -, -⟩ := e
  exact h3 r c hc
theorem ERow.news {w : World} {base g n cap : Nat} {l : List Ed} (h : ERow w base (.slice (some ⟨g, 0, none⟩) n cap) l) : ∀ j u, (ecells l)[j]? = some u → w.cell? ((⟨g, 0, none⟩ : Addr).add j) = some u := fun j u hj => World.ownsRow.cells h rfl j u hj
theorem ERow.forms {w : World} {base : Nat} {u : Value} {l : List Ed} (h : ERow w base u l) : (u = .slice none 0 0 ∧ l = []) ∨ ∃ g cap, u = .slice (some ⟨g, 0, none⟩) l.length cap := by
  rcases h.2 with ⟨rfl, h0⟩ | ⟨g, cap, cur, rfl, _⟩
  · exact .inl ⟨rfl, List.eq_nil_of_length_eq_zero h0⟩
  · exact .inr ⟨g, cap, rfl⟩

set_option maxHeartbeats 1600000 in
theorem fall_any (v : Value) (o : List (List Sg)) (w : World) (ho : SORd w v o) (hs : o.length ≤ 8 ∧ ∀ c ∈ o, c.length ≤ 1001 ∧ ∀ s ∈ c, inS s) :
    Calls Try.prog 19 #[v] w fun e w' => ∃ u, e = .returned u ∧ ERow w' w.heap.size u (o.flatMap edgesS) ∧ Below w.heap.size w w' := by
  have HO := Lib.hid ho
  have HS := Lib.hid hs
  obtain ⟨A, cap, rfl, hcap, -⟩ := ho
  obtain ⟨n, hn⟩ : ∃ n, o.length = n := ⟨_, rfl⟩
  have hn8 : n ≤ 8 := by rw [← hn]; exact hs.1
  rw [hn] at HO hcap
  rw [hn]
  have HN := Lib.hid hn
  obtain ⟨i0, hi0, hz0, hz1, hz2⟩ := infos einfo
  clear hs hn
  go_enter Try.func19, Try.ntmps19
  go_wp2_with fail
  go_loopw [8, 3] (fun i u wr => ∃ r : Nat, r ≤ n ∧ i = .int .i64 r ∧ Hid (ERow wr w.heap.size u ((o.take r).flatMap edgesS)) ∧ Hid (Below w.heap.size w wr)) (fun i _ _ => n - (intOf i).toNat)
  case atStart => exact ⟨0, Nat.zero_le _, rfl, Lib.hid (ERow.nil _ _), Lib.hid (Below.refl _ _)⟩
  case round =>
    obtain ⟨r, hr, rfl, HE, HB⟩ := hrel
    by_cases hrn : r < n
    · have hrb : decide ((r : Int) < n) = true := by simp; omega
      obtain ⟨c, hc⟩ : ∃ c, o[r]? = some c := ⟨_, List.getElem?_eq_getElem (by rw [HN.out]; exact hrn)⟩
      obtain ⟨a, u, rfl, hlt, hcell, hrow⟩ := (HO.out.keep HB.out).at r c hc
      obtain ⟨hc1, hc2⟩ := HS.out.2 c (List.mem_of_getElem? hc)
      have HS1 := Lib.hid (edges_any u c wr hrow (by omega) hc2)
      have HP := Lib.hid (flat_push hc)
      have HL2 := Lib.hid (show (edgesS c).length ≤ 4004 by have := edgesS_len c; omega)
      have hl1 := flat_len (o.take r) 1001 (fun d hd => (HS.out.2 d (List.mem_of_mem_take hd)).1)
      have hl2 : (o.take r).length ≤ 8 := by rw [List.length_take, HN.out]; omega
      obtain ⟨m, hm⟩ : ∃ m, ((o.take r).flatMap edgesS).length = m := ⟨_, rfl⟩
      have hmb : m ≤ 32032 := by rw [← hm]; have := Nat.mul_le_mul_right (4 * 1001) hl2; omega
      have HM := Lib.hid hm
      clear hrow hc1 hc2 hc hl1 hl2 hm
      go_wp2_with fail
      refine HS1.out.mono ?_
      rintro e w3 ⟨u1, rfl, hu1, hb3⟩
      have HE3 := Lib.hid (ERow.own (HE.out.below hb3) HM.out)
      have HE4 := Lib.hid (HE.out.below hb3)
      have HB3 := Lib.hid (HB.out.trans (hb3.mono HB.out.size))
      have hbz := HB3.out.size
      have HF := ERow.forms hu1
      have HU1 := Lib.hid hu1
      obtain ⟨L, hL⟩ : ∃ L, (edgesS c).length = L := ⟨_, rfl⟩
      have hLb : L ≤ 4004 := by rw [← hL]; exact HL2.out
      have HLn := Lib.hid hL
      clear hu1 hb3 HS1 hcell HE HB
      by_cases hL0 : L = 0
      · subst hL0
        have he : edgesS c = [] := List.eq_nil_of_length_eq_zero hL
        have HV' : Hid (ERow w3 w.heap.size u3 ((o.take (r + 1)).flatMap edgesS)) := Lib.hid (by rw [HP.out, he, List.append_nil]; exact HE4.out)
        obtain ⟨A1, cap1, rfl⟩ : ∃ A1 cap1, u1 = .slice A1 0 cap1 := by
          rcases HF with ⟨e, _⟩ | ⟨g, cp, e⟩
          · exact ⟨none, 0, e⟩
          · exact ⟨_, cp, by rw [e, hL]⟩
        have HR := Lib.hid (append_empty (P := Try.prog) w.heap.size 28 28 37 i0 4 Try.underlying28 hi0 _ _ _ HE3.out A1 cap1)
        clear HF hL he
        go_wp2_with (at_builtin; refine Lib.wpList_append_run _ rfl _ _ _ _ rfl _ _ rfl rfl _ _ HR.out ?_)
        exact ⟨⟨r + 1, by omega, by go_num, HV', HB3⟩, by simp [intOf]; omega⟩
      · obtain ⟨g1, cap1, rfl⟩ : ∃ g cp, u1 = .slice (some ⟨g, 0, none⟩) L cp := by
          rcases HF with ⟨_, e⟩ | ⟨g, cp, e⟩
          · rw [e] at hL; exact absurd hL.symm hL0
          · exact ⟨g, cp, by rw [e, hL]⟩
        have HNW := Lib.hid (ERow.news HU1.out)
        clear HF hL
        go_wp2_with (at_builtin; refine wpList_append_lies _ rfl _ _ _ (by rfl) w.heap.size 37 i0 _ 4 32 Try.underlying28 hi0 hz0 hz1 hz2 (by rfl) (by omega) _ m _ (by rfl) HE3.out ⟨g1, 0, none⟩ L cap1 (ecells (edgesS c)) (by rfl) (by rw [ecells_length, HLn.out]) HNW.out (ecells_one _) (by omega) (by simp [maxLen]; omega) (by omega) (by omega) w3.heap.size rfl ?_; intro g cp w1 hown hgrow hat hlt)
        have VN : ERow w1 w.heap.size (.slice (some ⟨g, 0, none⟩) (m + L) cp) ((o.take (r + 1)).flatMap edgesS) := by
          unfold ERow
          rw [HP.out, List.length_append, HM.out, HLn.out, ecells_append]
          exact hown
        have BN : Below w.heap.size w w1 := HB3.out.grown hgrow (by omega) (fun q hq => (World.ownsRow.lt HE3.out q hq).1)
        exact ⟨⟨r + 1, by omega, by go_num, Lib.hid VN, Lib.hid BN⟩, by simp [intOf]; omega⟩
    · obtain rfl : r = n := by omega
      have HF : Hid (ERow wr w.heap.size u3 (o.flatMap edgesS)) := Lib.hid (by have h := HE.out; rwa [List.take_of_length_le (by rw [HN.out]; exact Nat.le_refl _)] at h)
      clear HE
      go_wp2
      go_ret
      exact ⟨_, rfl, HF.out, HB.out⟩

end Go.Proofs.Ytglmgenifjaakaa
