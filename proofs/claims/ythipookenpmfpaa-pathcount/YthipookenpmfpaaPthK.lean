/-
  Maps from places to numbers: the key's law, what a map of counts reads as; plain numbers on the curves of a contour (no claim is made here).
-/
import Derived.Test.YthipookenpmfpaaPth6
import Derived.Test.YthipookenpmfpaaPthO
import Derived.DeepKeys5
import Derived.WideKeyEntry
import Derived.Maps.RangeWalk
import Derived.Maps.Ext
import Derived.Maps.OwnOps
namespace Go.Proofs.Ythipookenpmfpaa
open Go.RowKit Go.Maps

theorem lawPt : WideMaps.KeyLaw Try.prog 38 := deep_law_gate (by kernel_rfl) (of_decide_eq_true (by kernel_rfl)) (of_decide_eq_true (by kernel_rfl)) (by kernel_rfl) (by kernel_rfl)
theorem lawK : Keyed Try.prog 38 := Keyed.of_law lawPt
theorem typesSize : ∃ d, Try.prog.types.size = d + 1 := ⟨Try.prog.types.size - 1, by kernel_rfl⟩

def ptVal (p : Pt) : Value := .agg #[.int .i64 p.x, .int .i64 p.y]
def klP (p : Pt) : Lit := .string (keyBytes [.int .i64 p.x, .int .i64 p.y])
theorem key_int (d : Nat) (x : Int) (hx : (Lit.int .i64 x).wf = true) : Try.prog.keyLits (d + 1) 3 [.int .i64 x] = some [.int .i64 x] := by
  unfold Program.keyLits
  simp only [Try.underlying3]
  exact if_pos ⟨trivial, hx⟩
theorem key_int_inv {d : Nat} {v : Value} {L : List Lit} (h : Try.prog.keyLits (d + 1) 3 [v] = some L) : ∃ x, v = .int .i64 x ∧ (Lit.int .i64 x).wf = true := by
  unfold Program.keyLits at h
  simp only [Try.underlying3] at h
  cases v <;> simp at h
  obtain ⟨⟨rfl, hw⟩, _⟩ := h
  exact ⟨_, rfl, hw⟩
theorem key_lits (d : Nat) (x y : Int) (hx : (Lit.int .i64 x).wf = true) (hy : (Lit.int .i64 y).wf = true) : Try.prog.keyLits (d + 1 + 1) 38 [.int .i64 x, .int .i64 y] = some [.int .i64 x, .int .i64 y] := by
  have c1 : Try.prog.cellsOf 38 = 2 := by kernel_rfl
  have c2 : Try.prog.cellsOf 3 = 1 := by kernel_rfl
  unfold Program.keyLits
  simp only [Try.underlying38]
  simp [c1, c2, key_int, hx, hy]
theorem keyOf_pt (p : Pt) (hx : (Lit.int .i64 p.x).wf = true) (hy : (Lit.int .i64 p.y).wf = true) : keyOf Try.prog 38 (ptVal p) = some (klP p) := by
  obtain ⟨d, hd⟩ := typesSize
  have hk : Try.prog.keyType 38 = true := by kernel_rfl
  have c1 : Try.prog.cellsOf 38 = 2 := by kernel_rfl
  have h := key_lits d p.x p.y hx hy
  unfold keyOf
  rw [Try.underlying38, hk, hd]
  simp only [ptVal, Value.formed, Try.underlying38, c1, Value.cells]
  simp only [List.size_toArray, List.length_cons, List.length_nil, Bool.true_and, BEq.rfl, if_true]
  rw [h]
  rfl
theorem keyOf_pt_inv {key : Value} {kl : Lit} (h : keyOf Try.prog 38 key = some kl) : ∃ p : Pt, key = ptVal p ∧ (Lit.int .i64 p.x).wf = true ∧ (Lit.int .i64 p.y).wf = true := by
  obtain ⟨xs, L, rfl, h1, -⟩ := keyOf_top (P := Try.prog) (k := 38) (by kernel_rfl) h
  obtain ⟨d, hd⟩ := typesSize
  have c1 : Try.prog.cellsOf 38 = 2 := by kernel_rfl
  have c2 : Try.prog.cellsOf 3 = 1 := by kernel_rfl
  rw [hd] at h1
  unfold Program.keyLits at h1
  simp only [Try.underlying38, c1] at h1
  obtain ⟨l⟩ := xs
  match l, h1 with
  | [], h1 => simp at h1
  | [a], h1 => simp at h1
  | a :: b :: c :: r, h1 => simp at h1
  | [a, b], h1 =>
    simp [c2] at h1
    cases ha : Try.prog.keyLits (d + 1) 3 [a] with
    | none => rw [ha] at h1; simp at h1
    | some La =>
      cases hb : Try.prog.keyLits (d + 1) 3 [b] with
      | none => rw [ha, hb] at h1; simp at h1
      | some Lb =>
        obtain ⟨x, rfl, hx⟩ := key_int_inv ha
        obtain ⟨y, rfl, hy⟩ := key_int_inv hb
        exact ⟨⟨x, y⟩, rfl, hx, hy⟩
/-- A place whose numbers are ints. -/
def inR (p : Pt) : Prop := (Lit.int .i64 p.x).wf = true ∧ (Lit.int .i64 p.y).wf = true
theorem klP_inj {p q : Pt} (hp : inR p) (hq : inR q) (h : klP p = klP q) : p = q := by
  have h1 := keyOf_pt p hp.1 hp.2
  have h2 := keyOf_pt q hq.1 hq.2
  rw [h] at h1
  have h3 := lawPt.inj h1 h2
  simp only [ptVal, Value.agg.injEq] at h3
  have h4 := congrArg Array.toList h3
  simp only [List.cons.injEq, Value.int.injEq, true_and, and_true] at h4
  obtain ⟨px, py⟩ := p
  obtain ⟨qx, qy⟩ := q
  simp only [] at h4
  rw [h4.1, h4.2]
theorem klP_key (p : Pt) : WideAt.IsKeyLit (klP p) := by trivial

/-- A map that counts a row's places. -/
def Counts (D : DataW Unit) (ps : List Pt) : Prop :=
  (∀ kl, Maps.has D kl = true ↔ ∃ p ∈ ps, klP p = kl) ∧ ∀ p ∈ ps, ∀ z, D.atKey (klP p) z = .lit (.int .i64 (ps.count p : Nat))
theorem counts_nil : Counts (.map []) [] := ⟨fun kl => ⟨(fun h => by cases h), (fun ⟨p, hp, _⟩ => by cases hp)⟩, (fun p hp => by cases hp)⟩
theorem counts_at {D : DataW Unit} {ps : List Pt} (h : Counts D ps) (hr : ∀ q ∈ ps, inR q) {p : Pt} (hp : inR p) {c : Int} (hc : D.atKey (klP p) (.lit (.int .i64 0)) = .lit (.int .i64 c)) : c = (ps.count p : Nat) := by
  by_cases hm : p ∈ ps
  · have := h.2 p hm (.lit (.int .i64 0))
    rw [hc] at this
    simpa using this
  · have hf : Maps.has D (klP p) = false := by
      cases hh : Maps.has D (klP p) with
      | false => rfl
      | true =>
        obtain ⟨q, hq, e⟩ := (h.1 _).1 hh
        exact absurd (klP_inj (hr q hq) hp e ▸ hq) hm
    rw [Maps.atKey_of_not_has hf] at hc
    rw [List.count_eq_zero_of_not_mem hm]
    simp at hc
    omega
theorem counts_put {D : DataW Unit} {ps : List Pt} (h : Counts D ps) (hr : ∀ q ∈ ps, inR q) (hD : Maps.IsMap D) {p : Pt} (hp : inR p) {c : Int} (hc : D.atKey (klP p) (.lit (.int .i64 0)) = .lit (.int .i64 c)) : Counts (D.put (klP p) (.lit (.int .i64 (c + 1)))) (ps ++ [p]) := by
  have e := counts_at h hr hp hc
  refine ⟨fun kl => ?_, fun q hq z => ?_⟩
  · by_cases hk : kl = klP p
    · subst hk
      exact ⟨fun _ => ⟨p, by simp, rfl⟩, fun _ => Maps.has_put_same hD (klP_key p) _⟩
    · rw [Maps.has_put_other hk, h.1 kl]
      constructor
      · rintro ⟨q, hq, e⟩
        exact ⟨q, List.mem_append_left _ hq, e⟩
      · rintro ⟨q, hq, eq⟩
        rcases List.mem_append.1 hq with hq | hq
        · exact ⟨q, hq, eq⟩
        · rw [List.mem_singleton.1 hq] at eq
          exact absurd eq.symm hk
  · by_cases hqp : q = p
    · subst hqp
      rw [Maps.atKey_put_same hD (klP_key q), List.count_append, e]
      simp
    · have hq' : q ∈ ps := by
        rcases List.mem_append.1 hq with hq | hq
        · exact hq
        · exact absurd (List.mem_singleton.1 hq) hqp
      have hne : klP q ≠ klP p := fun e => hqp (klP_inj (hr q hq') hp e)
      rw [Maps.atKey_put_other hne, h.2 q hq', List.count_append, List.count_singleton]
      have : (p == q) = false := by simpa using fun e => hqp e.symm
      rw [this]
      simp
theorem counts_ext {D E : DataW Unit} {ps qs : List Pt} (h : Counts D ps) (k : Counts E qs) (hc : ∀ p, ps.count p = qs.count p) (c₁ : Maps.Canon D) (c₂ : Maps.Canon E) : D = E := by
  have hm : ∀ p, p ∈ ps ↔ p ∈ qs := fun p => by rw [← List.count_pos_iff, ← List.count_pos_iff, hc]
  have hh : ∀ kl, Maps.has D kl = Maps.has E kl := fun kl => by
    rw [Bool.eq_iff_iff, h.1, k.1]
    exact ⟨fun ⟨p, hp, e⟩ => ⟨p, (hm p).1 hp, e⟩, fun ⟨p, hp, e⟩ => ⟨p, (hm p).2 hp, e⟩⟩
  refine Maps.ext c₁ c₂ hh (fun kl z hk => ?_)
  obtain ⟨p, hp, rfl⟩ := (h.1 kl).1 hk
  rw [h.2 p hp, k.2 p ((hm p).1 hp), hc]

section
open Go.ChangeMaps Go.MapKept Go.WideElems
theorem zeroInt (w : World) : (zeroValue 3).run Try.prog w = .ok (.int .i64 0) w := by kernel_rfl
/-- 'm[k]++' in its parts. -/
theorem bump {w : World} {b n : Nat} {D : DataW Unit} (h : w.ownsMap Try.prog 38 (plainElem Try.prog 3) b n D) (hn : n < maxLen) {p : Pt} (hp : inR p) :
    ∃ (c : Int) (v0 : Value) (st : Nat) (w2 : World), (Instr.lookup 41 (.map (some b)) (ptVal p) false).run Try.prog w = .ok (.int .i64 c) w ∧ D.atKey (klP p) (.lit (.int .i64 0)) = .lit (.int .i64 c) ∧ (Lit.int .i64 c).wf = true ∧
      (Instr.mapEntry 41 (.map (some b)) (ptVal p)).run Try.prog w = .ok (.tuple #[v0, .int .i64 st]) w2 ∧
      ∀ d : Int, (Lit.int .i64 d).wf = true → ∃ w3, (Instr.entryStore 41 (.map (some b)) (.int .i64 st) (.int .i64 d)).run Try.prog w2 = .ok () w3 ∧ w3.ownsMap Try.prog 38 (plainElem Try.prog 3) b (n + 1) (D.put (klP p) (.lit (.int .i64 d))) ∧ w.grownBy w3 (some b) := by
  have hkey := keyOf_pt p hp.1 hp.2
  obtain ⟨c, hl, hat, hw⟩ := h.lookup_int lawK Try.underlying41 Try.underlying3 (zeroInt _) hkey
  obtain ⟨es, clock, hb, F, hs, hD⟩ := id h
  obtain ⟨v0, st, es1, clock1, he, -, hst⟩ := entry_then_store lawPt Try.underlying41 zeroInt hb F hkey
  refine ⟨c, v0, st, _, hl, hat, hw, he, fun d hd => ?_⟩
  obtain ⟨es', clock', hr1, hr2⟩ := hst (setBlock w b (.map es1 clock1)) (.int .i64 d) (heap_setBlock_same hb _)
  obtain ⟨w', hu, hown, hg⟩ := h.update lawK Try.underlying41 hn hkey (plainElem_int Try.underlying3 hd)
  have ew : w' = setBlock w b (.map es' clock') := by
    rw [hu] at hr2
    injection hr2
  refine ⟨_, hr1, ?_, ?_⟩
  · obtain ⟨es2, clock2, hb2, F2, hs2, hD2⟩ := hown
    rw [ew, heap_setBlock_same hb] at hb2
    injection hb2 with hb2
    injection hb2 with h1 h2
    subst h1 h2
    exact ⟨es', clock', heap_setBlock_same (heap_setBlock_same hb _) _, F2, hs2, hD2⟩
  · refine ⟨rfl, rfl, rfl, by simp [setBlock], fun i _ hi => ?_⟩
    have hne : i ≠ b := fun e => hi (by rw [e])
    rw [heap_setBlock_other (heap_setBlock_same hb _) _ hne, heap_setBlock_other hb _ hne]
/-- A look-up behind the entry's making tells the same. -/
theorem look_behind {w w2 : World} {b n : Nat} {D : DataW Unit} (h : w.ownsMap Try.prog 38 (plainElem Try.prog 3) b n D) (hn : n < maxLen) {p : Pt} (hp : inR p) {x : Value} {c : Int}
    (he : (Instr.mapEntry 41 (.map (some b)) (ptVal p)).run Try.prog w = .ok x w2) (hat : D.atKey (klP p) (.lit (.int .i64 0)) = .lit (.int .i64 c)) :
    (Instr.lookup 41 (.map (some b)) (ptVal p) false).run Try.prog w2 = .ok (.int .i64 c) w2 := by
  have hkey := keyOf_pt p hp.1 hp.2
  obtain ⟨es, clock, hb, F, hs, hD⟩ := id h
  rcases lawPt.find w hkey es.toList F.keys with ⟨h1, h2⟩ | ⟨j, e0, h1, h2, h3⟩
  · have hz := zeroInt w
    have q1 : (Instr.mapEntry 41 (.map (some b)) (ptVal p)).run Try.prog w = .ok (.tuple #[.int .i64 0, goInt clock]) (setBlock w b (.map (es.push ⟨ptVal p, .int .i64 0, clock⟩) (clock + 1))) := by
      simp [Instr.mapEntry, run_underlying Try.underlying41, MapKept.run_getObj_map hb, lawPt.check w false hkey, h1, hz, MapKept.run_setObj_map _ hb, Result.andThen, setBlock]
    have q2 : (Instr.mapUpdate 41 (.map (some b)) (ptVal p) (.int .i64 0)).run Try.prog w = .ok () (setBlock w b (.map (es.push ⟨ptVal p, .int .i64 0, clock⟩) (clock + 1))) := by
      simp [Instr.mapUpdate, run_underlying Try.underlying41, MapKept.run_getObj_map hb, lawPt.check w false hkey, h1, MapKept.run_setObj_map _ hb, Result.andThen, setBlock]
    obtain ⟨w', hu, hown, -⟩ := h.update lawK Try.underlying41 hn hkey (plainElem_int Try.underlying3 (a := 0) (by decide))
    rw [q2] at hu
    rw [q1] at he
    obtain ⟨-, hu⟩ := Result.ok.inj hu
    obtain ⟨-, he⟩ := Result.ok.inj he
    rw [← hu, he] at hown
    obtain ⟨c', hl, hat', -⟩ := hown.lookup_int lawK Try.underlying41 Try.underlying3 (zeroInt _) hkey
    rw [Maps.atKey_put_same h.isMap (klP_key p)] at hat'
    have hf : Maps.has D (klP p) = false := by
      cases hh : Maps.has D (klP p) with
      | false => rfl
      | true =>
        rw [hD] at hh
        obtain ⟨y, hy, hyk⟩ := List.any_eq_true.1 hh
        obtain ⟨e, hem, rfl⟩ := List.mem_map.1 (mem_sorted.1 hy)
        obtain ⟨z, hz⟩ := F.reads e hem
        rw [rg_of hz] at hyk
        have := lawPt.inj (WideAt.sameKey_eq hyk ▸ rd_key hz) hkey
        exact absurd this (h2 e hem)
    rw [Maps.atKey_of_not_has hf] at hat
    have e1 : c' = 0 := by simp at hat'; omega
    have e2 : c = 0 := by simp at hat; omega
    rw [e2, ← e1]
    exact hl
  · have hj : es[j]? = some e0 := by simpa using h2
    have hsame : es.modify j (fun e => { e with key := ptVal p }) = es := by
      apply Array.ext'
      rw [Array.toList_modify, modify_eq_set _ _ _ _ h2]
      have : ({ e0 with key := ptVal p } : MapEntry) = e0 := by rw [← h3]
      rw [this]
      exact set_self _ _ _ h2
    have q1 : (Instr.mapEntry 41 (.map (some b)) (ptVal p)).run Try.prog w = .ok (.tuple #[e0.val, goInt e0.born]) (setBlock w b (.map es clock)) := by
      simp [Instr.mapEntry, run_underlying Try.underlying41, MapKept.run_getObj_map hb, lawPt.check w false hkey, h1, hj, h3, lawPt.stays w hkey, hsame, MapKept.run_setObj_map _ hb, Result.andThen, setBlock]
    rw [q1] at he
    obtain ⟨-, he⟩ := Result.ok.inj he
    subst he
    have hown : (setBlock w b (.map es clock)).ownsMap Try.prog 38 (plainElem Try.prog 3) b n D := ⟨es, clock, heap_setBlock_same hb _, F, hs, hD⟩
    obtain ⟨c', hl, hat', -⟩ := hown.lookup_int lawK Try.underlying41 Try.underlying3 (zeroInt _) hkey
    rw [hat] at hat'
    have e1 : c = c' := by simpa using hat'
    rw [e1]
    exact hl
end

/-! ### The curves of a contour -/
def offPts (c : List Vtx) : List Pt := (c.filter fun v => !v.on).map ptV
def curveBs (l : List Sg) : List Pt := (l.filter fun s => s.curve).map fun s => s.b
theorem curves_walk (s : Pt) : ∀ (vs : List Vtx) (a : Pt) (ctl : Option Vtx), curveBs (walkS s a ctl vs) = (ctl.map ptV).toList ++ offPts vs
  | [], a, none => rfl
  | [], a, some u => rfl
  | v :: vs, a, ctl => by
    by_cases h : v.on = true
    · have ih := curves_walk s vs (ptV v) none
      rw [walk_on _ _ _ _ _ h]
      cases ctl with
      | none => simp only [curveBs, sgOf, offPts, List.filter_cons, h] at ih ⊢; simpa using ih
      | some u => simp only [curveBs, sgOf, offPts, List.filter_cons, h] at ih ⊢; simpa using ih
    · have h' : v.on = false := by simpa using h
      cases ctl with
      | none =>
        have ih := curves_walk s vs a (some v)
        rw [walk_first _ _ _ _ h', ih]
        simp [offPts, h']
      | some u =>
        have ih := curves_walk s vs (midV u v) (some v)
        rw [walk_mid _ _ _ _ _ h']
        simp only [curveBs, sgOf, offPts, List.filter_cons, h'] at ih ⊢
        simpa using ih
/-- As many curves as points that pull, each pulled at by one. -/
theorem curves_count (c : List Vtx) (p : Pt) : (offPts c).count p = (curveBs (segsS c)).count p := by
  by_cases hc : c = []
  · subst hc; rfl
  · unfold segsS
    rw [if_neg hc, curves_walk]
    simp only [Option.map_none, Option.toList_none, List.nil_append]
    unfold othersS
    cases hf : firstOn c with
    | none => rfl
    | some f =>
      obtain ⟨v, h1, h2, _⟩ := firstOn_some hf
      obtain ⟨hf', rfl⟩ := List.getElem?_eq_some_iff.1 h1
      have hsplit : c = c.take f ++ c[f] :: c.drop (f + 1) := by rw [← List.drop_eq_getElem_cons hf', List.take_append_drop]
      have e1 : offPts c = offPts (c.take f) ++ offPts (c.drop (f + 1)) := by
        have : offPts c = offPts (c.take f ++ c[f] :: c.drop (f + 1)) := by rw [← hsplit]
        rw [this]
        unfold offPts
        rw [List.filter_append, List.filter_cons, if_neg (by simp [h2]), List.map_append]
      have e2 : offPts (c.drop (f + 1) ++ c.take f) = offPts (c.drop (f + 1)) ++ offPts (c.take f) := by simp [offPts, List.filter_append]
      simp only []
      rw [e1, e2, List.count_append, List.count_append, Nat.add_comm]

end Go.Proofs.Ythipookenpmfpaa
