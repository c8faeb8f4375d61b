/-
  What the law GlyfParse does to any world (no claim is made here).
-/
import Derived.Test.YtgkhpnjfpahlgaaLPar
import Derived.Test.YtgkhpnjfpahlgaaGlyfAgainWalk
import Derived.Deep.RegionLaw
import Derived.Deep.DeepCutAuto
import Derived.Deep.CutBlock
namespace Go.Proofs.Ytgkhpnjfpahlgaa
open Go.RowKit

/-- The law's parse, the outline's form told. -/
theorem lpar_of (v : Value) (bs : List Nat) (w : World) (hv : BRd w v bs) (hvl : bs ≠ [] → ∀ k, v.ownBlock = some k → k < w.heap.size) (o : List (List Vtx)) (er : Nat) (hp : parseS bs = (o, er)) :
    Calls Try.prog 17 #[v] w fun e w' => ∃ A cap, e = .returned (.tuple #[.agg #[.slice A o.length cap], .int .i64 er]) ∧ Below w.heap.size w w' ∧ ORd w' (.slice A o.length cap) o := by
  refine (lparse_any v bs w hv hvl).mono ?_
  rintro e w' ⟨u, er', rfl, hb, her, hord⟩
  rw [hp] at her hord
  obtain ⟨A, cap, hu, _, _⟩ := id hord
  have hu' : u = .slice A o.length cap := hu
  subst hu'
  exact ⟨A, cap, by rw [her], hb, hord⟩

/-- Bytes appended to nothing: a row of one's own. -/
theorem wp_append_nil {P : Program} {w : World} {ops : Array Oper} {rest : List Oper} {o : Oper} {a : Act} {Q : Exit → Act → World → Prop} (hgd : o.guard = none) (x : Operand) (t : TypeId)
    (ho : o.op = .call { callee := .builtin .append, args := #[.const (.slice none 0 0), x], argTypes := #[t, t] })
    (base : Nat) (e : TypeId) (i : TypeInfo) (z : Value) (size bytes : Nat) (ht : P.underlying t = some (.slice e)) (hi : P.info? e = some i) (hz : i.zero = some z)
    (hsize : i.size = size) (hby : i.bytes = bytes) (hzs : z.cells.size = size) (hsz : 0 < size)
    (ad : Addr) (m c : Nat) (news : List Value) (hx : a.eval x = .slice (some ad) m c) (hl : news.length = m * size) (hnews : ∀ j u, news[j]? = some u → w.cell? (ad.add j) = some u) (h1 : ∀ u ∈ news, u.oneCell' = true)
    (hm : 0 < m) (h63 : m ≤ maxLen) (hbytes : m * bytes ≤ 140737488355328) (hbase : base ≤ w.heap.size)
    (h : ∀ g cap w', w'.ownsRow base e size (.slice (some ⟨g, 0, none⟩) m cap) m news → w.grownBy w' none → g = w.heap.size → wpList P ops Q rest (a.put o.dst (.slice (some ⟨g, 0, none⟩) m cap)) w') : wpList P ops Q (o :: rest) a w := by
  refine wpList_append_lies w hgd _ x t ho base e i z size bytes ht hi hz hsize hby hzs hsz _ 0 [] rfl (World.ownsRow_nil _ _ _ _) ad m c news hx hl hnews h1 hm (by rw [Nat.zero_add]; exact h63) (by rw [Nat.zero_add]; exact hbytes) hbase _ rfl ?_
  intro g cap w' hown hgrow hat _
  rw [Nat.zero_add, List.nil_append] at hown
  rw [Nat.zero_add]
  exact h g cap w' hown hgrow (hat.elim (fun e => by cases e) id)
theorem step_append_nil {P : Program} {w : World} {ops : Array Oper} {o : Oper} {a : Act} {K : Act → World → Prop} {Q : Exit → Act → World → Prop} {E : Prop} (hgd : o.guard = none) (x : Operand) (t : TypeId)
    (ho : o.op = .call { callee := .builtin .append, args := #[.const (.slice none 0 0), x], argTypes := #[t, t] })
    (base : Nat) (e : TypeId) (i : TypeInfo) (z : Value) (size bytes : Nat) (ht : P.underlying t = some (.slice e)) (hi : P.info? e = some i) (hz : i.zero = some z)
    (hsize : i.size = size) (hby : i.bytes = bytes) (hzs : z.cells.size = size) (hsz : 0 < size)
    (ad : Addr) (m c : Nat) (news : List Value) (hx : a.eval x = .slice (some ad) m c) (hl : news.length = m * size) (hnews : ∀ j u, news[j]? = some u → w.cell? (ad.add j) = some u) (h1 : ∀ u ∈ news, u.oneCell' = true)
    (hm : 0 < m) (h63 : m ≤ maxLen) (hbytes : m * bytes ≤ 140737488355328) (hbase : base ≤ w.heap.size)
    (h : ∀ g cap w', w'.ownsRow base e size (.slice (some ⟨g, 0, none⟩) m cap) m news → w.grownBy w' none → g = w.heap.size → K (a.put o.dst (.slice (some ⟨g, 0, none⟩) m cap)) w') :
    if Region.wanted o (yielded ops a.tmps) = true then Oper.wp P o a w K Q else E := by
  refine step_append_lies w hgd _ x t ho base e i z size bytes ht hi hz hsize hby hzs hsz _ 0 [] rfl (World.ownsRow_nil _ _ _ _) ad m c news hx hl hnews h1 hm (by rw [Nat.zero_add]; exact h63) (by rw [Nat.zero_add]; exact hbytes) hbase _ rfl ?_
  intro g cap w' hown hgrow hat _
  rw [Nat.zero_add, List.nil_append] at hown
  rw [Nat.zero_add]
  exact h g cap w' hown hgrow (hat.elim (fun e => by cases e) id)

theorem bvals_one (bs : List Nat) : ∀ u ∈ bvals bs, u.oneCell' = true := by
  intro u hu
  obtain ⟨b, _, rfl⟩ := List.mem_map.1 hu
  rfl
/-- A row's cells, as an append wants them. -/
theorem BRow.news {w : World} {base g n cap : Nat} {bs : List Nat} (h : BRow w base (.slice (some ⟨g, 0, none⟩) n cap) bs) (hn : bs.length = n) : ∀ j u, (bvals bs)[j]? = some u → w.cell? ((⟨g, 0, none⟩ : Addr).add j) = some u := by
  intro j u hu
  have hj : j < bs.length := by
    have := (List.getElem?_eq_some_iff.1 hu).1
    rwa [bvals_length] at this
  have e : (⟨g, 0, none⟩ : Addr).add j = ⟨g, j, none⟩ := by rw [Addr.add]; simp only [Nat.zero_add]; by_cases h0 : j = 0 <;> simp [h0]
  rw [e, (h.own hn).cellAt j (by omega)]
  exact hu

/-- Cells behind one more block, and behind an append. -/
theorem news_alloc {w : World} {g : Nat} {news : List Value} (h : ∀ j u, news[j]? = some u → w.cell? ((⟨g, 0, none⟩ : Addr).add j) = some u) (hg : g < w.heap.size) (o : Obj) : ∀ j u, news[j]? = some u → (w.alloc o).cell? ((⟨g, 0, none⟩ : Addr).add j) = some u :=
  fun j u hu => (((Below.refl _ w).alloc (Nat.le_refl _) o).cell (p := (⟨g, 0, none⟩ : Addr).add j) (by rw [block_add]; exact hg)).trans (h j u hu)
theorem news_grown {w w' : World} {g : Nat} {news : List Value} {row : Option Nat} (h : ∀ j u, news[j]? = some u → w.cell? ((⟨g, 0, none⟩ : Addr).add j) = some u) (hg : g < w.heap.size) (hr : w.grownBy w' row) (hne : some g ≠ row) : ∀ j u, news[j]? = some u → w'.cell? ((⟨g, 0, none⟩ : Addr).add j) = some u :=
  fun j u hu => (World.cell?_of_block (a := (⟨g, 0, none⟩ : Addr).add j) (by rw [block_add]; exact hr.block g hg hne)).trans (h j u hu)
/-- Five rows of bytes that are read one by one. -/
def Rows5 (W : World) (G : Nat) : Prop := ∀ j, j < 5 → ∃ (X : Option Addr) (N C : Nat) (xb : List Nat), W.cell? ⟨G, j, none⟩ = some (.slice X N C) ∧ BRd W (.slice X N C) xb ∧ (xb ≠ [] → ∀ k, (Value.slice X N C).ownBlock = some k → k < W.heap.size)

/-- The five rows, laid. -/
theorem rows5_mk {w W w6 : World} {A0 : Option Addr} {n0 cap0 gb gx gz capb capx capz L k xr : Nat} {bs0 es xs : List Nat} (hw : Below w.heap.size w W) (hb : Below W.heap.size W w6) (R0 : BRd W (.slice A0 n0 cap0) bs0) (l0 : bs0 ≠ [] → ∀ k, (Value.slice A0 n0 cap0).ownBlock = some k → k < W.heap.size)
    (R1 : BRd W (.slice (some ⟨gb, 0, none⟩) L capb) es) (R2 : BRd W (.slice (some ⟨gx, 0, none⟩) L capx) xs) (hk : k ≤ es.length) (zb : gb < W.heap.size) (zx : gx < W.heap.size) (hxr : xr < 256) (heb : ∀ b ∈ es, b < 256) (hL : es.length = L)
    (hown : w6.ownsRow W.heap.size 5 1 (.slice (some ⟨gz, 0, none⟩) (L + 1) capz) (L + 1) (bvals es ++ [.int .u8 (xr : Int)])) :
    Below w.heap.size w (w6.alloc (.cells #[.slice A0 n0 cap0, .slice (some ⟨gb, 0, none⟩) L capb, .slice (some ⟨gx, 0, none⟩) L capx, .slice (some ⟨gb, 0, none⟩) k capb, .slice (some ⟨gz, 0, none⟩) (L + 1) capz] 34)) ∧
      Rows5 (w6.alloc (.cells #[.slice A0 n0 cap0, .slice (some ⟨gb, 0, none⟩) L capb, .slice (some ⟨gx, 0, none⟩) L capx, .slice (some ⟨gb, 0, none⟩) k capb, .slice (some ⟨gz, 0, none⟩) (L + 1) capz] 34)) w6.heap.size := by
  have R4 : BRd w6 (.slice (some ⟨gz, 0, none⟩) (L + 1) capz) (es ++ [xr]) := by
    have h : BRow w6 W.heap.size (.slice (some ⟨gz, 0, none⟩) (L + 1) capz) (es ++ [xr]) := by
      unfold BRow
      rw [bvals_append, List.length_append, hL]
      exact hown
    exact h.read (fun b hb => by
      rcases List.mem_append.1 hb with h | h
      · exact heb b h
      · rw [List.mem_singleton.1 h]; exact hxr)
  have hz4 := (hown.lt gz rfl).2
  generalize hcs : (#[.slice A0 n0 cap0, .slice (some ⟨gb, 0, none⟩) L capb, .slice (some ⟨gx, 0, none⟩) L capx, .slice (some ⟨gb, 0, none⟩) k capb, .slice (some ⟨gz, 0, none⟩) (L + 1) capz] : Array Value) = cells
  have hA : Below w6.heap.size w6 (w6.alloc (.cells cells 34)) := (Below.refl _ w6).alloc (Nat.le_refl _) _
  have hWA := hb.trans (hA.mono hb.size)
  have hblk : (w6.alloc (.cells cells 34)).heap[w6.heap.size]? = some (.cells cells 34 (0, 0)) := heap_alloc_new _ _
  have hcell : ∀ j (v : Value), cells[j]? = some v → (w6.alloc (.cells cells 34)).cell? ⟨w6.heap.size, j, none⟩ = some v := by
    intro j v hv
    have h := World.news_of_block hblk j v (by simpa using hv)
    have e : (⟨w6.heap.size, 0, none⟩ : Addr).add j = ⟨w6.heap.size, j, none⟩ := by rw [Addr.add]; simp only [Nat.zero_add]; by_cases h0 : j = 0 <;> simp [h0]
    rwa [e] at h
  refine ⟨hw.trans (hWA.mono hw.size), ?_⟩
  intro j hj
  have hz6 := hWA.size
  rcases (by omega : j = 0 ∨ j = 1 ∨ j = 2 ∨ j = 3 ∨ j = 4) with rfl | rfl | rfl | rfl | rfl
  · exact ⟨A0, n0, cap0, bs0, hcell 0 _ (by rw [← hcs]; rfl), R0.keep hWA, fun h k hk => Nat.lt_of_lt_of_le (l0 h k hk) hz6⟩
  · exact ⟨_, L, capb, es, hcell 1 _ (by rw [← hcs]; rfl), R1.keep hWA, fun _ k hk => by have : gb = k := by { simpa [Value.ownBlock] using hk }; omega⟩
  · exact ⟨_, L, capx, xs, hcell 2 _ (by rw [← hcs]; rfl), R2.keep hWA, fun _ k hk => by have : gx = k := by { simpa [Value.ownBlock] using hk }; omega⟩
  · exact ⟨_, k, capb, es.take k, hcell 3 _ (by rw [← hcs]; rfl), (R1.take k hk).keep hWA, fun _ k hk => by have : gb = k := by { simpa [Value.ownBlock] using hk }; omega⟩
  · exact ⟨_, L + 1, capz, es ++ [xr], hcell 4 _ (by rw [← hcs]; rfl), R4.keep hA, fun _ k hk => by have : gz = k := by { simpa [Value.ownBlock] using hk }; have := hA.size; omega⟩

theorem orderA {W w5 w6 : World} {v : Value} {L : Nat} {xs : List Value} {o : Obj} (g5 : W.drew.grownBy w5 none) (o5 : w5.ownsRow W.heap.size 5 1 v L xs) (g6 : (w5.alloc o).grownBy w6 v.ownBlock) : Below W.heap.size W w6 := by
  have h5 : W.heap.size ≤ w5.heap.size := g5.size
  have h0 : Below W.heap.size W w5 := (Below.refl W.heap.size W).drew.grown g5 (Nat.le_refl _) (fun q hq => by cases hq)
  exact (h0.alloc h5 o).grown g6 (by rw [World.size_alloc]; omega) (fun q hq => (o5.lt q hq).1)
theorem orderB {W w5 w6 : World} {v : Value} {L : Nat} {xs : List Value} {o : Obj} (g5 : (W.drew.alloc o).grownBy w5 none) (o5 : w5.ownsRow W.heap.size 5 1 v L xs) (g6 : w5.grownBy w6 v.ownBlock) : Below W.heap.size W w6 := by
  have h5 := g5.size
  rw [World.size_alloc] at h5
  have h5' : W.heap.size + 1 ≤ w5.heap.size := h5
  have h0 : Below W.heap.size W (W.drew.alloc o) := (Below.refl W.heap.size W).drew.alloc (Nat.le_refl _) o
  have h1 := h0.grown g5 (by rw [World.size_alloc]; exact Nat.le_succ _) (fun q hq => by cases hq)
  exact h1.grown g6 (by omega) (fun q hq => (o5.lt q hq).1)
theorem newsB {W w5 : World} {b : Value} (g5 : (W.drew.alloc (.cells #[b] 5)).grownBy w5 none) : w5.heap[W.heap.size]? = some (.cells #[b] 5 (0, 0)) :=
  (g5.block W.heap.size (by rw [World.size_alloc]; exact Nat.lt_succ_self _) (fun e => by cases e)).trans (heap_alloc_new W.drew _)
theorem sizeA {W w5 : World} {o : Obj} (g5 : W.drew.grownBy w5 none) : W.heap.size ≤ (w5.alloc o).heap.size := by
  have h5 : W.heap.size ≤ w5.heap.size := g5.size
  rw [World.size_alloc]
  omega
theorem sizeB {W w5 : World} {o : Obj} (g5 : (W.drew.alloc o).grownBy w5 none) : W.heap.size ≤ w5.heap.size := by
  have h5 := g5.size
  rw [World.size_alloc] at h5
  exact Nat.le_trans (Nat.le_succ _) h5
theorem newsA (w5 : World) (b : Value) : (w5.alloc (.cells #[b] 5)).heap[w5.heap.size]? = some (.cells #[b] 5 (0, 0)) := heap_alloc_new _ _
theorem gb_ne {gb n cap q gx m : Nat} (h : (Value.slice (some ⟨gb, 0, none⟩) n cap).ownBlock = some q) (hne : gb ≠ gx) : q ≠ (⟨gx, m, none⟩ : Addr).block := by
  have : gb = q := by simpa [Value.ownBlock] using h
  subst this
  exact hne

set_option maxRecDepth 100000 in
set_option maxHeartbeats 1600000 in
theorem glyfParse_walk (A0 : Option Addr) (n0 cap0 : Nat) (bs0 : List Nat) (A : Option Addr) (n cap : Nat) (cs : List (List Dot)) (at' by' cut' : Int) (w : World) (hb0 : BRd w (.slice A0 n0 cap0) bs0) (hl0 : bs0 ≠ [] → ∀ k, (Value.slice A0 n0 cap0).ownBlock = some k → k < w.heap.size) (hcs : DotRows w A n cap cs) (hat : 0 ≤ at' ∧ at' ≤ 255) (hby : 0 ≤ by' ∧ by' ≤ 255) (hcut : 0 ≤ cut' ∧ cut' ≤ 255) :
    Calls Try.prog 5 #[.slice A0 n0 cap0, .slice A n cap, .int .u8 at', .int .u8 by', .int .u8 cut'] w fun e w' => e = .returned (.bool true) ∧ Below w.heap.size w w' := by
  have HD := Lib.hid hcs
  have HB0 := Lib.hid hb0
  have HL0 := Lib.hid hl0
  have HCK := Lib.hid (outlineS_check cs)
  obtain ⟨o, ho⟩ : ∃ o, outlineS cs = o := ⟨_, rfl⟩
  rw [ho] at HCK
  have HO := Lib.hid ho
  obtain ⟨pos, rfl⟩ : ∃ pos : Nat, at' = pos := ⟨at'.toNat, by omega⟩
  obtain ⟨xr, rfl⟩ : ∃ xr : Nat, by' = xr := ⟨by'.toNat, by omega⟩
  obtain ⟨ct, rfl⟩ : ∃ ct : Nat, cut' = ct := ⟨cut'.toNat, by omega⟩
  have hpos : pos ≤ 255 := by omega
  have hxr : xr < 256 := by omega
  have hct : ct ≤ 255 := by omega
  have hpw : IntKind.i64.wrap (pos : Int) = pos := by rw [IntKind.wrap_i64]; omega
  have hcw : IntKind.i64.wrap (ct : Int) = ct := by rw [IntKind.wrap_i64]; omega
  have hn0 : n0 = bs0.length ∧ n0 ≤ cap0 ∧ cap0 ≤ maxLen := by
    obtain ⟨_, _, e, h1, h2, _⟩ := hb0
    simp only [Value.slice.injEq] at e
    omega
  have HN0 := Lib.hid hn0
  clear hcs ho hb0 hl0 hat hby hn0 hcut
  go_enter Try.func5, Try.ntmps5
  go_wp2_with fail
  refine (awake_any _).mono ?_
  rintro e w1 ⟨rfl, hb1⟩
  have HC := Lib.hid (outline_any A n cap cs w1 (HD.out.keep hb1))
  have HB1 := Lib.hid hb1
  clear hb1
  go_wp2_with fail
  refine HC.out.mono ?_
  rintro e w2 ⟨v, rfl, hol, hb2⟩
  rw [HO.out] at hol
  have HB2 := Lib.hid (HB1.out.trans (hb2.mono HB1.out.size))
  have HE := Lib.hid (penc_ok v o w2 hol.read HCK.out)
  have hmx := encode_max o HCK.out
  obtain ⟨es, hes⟩ : ∃ es, encodeS o = es := ⟨_, rfl⟩
  have HEB : Hid (∀ b ∈ es, b < 256) := Lib.hid (by rw [← hes]; exact encode_bytes o HCK.out)
  rw [hes] at HE hmx
  obtain ⟨L, hL⟩ : ∃ L, es.length = L := ⟨_, rfl⟩
  rw [hL] at HE hmx
  have HL := Lib.hid hL
  obtain ⟨hm1, hm2⟩ := hmx
  obtain ⟨Ao, capo, rfl⟩ := hol.form
  clear hol hb2 HC HB1 hL hes
  go_wp2_with fail
  refine HE.out.mono ?_
  rintro e w3 ⟨Ab, capb, rfl, hb3, hrow⟩
  obtain ⟨gb, capb', hAb, hgb1, hgb2⟩ := World.ownsRow.form (hrow.own HL.out) (by omega)
  simp only [Value.slice.injEq] at hAb
  obtain ⟨rfl, -, rfl⟩ := hAb
  have hLz : ((L : Int) == 0) = false := by simp; omega
  have hLz' : ¬ (L : Int) = 0 := by omega
  obtain ⟨m, hm⟩ : ∃ m : Nat, pos % L = m := ⟨_, rfl⟩
  have hmL : m < L := by rw [← hm]; exact Nat.mod_lt _ (by omega)
  have hmI : (pos : Int).tmod (L : Int) = m := by rw [← hm]; exact (Int.ofNat_tmod pos L).symm
  obtain ⟨k, hk⟩ : ∃ k : Nat, ct % L = k := ⟨_, rfl⟩
  have hkL : k < L := by rw [← hk]; exact Nat.mod_lt _ (by omega)
  have hkI : (ct : Int).tmod (L : Int) = k := by rw [← hk]; exact (Int.ofNat_tmod ct L).symm
  have HROW := Lib.hid hrow
  have HBW3 := Lib.hid (HB2.out.trans (hb3.mono HB2.out.size))
  have HNW := Lib.hid (hrow.news HL.out)
  have HLE : Hid (L ≤ capb) := Lib.hid (by
    obtain ⟨_, _, e, h, _⟩ := hrow.read HEB.out
    simp only [Value.slice.injEq] at e
    have := HL.out
    omega)
  obtain ⟨i0, hi0, hz0, hz1, hz2⟩ := infos binfo
  clear hrow hb3 HE HB2 hm hk
  obtain ⟨bm, hbm⟩ : ∃ bm, es[m]'(by rw [HL.out]; exact hmL) = bm := ⟨_, rfl⟩
  have hbm256 : bm < 256 := HEB.out bm (by rw [← hbm]; exact List.getElem_mem _)
  have HBM : Hid ((bvals es)[m]? = some (.int .u8 bm)) := Lib.hid (by simp [bvals, HL.out, hmL, ← hbm])
  have hxo : bits .xor .u8 (bm : Int) (xr : Int) = ((bm ^^^ xr : Nat) : Int) := u8_xor_nat bm xr hbm256 hxr
  have hx256 : bm ^^^ xr < 2 ^ 8 := Nat.xor_lt_two_pow (by omega) (by omega)
  obtain ⟨x, hx⟩ : ∃ x, bm ^^^ xr = x := ⟨_, rfl⟩
  rw [hx] at hxo hx256
  have HX256 : Hid (x < 256) := Lib.hid (by omega)
  clear hbm hx hx256
  go_upto_region 8 with (at_builtin; (refine wp_append_nil rfl _ _ (by rfl) w3.heap.size 5 i0 _ 1 1 Try.underlying34 hi0 hz0 hz1 hz2 (by rfl) (by omega) ⟨gb, 0, none⟩ L capb (bvals es) (by rfl) (by rw [bvals_length, HL.out]; omega) HNW.out (bvals_one es) (by omega) (by simp [maxLen]; omega) (by omega) (Nat.le_refl _) ?_); intro gx capx w4 hownx hgrowx hgx; have HGX := Lib.hid hgx; have HOX := Lib.hid hownx; have HGR := Lib.hid hgrowx; have cm : w4.cell? ⟨gx, m, none⟩ = some (.int .u8 bm) := (by rw [hownx.cellAt m (by omega)]; exact HBM.out); have fm := hownx.frozenAt m; have zx := (hownx.lt gx rfl).2; clear hgx hownx hgrowx)
  have HRX : Hid (BRow w4 w3.heap.size (.slice (some ⟨gx, 0, none⟩) L capx) es) := Lib.hid (by unfold BRow; rw [HL.out]; exact HOX.out)
  have hgx3 : w3.heap.size ≤ gx := by have := HGX.out; omega
  have W4 : Below w.heap.size w (w4.setCell ⟨gx, m, none⟩ (.int .u8 x)) := (HBW3.out.grown HGR.out HBW3.out.size (fun q hq => by cases hq)).setCell (p := ⟨gx, m, none⟩) (by have := HBW3.out.size; simp only []; omega) _
  have B4 : BRow (w4.setCell ⟨gx, m, none⟩ (.int .u8 x)) w2.heap.size (.slice (some ⟨gb, 0, none⟩) L capb) es := own_blocks (HROW.out.kept (a := .slice none 0 0) HGR.out (Apart.nil _)) (fun q hq => heap_set _ _ _ _ (gb_ne hq (by omega)))
  have X4 : BRow (w4.setCell ⟨gx, m, none⟩ (.int .u8 x)) w3.heap.size (.slice (some ⟨gx, 0, none⟩) L capx) (es.set m x) := HRX.out.put HL.out m x
  have z4 : gb < (w4.setCell ⟨gx, m, none⟩ (.int .u8 x)).heap.size ∧ gx < (w4.setCell ⟨gx, m, none⟩ (.int .u8 x)).heap.size := by have := HGR.out.size; simp; omega
  generalize w4.setCell ⟨gx, m, none⟩ (.int .u8 x) = W at *
  have HW4 := Lib.hid W4
  have HB4 := Lib.hid B4
  have HX4 := Lib.hid X4
  have HN4 := Lib.hid (B4.news HL.out)
  have hLcap := HLE.out
  have hkc : (k : Int) ≤ capb := by omega
  have hLn : ¬ L = 0 := by omega
  have hkn : k ≤ capb := by omega
  obtain ⟨zb, zx'⟩ := z4
  clear W4 B4 X4 cm fm zx hxo HRX HOX HGR HGX HNW HROW HBW3 HBM
  have HXB : Hid (∀ b ∈ es.set m x, b < 256) := Lib.hid (fun b hb => by
    rcases List.mem_or_eq_of_mem_set hb with h | h
    · exact HEB.out b h
    · rw [h]; exact HX256.out)
  have hb1 : ∀ u ∈ ([.int .u8 (xr : Int)] : List Value), u.oneCell' = true := by simp [Value.oneCell']
  go_cut [59, 60, 61] (fun s59 s60 s61 wx => ∃ (G : Nat) (Wz : World), wx = Wz ∧ s59 = .slice (some ⟨G, 0, none⟩) 5 5 ∧ s60 = .int .i64 5 ∧ s61 = .int .i64 0 ∧ Hid (Below w.heap.size w wx) ∧ Hid (Rows5 wx G) ∧ G < wx.heap.size)
  case first =>
    go_region_law (first
      | (refine step_append_nil ?_ (.tmp 54) 34 ?_ W.heap.size 5 i0 _ 1 1 Try.underlying34 hi0 hz0 hz1 hz2 ?_ ?_ ⟨gb, 0, none⟩ L capb (bvals es) ?_ ?_ ?_ (bvals_one es) ?_ ?_ ?_ ?_ ?_
         rfl
         rfl
         rfl
         omega
         kernel_rfl
         (rw [bvals_length, HL.out, Nat.mul_one])
         (first | exact HN4.out | exact news_alloc (w := W.drew) HN4.out zb _)
         omega
         (unfold maxLen; omega)
         omega
         (first | exact Nat.le_refl _ | exact Nat.le_of_lt (Nat.lt_of_lt_of_eq (Nat.lt_succ_self _) (World.size_alloc _ _).symm))
         intro gy capy w5 hown5 hgrow5 hgy
         have HO5 := Lib.hid hown5
         have HG5 := Lib.hid hgrow5
         clear hown5 hgrow5 hgy)
      | (refine step_append_lies _ ?_ (.tmp 55) (.tmp 57) 34 ?_ W.heap.size 5 i0 _ 1 1 Try.underlying34 hi0 hz0 hz1 hz2 ?_ ?_ (.slice (some ⟨gy, 0, none⟩) L capy) L (bvals es) ?_ (HO5.out.alloc (.cells #[.int .u8 (xr : Int)] 5)) ⟨w5.heap.size, 0, none⟩ 1 1 [.int .u8 (xr : Int)] ?_ ?_ (World.news_of_block (newsA w5 (.int .u8 (xr : Int)))) hb1 ?_ ?_ ?_ ?_ _ rfl ?_
         rfl
         rfl
         rfl
         omega
         kernel_rfl
         kernel_rfl
         rfl
         omega
         (unfold maxLen; omega)
         omega
         exact sizeA HG5.out
         intro gz capz w6 hown6 hgrow6 _ _
         have HB6 := Lib.hid (orderA HG5.out HO5.out hgrow6)
         have HO6 := Lib.hid hown6
         clear hown6 hgrow6)
      | (refine step_append_lies _ ?_ (.tmp 55) (.tmp 57) 34 ?_ W.heap.size 5 i0 _ 1 1 Try.underlying34 hi0 hz0 hz1 hz2 ?_ ?_ (.slice (some ⟨gy, 0, none⟩) L capy) L (bvals es) ?_ HO5.out ⟨W.heap.size, 0, none⟩ 1 1 [.int .u8 (xr : Int)] ?_ ?_ (World.news_of_block (newsB HG5.out)) hb1 ?_ ?_ ?_ ?_ _ rfl ?_
         rfl
         rfl
         rfl
         omega
         kernel_rfl
         kernel_rfl
         rfl
         omega
         (unfold maxLen; omega)
         omega
         exact sizeB HG5.out
         intro gz capz w6 hown6 hgrow6 _ _
         have HB6 := Lib.hid (orderB HG5.out HO5.out hgrow6)
         have HO6 := Lib.hid hown6
         clear hown6 hgrow6))
    all_goals
      go_wp2_with fail
      go_meet
      obtain ⟨r1, r2⟩ := rows5_mk (k := k) HW4.out HB6.out (HB0.out.keep HW4.out) (fun h k hk => Nat.lt_of_lt_of_le (HL0.out h k hk) HW4.out.size) (HB4.out.read HEB.out) (HX4.out.read HXB.out) (by rw [HL.out]; omega) zb zx' hxr HEB.out HL.out HO6.out
      exact ⟨_, _, rfl, rfl, rfl, rfl, Lib.hid r1, Lib.hid r2, by simp⟩
  case rest =>
    obtain ⟨G, Wz, hWz, rfl, rfl, rfl, HBW, HIT, ZG⟩ := hcut
    replace hWz := hWz.symm
    subst hWz
    go_wp2_with fail
    clear HW4 HB4 HX4 HN4 HXB HX256 HB0 HL0 HN0 HEB HL HLE HO HCK HD hb1
    go_loopw [61] (fun i wr => ∃ j : Nat, j ≤ 5 ∧ i = .int .i64 j ∧ Hid (Below Wz.heap.size Wz wr)) (fun i _ => 5 - (intOf i).toNat)
    case atStart => exact ⟨0, Nat.zero_le _, rfl, Lib.hid (Below.refl _ _)⟩
    case round =>
      obtain ⟨j, hj, rfl, HW⟩ := hrel
      by_cases hj2 : j < 5
      · have hjb : decide ((j : Int) < 5) = true := by simp; omega
        obtain ⟨X, N, C, xb, hcell, hbrd, hown⟩ := HIT.out j hj2
        replace hcell := (HW.out.cell (p := ⟨G, j, none⟩) ZG).trans hcell
        have hGz : G < wr.heap.size := Nat.lt_of_lt_of_le ZG HW.out.size
        obtain ⟨oo, er, hpar⟩ : ∃ oo er, parseS xb = (oo, er) := ⟨_, _, rfl⟩
        have HXB : Hid (∀ b ∈ xb, b < 256) := Lib.hid (by obtain ⟨_, _, _, _, _, h, _⟩ := hbrd; exact h)
        have HRD := Lib.hid (hbrd.keep HW.out)
        have HOWN : Hid (xb ≠ [] → ∀ k, (Value.slice X N C).ownBlock = some k → k < wr.heap.size) := Lib.hid (fun h k hk => Nat.lt_of_lt_of_le (hown h k hk) HW.out.size)
        have HP := Lib.hid (ppar_of (.slice X N C) xb wr HRD.out HOWN.out oo er hpar)
        have HPAR := Lib.hid hpar
        have HSM : Hid (oo.length ≤ 1000 ∧ ∀ c ∈ oo, c.length ≤ 1000) := Lib.hid (by
          by_cases her : er = 0
          · subst her
            obtain ⟨hck, _⟩ := parse_ok HXB.out hpar
            have h1 := checkS_zero hck
            exact ⟨by omega, fun c hc => by have h2 := le_flatten oo c hc; omega⟩
          · rw [parse_err hpar her]
            exact ⟨by simp, fun _ h => nomatch h⟩)
        obtain ⟨K, hK⟩ : ∃ K, oo.length = K := ⟨_, rfl⟩
        have HK := Lib.hid hK
        rw [hK] at HP
        clear hbrd hown hpar hK
        go_wp2_with fail
        refine HP.out.mono ?_
        rintro e w5 ⟨Ap, capp, rfl, hb5, hord⟩
        have hBa : Below w5.heap.size w5 (w5.alloc (.cells #[.slice Ap K capp] 29)) := (Below.refl _ w5).alloc (Nat.le_refl _) _
        have hb6 : Below wr.heap.size wr (w5.alloc (.cells #[.slice Ap K capp] 29)) := hb5.alloc hb5.size _
        have HB6 := Lib.hid (HW.out.trans (hb6.mono HW.out.size))
        have HO6 : Hid (One (w5.alloc (.cells #[.slice Ap K capp] 29)) w5.heap.size (.slice Ap K capp)) := Lib.hid (One.new _ _ rfl)
        have HR6 := Lib.hid (hord.keep hBa)
        have HL := Lib.hid (lpar_of (.slice X N C) xb _ (HRD.out.keep hb6) (fun h k hk => Nat.lt_of_lt_of_le (HOWN.out h k hk) hb6.size) oo er HPAR.out)
        rw [HK.out] at HL
        clear hcell hb5 hord hBa HP hb6
        go_wp2_with fail
        refine HL.out.mono ?_
        rintro e w8 ⟨Aq, capq, rfl, hb8, hord8⟩
        have hba : Below w8.heap.size w8 (w8.alloc (.cells #[.slice Aq K capq] 29)) := (Below.refl _ w8).alloc (Nat.le_refl _) _
        have O8 := (HO6.out.keep hb8).alloc (.cells #[.slice Aq K capq] 29)
        have O9 : One (w8.alloc (.cells #[.slice Aq K capq] 29)) w8.heap.size (.slice Aq K capq) := One.new _ _ rfl
        have HS := Lib.hid (same_any (.slice Ap K capp) (.slice Aq K capq) oo oo true (by simp) (w8.alloc (.cells #[.slice Aq K capq] 29)) ((HR6.out.keep hb8).keep hba) (hord8.keep hba) HSM.out.1 HSM.out.2)
        have HB8 := Lib.hid (have h := HB6.out.trans (hb8.mono HB6.out.size); h.alloc h.size (.cells #[.slice Aq K capq] 29))
        have oz := O8.lt
        obtain ⟨oc, of⟩ := O8
        have oz9 := O9.lt
        obtain ⟨oc9, of9⟩ := O9
        clear hb8 hord8 hba HL HR6 HO6 HB6
        go_wp2_with fail
        refine HS.out.mono ?_
        rintro e w9 ⟨rfl, hb9⟩
        have HB9 := Lib.hid (HB8.out.trans (hb9.mono HB8.out.size))
        go_wp2_with fail
        go_roundw
        case rel => exact ⟨j + 1, by omega, by go_num, HB9⟩
        case measure => simp [intOf]; omega
      · obtain rfl : j = 5 := by omega
        go_wp2
        go_ret
        exact ⟨rfl, HBW.out.trans (HW.out.mono HBW.out.size)⟩

end Go.Proofs.Ytgkhpnjfpahlgaa
