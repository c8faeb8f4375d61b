/-
  The numbers of layer 11 (no claim is made here).
-/
import Derived.Test.YtbnjajhhbcnepaaMth
namespace Go.Proofs.Ytbnjajhhbcnepaa

/-- P11.1: the Cross and the Dot of two edges' vectors, and what a corner is. -/
def crC (a b : Ed) : Int := (a.b.x - a.a.x) * (b.b.y - b.a.y) - (a.b.y - a.a.y) * (b.b.x - b.a.x)
def dtC (a b : Ed) : Int := (a.b.x - a.a.x) * (b.b.x - b.a.x) + (a.b.y - a.a.y) * (b.b.y - b.a.y)
def isC (a b : Ed) : Bool := decide (dtC a b ≤ 0) || decide (dtC a b < 2 * crC a b) || decide (dtC a b < -2 * crC a b)
/-- .. also the other way round. -/
theorem isC_back (a b : Ed) : isC (backE b) (backE a) = isC a b := by
  have h1 : crC (backE b) (backE a) = -crC a b := by unfold crC backE; simp only []; grind
  have h2 : dtC (backE b) (backE a) = dtC a b := by unfold dtC backE; simp only []; grind
  unfold isC
  rw [h1, h2]
  rw [Bool.eq_iff_iff]
  simp only [Bool.or_eq_true, decide_eq_true_eq]
  omega

def ed0 : Ed := ⟨⟨0, 0⟩, ⟨0, 0⟩⟩
/-- Is there a corner between the k-th edge and the one ahead of it? -/
def atC (es : List Ed) (k : Nat) : Bool := isC (es.getD (if k = 0 then es.length - 1 else k - 1) ed0) (es.getD k ed0)
/-- The corners of which the edge is among the first r. -/
def cornersTo (es : List Ed) (r : Nat) : List Nat := (List.range r).filter (atC es)
def cornersL (es : List Ed) : List Nat := cornersTo es es.length
theorem cornersTo_succ (es : List Ed) (r : Nat) : cornersTo es (r + 1) = if atC es r = true then cornersTo es r ++ [r] else cornersTo es r := by
  unfold cornersTo
  rw [List.range_succ, List.filter_append]
  by_cases h : atC es r = true
  · rw [if_pos h]; simp [h]
  · rw [if_neg h]; simp [h]
theorem cornersTo_len (es : List Ed) (r : Nat) : (cornersTo es r).length ≤ r := by
  have := List.length_filter_le (atC es) (List.range r)
  rw [List.length_range] at this
  exact this
theorem mem_corners {es : List Ed} {k : Nat} : k ∈ cornersL es ↔ k < es.length ∧ atC es k = true := by
  unfold cornersL cornersTo
  rw [List.mem_filter, List.mem_range]
theorem corners_sorted (es : List Ed) : (cornersL es).Pairwise (· < ·) := List.Pairwise.filter _ List.pairwise_lt_range

/-- P11.2: the piece of an edge: that of the last corner that is not behind it, of the first r; else the last one. -/
def pieceTo (cs : List Nat) (k : Nat) : Nat → Nat
  | 0 => cs.length - 1
  | r + 1 => if cs.getD r 0 ≤ k then r else pieceTo cs k r
def pieceC (cs : List Nat) (k : Nat) : Nat := pieceTo cs k cs.length
def colP (m i : Nat) : Nat := if i = m - 1 ∧ m % 3 = 1 then 6 else if i % 3 = 0 then 5 else if i % 3 = 1 then 6 else 3
def oneC (n f k : Nat) : Nat := if n ≤ 2 * (if k < f then k + n - f else k - f) then 6 else 5
def colC (n : Nat) (cs : List Nat) (k : Nat) : Nat := if cs.length = 0 then 7 else if cs.length = 1 then oneC n (cs.getD 0 0) k else colP cs.length (pieceC cs k)
def coloursL (es : List Ed) : List Nat := (List.range es.length).map (colC es.length (cornersL es))
theorem coloursL_length (es : List Ed) : (coloursL es).length = es.length := by simp [coloursL]
theorem coloursL_at (es : List Ed) (k : Nat) (hk : k < es.length) : (coloursL es)[k]? = some (colC es.length (cornersL es) k) := by
  unfold coloursL
  rw [List.getElem?_map, List.getElem?_range hk]
  rfl

theorem pieceTo_none {cs : List Nat} {k r : Nat} (h : ∀ i, i < r → k < cs.getD i 0) : pieceTo cs k r = cs.length - 1 := by
  induction r with
  | zero => rfl
  | succ r ih =>
    have := h r (by omega)
    unfold pieceTo
    rw [if_neg (by omega)]
    exact ih fun i hi => h i (by omega)
theorem pieceTo_some {cs : List Nat} {k r j : Nat} (hj : j < r) (h1 : cs.getD j 0 ≤ k) (h2 : ∀ i, j < i → i < r → k < cs.getD i 0) : pieceTo cs k r = j := by
  induction r with
  | zero => omega
  | succ r ih =>
    unfold pieceTo
    by_cases e : j = r
    · subst e; rw [if_pos h1]
    · have := h2 r (by omega) (by omega)
      rw [if_neg (by omega)]
      exact ih (by omega) fun i a b => h2 i a (by omega)
theorem pieceTo_lt {cs : List Nat} {k r : Nat} (hr : r ≤ cs.length) (h0 : 0 < cs.length) : pieceTo cs k r < cs.length := by
  induction r with
  | zero => unfold pieceTo; omega
  | succ r ih =>
    unfold pieceTo
    split
    · omega
    · exact ih (by omega)
theorem pieceC_lt {cs : List Nat} {k : Nat} (h0 : 0 < cs.length) : pieceC cs k < cs.length := pieceTo_lt (Nat.le_refl _) h0

theorem sorted_lt {cs : List Nat} (h : cs.Pairwise (· < ·)) {i j : Nat} (hij : i < j) (hj : j < cs.length) : cs.getD i 0 < cs.getD j 0 := by
  have := List.pairwise_iff_getElem.1 h i j (by omega) hj hij
  simp only [List.getD_eq_getElem?_getD, List.getElem?_eq_getElem (show i < cs.length by omega), List.getElem?_eq_getElem hj, Option.getD_some]
  exact this
/-- The edges of a corner and behind it, up to the next corner. -/
theorem pieceC_at {cs : List Nat} (h : cs.Pairwise (· < ·)) {j k : Nat} (hj : j < cs.length) (h1 : cs.getD j 0 ≤ k) (h2 : j + 1 < cs.length → k < cs.getD (j + 1) 0) : pieceC cs k = j := by
  refine pieceTo_some hj h1 fun i a b => ?_
  have h3 := h2 (by omega)
  by_cases e : i = j + 1
  · subst e; exact h3
  · have := sorted_lt h (show j + 1 < i by omega) b
    omega
/-- The edges ahead of the first corner. -/
theorem pieceC_ahead {cs : List Nat} (h : cs.Pairwise (· < ·)) {k : Nat} (h1 : k < cs.getD 0 0) : pieceC cs k = cs.length - 1 := by
  refine pieceTo_none fun i hi => ?_
  by_cases e : i = 0
  · subst e; exact h1
  · have := sorted_lt h (show 0 < i by omega) hi
    omega

theorem corner_at {es : List Ed} {k : Nat} (hk : k ∈ cornersL es) : ∃ j, j < (cornersL es).length ∧ (cornersL es).getD j 0 = k := by
  obtain ⟨j, hj, e⟩ := List.mem_iff_getElem.1 hk
  exact ⟨j, hj, by rw [List.getD_eq_getElem?_getD, List.getElem?_eq_getElem hj]; exact e⟩
theorem at_corner {es : List Ed} {j : Nat} (hj : j < (cornersL es).length) : (cornersL es).getD j 0 ∈ cornersL es := by
  rw [List.getD_eq_getElem?_getD, List.getElem?_eq_getElem hj]
  exact List.getElem_mem _
theorem corner_lt {es : List Ed} {j : Nat} (hj : j < (cornersL es).length) : (cornersL es).getD j 0 < es.length := (mem_corners.1 (at_corner hj)).1

/-- The piece of the edge ahead of a corner. -/
theorem piece_before {es : List Ed} {j : Nat} (hj : j < (cornersL es).length) (hn : 1 < es.length) :
    pieceC (cornersL es) (if (cornersL es).getD j 0 = 0 then es.length - 1 else (cornersL es).getD j 0 - 1) = if j = 0 then (cornersL es).length - 1 else j - 1 := by
  have hs := corners_sorted es
  by_cases h0 : (cornersL es).getD j 0 = 0
  · have j0 : j = 0 := by
      rcases Nat.eq_zero_or_pos j with e | e
      · exact e
      · have := sorted_lt hs e hj; omega
    subst j0
    rw [if_pos h0, if_pos rfl]
    refine pieceC_at hs (by omega) ?_ (fun h => absurd h (by omega))
    have := corner_lt (es := es) (show (cornersL es).length - 1 < (cornersL es).length by omega)
    omega
  · rw [if_neg h0]
    by_cases j0 : j = 0
    · subst j0
      rw [if_pos rfl]
      exact pieceC_ahead hs (by omega)
    · rw [if_neg j0]
      have := sorted_lt hs (show j - 1 < j by omega) hj
      refine pieceC_at hs (by omega) (by omega) (fun _ => ?_)
      rw [show j - 1 + 1 = j by omega]
      omega
theorem colP_in (m i : Nat) : colP m i = 5 ∨ colP m i = 6 ∨ colP m i = 3 := by
  unfold colP
  split
  · omega
  · split
    · omega
    · split <;> omega
theorem colP_ne {m i : Nat} (hm : 2 ≤ m) (hi : i < m) : colP m i ≠ colP m (if i = 0 then m - 1 else i - 1) := by
  unfold colP
  by_cases h0 : i = 0
  · subst h0
    rw [if_pos rfl]
    (repeat' split) <;> omega
  · rw [if_neg h0]
    (repeat' split) <;> omega
theorem oneC_in (n f k : Nat) : oneC n f k = 6 ∨ oneC n f k = 5 := by unfold oneC; (repeat' split) <;> omega
theorem colC_in (n : Nat) (cs : List Nat) (k : Nat) (h : cs.length ≠ 0) : colC n cs k = 3 ∨ colC n cs k = 5 ∨ colC n cs k = 6 := by
  unfold colC
  rw [if_neg h]
  split
  · have := oneC_in n (cs.getD 0 0) k; omega
  · have := colP_in cs.length (pieceC cs k); omega
/-- P11.2: two edges with a corner between have different ones of three colours. -/
theorem colours_apart {es : List Ed} {k : Nat} (hk : k ∈ cornersL es) (hn : 1 < es.length) : colC es.length (cornersL es) k ≠ colC es.length (cornersL es) (if k = 0 then es.length - 1 else k - 1) := by
  obtain ⟨j, hj, rfl⟩ := corner_at hk
  have hl := corner_lt hj
  have hs := corners_sorted es
  unfold colC
  have h0 : ¬(cornersL es).length = 0 := by omega
  simp only [if_neg h0]
  by_cases h1 : (cornersL es).length = 1
  · simp only [if_pos h1]
    obtain rfl : j = 0 := by omega
    unfold oneC
    (repeat' split) <;> omega
  · simp only [if_neg h1]
    rw [piece_before hj hn, pieceC_at hs hj (Nat.le_refl _) (fun h => sorted_lt hs (by omega) h)]
    exact colP_ne (by omega) hj
/-- .. and without a corner between they have the same, where there is not just one. -/
theorem colours_same {es : List Ed} {k : Nat} (hk : k ∉ cornersL es) (hn : k < es.length) (h1 : (cornersL es).length ≠ 1) : colC es.length (cornersL es) k = colC es.length (cornersL es) (if k = 0 then es.length - 1 else k - 1) := by
  unfold colC
  by_cases h0 : (cornersL es).length = 0
  · simp only [if_pos h0]
  · simp only [if_neg h0, if_neg h1]
    congr 1
    have hs := corners_sorted es
    have hne : ∀ i, i < (cornersL es).length → (cornersL es).getD i 0 ≠ k := fun i hi e => hk (e ▸ at_corner hi)
    by_cases hk0 : k = 0
    · subst hk0
      rw [if_pos rfl]
      have := hne 0 (by omega)
      rw [pieceC_ahead hs (by omega)]
      refine (pieceC_at hs (by omega) ?_ (fun h => absurd h (by omega))).symm
      have := corner_lt (es := es) (show (cornersL es).length - 1 < (cornersL es).length by omega)
      omega
    · rw [if_neg hk0]
      unfold pieceC
      have : ∀ r, r ≤ (cornersL es).length → pieceTo (cornersL es) k r = pieceTo (cornersL es) (k - 1) r := by
        intro r
        induction r with
        | zero => intro _; rfl
        | succ r ih =>
          intro hr
          have h2 := hne r (by omega)
          unfold pieceTo
          by_cases h3 : (cornersL es).getD r 0 ≤ k
          · rw [if_pos h3, if_pos (by omega)]
          · rw [if_neg h3, if_neg (by omega)]
            exact ih (by omega)
      exact this _ (Nat.le_refl _)
theorem white_iff (es : List Ed) (k : Nat) : colC es.length (cornersL es) k = 7 ↔ (cornersL es).length = 0 := by
  constructor
  · intro h
    by_cases h0 : (cornersL es).length = 0
    · exact h0
    · have := colC_in es.length (cornersL es) k h0
      omega
  · intro h
    unfold colC
    rw [if_pos h]

end Go.Proofs.Ytbnjajhhbcnepaa
