/-
  What cmp.Compare[uint64], wide.Pair.Compare, wide.Less do to any world: contracts (no claim is made here).
-/
import Derived.Test.YtglmgenifjaakaaWide1
import Derived.Deep.QuietTactic
import Derived.BigQuiet
namespace Go.Proofs.Ytglmgenifjaakaa
open Go.RowKit

theorem ret_int {k : IntKind} {a b : Int} (h : a = b) : Ending.returned (.int k a) = .returned (.int k b) := by rw [h]
theorem ret_bool {a b : Bool} (h : a = b) : Ending.returned (.bool a) = .returned (.bool b) := by rw [h]

def cmpN (a b : Nat) : Int := if a < b then -1 else if b < a then 1 else 0

theorem cmpN_pair_hi (ph pl qh ql : Nat) (h1 : pl < 18446744073709551616) (h2 : ql < 18446744073709551616) (h : ¬ ph = qh) :
    cmpN (ph * 18446744073709551616 + pl) (qh * 18446744073709551616 + ql) = cmpN ph qh := by
  unfold cmpN
  rcases Nat.lt_trichotomy ph qh with g | g | g
  · rw [if_pos g, if_pos (by omega)]
  · exact absurd g h
  · rw [if_neg (by omega), if_pos (by omega), if_neg (by omega), if_pos (by omega)]
theorem cmpN_pair_lo (ph pl ql : Nat) :
    cmpN (ph * 18446744073709551616 + pl) (ph * 18446744073709551616 + ql) = cmpN pl ql := by
  unfold cmpN
  rcases Nat.lt_trichotomy pl ql with g | g | g
  · rw [if_pos g, if_pos (by omega)]
  · subst g; simp
  · rw [if_neg (by omega), if_pos (by omega), if_neg (by omega), if_pos (by omega)]

end Go.Proofs.Ytglmgenifjaakaa
