/-
  No cell of these rows narrows 'for every input' (looked for: loops, veiled, ifaces, maps, wideKeys, modest, calm, conditions, laid).
  DERIVED. THE GIVEN ROWS OF THIS SEAT. 5 by the template 'for every input the law returns true; each argument reads behind the call as it read before'; 0 by the template 'total and deterministic' (their statements: YthipookenpmfpaaTotals.lean).
  GIVEN WITH THE SEED: the statements are not yours to turn. If you find one false, say at which input.
  Laid BY PROGRAM, IN A SANDBOX (cutbox-rows.mjs): the forced cells as the released guide's own fill.sh prints them over the translation 5181f759667cdc9c… (all of the seat's roots in one cut). By AI agents, Wed Nov 11 2026. No macro, syntax, notation, axiom, sorry.
-/
import Derived.Test.YthipookenpmfpaaChecked
import GoSem.Claim
import GoSem.ClaimJoined
import GoSem.ClaimMapViews
import Derived.JoinedTies
import Derived.KernelRfl
namespace Go.Proofs.Ythipookenpmfpaa
/- THE CELL 'sum', in the pinned program and in every row, IS THE sha256 OF THE DUMP (.gsa) THAT YthipookenpmfpaaProg.lean LOADS. Nothing in Lean hashes anything: it is a label: what it is worth is what the hold of that sum in a sandbox is worth. -/
noncomputable def Try.pinned : Pinned := { name := "ythipookenpmfpaa", sum := "5181f759667cdc9c6c3c56fcbf3089492af86577716f320f25c06060de624395", checked := Try.checked }
namespace Rows
def none {H : Type} : Left H := { results := [], args := [] }

/-- 'punchcutlaw05.PathSegs': WHATEVER THE INPUT: true; the input reads as it did. -/
def pathSegsSpec : ChangeSpec := { name := "pathSegs", fn := fun _ => fun
  | [d] => { results := [.lit (.bool true)], args := [d] }
  | _ => none }
def pathSegsRow : OpenClaim := { program := "ythipookenpmfpaa", sum := "5181f759667cdc9c6c3c56fcbf3089492af86577716f320f25c06060de624395", func := "punchcut/punchcutlaw05.PathSegs", spec := "pathSegs", unfollowed := true, recurses := true, plainKeys := false, apart := false }
def PathSegsSaid : Prop := pathSegsRow.holds Try.pinned (OpenSpec.ofChange pathSegsSpec)

/-- ITS FALSE NEIGHBOUR: 'it returns false'. Refute it at one input. -/
def pathSegsWrong : ChangeSpec := { name := "pathSegs", fn := fun _ => fun
  | [d] => { results := [.lit (.bool false)], args := [d] }
  | _ => none }
def PathSegsWrongFalsely : Prop := pathSegsRow.holds Try.pinned (OpenSpec.ofChange pathSegsWrong)

/-- 'punchcutlaw05.PathAll': WHATEVER THE INPUT: true; the input reads as it did. -/
def pathAllSpec : ChangeSpec := { name := "pathAll", fn := fun _ => fun
  | [d] => { results := [.lit (.bool true)], args := [d] }
  | _ => none }
def pathAllRow : OpenClaim := { program := "ythipookenpmfpaa", sum := "5181f759667cdc9c6c3c56fcbf3089492af86577716f320f25c06060de624395", func := "punchcut/punchcutlaw05.PathAll", spec := "pathAll", unfollowed := true, recurses := true, plainKeys := false, apart := false }
def PathAllSaid : Prop := pathAllRow.holds Try.pinned (OpenSpec.ofChange pathAllSpec)

/-- ITS FALSE NEIGHBOUR: 'it returns false'. Refute it at one input. -/
def pathAllWrong : ChangeSpec := { name := "pathAll", fn := fun _ => fun
  | [d] => { results := [.lit (.bool false)], args := [d] }
  | _ => none }
def PathAllWrongFalsely : Prop := pathAllRow.holds Try.pinned (OpenSpec.ofChange pathAllWrong)

/-- 'punchcutlaw05.PathLines': WHATEVER THE INPUT: true; the input reads as it did. -/
def pathLinesSpec : ChangeSpec := { name := "pathLines", fn := fun _ => fun
  | [d] => { results := [.lit (.bool true)], args := [d] }
  | _ => none }
def pathLinesRow : OpenClaim := { program := "ythipookenpmfpaa", sum := "5181f759667cdc9c6c3c56fcbf3089492af86577716f320f25c06060de624395", func := "punchcut/punchcutlaw05.PathLines", spec := "pathLines", unfollowed := true, recurses := true, plainKeys := false, apart := false }
def PathLinesSaid : Prop := pathLinesRow.holds Try.pinned (OpenSpec.ofChange pathLinesSpec)

/-- ITS FALSE NEIGHBOUR: 'it returns false'. Refute it at one input. -/
def pathLinesWrong : ChangeSpec := { name := "pathLines", fn := fun _ => fun
  | [d] => { results := [.lit (.bool false)], args := [d] }
  | _ => none }
def PathLinesWrongFalsely : Prop := pathLinesRow.holds Try.pinned (OpenSpec.ofChange pathLinesWrong)

/-- 'punchcutlaw05.PathCount': WHATEVER THE INPUT: true; the input reads as it did. -/
def pathCountSpec : ChangeSpec := { name := "pathCount", fn := fun _ => fun
  | [d] => { results := [.lit (.bool true)], args := [d] }
  | _ => none }
def pathCountRow : OpenClaim := { program := "ythipookenpmfpaa", sum := "5181f759667cdc9c6c3c56fcbf3089492af86577716f320f25c06060de624395", func := "punchcut/punchcutlaw05.PathCount", spec := "pathCount", unfollowed := true, recurses := true, plainKeys := false, apart := false }
def PathCountSaid : Prop := pathCountRow.holds Try.pinned (OpenSpec.ofChange pathCountSpec)

/-- ITS FALSE NEIGHBOUR: 'it returns false'. Refute it at one input. -/
def pathCountWrong : ChangeSpec := { name := "pathCount", fn := fun _ => fun
  | [d] => { results := [.lit (.bool false)], args := [d] }
  | _ => none }
def PathCountWrongFalsely : Prop := pathCountRow.holds Try.pinned (OpenSpec.ofChange pathCountWrong)

/-- 'punchcutlaw05.PathMove': WHATEVER THE INPUT: true; the input reads as it did. -/
def pathMoveSpec : ChangeSpec := { name := "pathMove", fn := fun _ => fun
  | [d1, d2, d3] => { results := [.lit (.bool true)], args := [d1, d2, d3] }
  | _ => none }
def pathMoveRow : OpenClaim := { program := "ythipookenpmfpaa", sum := "5181f759667cdc9c6c3c56fcbf3089492af86577716f320f25c06060de624395", func := "punchcut/punchcutlaw05.PathMove", spec := "pathMove", unfollowed := true, recurses := true, plainKeys := false, apart := false }
def PathMoveSaid : Prop := pathMoveRow.holds Try.pinned (OpenSpec.ofChange pathMoveSpec)

/-- ITS FALSE NEIGHBOUR: 'it returns false'. Refute it at one input. -/
def pathMoveWrong : ChangeSpec := { name := "pathMove", fn := fun _ => fun
  | [d1, d2, d3] => { results := [.lit (.bool false)], args := [d1, d2, d3] }
  | _ => none }
def PathMoveWrongFalsely : Prop := pathMoveRow.holds Try.pinned (OpenSpec.ofChange pathMoveWrong)

/- THE SECOND FORM. 'bulk': how many values and letters a reading holds, each counted each time it is reached (what is shared counts as often as it is met; a slice's spare places count too). A statement '..UptoSaid' is the law's where the arguments, and the package variables that the reading takes, are together of bulk at most 1048576: NARROWER than '..Said'. Prove '..Said' where nothing that the law and all that it calls make is longer than what came in: it says more and counts as full. Else prove '..UptoSaid'. A law counts once. -/
mutual
def uptoBulk {H : Type} : DataW H → Nat
  | .lit (.string bytes) => bytes.length + 1
  | .lit _ => 1
  | .nil => 1
  | .ptr d => uptoBulk d + 1
  | .slice elems spare => uptoBulkAll elems + uptoBulkAll spare + 1
  | .agg parts => uptoBulkAll parts + 1
  | .iface _ d => uptoBulk d + 1
  | .map entries => uptoBulkEntries entries + 1
  | .held _ => 1
def uptoBulkAll {H : Type} : List (DataW H) → Nat
  | [] => 0
  | d :: r => uptoBulk d + uptoBulkAll r
def uptoBulkEntries {H : Type} : List (Lit × DataW H) → Nat
  | [] => 0
  | x :: r => uptoBulkEntry x + uptoBulkEntries r
def uptoBulkEntry {H : Type} : Lit × DataW H → Nat
  | (.string bytes, d) => bytes.length + uptoBulk d + 1
  | (_, d) => uptoBulk d + 1
 end
def uptoSmall : (H : Type) → List (DataW H) → Bool := fun _ ds => decide (uptoBulkAll ds ≤ 1048576)
def OpenSpec.upto (s : _root_.Go.ChangeSpec) : _root_.Go.OpenSpec := { _root_.Go.OpenSpec.ofChange s with cond := some uptoSmall }

/-- 'punchcutlaw05.PathSegs', WHERE WHAT IT READS IS OF BULK AT MOST 1048576: true; the input reads as it did. -/
def pathSegsUptoRow : OpenClaim := { program := "ythipookenpmfpaa", sum := "5181f759667cdc9c6c3c56fcbf3089492af86577716f320f25c06060de624395", func := "punchcut/punchcutlaw05.PathSegs", spec := "pathSegs", unfollowed := true, recurses := true, plainKeys := false, apart := false, narrowed := true }
def PathSegsUptoSaid : Prop := pathSegsUptoRow.holds Try.pinned (OpenSpec.upto pathSegsSpec)

/-- 'punchcutlaw05.PathAll', WHERE WHAT IT READS IS OF BULK AT MOST 1048576: true; the input reads as it did. -/
def pathAllUptoRow : OpenClaim := { program := "ythipookenpmfpaa", sum := "5181f759667cdc9c6c3c56fcbf3089492af86577716f320f25c06060de624395", func := "punchcut/punchcutlaw05.PathAll", spec := "pathAll", unfollowed := true, recurses := true, plainKeys := false, apart := false, narrowed := true }
def PathAllUptoSaid : Prop := pathAllUptoRow.holds Try.pinned (OpenSpec.upto pathAllSpec)

/-- 'punchcutlaw05.PathLines', WHERE WHAT IT READS IS OF BULK AT MOST 1048576: true; the input reads as it did. -/
def pathLinesUptoRow : OpenClaim := { program := "ythipookenpmfpaa", sum := "5181f759667cdc9c6c3c56fcbf3089492af86577716f320f25c06060de624395", func := "punchcut/punchcutlaw05.PathLines", spec := "pathLines", unfollowed := true, recurses := true, plainKeys := false, apart := false, narrowed := true }
def PathLinesUptoSaid : Prop := pathLinesUptoRow.holds Try.pinned (OpenSpec.upto pathLinesSpec)

/-- 'punchcutlaw05.PathCount', WHERE WHAT IT READS IS OF BULK AT MOST 1048576: true; the input reads as it did. -/
def pathCountUptoRow : OpenClaim := { program := "ythipookenpmfpaa", sum := "5181f759667cdc9c6c3c56fcbf3089492af86577716f320f25c06060de624395", func := "punchcut/punchcutlaw05.PathCount", spec := "pathCount", unfollowed := true, recurses := true, plainKeys := false, apart := false, narrowed := true }
def PathCountUptoSaid : Prop := pathCountUptoRow.holds Try.pinned (OpenSpec.upto pathCountSpec)

/-- 'punchcutlaw05.PathMove', WHERE WHAT IT READS IS OF BULK AT MOST 1048576: true; the input reads as it did. -/
def pathMoveUptoRow : OpenClaim := { program := "ythipookenpmfpaa", sum := "5181f759667cdc9c6c3c56fcbf3089492af86577716f320f25c06060de624395", func := "punchcut/punchcutlaw05.PathMove", spec := "pathMove", unfollowed := true, recurses := true, plainKeys := false, apart := false, narrowed := true }
def PathMoveUptoSaid : Prop := pathMoveUptoRow.holds Try.pinned (OpenSpec.upto pathMoveSpec)

end Rows
end Go.Proofs.Ythipookenpmfpaa
