/-
  No cell of these rows narrows 'for every input' (looked for: loops, veiled, ifaces, maps, wideKeys, modest, calm, conditions, laid).
  DERIVED. THE GIVEN ROWS OF THIS SEAT. 6 by the template 'for every input the law returns true; each argument reads behind the call as it read before'; 0 by the template 'total and deterministic' (their statements: YtglmgenifjaakaaTotals.lean).
  GIVEN WITH THE SEED: the statements are not yours to turn. If you find one false, say at which input.
  Laid BY PROGRAM, IN A SANDBOX (cutbox-rows.mjs): the forced cells as the released guide's own fill.sh prints them over the translation e89ccf1e7475df26… (all of the seat's roots in one cut). By AI agents, Wed Nov 11 2026. No macro, syntax, notation, axiom, sorry.
-/
import Derived.Test.YtglmgenifjaakaaChecked
import GoSem.Claim
import GoSem.ClaimJoined
import GoSem.ClaimMapViews
import Derived.JoinedTies
import Derived.KernelRfl
namespace Go.Proofs.Ytglmgenifjaakaa
/- THE CELL 'sum', in the pinned program and in every row, IS THE sha256 OF THE DUMP (.gsa) THAT YtglmgenifjaakaaProg.lean LOADS. Nothing in Lean hashes anything: it is a label: what it is worth is what the hold of that sum in a sandbox is worth. -/
noncomputable def Try.pinned : Pinned := { name := "ytglmgenifjaakaa", sum := "e89ccf1e7475df26c3fb17de321f6a8be87a11e2519510a88088514e2fab0c79", checked := Try.checked }
namespace Rows
def none {H : Type} : Left H := { results := [], args := [] }

/-- 'punchcutlaw07.WindNumber': WHATEVER THE INPUT: true; the input reads as it did. -/
def windNumberSpec : ChangeSpec := { name := "windNumber", fn := fun _ => fun
  | [d1, d2, d3] => { results := [.lit (.bool true)], args := [d1, d2, d3] }
  | _ => none }
def windNumberRow : OpenClaim := { program := "ytglmgenifjaakaa", sum := "e89ccf1e7475df26c3fb17de321f6a8be87a11e2519510a88088514e2fab0c79", func := "punchcut/punchcutlaw07.WindNumber", spec := "windNumber", unfollowed := true, recurses := true, apart := false }
def WindNumberSaid : Prop := windNumberRow.holds Try.pinned (OpenSpec.ofChange windNumberSpec)

/-- ITS FALSE NEIGHBOUR: 'it returns false'. Refute it at one input. -/
def windNumberWrong : ChangeSpec := { name := "windNumber", fn := fun _ => fun
  | [d1, d2, d3] => { results := [.lit (.bool false)], args := [d1, d2, d3] }
  | _ => none }
def WindNumberWrongFalsely : Prop := windNumberRow.holds Try.pinned (OpenSpec.ofChange windNumberWrong)

/-- 'punchcutlaw07.WindOn': WHATEVER THE INPUT: true; the input reads as it did. -/
def windOnSpec : ChangeSpec := { name := "windOn", fn := fun _ => fun
  | [d1, d2, d3] => { results := [.lit (.bool true)], args := [d1, d2, d3] }
  | _ => none }
def windOnRow : OpenClaim := { program := "ytglmgenifjaakaa", sum := "e89ccf1e7475df26c3fb17de321f6a8be87a11e2519510a88088514e2fab0c79", func := "punchcut/punchcutlaw07.WindOn", spec := "windOn", unfollowed := true, recurses := true, apart := false }
def WindOnSaid : Prop := windOnRow.holds Try.pinned (OpenSpec.ofChange windOnSpec)

/-- ITS FALSE NEIGHBOUR: 'it returns false'. Refute it at one input. -/
def windOnWrong : ChangeSpec := { name := "windOn", fn := fun _ => fun
  | [d1, d2, d3] => { results := [.lit (.bool false)], args := [d1, d2, d3] }
  | _ => none }
def WindOnWrongFalsely : Prop := windOnRow.holds Try.pinned (OpenSpec.ofChange windOnWrong)

/-- 'punchcutlaw07.WindTurn': WHATEVER THE INPUT: true; the input reads as it did. -/
def windTurnSpec : ChangeSpec := { name := "windTurn", fn := fun _ => fun
  | [d1, d2, d3] => { results := [.lit (.bool true)], args := [d1, d2, d3] }
  | _ => none }
def windTurnRow : OpenClaim := { program := "ytglmgenifjaakaa", sum := "e89ccf1e7475df26c3fb17de321f6a8be87a11e2519510a88088514e2fab0c79", func := "punchcut/punchcutlaw07.WindTurn", spec := "windTurn", unfollowed := true, recurses := true, apart := false }
def WindTurnSaid : Prop := windTurnRow.holds Try.pinned (OpenSpec.ofChange windTurnSpec)

/-- ITS FALSE NEIGHBOUR: 'it returns false'. Refute it at one input. -/
def windTurnWrong : ChangeSpec := { name := "windTurn", fn := fun _ => fun
  | [d1, d2, d3] => { results := [.lit (.bool false)], args := [d1, d2, d3] }
  | _ => none }
def WindTurnWrongFalsely : Prop := windTurnRow.holds Try.pinned (OpenSpec.ofChange windTurnWrong)

/-- 'punchcutlaw07.WindOut': WHATEVER THE INPUT: true; the input reads as it did. -/
def windOutSpec : ChangeSpec := { name := "windOut", fn := fun _ => fun
  | [d1, d2, d3] => { results := [.lit (.bool true)], args := [d1, d2, d3] }
  | _ => none }
def windOutRow : OpenClaim := { program := "ytglmgenifjaakaa", sum := "e89ccf1e7475df26c3fb17de321f6a8be87a11e2519510a88088514e2fab0c79", func := "punchcut/punchcutlaw07.WindOut", spec := "windOut", unfollowed := true, recurses := true, apart := false }
def WindOutSaid : Prop := windOutRow.holds Try.pinned (OpenSpec.ofChange windOutSpec)

/-- ITS FALSE NEIGHBOUR: 'it returns false'. Refute it at one input. -/
def windOutWrong : ChangeSpec := { name := "windOut", fn := fun _ => fun
  | [d1, d2, d3] => { results := [.lit (.bool false)], args := [d1, d2, d3] }
  | _ => none }
def WindOutWrongFalsely : Prop := windOutRow.holds Try.pinned (OpenSpec.ofChange windOutWrong)

/-- 'punchcutlaw07.WindSquare': WHATEVER THE INPUT: true; the input reads as it did. -/
def windSquareSpec : ChangeSpec := { name := "windSquare", fn := fun _ => fun
  | [d1, d2, d3, d4, d5] => { results := [.lit (.bool true)], args := [d1, d2, d3, d4, d5] }
  | _ => none }
def windSquareRow : OpenClaim := { program := "ytglmgenifjaakaa", sum := "e89ccf1e7475df26c3fb17de321f6a8be87a11e2519510a88088514e2fab0c79", func := "punchcut/punchcutlaw07.WindSquare", spec := "windSquare", apart := false }
def WindSquareSaid : Prop := windSquareRow.holds Try.pinned (OpenSpec.ofChange windSquareSpec)

/-- ITS FALSE NEIGHBOUR: 'it returns false'. Refute it at one input. -/
def windSquareWrong : ChangeSpec := { name := "windSquare", fn := fun _ => fun
  | [d1, d2, d3, d4, d5] => { results := [.lit (.bool false)], args := [d1, d2, d3, d4, d5] }
  | _ => none }
def WindSquareWrongFalsely : Prop := windSquareRow.holds Try.pinned (OpenSpec.ofChange windSquareWrong)

/-- 'punchcutlaw07.WindBoth': WHATEVER THE INPUT: true; the input reads as it did. -/
def windBothSpec : ChangeSpec := { name := "windBoth", fn := fun _ => fun
  | [d1, d2, d3, d4] => { results := [.lit (.bool true)], args := [d1, d2, d3, d4] }
  | _ => none }
def windBothRow : OpenClaim := { program := "ytglmgenifjaakaa", sum := "e89ccf1e7475df26c3fb17de321f6a8be87a11e2519510a88088514e2fab0c79", func := "punchcut/punchcutlaw07.WindBoth", spec := "windBoth", unfollowed := true, recurses := true, apart := false }
def WindBothSaid : Prop := windBothRow.holds Try.pinned (OpenSpec.ofChange windBothSpec)

/-- ITS FALSE NEIGHBOUR: 'it returns false'. Refute it at one input. -/
def windBothWrong : ChangeSpec := { name := "windBoth", fn := fun _ => fun
  | [d1, d2, d3, d4] => { results := [.lit (.bool false)], args := [d1, d2, d3, d4] }
  | _ => none }
def WindBothWrongFalsely : Prop := windBothRow.holds Try.pinned (OpenSpec.ofChange windBothWrong)

/- THE SECOND FORM. 'bulk': how many values and letters a reading holds, each counted each time it is reached (what is shared counts as often as it is met; a slice's spare places count too). A statement '..UptoSaid' is the law's where the arguments, and the package variables that the reading takes, are together of bulk at most 1048576: NARROWER than '..Said'. Prove '..Said' where nothing that the law and all that it calls make is longer than what came in: it says more and counts as full. Else prove '..UptoSaid'. A law counts once. -/
mutual
def uptoBulk {H : Type} : DataW H → Nat
  | .lit (.string bytes) => bytes.length + 1
  | .lit _ => 1
  | .nil => 1
  | .ptr d => uptoBulk d + 1
  | .slice elems spare => uptoBulkAll elems + uptoBulkAll spare + 1
  | .agg parts => uptoBulkAll parts + 1
  | .iface _ d => uptoBulk d + 1
  | .map entries => uptoBulkEntries entries + 1
  | .held _ => 1
def uptoBulkAll {H : Type} : List (DataW H) → Nat
  | [] => 0
  | d :: r => uptoBulk d + uptoBulkAll r
def uptoBulkEntries {H : Type} : List (Lit × DataW H) → Nat
  | [] => 0
  | x :: r => uptoBulkEntry x + uptoBulkEntries r
def uptoBulkEntry {H : Type} : Lit × DataW H → Nat
  | (.string bytes, d) => bytes.length + uptoBulk d + 1
  | (_, d) => uptoBulk d + 1
 end
def uptoSmall : (H : Type) → List (DataW H) → Bool := fun _ ds => decide (uptoBulkAll ds ≤ 1048576)
def OpenSpec.upto (s : _root_.Go.ChangeSpec) : _root_.Go.OpenSpec := { _root_.Go.OpenSpec.ofChange s with cond := some uptoSmall }

/-- 'punchcutlaw07.WindNumber', WHERE WHAT IT READS IS OF BULK AT MOST 1048576: true; the input reads as it did. -/
def windNumberUptoRow : OpenClaim := { program := "ytglmgenifjaakaa", sum := "e89ccf1e7475df26c3fb17de321f6a8be87a11e2519510a88088514e2fab0c79", func := "punchcut/punchcutlaw07.WindNumber", spec := "windNumber", unfollowed := true, recurses := true, apart := false, narrowed := true }
def WindNumberUptoSaid : Prop := windNumberUptoRow.holds Try.pinned (OpenSpec.upto windNumberSpec)

/-- 'punchcutlaw07.WindOn', WHERE WHAT IT READS IS OF BULK AT MOST 1048576: true; the input reads as it did. -/
def windOnUptoRow : OpenClaim := { program := "ytglmgenifjaakaa", sum := "e89ccf1e7475df26c3fb17de321f6a8be87a11e2519510a88088514e2fab0c79", func := "punchcut/punchcutlaw07.WindOn", spec := "windOn", unfollowed := true, recurses := true, apart := false, narrowed := true }
def WindOnUptoSaid : Prop := windOnUptoRow.holds Try.pinned (OpenSpec.upto windOnSpec)

/-- 'punchcutlaw07.WindTurn', WHERE WHAT IT READS IS OF BULK AT MOST 1048576: true; the input reads as it did. -/
def windTurnUptoRow : OpenClaim := { program := "ytglmgenifjaakaa", sum := "e89ccf1e7475df26c3fb17de321f6a8be87a11e2519510a88088514e2fab0c79", func := "punchcut/punchcutlaw07.WindTurn", spec := "windTurn", unfollowed := true, recurses := true, apart := false, narrowed := true }
def WindTurnUptoSaid : Prop := windTurnUptoRow.holds Try.pinned (OpenSpec.upto windTurnSpec)

/-- 'punchcutlaw07.WindOut', WHERE WHAT IT READS IS OF BULK AT MOST 1048576: true; the input reads as it did. -/
def windOutUptoRow : OpenClaim := { program := "ytglmgenifjaakaa", sum := "e89ccf1e7475df26c3fb17de321f6a8be87a11e2519510a88088514e2fab0c79", func := "punchcut/punchcutlaw07.WindOut", spec := "windOut", unfollowed := true, recurses := true, apart := false, narrowed := true }
def WindOutUptoSaid : Prop := windOutUptoRow.holds Try.pinned (OpenSpec.upto windOutSpec)

/-- 'punchcutlaw07.WindSquare', WHERE WHAT IT READS IS OF BULK AT MOST 1048576: true; the input reads as it did. -/
def windSquareUptoRow : OpenClaim := { program := "ytglmgenifjaakaa", sum := "e89ccf1e7475df26c3fb17de321f6a8be87a11e2519510a88088514e2fab0c79", func := "punchcut/punchcutlaw07.WindSquare", spec := "windSquare", apart := false, narrowed := true }
def WindSquareUptoSaid : Prop := windSquareUptoRow.holds Try.pinned (OpenSpec.upto windSquareSpec)

/-- 'punchcutlaw07.WindBoth', WHERE WHAT IT READS IS OF BULK AT MOST 1048576: true; the input reads as it did. -/
def windBothUptoRow : OpenClaim := { program := "ytglmgenifjaakaa", sum := "e89ccf1e7475df26c3fb17de321f6a8be87a11e2519510a88088514e2fab0c79", func := "punchcut/punchcutlaw07.WindBoth", spec := "windBoth", unfollowed := true, recurses := true, apart := false, narrowed := true }
def WindBothUptoSaid : Prop := windBothUptoRow.holds Try.pinned (OpenSpec.upto windBothSpec)

end Rows
end Go.Proofs.Ytglmgenifjaakaa
