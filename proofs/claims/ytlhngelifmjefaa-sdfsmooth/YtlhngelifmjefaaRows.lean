/-
  No cell of these rows narrows 'for every input' (looked for: loops, veiled, ifaces, maps, wideKeys, modest, calm, conditions, laid).
  DERIVED. THE GIVEN ROWS OF THIS SEAT. 7 by the template 'for every input the law returns true; each argument reads behind the call as it read before'; 0 by the template 'total and deterministic' (their statements: YtlhngelifmjefaaTotals.lean).
  GIVEN WITH THE SEED: the statements are not yours to turn. If you find one false, say at which input.
  Laid BY PROGRAM, IN A SANDBOX (cutbox-rows.mjs): the forced cells as the released guide's own fill.sh prints them over the translation 05f2ccbe33006bad… (all of the seat's roots in one cut). By AI agents, Wed Nov 11 2026. No macro, syntax, notation, axiom, sorry.
-/
import Derived.Test.YtlhngelifmjefaaChecked
import GoSem.Claim
import GoSem.ClaimJoined
import GoSem.ClaimMapViews
import Derived.JoinedTies
import Derived.KernelRfl
namespace Go.Proofs.Ytlhngelifmjefaa
/- THE CELL 'sum', in the pinned program and in every row, IS THE sha256 OF THE DUMP (.gsa) THAT YtlhngelifmjefaaProg.lean LOADS. Nothing in Lean hashes anything: it is a label: what it is worth is what the hold of that sum in a sandbox is worth. -/
noncomputable def Try.pinned : Pinned := { name := "ytlhngelifmjefaa", sum := "05f2ccbe33006bad650f7474024725692359e383f81b19bc54452f9ce6d1a1fa", checked := Try.checked }
namespace Rows
def none {H : Type} : Left H := { results := [], args := [] }

/-- 'punchcutlaw10.SdfMake': WHATEVER THE INPUT: true; the input reads as it did. -/
def sdfMakeSpec : ChangeSpec := { name := "sdfMake", fn := fun _ => fun
  | [d1, d2] => { results := [.lit (.bool true)], args := [d1, d2] }
  | _ => none }
def sdfMakeRow : OpenClaim := { program := "ytlhngelifmjefaa", sum := "05f2ccbe33006bad650f7474024725692359e383f81b19bc54452f9ce6d1a1fa", func := "punchcut/punchcutlaw10.SdfMake", spec := "sdfMake", unfollowed := true, recurses := true, named := ["math/bits.divideError", "math/bits.overflowError"], apart := false }
def SdfMakeSaid : Prop := sdfMakeRow.holds Try.pinned (OpenSpec.ofChange sdfMakeSpec)

/-- ITS FALSE NEIGHBOUR: 'it returns false'. Refute it at one input. -/
def sdfMakeWrong : ChangeSpec := { name := "sdfMake", fn := fun _ => fun
  | [d1, d2] => { results := [.lit (.bool false)], args := [d1, d2] }
  | _ => none }
def SdfMakeWrongFalsely : Prop := sdfMakeRow.holds Try.pinned (OpenSpec.ofChange sdfMakeWrong)

/-- 'punchcutlaw10.SdfTexel': WHATEVER THE INPUT: true; the input reads as it did. -/
def sdfTexelSpec : ChangeSpec := { name := "sdfTexel", fn := fun _ => fun
  | [d1, d2, d3, d4] => { results := [.lit (.bool true)], args := [d1, d2, d3, d4] }
  | _ => none }
def sdfTexelRow : OpenClaim := { program := "ytlhngelifmjefaa", sum := "05f2ccbe33006bad650f7474024725692359e383f81b19bc54452f9ce6d1a1fa", func := "punchcut/punchcutlaw10.SdfTexel", spec := "sdfTexel", unfollowed := true, recurses := true, named := ["math/bits.divideError", "math/bits.overflowError"], apart := false }
def SdfTexelSaid : Prop := sdfTexelRow.holds Try.pinned (OpenSpec.ofChange sdfTexelSpec)

/-- ITS FALSE NEIGHBOUR: 'it returns false'. Refute it at one input. -/
def sdfTexelWrong : ChangeSpec := { name := "sdfTexel", fn := fun _ => fun
  | [d1, d2, d3, d4] => { results := [.lit (.bool false)], args := [d1, d2, d3, d4] }
  | _ => none }
def SdfTexelWrongFalsely : Prop := sdfTexelRow.holds Try.pinned (OpenSpec.ofChange sdfTexelWrong)

/-- 'punchcutlaw10.SdfWrong': WHATEVER THE INPUT: true; the input reads as it did. -/
def sdfWrongSpec : ChangeSpec := { name := "sdfWrong", fn := fun _ => fun
  | [d1, d2] => { results := [.lit (.bool true)], args := [d1, d2] }
  | _ => none }
def sdfWrongRow : OpenClaim := { program := "ytlhngelifmjefaa", sum := "05f2ccbe33006bad650f7474024725692359e383f81b19bc54452f9ce6d1a1fa", func := "punchcut/punchcutlaw10.SdfWrong", spec := "sdfWrong", unfollowed := true, recurses := true, named := ["math/bits.divideError", "math/bits.overflowError"], apart := false }
def SdfWrongSaid : Prop := sdfWrongRow.holds Try.pinned (OpenSpec.ofChange sdfWrongSpec)

/-- ITS FALSE NEIGHBOUR: 'it returns false'. Refute it at one input. -/
def sdfWrongWrong : ChangeSpec := { name := "sdfWrong", fn := fun _ => fun
  | [d1, d2] => { results := [.lit (.bool false)], args := [d1, d2] }
  | _ => none }
def SdfWrongWrongFalsely : Prop := sdfWrongRow.holds Try.pinned (OpenSpec.ofChange sdfWrongWrong)

/-- 'punchcutlaw10.SdfSign': WHATEVER THE INPUT: true; the input reads as it did. -/
def sdfSignSpec : ChangeSpec := { name := "sdfSign", fn := fun _ => fun
  | [d1, d2] => { results := [.lit (.bool true)], args := [d1, d2] }
  | _ => none }
def sdfSignRow : OpenClaim := { program := "ytlhngelifmjefaa", sum := "05f2ccbe33006bad650f7474024725692359e383f81b19bc54452f9ce6d1a1fa", func := "punchcut/punchcutlaw10.SdfSign", spec := "sdfSign", unfollowed := true, recurses := true, named := ["math/bits.divideError", "math/bits.overflowError"], apart := false }
def SdfSignSaid : Prop := sdfSignRow.holds Try.pinned (OpenSpec.ofChange sdfSignSpec)

/-- ITS FALSE NEIGHBOUR: 'it returns false'. Refute it at one input. -/
def sdfSignWrong : ChangeSpec := { name := "sdfSign", fn := fun _ => fun
  | [d1, d2] => { results := [.lit (.bool false)], args := [d1, d2] }
  | _ => none }
def SdfSignWrongFalsely : Prop := sdfSignRow.holds Try.pinned (OpenSpec.ofChange sdfSignWrong)

/-- 'punchcutlaw10.SdfSmooth': WHATEVER THE INPUT: true; the input reads as it did. -/
def sdfSmoothSpec : ChangeSpec := { name := "sdfSmooth", fn := fun _ => fun
  | [d1, d2] => { results := [.lit (.bool true)], args := [d1, d2] }
  | _ => none }
def sdfSmoothRow : OpenClaim := { program := "ytlhngelifmjefaa", sum := "05f2ccbe33006bad650f7474024725692359e383f81b19bc54452f9ce6d1a1fa", func := "punchcut/punchcutlaw10.SdfSmooth", spec := "sdfSmooth", unfollowed := true, recurses := true, named := ["math/bits.divideError", "math/bits.overflowError"], apart := false }
def SdfSmoothSaid : Prop := sdfSmoothRow.holds Try.pinned (OpenSpec.ofChange sdfSmoothSpec)

/-- ITS FALSE NEIGHBOUR: 'it returns false'. Refute it at one input. -/
def sdfSmoothWrong : ChangeSpec := { name := "sdfSmooth", fn := fun _ => fun
  | [d1, d2] => { results := [.lit (.bool false)], args := [d1, d2] }
  | _ => none }
def SdfSmoothWrongFalsely : Prop := sdfSmoothRow.holds Try.pinned (OpenSpec.ofChange sdfSmoothWrong)

/-- 'punchcutlaw10.SdfMove': WHATEVER THE INPUT: true; the input reads as it did. -/
def sdfMoveSpec : ChangeSpec := { name := "sdfMove", fn := fun _ => fun
  | [d1, d2, d3, d4] => { results := [.lit (.bool true)], args := [d1, d2, d3, d4] }
  | _ => none }
def sdfMoveRow : OpenClaim := { program := "ytlhngelifmjefaa", sum := "05f2ccbe33006bad650f7474024725692359e383f81b19bc54452f9ce6d1a1fa", func := "punchcut/punchcutlaw10.SdfMove", spec := "sdfMove", unfollowed := true, recurses := true, named := ["math/bits.divideError", "math/bits.overflowError"], apart := false }
def SdfMoveSaid : Prop := sdfMoveRow.holds Try.pinned (OpenSpec.ofChange sdfMoveSpec)

/-- ITS FALSE NEIGHBOUR: 'it returns false'. Refute it at one input. -/
def sdfMoveWrong : ChangeSpec := { name := "sdfMove", fn := fun _ => fun
  | [d1, d2, d3, d4] => { results := [.lit (.bool false)], args := [d1, d2, d3, d4] }
  | _ => none }
def SdfMoveWrongFalsely : Prop := sdfMoveRow.holds Try.pinned (OpenSpec.ofChange sdfMoveWrong)

/-- 'punchcutlaw10.SdfBack': WHATEVER THE INPUT: true; the input reads as it did. -/
def sdfBackSpec : ChangeSpec := { name := "sdfBack", fn := fun _ => fun
  | [d1, d2] => { results := [.lit (.bool true)], args := [d1, d2] }
  | _ => none }
def sdfBackRow : OpenClaim := { program := "ytlhngelifmjefaa", sum := "05f2ccbe33006bad650f7474024725692359e383f81b19bc54452f9ce6d1a1fa", func := "punchcut/punchcutlaw10.SdfBack", spec := "sdfBack", unfollowed := true, recurses := true, named := ["math/bits.divideError", "math/bits.overflowError"], apart := false }
def SdfBackSaid : Prop := sdfBackRow.holds Try.pinned (OpenSpec.ofChange sdfBackSpec)

/-- ITS FALSE NEIGHBOUR: 'it returns false'. Refute it at one input. -/
def sdfBackWrong : ChangeSpec := { name := "sdfBack", fn := fun _ => fun
  | [d1, d2] => { results := [.lit (.bool false)], args := [d1, d2] }
  | _ => none }
def SdfBackWrongFalsely : Prop := sdfBackRow.holds Try.pinned (OpenSpec.ofChange sdfBackWrong)

/- THE SECOND FORM. 'bulk': how many values and letters a reading holds, each counted each time it is reached (what is shared counts as often as it is met; a slice's spare places count too). A statement '..UptoSaid' is the law's where the arguments, and the package variables that the reading takes, are together of bulk at most 1048576: NARROWER than '..Said'. Prove '..Said' where nothing that the law and all that it calls make is longer than what came in: it says more and counts as full. Else prove '..UptoSaid'. A law counts once. -/
mutual
def uptoBulk {H : Type} : DataW H → Nat
  | .lit (.string bytes) => bytes.length + 1
  | .lit _ => 1
  | .nil => 1
  | .ptr d => uptoBulk d + 1
  | .slice elems spare => uptoBulkAll elems + uptoBulkAll spare + 1
  | .agg parts => uptoBulkAll parts + 1
  | .iface _ d => uptoBulk d + 1
  | .map entries => uptoBulkEntries entries + 1
  | .held _ => 1
def uptoBulkAll {H : Type} : List (DataW H) → Nat
  | [] => 0
  | d :: r => uptoBulk d + uptoBulkAll r
def uptoBulkEntries {H : Type} : List (Lit × DataW H) → Nat
  | [] => 0
  | x :: r => uptoBulkEntry x + uptoBulkEntries r
def uptoBulkEntry {H : Type} : Lit × DataW H → Nat
  | (.string bytes, d) => bytes.length + uptoBulk d + 1
  | (_, d) => uptoBulk d + 1
 end
def uptoSmall : (H : Type) → List (DataW H) → Bool := fun _ ds => decide (uptoBulkAll ds ≤ 1048576)
def OpenSpec.upto (s : _root_.Go.ChangeSpec) : _root_.Go.OpenSpec := { _root_.Go.OpenSpec.ofChange s with cond := some uptoSmall }

/-- 'punchcutlaw10.SdfMake', WHERE WHAT IT READS IS OF BULK AT MOST 1048576: true; the input reads as it did. -/
def sdfMakeUptoRow : OpenClaim := { program := "ytlhngelifmjefaa", sum := "05f2ccbe33006bad650f7474024725692359e383f81b19bc54452f9ce6d1a1fa", func := "punchcut/punchcutlaw10.SdfMake", spec := "sdfMake", unfollowed := true, recurses := true, named := ["math/bits.divideError", "math/bits.overflowError"], apart := false, narrowed := true }
def SdfMakeUptoSaid : Prop := sdfMakeUptoRow.holds Try.pinned (OpenSpec.upto sdfMakeSpec)

/-- 'punchcutlaw10.SdfTexel', WHERE WHAT IT READS IS OF BULK AT MOST 1048576: true; the input reads as it did. -/
def sdfTexelUptoRow : OpenClaim := { program := "ytlhngelifmjefaa", sum := "05f2ccbe33006bad650f7474024725692359e383f81b19bc54452f9ce6d1a1fa", func := "punchcut/punchcutlaw10.SdfTexel", spec := "sdfTexel", unfollowed := true, recurses := true, named := ["math/bits.divideError", "math/bits.overflowError"], apart := false, narrowed := true }
def SdfTexelUptoSaid : Prop := sdfTexelUptoRow.holds Try.pinned (OpenSpec.upto sdfTexelSpec)

/-- 'punchcutlaw10.SdfWrong', WHERE WHAT IT READS IS OF BULK AT MOST 1048576: true; the input reads as it did. -/
def sdfWrongUptoRow : OpenClaim := { program := "ytlhngelifmjefaa", sum := "05f2ccbe33006bad650f7474024725692359e383f81b19bc54452f9ce6d1a1fa", func := "punchcut/punchcutlaw10.SdfWrong", spec := "sdfWrong", unfollowed := true, recurses := true, named := ["math/bits.divideError", "math/bits.overflowError"], apart := false, narrowed := true }
def SdfWrongUptoSaid : Prop := sdfWrongUptoRow.holds Try.pinned (OpenSpec.upto sdfWrongSpec)

/-- 'punchcutlaw10.SdfSign', WHERE WHAT IT READS IS OF BULK AT MOST 1048576: true; the input reads as it did. -/
def sdfSignUptoRow : OpenClaim := { program := "ytlhngelifmjefaa", sum := "05f2ccbe33006bad650f7474024725692359e383f81b19bc54452f9ce6d1a1fa", func := "punchcut/punchcutlaw10.SdfSign", spec := "sdfSign", unfollowed := true, recurses := true, named := ["math/bits.divideError", "math/bits.overflowError"], apart := false, narrowed := true }
def SdfSignUptoSaid : Prop := sdfSignUptoRow.holds Try.pinned (OpenSpec.upto sdfSignSpec)

/-- 'punchcutlaw10.SdfSmooth', WHERE WHAT IT READS IS OF BULK AT MOST 1048576: true; the input reads as it did. -/
def sdfSmoothUptoRow : OpenClaim := { program := "ytlhngelifmjefaa", sum := "05f2ccbe33006bad650f7474024725692359e383f81b19bc54452f9ce6d1a1fa", func := "punchcut/punchcutlaw10.SdfSmooth", spec := "sdfSmooth", unfollowed := true, recurses := true, named := ["math/bits.divideError", "math/bits.overflowError"], apart := false, narrowed := true }
def SdfSmoothUptoSaid : Prop := sdfSmoothUptoRow.holds Try.pinned (OpenSpec.upto sdfSmoothSpec)

/-- 'punchcutlaw10.SdfMove', WHERE WHAT IT READS IS OF BULK AT MOST 1048576: true; the input reads as it did. -/
def sdfMoveUptoRow : OpenClaim := { program := "ytlhngelifmjefaa", sum := "05f2ccbe33006bad650f7474024725692359e383f81b19bc54452f9ce6d1a1fa", func := "punchcut/punchcutlaw10.SdfMove", spec := "sdfMove", unfollowed := true, recurses := true, named := ["math/bits.divideError", "math/bits.overflowError"], apart := false, narrowed := true }
def SdfMoveUptoSaid : Prop := sdfMoveUptoRow.holds Try.pinned (OpenSpec.upto sdfMoveSpec)

/-- 'punchcutlaw10.SdfBack', WHERE WHAT IT READS IS OF BULK AT MOST 1048576: true; the input reads as it did. -/
def sdfBackUptoRow : OpenClaim := { program := "ytlhngelifmjefaa", sum := "05f2ccbe33006bad650f7474024725692359e383f81b19bc54452f9ce6d1a1fa", func := "punchcut/punchcutlaw10.SdfBack", spec := "sdfBack", unfollowed := true, recurses := true, named := ["math/bits.divideError", "math/bits.overflowError"], apart := false, narrowed := true }
def SdfBackUptoSaid : Prop := sdfBackUptoRow.holds Try.pinned (OpenSpec.upto sdfBackSpec)

end Rows
end Go.Proofs.Ytlhngelifmjefaa
