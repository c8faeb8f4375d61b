/-
  No cell of these rows narrows 'for every input' (looked for: loops, veiled, ifaces, maps, wideKeys, modest, calm, conditions, laid).
  DERIVED. THE GIVEN ROWS OF THIS SEAT. 6 by the template 'for every input the law returns true; each argument reads behind the call as it read before'; 0 by the template 'total and deterministic' (their statements: YtaadponhmnaccaaTotals.lean).
  GIVEN WITH THE SEED: the statements are not yours to turn. If you find one false, say at which input.
  Laid BY PROGRAM, IN A SANDBOX (cutbox-rows.mjs): the forced cells as the released guide's own fill.sh prints them over the translation 22ed275e7e3ed758… (all of the seat's roots in one cut). By AI agents, Wed Nov 11 2026. No macro, syntax, notation, axiom, sorry.
-/
import Derived.Test.YtaadponhmnaccaaChecked
import GoSem.Claim
import GoSem.ClaimJoined
import GoSem.ClaimMapViews
import Derived.JoinedTies
import Derived.KernelRfl
namespace Go.Proofs.Ytaadponhmnaccaa
/- THE CELL 'sum', in the pinned program and in every row, IS THE sha256 OF THE DUMP (.gsa) THAT YtaadponhmnaccaaProg.lean LOADS. Nothing in Lean hashes anything: it is a label: what it is worth is what the hold of that sum in a sandbox is worth. -/
noncomputable def Try.pinned : Pinned := { name := "ytaadponhmnaccaa", sum := "22ed275e7e3ed75813cd73623136dc93639954708c14f04b1ce92e1e2d3b0f01", checked := Try.checked }
namespace Rows
def none {H : Type} : Left H := { results := [], args := [] }

/-- 'punchcutlaw09.GridCheck': WHATEVER THE INPUT: true; the input reads as it did. -/
def gridCheckSpec : ChangeSpec := { name := "gridCheck", fn := fun _ => fun
  | [d1, d2, d3, d4] => { results := [.lit (.bool true)], args := [d1, d2, d3, d4] }
  | _ => none }
def gridCheckRow : OpenClaim := { program := "ytaadponhmnaccaa", sum := "22ed275e7e3ed75813cd73623136dc93639954708c14f04b1ce92e1e2d3b0f01", func := "punchcut/punchcutlaw09.GridCheck", spec := "gridCheck", unfollowed := true, recurses := true, apart := false }
def GridCheckSaid : Prop := gridCheckRow.holds Try.pinned (OpenSpec.ofChange gridCheckSpec)

/-- ITS FALSE NEIGHBOUR: 'it returns false'. Refute it at one input. -/
def gridCheckWrong : ChangeSpec := { name := "gridCheck", fn := fun _ => fun
  | [d1, d2, d3, d4] => { results := [.lit (.bool false)], args := [d1, d2, d3, d4] }
  | _ => none }
def GridCheckWrongFalsely : Prop := gridCheckRow.holds Try.pinned (OpenSpec.ofChange gridCheckWrong)

/-- 'punchcutlaw09.GridCentre': WHATEVER THE INPUT: true; the input reads as it did. -/
def gridCentreSpec : ChangeSpec := { name := "gridCentre", fn := fun _ => fun
  | [d1, d2, d3] => { results := [.lit (.bool true)], args := [d1, d2, d3] }
  | _ => none }
def gridCentreRow : OpenClaim := { program := "ytaadponhmnaccaa", sum := "22ed275e7e3ed75813cd73623136dc93639954708c14f04b1ce92e1e2d3b0f01", func := "punchcut/punchcutlaw09.GridCentre", spec := "gridCentre", unfollowed := true, recurses := true, apart := false }
def GridCentreSaid : Prop := gridCentreRow.holds Try.pinned (OpenSpec.ofChange gridCentreSpec)

/-- ITS FALSE NEIGHBOUR: 'it returns false'. Refute it at one input. -/
def gridCentreWrong : ChangeSpec := { name := "gridCentre", fn := fun _ => fun
  | [d1, d2, d3] => { results := [.lit (.bool false)], args := [d1, d2, d3] }
  | _ => none }
def GridCentreWrongFalsely : Prop := gridCentreRow.holds Try.pinned (OpenSpec.ofChange gridCentreWrong)

/-- 'punchcutlaw09.GridCode': WHATEVER THE INPUT: true; the input reads as it did. -/
def gridCodeSpec : ChangeSpec := { name := "gridCode", fn := fun _ => fun
  | [d1, d2, d3] => { results := [.lit (.bool true)], args := [d1, d2, d3] }
  | _ => none }
def gridCodeRow : OpenClaim := { program := "ytaadponhmnaccaa", sum := "22ed275e7e3ed75813cd73623136dc93639954708c14f04b1ce92e1e2d3b0f01", func := "punchcut/punchcutlaw09.GridCode", spec := "gridCode", unfollowed := true, recurses := true, apart := false }
def GridCodeSaid : Prop := gridCodeRow.holds Try.pinned (OpenSpec.ofChange gridCodeSpec)

/-- ITS FALSE NEIGHBOUR: 'it returns false'. Refute it at one input. -/
def gridCodeWrong : ChangeSpec := { name := "gridCode", fn := fun _ => fun
  | [d1, d2, d3] => { results := [.lit (.bool false)], args := [d1, d2, d3] }
  | _ => none }
def GridCodeWrongFalsely : Prop := gridCodeRow.holds Try.pinned (OpenSpec.ofChange gridCodeWrong)

/-- 'punchcutlaw09.GridEach': WHATEVER THE INPUT: true; the input reads as it did. -/
def gridEachSpec : ChangeSpec := { name := "gridEach", fn := fun _ => fun
  | [d1, d2] => { results := [.lit (.bool true)], args := [d1, d2] }
  | _ => none }
def gridEachRow : OpenClaim := { program := "ytaadponhmnaccaa", sum := "22ed275e7e3ed75813cd73623136dc93639954708c14f04b1ce92e1e2d3b0f01", func := "punchcut/punchcutlaw09.GridEach", spec := "gridEach", unfollowed := true, recurses := true, apart := false }
def GridEachSaid : Prop := gridEachRow.holds Try.pinned (OpenSpec.ofChange gridEachSpec)

/-- ITS FALSE NEIGHBOUR: 'it returns false'. Refute it at one input. -/
def gridEachWrong : ChangeSpec := { name := "gridEach", fn := fun _ => fun
  | [d1, d2] => { results := [.lit (.bool false)], args := [d1, d2] }
  | _ => none }
def GridEachWrongFalsely : Prop := gridEachRow.holds Try.pinned (OpenSpec.ofChange gridEachWrong)

/-- 'punchcutlaw09.GridAt': WHATEVER THE INPUT: true; the input reads as it did. -/
def gridAtSpec : ChangeSpec := { name := "gridAt", fn := fun _ => fun
  | [d1, d2, d3, d4, d5] => { results := [.lit (.bool true)], args := [d1, d2, d3, d4, d5] }
  | _ => none }
def gridAtRow : OpenClaim := { program := "ytaadponhmnaccaa", sum := "22ed275e7e3ed75813cd73623136dc93639954708c14f04b1ce92e1e2d3b0f01", func := "punchcut/punchcutlaw09.GridAt", spec := "gridAt", unfollowed := true, recurses := true, apart := false }
def GridAtSaid : Prop := gridAtRow.holds Try.pinned (OpenSpec.ofChange gridAtSpec)

/-- ITS FALSE NEIGHBOUR: 'it returns false'. Refute it at one input. -/
def gridAtWrong : ChangeSpec := { name := "gridAt", fn := fun _ => fun
  | [d1, d2, d3, d4, d5] => { results := [.lit (.bool false)], args := [d1, d2, d3, d4, d5] }
  | _ => none }
def GridAtWrongFalsely : Prop := gridAtRow.holds Try.pinned (OpenSpec.ofChange gridAtWrong)

/-- 'punchcutlaw09.GridAround': WHATEVER THE INPUT: true; the input reads as it did. -/
def gridAroundSpec : ChangeSpec := { name := "gridAround", fn := fun _ => fun
  | [d1, d2, d3, d4, d5, d6] => { results := [.lit (.bool true)], args := [d1, d2, d3, d4, d5, d6] }
  | _ => none }
def gridAroundRow : OpenClaim := { program := "ytaadponhmnaccaa", sum := "22ed275e7e3ed75813cd73623136dc93639954708c14f04b1ce92e1e2d3b0f01", func := "punchcut/punchcutlaw09.GridAround", spec := "gridAround", unfollowed := true, recurses := true, apart := false }
def GridAroundSaid : Prop := gridAroundRow.holds Try.pinned (OpenSpec.ofChange gridAroundSpec)

/-- ITS FALSE NEIGHBOUR: 'it returns false'. Refute it at one input. -/
def gridAroundWrong : ChangeSpec := { name := "gridAround", fn := fun _ => fun
  | [d1, d2, d3, d4, d5, d6] => { results := [.lit (.bool false)], args := [d1, d2, d3, d4, d5, d6] }
  | _ => none }
def GridAroundWrongFalsely : Prop := gridAroundRow.holds Try.pinned (OpenSpec.ofChange gridAroundWrong)

/- THE SECOND FORM. 'bulk': how many values and letters a reading holds, each counted each time it is reached (what is shared counts as often as it is met; a slice's spare places count too). A statement '..UptoSaid' is the law's where the arguments, and the package variables that the reading takes, are together of bulk at most 1048576: NARROWER than '..Said'. Prove '..Said' where nothing that the law and all that it calls make is longer than what came in: it says more and counts as full. Else prove '..UptoSaid'. A law counts once. -/
mutual
def uptoBulk {H : Type} : DataW H → Nat
  | .lit (.string bytes) => bytes.length + 1
  | .lit _ => 1
  | .nil => 1
  | .ptr d => uptoBulk d + 1
  | .slice elems spare => uptoBulkAll elems + uptoBulkAll spare + 1
  | .agg parts => uptoBulkAll parts + 1
  | .iface _ d => uptoBulk d + 1
  | .map entries => uptoBulkEntries entries + 1
  | .held _ => 1
def uptoBulkAll {H : Type} : List (DataW H) → Nat
  | [] => 0
  | d :: r => uptoBulk d + uptoBulkAll r
def uptoBulkEntries {H : Type} : List (Lit × DataW H) → Nat
  | [] => 0
  | x :: r => uptoBulkEntry x + uptoBulkEntries r
def uptoBulkEntry {H : Type} : Lit × DataW H → Nat
  | (.string bytes, d) => bytes.length + uptoBulk d + 1
  | (_, d) => uptoBulk d + 1
 end
def uptoSmall : (H : Type) → List (DataW H) → Bool := fun _ ds => decide (uptoBulkAll ds ≤ 1048576)
def OpenSpec.upto (s : _root_.Go.ChangeSpec) : _root_.Go.OpenSpec := { _root_.Go.OpenSpec.ofChange s with cond := some uptoSmall }

/-- 'punchcutlaw09.GridCheck', WHERE WHAT IT READS IS OF BULK AT MOST 1048576: true; the input reads as it did. -/
def gridCheckUptoRow : OpenClaim := { program := "ytaadponhmnaccaa", sum := "22ed275e7e3ed75813cd73623136dc93639954708c14f04b1ce92e1e2d3b0f01", func := "punchcut/punchcutlaw09.GridCheck", spec := "gridCheck", unfollowed := true, recurses := true, apart := false, narrowed := true }
def GridCheckUptoSaid : Prop := gridCheckUptoRow.holds Try.pinned (OpenSpec.upto gridCheckSpec)

/-- 'punchcutlaw09.GridCentre', WHERE WHAT IT READS IS OF BULK AT MOST 1048576: true; the input reads as it did. -/
def gridCentreUptoRow : OpenClaim := { program := "ytaadponhmnaccaa", sum := "22ed275e7e3ed75813cd73623136dc93639954708c14f04b1ce92e1e2d3b0f01", func := "punchcut/punchcutlaw09.GridCentre", spec := "gridCentre", unfollowed := true, recurses := true, apart := false, narrowed := true }
def GridCentreUptoSaid : Prop := gridCentreUptoRow.holds Try.pinned (OpenSpec.upto gridCentreSpec)

/-- 'punchcutlaw09.GridCode', WHERE WHAT IT READS IS OF BULK AT MOST 1048576: true; the input reads as it did. -/
def gridCodeUptoRow : OpenClaim := { program := "ytaadponhmnaccaa", sum := "22ed275e7e3ed75813cd73623136dc93639954708c14f04b1ce92e1e2d3b0f01", func := "punchcut/punchcutlaw09.GridCode", spec := "gridCode", unfollowed := true, recurses := true, apart := false, narrowed := true }
def GridCodeUptoSaid : Prop := gridCodeUptoRow.holds Try.pinned (OpenSpec.upto gridCodeSpec)

/-- 'punchcutlaw09.GridEach', WHERE WHAT IT READS IS OF BULK AT MOST 1048576: true; the input reads as it did. -/
def gridEachUptoRow : OpenClaim := { program := "ytaadponhmnaccaa", sum := "22ed275e7e3ed75813cd73623136dc93639954708c14f04b1ce92e1e2d3b0f01", func := "punchcut/punchcutlaw09.GridEach", spec := "gridEach", unfollowed := true, recurses := true, apart := false, narrowed := true }
def GridEachUptoSaid : Prop := gridEachUptoRow.holds Try.pinned (OpenSpec.upto gridEachSpec)

/-- 'punchcutlaw09.GridAt', WHERE WHAT IT READS IS OF BULK AT MOST 1048576: true; the input reads as it did. -/
def gridAtUptoRow : OpenClaim := { program := "ytaadponhmnaccaa", sum := "22ed275e7e3ed75813cd73623136dc93639954708c14f04b1ce92e1e2d3b0f01", func := "punchcut/punchcutlaw09.GridAt", spec := "gridAt", unfollowed := true, recurses := true, apart := false, narrowed := true }
def GridAtUptoSaid : Prop := gridAtUptoRow.holds Try.pinned (OpenSpec.upto gridAtSpec)

/-- 'punchcutlaw09.GridAround', WHERE WHAT IT READS IS OF BULK AT MOST 1048576: true; the input reads as it did. -/
def gridAroundUptoRow : OpenClaim := { program := "ytaadponhmnaccaa", sum := "22ed275e7e3ed75813cd73623136dc93639954708c14f04b1ce92e1e2d3b0f01", func := "punchcut/punchcutlaw09.GridAround", spec := "gridAround", unfollowed := true, recurses := true, apart := false, narrowed := true }
def GridAroundUptoSaid : Prop := gridAroundUptoRow.holds Try.pinned (OpenSpec.upto gridAroundSpec)

end Rows
end Go.Proofs.Ytaadponhmnaccaa
