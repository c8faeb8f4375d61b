/-
  The program's Known and Make of layer 13, as SwpOK (no claim is made here).
-/
import Derived.Test.YteiildeaccngjaaSwpPe
import Derived.Test.YteiildeaccngjaaSwpPg
import Derived.Test.YteiildeaccngjaaMsdq
import Derived.Test.YteiildeaccngjaaSwp3
namespace Go.Proofs.Yteiildeaccngjaa
open Go.RowKit

theorem swpOK : SwpOK := ⟨pknown13_any, pmake13_any, pwrong13_any⟩

end Go.Proofs.Yteiildeaccngjaa
