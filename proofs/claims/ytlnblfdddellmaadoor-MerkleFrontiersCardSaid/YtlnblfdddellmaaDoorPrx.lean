/-
  Proof as it is called from without, and the document's; Extends of no leaves.
-/
import Derived.Test.YtlnblfdddellmaaDoorPrf
import Derived.Test.YtlnblfdddellmaaDoorExt
namespace Go.Proofs.YtlnblfdddellmaaDoor
open Go.RowKit
set_option linter.unusedVariables false
end Go.Proofs.YtlnblfdddellmaaDoor
