/-
  The walk over MerkleRoots.
-/
import Derived.Test.YtlnblfdddellmaaDoorLtf
namespace Go.Proofs.YtlnblfdddellmaaDoor
open Go.RowKit
set_option linter.unusedVariables false
end Go.Proofs.YtlnblfdddellmaaDoor
