/-
  The walk over MerkleRoots.
-/
import Derived.Test.YtoknjhpdbigbhaaDoorLtf
namespace Go.Proofs.YtoknjhpdbigbhaaDoor
open Go.RowKit
set_option linter.unusedVariables false
end Go.Proofs.YtoknjhpdbigbhaaDoor
