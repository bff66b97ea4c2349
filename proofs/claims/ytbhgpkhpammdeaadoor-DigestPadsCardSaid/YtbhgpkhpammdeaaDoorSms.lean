/-
  The walk over DigestSums.
-/
import Derived.Test.YtbhgpkhpammdeaaDoorPkd
import Derived.Test.YtbhgpkhpammdeaaDoorPkc
namespace Go.Proofs.YtbhgpkhpammdeaaDoor
open Go.RowKit
set_option linter.unusedVariables false
end Go.Proofs.YtbhgpkhpammdeaaDoor
