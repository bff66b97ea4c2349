/-
  The walk over MerkleRoots.
-/
import Derived.Test.YtdcninfbpmhojaaDoorLtf
namespace Go.Proofs.YtdcninfbpmhojaaDoor
open Go.RowKit
set_option linter.unusedVariables false
end Go.Proofs.YtdcninfbpmhojaaDoor
