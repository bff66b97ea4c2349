/-
  The walk over Extends.
-/
import Derived.Test.YtlnblfdddellmaaDoorReb
namespace Go.Proofs.YtlnblfdddellmaaDoor
open Go.RowKit
set_option linter.unusedVariables false
def E2 (w : World) (old root : List Nat) (g : Nat) (x y : List Nat) (W : World) : Prop := K2 w old root W ∧ Brow W g 32 x ∧ Brow W (g + 1) 32 y
end Go.Proofs.YtlnblfdddellmaaDoor
