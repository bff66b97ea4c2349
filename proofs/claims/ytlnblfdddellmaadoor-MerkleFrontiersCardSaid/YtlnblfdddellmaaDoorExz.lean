/-
  Extends of no leaves.
-/
import Derived.Test.YtlnblfdddellmaaDoorPrx
namespace Go.Proofs.YtlnblfdddellmaaDoor
open Go.RowKit
set_option linter.unusedVariables false
def E3 (w : World) (old root : List Nat) (g : Nat) (x : List Nat) (W : World) : Prop := K2 w old root W ∧ Brow W g 32 x
end Go.Proofs.YtlnblfdddellmaaDoor
