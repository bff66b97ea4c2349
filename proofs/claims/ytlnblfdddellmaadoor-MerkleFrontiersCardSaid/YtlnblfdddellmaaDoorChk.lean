/-
  The walk over Check.
-/
import Derived.Test.YtlnblfdddellmaaDoorClm
import Derived.Test.YtlnblfdddellmaaDoorRpt
namespace Go.Proofs.YtlnblfdddellmaaDoor
open Go.RowKit
set_option linter.unusedVariables false
/-- the two blocks of Check, and the root that follows -/
def K2 (w : World) (root leaf : List Nat) (W : World) : Prop := Brow W w.heap.size 32 root ∧ Brow W (w.heap.size + 1) 32 leaf ∧ Below w.heap.size w W
theorem K2.below {w W W' : World} {root leaf : List Nat} (h : K2 w root leaf W) (hb : Below W.heap.size W W') : K2 w root leaf W' := ⟨h.1.below hb h.1.lt, h.2.1.below hb h.2.1.lt, h.2.2.trans (hb.mono h.2.2.size)⟩
end Go.Proofs.YtlnblfdddellmaaDoor
