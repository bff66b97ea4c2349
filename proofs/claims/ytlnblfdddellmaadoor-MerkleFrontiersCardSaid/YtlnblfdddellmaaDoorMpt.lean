/-
  The walk over MerklePaths.
-/
import Derived.Test.YtlnblfdddellmaaDoorMrt
import Derived.Test.YtlnblfdddellmaaDoorChk
namespace Go.Proofs.YtlnblfdddellmaaDoor
open Go.RowKit
set_option linter.unusedVariables false
def MP (w : World) (a1 : Option Addr) (n1 : Nat) (es : Ds) (va : Option Addr) (vn : Nat) (p : Ds) (W : World) : Prop := DR W a1 n1 es ∧ DR W va vn p ∧ Below w.heap.size w W
theorem MP.step {w : World} {a1 : Option Addr} {n1 : Nat} {es : Ds} {va : Option Addr} {vn : Nat} {p : Ds} {W W' : World} (h : MP w a1 n1 es va vn p W) (hb : Below W.heap.size W W') : MP w a1 n1 es va vn p W' := ⟨h.1.below hb, h.2.1.below hb, h.2.2.trans (hb.mono h.2.2.size)⟩
theorem top_pathS (es : Ds) (k : Nat) (hk : k < es.length) : topS es.length k (es.getD k []) (pathS es k) = some (rootS es) := by
  have := Mk.top_path (Sha.sum []) nodeS es.length es k rfl hk
  rw [show es.getD k (Sha.sum []) = es.getD k [] by simp [List.getD_eq_getElem?_getD, List.getElem?_eq_getElem hk]] at this
  exact this
end Go.Proofs.YtlnblfdddellmaaDoor
