/-
  The walk over the document's Same: are two lists of bytes the same?
-/
import Derived.Test.YthnfbdmkdpokcaaDoorBase
namespace Go.Proofs.YthnfbdmkdpokcaaDoor
open Go.RowKit

theorem take_step {xs ys : List Nat} {k : Nat} (h1 : k < xs.length) (h2 : k < ys.length) (h : xs.take k = ys.take k) (he : xs[k] = ys[k]) : xs.take (k + 1) = ys.take (k + 1) := by
  rw [take_snoc xs k h1, take_snoc ys k h2, h, he]

end Go.Proofs.YthnfbdmkdpokcaaDoor
