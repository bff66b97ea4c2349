/-
  The walk over DigestOrders.
-/
import Derived.Test.YthnfbdmkdpokcaaDoorDaw
import Derived.Test.YthnfbdmkdpokcaaDoorCmp
import Derived.Test.YthnfbdmkdpokcaaDoorRgh
namespace Go.Proofs.YthnfbdmkdpokcaaDoor
open Go.RowKit
set_option linter.unusedVariables false

def D32 (a : List Nat) : Prop := a.length = 32 ∧ ∀ z ∈ a, z < 256
def S3 (w : World) (t : TypeId) (a b c : List Nat) (W : World) : Prop :=
  Brow W w.heap.size t a ∧ Brow W (w.heap.size + 1) t b ∧ Brow W (w.heap.size + 1 + 1) t c ∧ Below w.heap.size w W
def S3f (w : World) (t : TypeId) (a b c : List Nat) (W : World) : Prop :=
  W.rangeAt w.heap.size 0 (cellsOf a) ∧ W.rangeAt (w.heap.size + 1) 0 (cellsOf b) ∧ W.rangeAt (w.heap.size + 1 + 1) 0 (cellsOf c) ∧ S3 w t a b c W
theorem Brow.range {w : World} {g : Nat} {t : TypeId} {zs : List Nat} (h : Brow w g t zs) : w.rangeAt g 0 (cellsOf zs) := fun j v hv => by
  rw [Nat.zero_add, cell_of_row w g j _ t _ h]
  simpa using hv
theorem S3.full {w : World} {t : TypeId} {a b c : List Nat} {W : World} (h : S3 w t a b c W) : S3f w t a b c W := ⟨h.1.range, h.2.1.range, h.2.2.1.range, h⟩
theorem S3.step {w : World} {t : TypeId} {a b c : List Nat} {W W' : World} (hb : Below W.heap.size W W') (h : S3 w t a b c W) : S3 w t a b c W' :=
  ⟨h.1.below hb h.1.lt, h.2.1.below hb h.2.1.lt, h.2.2.1.below hb h.2.2.1.lt, h.2.2.2.trans (hb.mono h.2.2.2.size)⟩
theorem S3.drew {w : World} {t : TypeId} {a b c : List Nat} {W : World} (h : S3 w t a b c W) : S3 w t a b c W.drew := ⟨h.1, h.2.1, h.2.2.1, h.2.2.2.drew⟩
theorem und_a32 : Tryd.prog.underlying 26 = some (.array 32 5) := Tryd.underlying26
theorem info_a32 : (Tryd.prog.info? 26).map (·.size) = some 32 := by kernel_rfl
end Go.Proofs.YthnfbdmkdpokcaaDoor
