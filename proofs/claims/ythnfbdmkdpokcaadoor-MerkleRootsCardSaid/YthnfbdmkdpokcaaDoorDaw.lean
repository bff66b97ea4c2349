/-
  The walk over 'awake' of layer 2: the answers that the document fixes.
-/
import Derived.Test.YthnfbdmkdpokcaaDoorDsm
import Derived.Lib.SlBytesConst
namespace Go.Proofs.YthnfbdmkdpokcaaDoor
open Go.RowKit
set_option linter.unusedVariables false

theorem sum_abc : (Sha.sum [97, 98, 99]).getD 0 0 = 186 ∧ (Sha.sum [97, 98, 99]).getD 31 0 = 173 := by decide +kernel
theorem text_nil : str ([115, 104, 97, 50, 53, 54, 58] ++ hex (Sha.sum [])) = ⟨#[115, 104, 97, 50, 53, 54, 58, 101, 51, 98, 48, 99, 52, 52, 50, 57, 56, 102, 99, 49, 99, 49, 52, 57, 97, 102, 98, 102, 52, 99, 56, 57, 57, 54, 102, 98, 57, 50, 52, 50, 55, 97, 101, 52, 49, 101, 52, 54, 52, 57, 98, 57, 51, 52, 99, 97, 52, 57, 53, 57, 57, 49, 98, 55, 56, 53, 50, 98, 56, 53, 53]⟩ := by decide +kernel
theorem convA (w : World) (C : Array Value) (n c : Nat) : (convert 23 23 (.slice (some ⟨w.heap.size, 0, none⟩) n c)).run Tryd.prog (w.alloc (.cells C 5)) = .ok (.slice (some ⟨w.heap.size, 0, none⟩) n c) (w.alloc (.cells C 5 (C.size, C.size + 1))) :=
  Lib.run_convert_bytes_const (P := Tryd.prog) w 23 5 C n c Tryd.underlying23 Tryd.underlying5
end Go.Proofs.YthnfbdmkdpokcaaDoor
