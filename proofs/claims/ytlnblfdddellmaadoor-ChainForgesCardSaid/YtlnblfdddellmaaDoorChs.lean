/-
  The walk over ChainSteps.
-/
import Derived.Test.YtlnblfdddellmaaDoorAwc
namespace Go.Proofs.YtlnblfdddellmaaDoor
open Go.RowKit
set_option linter.unusedVariables false
theorem eqA (W : World) {a : List Nat} (ha : D32 a) : (Op.equalIn 10000 32 (.agg (cellsOf a).toArray) (.agg (cellsOf a).toArray)).run Tryd.prog W = .ok true W := by
  simpa using eq_dig 32 32 Tryd.underlying32 W a a ha.1 ha.1 ha.2 ha.2
theorem eqAA (W : World) {a b : List Nat} (ha : D32 a) (hb : D32 b) : (Op.equalIn 10000 32 (.agg (cellsOf a).toArray) (.agg (cellsOf b).toArray)).run Tryd.prog W = .ok (decide (a = b)) W := eq_dig 32 32 Tryd.underlying32 W a b ha.1 hb.1 ha.2 hb.2
theorem loadR (W : World) (g : Nat) (x : List Nat) (hx : D32 x) (h : Brow W g 31 x) : (Instr.loadAt 31 (.pointer (some ⟨g, 0, none⟩))).run Tryd.prog W = .ok (.agg (cellsOf x).toArray) W :=
  run_loadAt_mid W g 0 31 (cellsOf x) _ h.range Tryd.underlying31 rfl (by rw [cellsOf_length, hx.1]; exact info_a32)
theorem loadA (W : World) (g : Nat) (x : List Nat) (hx : D32 x) (h : Brow W g 32 x) : (Instr.loadAt 32 (.pointer (some ⟨g, 0, none⟩))).run Tryd.prog W = .ok (.agg (cellsOf x).toArray) W :=
  run_loadAt_mid W g 0 32 (cellsOf x) _ h.range Tryd.underlying32 rfl (by rw [cellsOf_length, hx.1]; exact info_dig)
theorem B1.drew {w W : World} {t : TypeId} {x : List Nat} (h : B1 w t x W) : B1 w t x W.drew := ⟨h.1.drew, h.2.drew⟩
end Go.Proofs.YtlnblfdddellmaaDoor
