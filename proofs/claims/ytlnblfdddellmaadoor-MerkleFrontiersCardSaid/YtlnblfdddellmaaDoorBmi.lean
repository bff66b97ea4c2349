/-
  Yes and no that come in, at merkle's seat.
-/
import Derived.Test.YtlnblfdddellmaaDoorPkc
import Derived.Test.YtlnblfdddellmaaDoorDgl
import Derived.Deep.Grids
namespace Go.Proofs.YtlnblfdddellmaaDoor
open Go.RowKit
set_option linter.unusedVariables false
/-- yes and no that came in -/
def BoolsIn (W : World) (a : Option Addr) (len cap : Nat) (B : Nat → Bool) : Prop :=
  (a = none → cap = 0) ∧ len ≤ cap ∧ cap ≤ 9223372036854775807 ∧ (len = 0 ∨ ∃ b off, a = some ⟨b, off, none⟩ ∧ b < W.heap.size ∧ ∀ i, i < len → W.cell? ⟨b, off + i, none⟩ = some (.bool (B i)))
theorem size_bool (W : World) : (Go.sizeOf 4).run Tryd.prog W = .ok 1 W := by kernel_rfl
theorem und_bools : Tryd.prog.underlying 23 = some (.slice (Tryd.prog.elem 23)) := by
  rw [show Tryd.prog.elem 23 = 4 by kernel_rfl]; exact Tryd.underlying23
theorem run_bindex (W : World) (b o len cap i : Nat) (hi : i < len) :
    (Instr.indexAt 23 (.slice (some ⟨b, o, none⟩) len cap) (.int .i64 (i : Int))).run Tryd.prog W = .ok (.pointer (some ⟨b, o + i, none⟩)) W := by
  rw [run_indexAt_slice W 23 ⟨b, o, none⟩ len cap .i64 (i : Int) und_bools, show Tryd.prog.elem 23 = 4 by kernel_rfl, size_bool]
  have h1 : (0 : Int) ≤ (i : Int) ∧ (i : Int) < (len : Int) := by omega
  simp [Result.andThen, h1, Addr.add]
theorem boolsIn_nil (W : World) : BoolsIn W none 0 0 (fun _ => false) := ⟨fun _ => rfl, Nat.le_refl _, by omega, .inl rfl⟩
theorem boolsIn_some {W : World} {x : Addr} {len cap : Nat} {B : Nat → Bool} (hl : len ≤ cap) (hcap : cap ≤ maxLen)
    (hcell : ∀ i, i < cap → W.cell? (x.add i) = some (.bool (B i))) : BoolsIn W (some x) len cap B := by
  refine ⟨by simp, hl, by unfold maxLen at hcap; omega, ?_⟩
  by_cases h0 : len = 0
  · exact .inl h0
  · obtain ⟨b, off, spot⟩ := x
    have hspot : spot = none := by simpa [Addr.add] using World.cell?_spot (hcell 0 (by omega))
    subst hspot
    have h00 := hcell 0 (by omega)
    rw [show Addr.add ⟨b, off, none⟩ 0 = ⟨b, off, none⟩ by simp [Addr.add]] at h00
    refine .inr ⟨b, off, rfl, World.block_lt_of_cell? W ⟨b, off, none⟩ h00, fun i hi => ?_⟩
    have hc := hcell i (by omega)
    rwa [show Addr.add ⟨b, off, none⟩ i = ⟨b, off + i, none⟩ by simp [Addr.add]] at hc
end Go.Proofs.YtlnblfdddellmaaDoor
