/-
  Yes and no that come in: how a row's list of bool is opened.
-/
import Derived.Test.YtjpcbmfnjifgfaaPkb
import Derived.Deep.Grids
namespace Go.Proofs.Ytjpcbmfnjifgfaa
open Go.RowKit
set_option linter.unusedVariables false
def BoolsIn (W : World) (a : Option Addr) (len cap : Nat) (B : Nat → Bool) : Prop :=
  (a = none → cap = 0) ∧ len ≤ cap ∧ cap ≤ 9223372036854775807 ∧ (len = 0 ∨ ∃ b off, a = some ⟨b, off, none⟩ ∧ b < W.heap.size ∧ ∀ i, i < len → W.cell? ⟨b, off + i, none⟩ = some (.bool (B i)))
theorem boolsIn_nil (W : World) : BoolsIn W none 0 0 (fun _ => false) := ⟨fun _ => rfl, Nat.le_refl _, by omega, .inl rfl⟩
theorem boolsIn_some {W : World} {x : Addr} {len cap : Nat} {B : Nat → Bool} (hl : len ≤ cap) (hcap : cap ≤ maxLen)
    (hcell : ∀ i, i < cap → W.cell? (x.add i) = some (.bool (B i))) : BoolsIn W (some x) len cap B := by
  refine ⟨by simp, hl, by unfold maxLen at hcap; omega, ?_⟩
  by_cases h0 : len = 0
  · exact .inl h0
  · obtain ⟨b, off, spot⟩ := x
    have hspot : spot = none := by simpa [Addr.add] using World.cell?_spot (hcell 0 (by omega))
    subst hspot
    have h00 := hcell 0 (by omega)
    rw [show Addr.add ⟨b, off, none⟩ 0 = ⟨b, off, none⟩ by simp [Addr.add]] at h00
    refine .inr ⟨b, off, rfl, World.block_lt_of_cell? W ⟨b, off, none⟩ h00, fun i hi => ?_⟩
    have hc := hcell i (by omega)
    rwa [show Addr.add ⟨b, off, none⟩ i = ⟨b, off + i, none⟩ by simp [Addr.add]] at hc
end Go.Proofs.Ytjpcbmfnjifgfaa
