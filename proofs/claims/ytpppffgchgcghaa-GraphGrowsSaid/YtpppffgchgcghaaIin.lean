/-
  Numbers that come in: how a row's list of int is opened.
-/
import Derived.Test.YtpppffgchgcghaaPkb
namespace Go.Proofs.Ytpppffgchgcghaa
open Go.RowKit
set_option linter.unusedVariables false
/-- numbers that came in -/
def IntsIn (W : World) (a : Option Addr) (len cap : Nat) (zs : List Int) : Prop :=
  zs.length = len ∧ (∀ z ∈ zs, -9223372036854775808 ≤ z ∧ z ≤ 9223372036854775807) ∧ (a = none → cap = 0) ∧ len ≤ cap ∧ cap ≤ 9223372036854775807 ∧ (len = 0 ∨ ∃ b off, a = some ⟨b, off, none⟩ ∧ b < W.heap.size ∧ ∀ i, i < len → W.cell? ⟨b, off + i, none⟩ = some (.int .i64 (zs.getD i 0)))
theorem IntsIn.below {W W' : World} {a : Option Addr} {len cap : Nat} {zs : List Int} (h : IntsIn W a len cap zs) (hb : Below W.heap.size W W') : IntsIn W' a len cap zs := by
  obtain ⟨h1, h2, h3, h4, h5, h6⟩ := h
  refine ⟨h1, h2, h3, h4, h5, ?_⟩
  rcases h6 with h6 | ⟨b, off, ha, hlt, hc⟩
  · exact .inl h6
  · exact .inr ⟨b, off, ha, Nat.lt_of_lt_of_le hlt hb.size, fun i hi => (hb.cell (p := ⟨b, off + i, none⟩) hlt).trans (hc i hi)⟩
theorem intsIn_nil (W : World) : IntsIn W none 0 0 [] := ⟨rfl, by simp, fun _ => rfl, Nat.le_refl _, by omega, .inl rfl⟩
theorem intsIn_some {W : World} {x : Addr} {len cap : Nat} {zi : List Int} (hl : len ≤ cap) (hz : zi.length = cap) (hcap : cap ≤ maxLen)
    (hcell : ∀ i, i < zi.length → W.cell? (x.add i) = some (.int .i64 (zi.getD i 0))) (hwz : ∀ n ∈ zi, (Lit.int .i64 n).wf = true) : IntsIn W (some x) len cap (zi.take len) := by
  refine ⟨by rw [List.length_take]; omega, fun z hm => ?_, by simp, hl, by unfold maxLen at hcap; omega, ?_⟩
  · have := hwz z (List.mem_of_mem_take hm)
    simpa [Lit.wf, IntKind.min, IntKind.max, IntKind.signed, IntKind.bits] using this
  · by_cases h0 : len = 0
    · exact .inl h0
    · obtain ⟨b, off, spot⟩ := x
      have hspot : spot = none := by simpa [Addr.add] using World.cell?_spot (hcell 0 (by omega))
      subst hspot
      have h00 := hcell 0 (by omega)
      rw [show Addr.add ⟨b, off, none⟩ 0 = ⟨b, off, none⟩ by simp [Addr.add]] at h00
      refine .inr ⟨b, off, rfl, World.block_lt_of_cell? W ⟨b, off, none⟩ h00, fun i hi => ?_⟩
      have hc := hcell i (by omega)
      rw [show Addr.add ⟨b, off, none⟩ i = ⟨b, off + i, none⟩ by simp [Addr.add]] at hc
      rw [hc, List.getD_eq_getElem?_getD, List.getD_eq_getElem?_getD, List.getElem?_take_of_lt hi]
end Go.Proofs.Ytpppffgchgcghaa
