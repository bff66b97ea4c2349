/-
  What an argument of two sums in a row gives a law's walk.
-/
import Derived.Test.YtlnblfdddellmaaDoorFrd
namespace Go.Proofs.YtlnblfdddellmaaDoor
open Go.ChangeShapes Go.WideShapes Go.ChangeAt Go.RowKit Go.Deep
set_option linter.unusedVariables false
theorem cells_two : Tryd.prog.cellsOf 48 = 64 := by kernel_rfl
set_option maxRecDepth 100000 in
theorem open_two {H : Type} {enc : TypeId × Value → H} {W : World} {base b0 : Nat} {sp : Nat → Bool} {held : Bool} {v : Value} {d : DataW H} {p : List MemPlace}
    (hv : Value.okWide Tryd.prog W .any b0 48 v) (h : DataW.Trod enc Tryd.prog W base sp held 48 v d p) : ∃ x y : List Nat, v = .agg (cellsOf (x ++ y)).toArray ∧ D32 x ∧ D32 y := by
  unfold Value.okWide at hv
  rw [Tryd.underlying48] at hv
  obtain ⟨cs, rfl, _, _⟩ := hv
  obtain ⟨fuel, hf⟩ := h
  obtain ⟨xs, m, _, hx, hl, hn, hel⟩ := DataW.trod_array Tryd.underlying48 hf
  obtain ⟨L⟩ := cs
  simp only [Value.cells] at hl hel
  rw [cells_two] at hl
  have hL : L.length = 64 := hl
  have h0 := hel 0 (by omega)
  have h1 := hel 1 (by omega)
  rw [cells_e] at h0 h1
  rw [show xs[0]? = some (xs[0]'(by omega)) from List.getElem?_eq_getElem _] at h0
  rw [show xs[1]? = some (xs[1]'(by omega)) from List.getElem?_eq_getElem _] at h1
  obtain ⟨x, dx, ex⟩ := dig_cells Tryd.underlying31 cells_e h0
  obtain ⟨y, dy, ey⟩ := dig_cells Tryd.underlying31 cells_e h1
  refine ⟨x, y, ?_, dx, dy⟩
  rw [cellsOf_append, ← ex, ← ey]
  have e1 : List.take 32 (List.drop (1 * 32) L) = List.drop 32 L := by rw [Nat.one_mul]; exact List.take_of_length_le (by rw [List.length_drop, hL]; omega)
  rw [e1, Nat.zero_mul, List.drop_zero, List.take_append_drop]
end Go.Proofs.YtlnblfdddellmaaDoor
