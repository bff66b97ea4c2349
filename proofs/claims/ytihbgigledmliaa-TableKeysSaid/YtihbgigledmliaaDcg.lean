/-
  slices.Backward at a disk's changes; loads of a disk's cells; small rules of a region in a range.
-/
import Derived.Test.YtihbgigledmliaaRgm
import Derived.Test.YtihbgigledmliaaPkb
namespace Go.Proofs.Ytihbgigledmliaa
open Go.RowKit
set_option linter.unusedVariables false
attribute [local go_sem] Oper.semAt_some
def encC (x : Array Value) : Array Value := #[.int .i64 0, .agg x]
theorem wp_safe {P : Program} {c : Code} {K : Act → World → Prop} {Q : Exit → Act → World → Prop} {a : Act} {w : World} (h : c.wp P (Exit.then K (fun _ _ _ => False)) a w) : c.wp P (Exit.then K Q) a w :=
  wp_mono h fun e a w he => by cases e with | normal => exact he | _ => exact he.elim
theorem gen_in {F : Fence} {n : Nat} {P : Program} {c : Code} {Q : Exit → Act → World → Prop} {a : Act} {W : World} {G : World → Prop} (h : G W) (k : ∀ w, G w → c.wpIn F n P Q a w) : c.wpIn F n P Q a W := k W h
theorem run_cell_disk (W : World) (a : Addr) (v : Option Addr) (hc : W.cell? a = some (.pointer v)) : (Instr.loadAt 24 (.pointer (some a))).run Try.prog W = .ok (.pointer v) W := by go_simp
theorem run_cell_chgs (W : World) (a : Addr) (v : Option Addr) (l c : Nat) (hc : W.cell? a = some (.slice v l c)) : (Instr.loadAt 51 (.pointer (some a))).run Try.prog W = .ok (.slice v l c) W := by go_simp
theorem elem_chgs : Try.prog.elem 51 = 126 := by kernel_rfl
theorem und_chgs : Try.prog.underlying 51 = some (.slice (Try.prog.elem 51)) := by rw [elem_chgs]; exact Try.underlying51
theorem sizeOf_chg (W : World) : (Go.sizeOf 126).run Try.prog W = .ok 5 W := by
  have h : (Try.prog.info? 126).map (·.size) = some 5 := by kernel_rfl
  cases hq : Try.prog.info? 126 with
  | none => simp [hq] at h
  | some i =>
    have : i.size = 5 := by simpa [hq] using h
    simp [Go.sizeOf, typeInfo, hq, this]
theorem one_cell {W : World} {g o R : Nat} {v : Value} (h : R ≠ g) : (W.setCells g o [v]).cell? ⟨R, 0, none⟩ = W.cell? ⟨R, 0, none⟩ := World.cell?_setCell_other _ _ _ _ (by intro e; cases e; exact h rfl)
theorem one_heap {W : World} {g o R : Nat} {v : Value} (h : R ≠ g) : (W.setCells g o [v]).heap[R]? = W.heap[R]? := RowKit.Below.heap_setCell W ⟨g, o, none⟩ v R h
theorem KeepL.cell {D : Nat} {W W' : World} (h : KeepL D W W') {a : Addr} (h1 : a.block ≠ D) (h2 : a.block ≠ D + 1) : W'.cell? a = W.cell? a := World.cell?_of_block (w := W) (h.blk _ h1 h2)
end Go.Proofs.Ytihbgigledmliaa
