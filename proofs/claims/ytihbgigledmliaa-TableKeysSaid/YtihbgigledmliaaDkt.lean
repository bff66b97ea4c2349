/-
  slices.Backward's iterator over any number of changes.
-/
import Derived.Test.YtihbgigledmliaaDcg
namespace Go.Proofs.Ytihbgigledmliaa
set_option linter.unusedVariables false
open Go.RowKit
attribute [local go_sem] Oper.semAt_some
theorem run_chg_val (W : World) (b o : Nat) (C : List Value) (hC : C.length = 5) (hc : W.rangeAt b o C) : (Instr.loadAt 126 (.pointer (some ⟨b, o, none⟩))).run Try.prog W = .ok (.agg C.toArray) W :=
  run_loadAt_mid (P := Try.prog) W b o 126 C _ hc Try.underlying126 rfl (by rw [hC]; kernel_rfl)
theorem run_chg_idx (W : World) (b o len cap i : Nat) (hi : i < len) : (Instr.indexAt 51 (.slice (some ⟨b, o, none⟩) len cap) (.int .i64 (i : Int))).run Try.prog W = .ok (.pointer (some ⟨b, o + 5 * i, none⟩)) W := by
  rw [run_indexAt_slice W 51 ⟨b, o, none⟩ len cap .i64 (i : Int) (by kernel_rfl)]
  have h1 : (0 : Int) ≤ (i : Int) ∧ (i : Int) < (len : Int) := by omega
  rw [if_pos h1, show (Go.sizeOf (Try.prog.elem 51)).run Try.prog W = .ok 5 W from by kernel_rfl]
  simp [Result.andThen, Addr.add, Nat.mul_comm]
/-- what the iterator reads: its box, the changes' cells -/
def ItN (bx : Nat) (a : Option Addr) (n c : Nat) (E : Nat → List Value) (W : World) : Prop := W.cell? ⟨bx, 0, none⟩ = some (.slice a n c) ∧ ∀ i, i < n → ∃ b o, a = some ⟨b, o, none⟩ ∧ (E i).length = 5 ∧ W.rangeAt b (o + 5 * i) (E i)
def encI (x : Nat × List Value) : Array Value := #[.int .i64 (x.1 : Int), .agg x.2.toArray]
def outs (E : Nat → List Value) (n k : Nat) : List (Nat × List Value) := (((List.range n).drop k).reverse).map fun i => (i, E i)
theorem outs_end (E : Nat → List Value) (n : Nat) : outs E n n = [] := by
  unfold outs
  rw [List.drop_of_length_le (by simp)]
  rfl
theorem outs_step (E : Nat → List Value) (n k : Nat) (h : k < n) : outs E n k = outs E n (k + 1) ++ [(k, E k)] := by
  unfold outs
  rw [List.drop_eq_getElem_cons (by simpa using h)]
  simp
theorem five {l : List Value} (h : l.length = 5) : ∃ e0 e1 e2 e3 e4, l = [e0, e1, e2, e3, e4] := by
  match l, h with
  | [e0, e1, e2, e3, e4], _ => exact ⟨e0, e1, e2, e3, e4, rfl⟩
end Go.Proofs.Ytihbgigledmliaa
