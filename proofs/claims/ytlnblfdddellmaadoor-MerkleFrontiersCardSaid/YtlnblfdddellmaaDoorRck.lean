/-
  The walk over the document's Check.
-/
import Derived.Test.YtlnblfdddellmaaDoorRup
import Derived.Test.YtlnblfdddellmaaDoorChk
namespace Go.Proofs.YtlnblfdddellmaaDoor
open Go.RowKit
set_option linter.unusedVariables false
theorem top_up (n i : Nat) (leaf : List Nat) (way : Ds) (root : List Nat) : decide (topS n i leaf way = some root) = match upS n i leaf way with
    | some (d, []) => decide (d = root)
    | _ => false := by
  unfold topS Mk.top upS
  cases Mk.up nodeS n i leaf way with
  | none => rfl
  | some q =>
    obtain ⟨d, r⟩ := q
    cases r with
    | nil => simp
    | cons x r => rfl
end Go.Proofs.YtlnblfdddellmaaDoor
