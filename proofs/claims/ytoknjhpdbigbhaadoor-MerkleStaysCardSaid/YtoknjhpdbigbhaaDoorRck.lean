/-
  The walk over the document's Check.
-/
import Derived.Test.YtoknjhpdbigbhaaDoorRup
import Derived.Test.YtoknjhpdbigbhaaDoorChk
namespace Go.Proofs.YtoknjhpdbigbhaaDoor
open Go.RowKit
set_option linter.unusedVariables false
theorem top_up (n i : Nat) (leaf : List Nat) (way : Ds) (root : List Nat) : decide (topS n i leaf way = some root) = match upS n i leaf way with
    | some (d, []) => decide (d = root)
    | _ => false := by
  unfold topS Mk.top upS
  cases Mk.up nodeS n i leaf way with
  | none => rfl
  | some q =>
    obtain ⟨d, r⟩ := q
    cases r with
    | nil => simp
    | cons x r => rfl
end Go.Proofs.YtoknjhpdbigbhaaDoor
