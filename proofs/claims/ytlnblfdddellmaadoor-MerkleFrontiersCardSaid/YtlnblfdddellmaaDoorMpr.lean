/-
  The walk over MerkleProofs.
-/
import Derived.Test.YtlnblfdddellmaaDoorMpt
import Derived.Test.YtlnblfdddellmaaDoorExz
namespace Go.Proofs.YtlnblfdddellmaaDoor
open Go.RowKit
set_option linter.unusedVariables false
/-- the proof of the first k of some leaves -/
def proofS (es : Ds) (k : Nat) : Ds := if k = 0 then [] else partS es k true
theorem proofS_len (n k : Nat) (ds : Ds) (hl : ds.length = n) (hi : k ≤ n) : (proofS ds k).length ≤ n := by
  unfold proofS
  by_cases h : k = 0
  · rw [if_pos h]; simp
  · rw [if_neg h]; exact part_len n ds k true hl (by omega) hi
theorem d32_proofS (n k : Nat) (ds : Ds) (hl : ds.length = n) (hi : k ≤ n) (hd : ∀ d ∈ ds, D32 d) : ∀ d ∈ proofS ds k, D32 d := by
  unfold proofS
  by_cases h : k = 0
  · rw [if_pos h]; simp
  · rw [if_neg h]; exact d32_part n ds k true hl (by omega) hi hd
end Go.Proofs.YtlnblfdddellmaaDoor
