/-
  The walk over MerkleProofs.
-/
import Derived.Test.YtoknjhpdbigbhaaDoorMpt
import Derived.Test.YtoknjhpdbigbhaaDoorExz
namespace Go.Proofs.YtoknjhpdbigbhaaDoor
open Go.RowKit
set_option linter.unusedVariables false
/-- the proof of the first k of some leaves -/
def proofS (es : Ds) (k : Nat) : Ds := if k = 0 then [] else partS es k true
theorem rProof_all (n k : Nat) (ds : Ds) (a : Option Addr) (cap : Nat) (w : World) (hnm : n ≤ 4398046511104) (hr : DR w a n ds) (hi : k ≤ n) (hlc : n ≤ cap) (hcm : cap ≤ 9223372036854775807) (ht : Tab w) :
    Calls Tryd.prog 22 #[.slice a n cap, .int .i64 (k : Int)] w (RetDs 31 (proofS ds k) w) := by
  unfold proofS
  by_cases h : k = 0
  · subst h; exact rProof_zero n a cap w
  · rw [if_neg h]; exact rProof_ok n k ds a cap w hnm hr (by omega) hi hlc hcm ht
theorem proofS_len (n k : Nat) (ds : Ds) (hl : ds.length = n) (hi : k ≤ n) : (proofS ds k).length ≤ n := by
  unfold proofS
  by_cases h : k = 0
  · rw [if_pos h]; simp
  · rw [if_neg h]; exact part_len n ds k true hl (by omega) hi
theorem d32_proofS (n k : Nat) (ds : Ds) (hl : ds.length = n) (hi : k ≤ n) (hd : ∀ d ∈ ds, D32 d) : ∀ d ∈ proofS ds k, D32 d := by
  unfold proofS
  by_cases h : k = 0
  · rw [if_pos h]; simp
  · rw [if_neg h]; exact d32_part n ds k true hl (by omega) hi hd
theorem ext_proofS (n k : Nat) (ds : Ds) (a : Option Addr) (l cap : Nat) (w : World) (hl : ds.length = n) (hn : n ≤ 9223372036854775807) (hi : k ≤ n) (hd : ∀ d ∈ ds, D32 d) (hw : DR w a l (proofS ds k)) (hlc : l ≤ cap) (hcm : cap ≤ 9223372036854775807) (ht : Tab w) :
    Calls Tryd.prog 21 #[.agg (cellsOf (rootS (ds.take k))).toArray, .int .i64 (k : Int), .agg (cellsOf (rootS ds)).toArray, .int .i64 (n : Int), .slice a l cap] w fun e w' => e = .returned (.bool true) ∧ Below w.heap.size w w' := by
  have ho := d32_root _ (d32_take hd k)
  have hr := d32_root _ hd
  by_cases h : k = 0
  · subst h
    have h0 : l = 0 := by have := hw.1; unfold proofS at this; simp at this; omega
    have hc := ext_zero (rootS (ds.take 0)) (rootS ds) n a l cap w hn ho hr ht
    have hv : (decide (l = 0) && (decide (rootS (ds.take 0) = Sha.sum []) && (decide (n ≠ 0) || decide (rootS ds = Sha.sum [])))) = true := by
      rw [List.take_zero, rootS_nil]
      by_cases hn0 : n = 0
      · have : ds = [] := List.eq_nil_of_length_eq_zero (hl.trans hn0)
        subst this
        rw [rootS_nil]; simp [h0]
      · simp [h0, hn0]
    rw [hv] at hc
    exact hc
  · have hp : proofS ds k = partS ds k true := by unfold proofS; rw [if_neg h]
    have hc := ext_yes (rootS (ds.take k)) (rootS ds) k n a l cap (proofS ds k) w (by omega) hi hn ho hr hw hlc hcm ht
    have hb : bothS (rootS (ds.take k)) k n true (proofS ds k) = some (rootS (ds.take k), rootS ds) := by
      rw [hp]
      exact Mk.both_proof nodeS (Sha.sum []) n ds k true (rootS (ds.take k)) hl (by omega) hi (fun _ => rfl)
    rw [decide_eq_true hb] at hc
    exact hc
end Go.Proofs.YtoknjhpdbigbhaaDoor
