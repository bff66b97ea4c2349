/-
  The document's disk: does a text begin so.
-/
import Derived.Test.YtbbljkhjodnfpaaRfe
namespace Go.Proofs.Ytbbljkhjodnfpaa
open Go.RowKit
set_option linter.unusedVariables false
theorem begins_eq {s h : ByteArray} (hl : h.size ≤ s.size) : ((s.extract 0 h.size).toList == h.toList) = hasP h s := by
  have hh : h.data.toList.length = h.size := rfl
  rw [Lib.toList_data, Lib.toList_data, Lib.extract_data]
  unfold hasP Lib.hasPrefix
  rw [Bool.eq_iff_iff, List.isPrefixOf_iff_prefix, List.prefix_iff_eq_take, beq_iff_eq, hh]
  simp only [List.drop_zero, Nat.sub_zero]
  exact eq_comm
theorem begins_no {s h : ByteArray} (hl : ¬ h.size ≤ s.size) : false = hasP h s := by
  have hh : h.data.toList.length = h.size := rfl
  have hs : s.data.toList.length = s.size := rfl
  unfold hasP Lib.hasPrefix
  cases e : h.data.toList.isPrefixOf s.data.toList with
  | false => rfl
  | true =>
    have := (List.isPrefixOf_iff_prefix.1 e).length_le
    omega
set_option maxRecDepth 100000 in
set_option maxHeartbeats 8000000 in
theorem rbegins_c (s h : ByteArray) (w : World) (hs : s.size ≤ maxLen) (hh : h.size ≤ maxLen) : Calls Try.prog 18 #[.string s, .string h] w fun e w' => e = .returned (.bool (hasP h s)) ∧ w' = w := by
  unfold maxLen at hs hh
  by_cases hl : h.size ≤ s.size
  · have i1 : (h.size : Int) ≤ (s.size : Int) := by omega
    go_enter Try.func18, Try.ntmps18
    go_wp2_with fail
    go_ret
    refine ⟨?_, rfl⟩
    exact congrArg (fun x => Ending.returned (.bool x)) (begins_eq hl)
  · have i1 : ¬ (h.size : Int) ≤ (s.size : Int) := by omega
    go_enter Try.func18, Try.ntmps18
    go_wp2_with fail
    go_ret
    refine ⟨?_, rfl⟩
    exact congrArg (fun x => Ending.returned (.bool x)) (begins_no hl)
end Go.Proofs.Ytbbljkhjodnfpaa
