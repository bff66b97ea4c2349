/-
  What the bound on the arguments' bulk gives: how long a list or a text among them may be.
-/
import Derived.Test.YthnfbdmkdpokcaaDoorRows
namespace Go.Proofs.YthnfbdmkdpokcaaDoor
theorem bulk_pos {H : Type} (d : DataW H) : 0 < Rows.uptoBulk d := by
  cases d with
  | lit l => cases l <;> simp [Rows.uptoBulk]
  | _ => simp [Rows.uptoBulk]
theorem bulk_count {H : Type} (l : List (DataW H)) : l.length ≤ Rows.uptoBulkAll l := by
  induction l with
  | nil => exact Nat.zero_le _
  | cons d r ih => have := bulk_pos d; simp only [List.length_cons, Rows.uptoBulkAll]; omega
theorem bulk_mem {H : Type} {d : DataW H} {l : List (DataW H)} (h : d ∈ l) : Rows.uptoBulk d ≤ Rows.uptoBulkAll l := by
  induction h with
  | head r => simp only [Rows.uptoBulkAll]; omega
  | tail b _ ih => simp only [Rows.uptoBulkAll]; omega
theorem bulk_all {H : Type} {l : List (DataW H)} (h : Rows.uptoSmall H l = true) : Rows.uptoBulkAll l ≤ 1048576 := of_decide_eq_true h
theorem bulk_slice {H : Type} {elems spare l : List (DataW H)} (h : Rows.uptoSmall H l = true) (hm : DataW.slice elems spare ∈ l) : elems.length + spare.length ≤ 1048576 := by
  have h1 := bulk_all h
  have h2 := bulk_mem hm
  have h3 := bulk_count elems
  have h4 := bulk_count spare
  simp only [Rows.uptoBulk] at h2
  omega
theorem bulk_string {H : Type} {bytes : List UInt8} {l : List (DataW H)} (h : Rows.uptoSmall H l = true) (hm : DataW.lit (.string bytes) ∈ l) : bytes.length ≤ 1048576 := by
  have h1 := bulk_all h
  have h2 := bulk_mem hm
  simp only [Rows.uptoBulk] at h2
  omega
end Go.Proofs.YthnfbdmkdpokcaaDoor
