/-
  The walks over Proof, and over the document's Proof.
-/
import Derived.Test.YtlnblfdddellmaaDoorRpt
namespace Go.Proofs.YtlnblfdddellmaaDoor
open Go.RowKit
set_option linter.unusedVariables false
/-- P(m, n, whole) -/
def partS (ds : Ds) (m : Nat) (whole : Bool) : Ds := Mk.part (Sha.sum []) nodeS ds m whole
theorem part_len (n : Nat) : ∀ (ds : Ds) (m : Nat) (whole : Bool), ds.length = n → 1 ≤ m → m ≤ n → (partS ds m whole).length ≤ n := by
  induction n using Nat.strongRecOn with
  | ind n ih =>
    intro ds m whole hl h1 hm
    unfold partS
    by_cases he : m = n
    · subst he
      rw [← hl, Mk.part_all]
      cases whole <;> simp <;> omega
    · have hk := Mk.half_lt n (by omega)
      have hp := Mk.half_pos n
      by_cases hik : m ≤ Mk.half n
      · rw [Mk.part_left _ _ _ _ _ (by omega) (by omega) (by rw [hl]; exact hik), hl, List.length_append, List.length_singleton]
        have := ih (Mk.half n) hk (ds.take (Mk.half n)) m whole (by rw [List.length_take]; omega) h1 hik
        unfold partS at this
        omega
      · rw [Mk.part_right _ _ _ _ _ (by omega) (by omega) (by rw [hl]; exact hik), hl, List.length_append, List.length_singleton]
        have := ih (n - Mk.half n) (by omega) (ds.drop (Mk.half n)) (m - Mk.half n) false (by rw [List.length_drop]; omega) (by omega) (by omega)
        unfold partS at this
        omega
theorem d32_part (n : Nat) : ∀ (ds : Ds) (m : Nat) (whole : Bool), ds.length = n → 1 ≤ m → m ≤ n → (∀ d ∈ ds, D32 d) → ∀ d ∈ partS ds m whole, D32 d := by
  induction n using Nat.strongRecOn with
  | ind n ih =>
    intro ds m whole hl h1 hm hds d hd
    unfold partS at hd
    by_cases he : m = n
    · subst he
      rw [← hl, Mk.part_all] at hd
      cases whole
      · simp at hd; subst hd; exact d32_root _ hds
      · simp at hd
    · have hk := Mk.half_lt n (by omega)
      have hp := Mk.half_pos n
      by_cases hik : m ≤ Mk.half n
      · rw [Mk.part_left _ _ _ _ _ (by omega) (by omega) (by rw [hl]; exact hik), hl, List.mem_append, List.mem_singleton] at hd
        rcases hd with hd | rfl
        · exact ih (Mk.half n) hk _ m whole (by rw [List.length_take]; omega) h1 hik (d32_take hds _) d hd
        · exact d32_root _ (d32_drop hds _)
      · rw [Mk.part_right _ _ _ _ _ (by omega) (by omega) (by rw [hl]; exact hik), hl, List.mem_append, List.mem_singleton] at hd
        rcases hd with hd | rfl
        · exact ih (n - Mk.half n) (by omega) _ (m - Mk.half n) false (by rw [List.length_drop]; omega) (by omega) (by omega) (d32_drop hds _) d hd
        · exact d32_root _ (d32_take hds _)
theorem own_dlay {T E : TypeId} (hT : DT T E) (w : World) (B : Nat) (d : List Nat) (hd : D32 d) (hB : B ≤ w.heap.size) : OwnD (w.alloc (.cells (cellsOf d).toArray E)) B E (.slice (some ⟨w.heap.size, 0, none⟩) 1 1) [d] := by
  refine ⟨by simp [cellsOf_length, hd.1], .inr ⟨w.heap.size, 1, _, rfl, hB, heap_new _ _, Nat.le_refl _, by decide, by simp [cellsOf_length, hd.1], ?_⟩⟩
  simp only [List.flatten_cons, List.flatten_nil, List.append_nil, List.length_singleton]
  exact List.take_of_length_le (by rw [cellsOf_length, hd.1]; omega)
end Go.Proofs.YtlnblfdddellmaaDoor
