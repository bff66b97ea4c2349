/-
  The walk over ChainRecovers.
-/
import Derived.Test.YtlnblfdddellmaaDoorChn
import Derived.Test.YtlnblfdddellmaaDoorFrd
namespace Go.Proofs.YtlnblfdddellmaaDoor
open Go.RowKit
set_option linter.unusedVariables false
/-- a sum of a list, its sixth byte raised -/
def rs (l : Ds) (n k : Nat) : List Nat := (l.getD (k % n) []).set 5 (((l.getD (k % n) []).getD 5 0 + k / n) % 256)
theorem d32_rs (l : Ds) (n k : Nat) (h : ∀ d ∈ l, D32 d) (hl : l.length = n) (hn : 0 < n) : D32 (rs l n k) := by
  have hd := D32.get h (k % n) (by rw [hl]; exact Nat.mod_lt _ hn)
  refine ⟨by rw [rs, List.length_set, hd.1], fun z hz => ?_⟩
  rcases List.mem_or_eq_of_mem_set hz with h1 | rfl
  · exact hd.2 z h1
  · exact Nat.mod_lt _ (by omega)
/-- what came in, and the sums -/
def CR (w : World) (m : List Nat) (sg : Ds) (W : World) : Prop := Brow W w.heap.size 31 m ∧ Brow W (w.heap.size + 1) 49 sg.flatten ∧ Below w.heap.size w W
theorem CR.below {w W W' : World} {m : List Nat} {sg : Ds} (h : CR w m sg W) (hb : Below W.heap.size W W') : CR w m sg W' := ⟨h.1.below hb h.1.lt, h.2.1.below hb h.2.1.lt, h.2.2.trans (hb.mono h.2.2.size)⟩
theorem CR.drew {w W : World} {m : List Nat} {sg : Ds} (h : CR w m sg W) : CR w m sg W.drew := ⟨h.1.drew, h.2.1.drew, h.2.2.drew⟩
theorem CR.at1 {w W W' : World} {m : List Nat} {sg es : Ds} (h : CR w m sg W) (ho : Only (w.heap.size + 1) W W') (hb : Brow W' (w.heap.size + 1) 49 es.flatten) : CR w m es W' := ⟨h.1.only ho (by omega), hb, h.2.2.trans (ho.below (by omega) h.2.2.size)⟩
theorem CR.new (w : World) (m : List Nat) (sg : Ds) : CR w m sg ((w.alloc (.cells (cellsOf m).toArray 31)).alloc (.cells (cellsOf sg.flatten).toArray 49)) :=
  ⟨(heap_new2 _ _ _).1, (heap_new2 _ _ _).2, ((Below.refl _ _).alloc (Nat.le_refl _) _).alloc (by simp) _⟩
theorem flat_cell (ds : Ds) (h : ∀ d ∈ ds, D32 d) (i j z : Nat) (hi : i < ds.length) (hj : j < 32) : ds.flatten.set (i * 32 + j) z = (ds.set i ((ds.getD i []).set j z)).flatten := by
  induction ds generalizing i with
  | nil => simp at hi
  | cons e ds ih =>
    have he := (h e (List.mem_cons_self ..)).1
    cases i with
    | zero =>
      simp only [Nat.zero_mul, Nat.zero_add, List.flatten_cons, List.set_cons_zero, List.getD_cons_zero]
      rw [List.set_append_left _ _ (by omega)]
    | succ i =>
      have := ih (fun x hx => h x (List.mem_cons_of_mem _ hx)) i (by simpa using hi)
      simp only [List.flatten_cons, List.set_cons_succ, List.getD_cons_succ]
      rw [← this, List.set_append_right _ _ (by omega), show (i + 1) * 32 + j - e.length = i * 32 + j by rw [he]; omega]
theorem CR.cell {w W : World} {m : List Nat} {sg : Ds} (h : CR w m sg W) (hsg : D67 sg) (i j : Nat) (hi : i < 67) (hj : j < 32) : W.cell? ⟨w.heap.size + 1, i * 32 + j, none⟩ = some (.int .u8 (((sg.getD i []).getD j 0 : Nat) : Int)) ∧ W.frozen? ⟨w.heap.size + 1, i * 32 + j, none⟩ = false := by
  refine ⟨?_, h.2.1.frozen _⟩
  have h1 := h.2.1.cell (i * 32 + j) (by rw [hsg.flat]; omega)
  rw [Nat.mul_comm i 32, flat_get sg hsg.2 i j (by rw [hsg.1]; exact hi) hj] at h1
  rwa [Nat.mul_comm i 32]
theorem CR.put {w W : World} {m : List Nat} {sg : Ds} (h : CR w m sg W) (hsg : D67 sg) (i j z : Nat) (hi : i < 67) (hj : j < 32) : CR w m (sg.set i ((sg.getD i []).set j z)) (W.setCell ⟨w.heap.size + 1, i * 32 + j, none⟩ (.int .u8 (z : Int))) := by
  have o : Only (w.heap.size + 1) W (W.setCell ⟨w.heap.size + 1, i * 32 + j, none⟩ (.int .u8 (z : Int))) := (Only.refl _ _).setCell _ _
  have hb := h.2.1.set (i * 32 + j) z
  rw [flat_cell sg hsg.2 i j z (by rw [hsg.1]; exact hi) hj] at hb
  exact h.at1 o hb
end Go.Proofs.YtlnblfdddellmaaDoor
