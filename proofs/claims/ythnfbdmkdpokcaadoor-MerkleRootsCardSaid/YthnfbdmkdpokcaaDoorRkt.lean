/-
  The walks over the document's K, Begin, turn and New.
-/
import Derived.Test.YthnfbdmkdpokcaaDoorRgh
import Derived.Test.YthnfbdmkdpokcaaDoorDsm
namespace Go.Proofs.YthnfbdmkdpokcaaDoor
open Go.RowKit
set_option linter.unusedVariables false

theorem K_len : Sha.K.length = 64 := rfl
theorem K_lt : ∀ z ∈ Sha.K, z < 4294967296 := by decide
def zw64 : List Nat := List.replicate 64 0
theorem info_w64' : (Tryd.prog.info? 110).map (·.size) = some (wordsOf Sha.K).toArray.size := by kernel_rfl
theorem info_a8 : (Tryd.prog.info? 95).map (·.size) = some 8 := by kernel_rfl
set_option maxRecDepth 100000 in
set_option maxHeartbeats 1000000 in
theorem K_c (w : World) : Calls Tryd.prog 78 #[] w fun e w' => e = .returned (.agg (wordsOf Sha.K).toArray) ∧ Below w.heap.size w w' := by
  have HN := Lib.hid (show ∀ X : Obj, (w.alloc X).heap[w.heap.size]? = some X from fun X => heap_new w X)
  go_enter Tryd.func78, Tryd.ntmps78
  go_wp2_with (first | (refine wpList_buildTo (by rfl) 110 _ (by rfl) (some 1) (by rfl) (wordsOf Sha.K).toArray (by kernel_rfl) ?_) | (refine wpList_store_row (by rfl) 110 _ _ (by rfl) w.heap.size (wordsOf Sha.K).toArray (by rfl) (by rfl) 110 (wordsOf zw64).toArray (by exact HN.out _) info_w64' (by kernel_rfl) (wordsOf_one _) ?_))
  refine bodyPost_ret (results_cell_row (by rfl) _ _ w.heap.size _ (wordsOf Sha.K).toArray (0, 0) _ (by rfl) (setRow_heap _ _ _ _ _ _ (HN.out _)) Tryd.underlying110 (by rfl) info_w64') ?_ ?_
  · rfl
  · exact ⟨rfl, ((Below.refl _ _).alloc (Nat.le_refl _) _).setRow (Nat.le_refl _) _⟩
theorem info_h0 : (Tryd.prog.info? 95).map (·.size) = some (wordsOf Sha.H0).toArray.size := by kernel_rfl
set_option maxRecDepth 100000 in
set_option maxHeartbeats 1000000 in
theorem begin_c (w : World) : Calls Tryd.prog 76 #[] w fun e w' => e = .returned (.agg (wordsOf Sha.H0).toArray) ∧ Below w.heap.size w w' := by
  have HN := Lib.hid (show ∀ X : Obj, (w.alloc X).heap[w.heap.size]? = some X from fun X => heap_new w X)
  go_enter Tryd.func76, Tryd.ntmps76
  go_wp2_with (first | (refine wpList_buildTo (by rfl) 95 _ (by rfl) (some 1) (by rfl) (wordsOf Sha.H0).toArray (by kernel_rfl) ?_) | (refine wpList_store_row (by rfl) 95 _ _ (by rfl) w.heap.size (wordsOf Sha.H0).toArray (by rfl) (by rfl) 95 (wordsOf zs8).toArray (by exact HN.out _) info_h0 (by kernel_rfl) (wordsOf_one _) ?_))
  refine bodyPost_ret (results_cell_row (by rfl) _ _ w.heap.size _ (wordsOf Sha.H0).toArray (0, 0) _ (by rfl) (setRow_heap _ _ _ _ _ _ (HN.out _)) Tryd.underlying95 (by rfl) info_h0) ?_ ?_
  · rfl
  · exact ⟨rfl, ((Below.refl _ _).alloc (Nat.le_refl _) _).setRow (Nat.le_refl _) _⟩
set_option maxHeartbeats 400000 in
theorem turn_c (x n : Nat) (w : World) (hx : x < 4294967296) (h1 : 1 ≤ n) (h2 : n < 32) :
    Calls Tryd.prog 79 #[.int .u32 (x : Int), .int .u64 (n : Int)] w fun e w' => e = .returned (.int .u32 ((Rotm.rot x n : Nat) : Int)) ∧ w' = w := by
  have hw : IntKind.u64.wrap (32 - (n : Int)) = ((32 - n : Nat) : Int) := by rw [IntKind.wrap_u64]; omega
  go_enter Tryd.func79, Tryd.ntmps79
  go_wp2
  go_ret
  refine ⟨ret_int ?_, rfl⟩
  rw [cast_div, cast_mul, u32_or_nat _ _ (Nat.lt_of_le_of_lt (Nat.div_le_self _ _) hx) (by omega), Rotm.rot_two x n hx h2]
end Go.Proofs.YthnfbdmkdpokcaaDoor
