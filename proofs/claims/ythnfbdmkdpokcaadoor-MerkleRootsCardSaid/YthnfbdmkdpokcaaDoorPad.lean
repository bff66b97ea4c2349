/-
  How the last block is filled, on plain lists.
-/
import Derived.Test.YthnfbdmkdpokcaaDoorSham
import Derived.Laws.CopyOwn
namespace Go.Proofs.YthnfbdmkdpokcaaDoor
open Go.RowKit
set_option linter.unusedVariables false
def zs64 : List Nat := List.replicate 64 0
def zs32 : List Nat := List.replicate 32 0
def zs8 : List Nat := List.replicate 8 0
theorem zs64_len : zs64.length = 64 := by simp [zs64]
theorem zs32_len : zs32.length = 32 := by simp [zs32]
/-- a block with the bytes T ahead, and 128 behind them -/
theorem set_block (T : List Nat) (h : T.length < 64) : (splice zs64 0 T).set T.length 128 = T ++ 128 :: List.replicate (63 - T.length) 0 := by
  unfold splice zs64
  rw [List.take_zero, List.nil_append, Nat.zero_add, List.drop_replicate, List.set_append_right _ _ (Nat.le_refl _), Nat.sub_self, show 64 - T.length = (63 - T.length) + 1 by omega, List.replicate_succ, List.set_cons_zero]
theorem pad_less (T : List Nat) (n : Nat) (h : T.length < 56) : splice ((splice zs64 0 T).set T.length 128) 56 (Numm.put (8 * n) 8) = Sha.padded T n := by
  rw [set_block T (by omega)]
  have hp := Numm.put_len (8 * n) 8
  unfold splice Sha.padded
  rw [if_pos h, hp, List.drop_eq_nil_of_le (by simp; omega), List.append_nil]
  congr 1
  rw [List.take_append, List.take_of_length_le (by omega)]
  obtain ⟨k, hk⟩ : ∃ k, 56 - T.length = k + 1 := ⟨55 - T.length, by omega⟩
  rw [hk, List.take_succ_cons, List.take_replicate, List.append_assoc]
  simp only [List.singleton_append]
  congr 3
  omega
theorem close_less (hs T : List Nat) (n : Nat) (h : T.length < 56) : Sha.bytesOf (Sha.mix hs (splice ((splice zs64 0 T).set T.length 128) 56 (Numm.put (8 * n) 8))) = Sha.close hs T n := by
  rw [pad_less T n h]
  unfold Sha.close
  have hl : (Sha.padded T n).length = 64 := by
    unfold Sha.padded
    rw [if_pos h]
    simp [Numm.put_len]
    omega
  have h1 := (Sha.run_full hs [] (Sha.padded T n) (by simp [hl])).1
  rw [List.nil_append, (Sha.run_less hs [] (by simp)).1, (Sha.run_less hs [] (by simp)).2, List.nil_append] at h1
  rw [h1]
theorem close_more (hs T : List Nat) (n : Nat) (h : 56 ≤ T.length) (h2 : T.length < 64) : Sha.bytesOf (Sha.mix (Sha.mix hs ((splice zs64 0 T).set T.length 128)) (splice zs64 56 (Numm.put (8 * n) 8))) = Sha.close hs T n := by
  rw [set_block T h2]
  have hp := Numm.put_len (8 * n) 8
  have e : Sha.padded T n = (T ++ 128 :: List.replicate (63 - T.length) 0) ++ splice zs64 56 (Numm.put (8 * n) 8) := by
    unfold splice Sha.padded zs64
    rw [if_neg (by omega), hp, List.drop_eq_nil_of_le (by simp), List.append_nil, show 119 - T.length = (63 - T.length) + 56 by omega, ← List.replicate_append_replicate]
    simp
  have hl1 : (T ++ 128 :: List.replicate (63 - T.length) 0).length = 64 := by simp; omega
  have hl2 : (splice zs64 56 (Numm.put (8 * n) 8)).length = 64 := by rw [length_splice _ _ _ (by rw [hp, zs64_len]; omega), zs64_len]
  unfold Sha.close
  rw [e]
  have h1 := Sha.run_full hs [] (T ++ 128 :: List.replicate (63 - T.length) 0) (by rw [hl1]; rfl)
  rw [List.nil_append, (Sha.run_less hs [] (by simp)).1, (Sha.run_less hs [] (by simp)).2, List.nil_append] at h1
  have h3 := (Sha.run_full hs (T ++ 128 :: List.replicate (63 - T.length) 0) (splice zs64 56 (Numm.put (8 * n) 8)) (by rw [hl1, hl2])).1
  rw [h1.1, h1.2, List.nil_append] at h3
  rw [h3]
end Go.Proofs.YthnfbdmkdpokcaaDoor
