/-
  The walks over Put, the program's and the document's.
-/
import Derived.Test.YthnfbdmkdpokcaaDoorBase
import Derived.Test.YthnfbdmkdpokcaaDoorNumm
namespace Go.Proofs.YthnfbdmkdpokcaaDoor
open Go.RowKit

theorem put_out (m : Nat) (size : Int) (w : World) (h : size < 0 ∨ 8 < size) :
    Calls Tryd.prog 64 #[.int .u64 (m : Int), .int .i64 size] w (RetB w.heap.size w []) := by
  by_cases h0 : size < 0
  · clear h
    go_enter Tryd.func64, Tryd.ntmps64
    go_wp2
    go_ret
    exact ⟨_, rfl, Own.nil _ _, Below.refl _ _⟩
  · have h1 : 8 < size := by omega
    clear h
    go_enter Tryd.func64, Tryd.ntmps64
    go_wp2
    go_ret
    exact ⟨_, rfl, Own.nil _ _, Below.refl _ _⟩

def row (n m k : Nat) : List Nat := List.replicate (n - k) 0 ++ Numm.put m k
theorem row_len (n m k : Nat) (h : k ≤ n) : (row n m k).length = n := by simp [row, Numm.put_len]; omega
theorem row_next (n m k : Nat) (h : k < n) : (row n m k).set (n - 1 - k) (m / 256 ^ k % 256) = row n m (k + 1) := by
  unfold row
  rw [Numm.put_head, show n - k = (n - 1 - k) + 1 by omega, List.replicate_succ', List.append_assoc, show n - (k + 1) = n - 1 - k by omega]
  rw [List.set_append_right _ _ (by simp)]
  simp

theorem row_zero (n m : Nat) : row n m 0 = List.replicate n 0 := by simp [row, Numm.put]
theorem made_zero (n : Nat) : (madeCells #[Value.int IntKind.u8 0] n).toList = cellsOf (List.replicate n 0) := by
  apply List.ext_getElem
  · simp [madeCells, cellsOf]
  · intro i h1 h2
    simp [madeCells, cellsOf, Nat.mod_one]
theorem put_cell (m k : Nat) : Value.int IntKind.u8 ((m : Int) / 2 ^ (8 * k) % 256) = Value.int IntKind.u8 ((m / 256 ^ k % 256 : Nat) : Int) := by
  congr 1
  rw [show (2 : Int) ^ (8 * k) = ((256 ^ k : Nat) : Int) by rw [Int.pow_mul, Int.natCast_pow]; rfl]
  omega
theorem row_stored {w : World} {B g n m k : Nat} (h : w.ownsRow B 5 1 (.slice (some ⟨g, 0, none⟩) n n) n (cellsOf (row n m k))) (hk : k < n) :
    (w.setCell ⟨g, n - 1 - k, none⟩ (.int .u8 ((m : Int) / 2 ^ (8 * k) % 256))).ownsRow B 5 1 (.slice (some ⟨g, 0, none⟩) n n) n (cellsOf (row n m (k + 1))) := by
  have := (h.stored (n - 1 - k) (.int .u8 ((m / 256 ^ k % 256 : Nat) : Int))).1
  rw [put_cell, ← row_next n m k hk]
  rw [show cellsOf ((row n m k).set (n - 1 - k) (m / 256 ^ k % 256)) = (cellsOf (row n m k)).set (n - 1 - k) (.int .u8 ((m / 256 ^ k % 256 : Nat) : Int)) by simp [cellsOf, List.map_set]]
  exact this

set_option maxRecDepth 100000 in
set_option maxHeartbeats 800000 in
theorem put_in (m n : Nat) (w : World) (hm : m < 18446744073709551616) (hn : n ≤ 8) :
    Calls Tryd.prog 64 #[.int .u64 (m : Int), .int .i64 (n : Int)] w (RetB w.heap.size w (Numm.put m n)) := by
  obtain ⟨i0, hi, hz0, hz1, hz2⟩ := info_parts byteInfo
  have HM := Lib.hid hm
  clear hm
  go_enter Tryd.func64, Tryd.ntmps64
  go_wp2_with (at_make; refine wpList_make_full _ rfl _ _ 23 rfl w.heap.size 5 i0 (.int .u8 0) 1 Tryd.underlying23 hi hz0 hz1 .i64 .i64 _ _ n rfl rfl rfl rfl (by rw [hz2]; omega) (by unfold maxLen; omega) (Nat.le_refl _) ?_)
  intro w0 hown0 hg0
  have hb0 : Below w.heap.size w w0 := (Below.refl _ _).grown hg0 (Nat.le_refl _) (by simp)
  have hown : w0.ownsRow w.heap.size 5 1 (.slice (some ⟨w.heap.size, 0, none⟩) n n) n (cellsOf (row n m 0)) := by
    rw [row_zero, ← made_zero]
    exact hown0
  clear hown0 hg0
  go_wp2
  go_loopw [16] (fun i wr => ∃ k : Nat, k ≤ n ∧ i = .int .i64 k ∧ wr.ownsRow w.heap.size 5 1 (.slice (some ⟨w.heap.size, 0, none⟩) n n) n (cellsOf (row n m k)) ∧ Below w.heap.size w wr) (fun i _ => n - (intOf i).toNat)
  case atStart => exact ⟨0, Nat.zero_le _, rfl, hown, hb0⟩
  case round =>
    clear hown hb0
    obtain ⟨k, hk, rfl, hown, hnx⟩ := hrel
    by_cases hkl : k < n
    · have hcell := hown.cellAt (n - 1 - k) (by omega)
      have hfz := hown.frozenAt (n - 1 - k)
      rw [cellsOf_get _ _ (by rw [row_len n m k (by omega)]; omega)] at hcell
      have hst := row_stored hown hkl
      have hbe : Below w.heap.size w (wr.setCell ⟨w.heap.size, n - 1 - k, none⟩ (.int .u8 ((m : Int) / 2 ^ (8 * k) % 256))) := hnx.setCell (by simp) _
      clear hown hnx
      go_wp2
      go_roundw
      case rel => exact ⟨k + 1, by omega, by go_num, hst, hbe⟩
      case measure => simp [intOf]; omega
    · go_wp2
      go_ret
      obtain rfl : k = n := by omega
      have e : row k m k = Numm.put m k := by simp [row]
      rw [e] at hown
      refine ⟨_, rfl, ?_, hnx⟩
      unfold Own
      rw [Numm.put_len]
      exact hown

theorem refPut_out (m : Nat) (size : Int) (w : World) (h : size < 1 ∨ 8 < size) :
    Calls Tryd.prog 73 #[.int .u64 (m : Int), .int .i64 size] w (RetB w.heap.size w []) := by
  by_cases h0 : size < 1
  · clear h
    go_enter Tryd.func73, Tryd.ntmps73
    go_wp2
    go_ret
    exact ⟨_, rfl, Own.nil _ _, Below.refl _ _⟩
  · have h1 : 8 < size := by omega
    clear h
    go_enter Tryd.func73, Tryd.ntmps73
    go_wp2
    go_ret
    exact ⟨_, rfl, Own.nil _ _, Below.refl _ _⟩
/-- the first k bytes of n -/
def puts (m n k : Nat) : List Nat := (Numm.put m n).take k
theorem puts_next (m n k : Nat) (h : k < n) : puts m n k ++ [m / 256 ^ (n - 1 - k) % 256] = puts m n (k + 1) := by
  unfold puts
  rw [take_snoc _ k (by rw [Numm.put_len]; exact h)]
  have e := Numm.put_get m n k h
  rw [getD_at _ k (by rw [Numm.put_len]; exact h)] at e
  rw [e]

set_option maxRecDepth 100000 in
set_option maxHeartbeats 800000 in
theorem refPut_in (m n : Nat) (w : World) (hm : m < 18446744073709551616) (hn : n ≤ 8) (h1 : 1 ≤ n) :
    Calls Tryd.prog 73 #[.int .u64 (m : Int), .int .i64 (n : Int)] w (RetB w.heap.size w (Numm.put m n)) := by
  have HM := Lib.hid hm
  clear hm
  go_enter Tryd.func73, Tryd.ntmps73
  go_wp2
  go_loopw [5, 6] (fun v i wr => ∃ k : Nat, k ≤ n ∧ i = .int .i64 ((n : Int) - 1 - k) ∧ Own wr w.heap.size v (puts m n k) ∧ Below w.heap.size w wr) (fun _ i _ => (intOf i + 1).toNat)
  case atStart => exact ⟨0, Nat.zero_le _, by go_num, Own.nil _ _, Below.refl _ _⟩
  case round =>
    obtain ⟨k, hk, rfl, hown, hnx⟩ := hrel
    have hsz := hnx.size
    by_cases hkl : k < n
    · obtain ⟨j, hj⟩ : ∃ j : Nat, (n : Int) - 1 - (k : Int) = (j : Int) := ⟨n - 1 - k, by omega⟩
      have hP := Lib.hid (puts_next m n k hkl)
      have hlen : (puts m n k).length + 1 ≤ 140737488355328 := by unfold puts; rw [List.length_take]; omega
      rw [hj]
      have hjn : j + 1 + k = n := by omega
      have HJ := Lib.hid hj
      have HC := Lib.hid (put_cell m j)
      clear hj
      go_wp2_with (at_builtin; (refine wpList_push rfl _ _ rfl w.heap.size u5 (puts m n k) (m / 256 ^ (n - 1 - k) % 256) _ ?hy rfl hown hsz rfl hlen ?_))
      case hy =>
        have := HC.out
        simp only [Value.int.injEq, true_and] at this
        rw [this, show n - 1 - k = j by omega]
      intro v1 w1 hown1 hb1
      have hnx1 := hnx.trans hb1
      clear hown hnx hb1
      rw [hP.out] at hown1
      go_wp2
      go_roundw
      case rel => exact ⟨k + 1, by omega, by go_num, hown1, hnx1⟩
      case measure => simp [intOf]
    · obtain rfl : k = n := by omega
      rw [show (k : Int) - 1 - (k : Int) = -1 by omega]
      go_wp2
      go_ret
      have e : puts m k k = Numm.put m k := by unfold puts; exact List.take_of_length_le (by rw [Numm.put_len]; exact Nat.le_refl _)
      rw [e] at hown
      exact ⟨_, rfl, hown, hnx⟩
end Go.Proofs.YthnfbdmkdpokcaaDoor
