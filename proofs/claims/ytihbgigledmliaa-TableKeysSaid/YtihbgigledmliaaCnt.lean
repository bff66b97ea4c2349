/-
  The walks over Count and ReadCount, the program's and the document's: 'Cntm.cnt' is written, 'Cntm.rd' is read.
-/
import Derived.Test.YtihbgigledmliaaPka
import Derived.Test.YtihbgigledmliaaCntm
namespace Go.Proofs.Ytihbgigledmliaa
open Go.RowKit

theorem or128 (m : Nat) (_h : 128 ≤ m) : bits .or .u8 ((m : Int) % 256) 128 = ((m % 128 + 128 : Nat) : Int) := by
  have e : ((m : Int) % 256) = ((m % 256 : Nat) : Int) := by omega
  rw [e, show (128 : Int) = ((128 : Nat) : Int) by rfl, u8_or_nat _ _ (by omega) (by omega)]
  congr 1
  have h1 := Nat.two_pow_add_eq_or_of_lt (i := 7) (b := m % 128) (by omega) 1
  have h2 : m % 256 = m % 128 ∨ m % 256 = m % 128 + 128 := by omega
  rcases h2 with h2 | h2
  · rw [h2, Nat.or_comm, show (128 : Nat) = 2 ^ 7 * 1 by rfl, ← h1]; omega
  · have h3 : m % 256 = 2 ^ 7 * 1 ||| m % 128 := by rw [← h1]; omega
    rw [h3, Nat.or_comm, ← Nat.or_assoc, show 128 ||| 2 ^ 7 * 1 = 2 ^ 7 * 1 by decide, ← h1]
    omega

/-- the loop's word: what is written so far, and what is left of n -/
def CntAt (n0 : Nat) (acc : List Nat) (m : Nat) : Prop := acc ++ Cntm.cnt m = Cntm.cnt n0 ∧ acc.length ≤ 9 ∧ m ≤ n0
theorem CntAt.step {n0 : Nat} {acc : List Nat} {m : Nat} (h0 : n0 < 18446744073709551616) (h : CntAt n0 acc m) (hm : ¬ m < 128) : CntAt n0 (acc ++ [m % 128 + 128]) (m / 128) := by
  obtain ⟨h1, h2, h3⟩ := h
  rw [Cntm.cnt_hi hm] at h1
  have h10 := Cntm.cnt_len10 n0 h0
  have hl : 0 < (Cntm.cnt (m / 128)).length := List.length_pos_iff.2 (Cntm.cnt_ne _)
  have h4 : (acc ++ (m % 128 + 128) :: Cntm.cnt (m / 128)).length = (Cntm.cnt n0).length := by rw [h1]
  simp at h4
  exact ⟨by rw [List.append_assoc]; exact h1, by simp; omega, by omega⟩

set_option maxRecDepth 100000 in
set_option maxHeartbeats 800000 in
theorem count_c (n : Nat) (w : World) (hn : n < 18446744073709551616) :
    Calls Try.prog 37 #[.int .u64 (n : Int)] w (RetB w.heap.size w (Cntm.cnt n)) := by
  have HN := Lib.hid hn
  clear hn
  go_enter Try.func37, Try.ntmps37
  go_wp2
  go_loopw [0, 3] (fun i v wr => ∃ (m : Nat) (acc : List Nat), i = .int .u64 m ∧ CntAt n acc m ∧ Own wr w.heap.size v acc ∧ Below w.heap.size w wr) (fun i _ _ => (intOf i).toNat)
  case atStart => exact ⟨n, [], rfl, ⟨rfl, by simp, Nat.le_refl _⟩, Own.nil _ _, Below.refl _ _⟩
  case round =>
    obtain ⟨m, acc, rfl, hat, hown, hnx⟩ := hrel
    have hsz := hnx.size
    have hacc := hat.2.1
    have hmn := hat.2.2
    by_cases hm : m < 128
    · go_wp2_with (at_builtin; (refine wpList_push rfl _ _ rfl w.heap.size u3 acc m _ ?hy rfl hown hsz rfl ?hl ?_))
      case hy => omega
      case hl => omega
      intro v1 w1 hown1 hb1
      have hnx1 := hnx.trans hb1
      clear hown hnx hb1
      have hE := hat.1
      rw [Cntm.cnt_lo hm] at hE
      rw [hE] at hown1
      go_wp2
      go_ret
      exact ⟨_, rfl, hown1, hnx1⟩
    · have hO := Lib.hid (or128 m (by omega))
      have hS := Lib.hid (hat.step HN.out hm)
      go_wp2_with (at_builtin; (refine wpList_push rfl _ _ rfl w.heap.size u3 acc (m % 128 + 128) _ ?hy2 rfl hown hsz rfl ?hl2 ?_))
      case hy2 => exact hO.out
      case hl2 => omega
      intro v1 w1 hown1 hb1
      have hnx1 := hnx.trans hb1
      clear hown hnx hb1
      go_wp2
      go_roundw
      case rel => exact ⟨m / 128, acc ++ [m % 128 + 128], by go_num, hS.out, hown1, hnx1⟩
      case measure => simp [intOf]; omega
end Go.Proofs.Ytihbgigledmliaa
