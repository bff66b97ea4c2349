/-
  The walk over the document's Same: are two lists of bytes the same?
-/
import Derived.Test.YthnfbdmkdpokcabDoorBase
namespace Go.Proofs.YthnfbdmkdpokcabDoor
open Go.RowKit

theorem same_len (a1 a2 : Option Addr) (len1 cap1 len2 cap2 : Nat) (w : World) (h : len1 ≠ len2) :
    Calls Tryd.prog 23 #[.slice a1 len1 cap1, .slice a2 len2 cap2] w (RetD (.bool false) w) := by
  have hb : ((len1 : Int) == (len2 : Int)) = false := by simp; omega
  have hb2 : ((len1 : Int) != (len2 : Int)) = true := by simp; omega
  clear h
  go_enter Tryd.func23, Tryd.ntmps23
  go_wp2
  go_ret
  exact ⟨rfl, 0, rfl⟩
theorem same_nil (a1 a2 : Option Addr) (cap1 cap2 : Nat) (w : World) :
    Calls Tryd.prog 23 #[.slice a1 0 cap1, .slice a2 0 cap2] w (RetD (.bool true) w) := by
  go_enter Tryd.func23, Tryd.ntmps23
  go_wp2
  refine wp_loop_rounds 1 ?_
  rw [rounds_succ]
  go_wp2
  go_ret
  exact ⟨rfl, 0, rfl⟩
theorem take_step {xs ys : List Nat} {k : Nat} (h1 : k < xs.length) (h2 : k < ys.length) (h : xs.take k = ys.take k) (he : xs[k] = ys[k]) : xs.take (k + 1) = ys.take (k + 1) := by
  rw [take_snoc xs k h1, take_snoc ys k h2, h, he]

set_option maxRecDepth 100000 in
set_option maxHeartbeats 800000 in
theorem same_some (b1 o1 b2 o2 len cap1 cap2 : Nat) (xs ys : List Nat) (w : World) (hl1 : xs.length = len) (hl2 : ys.length = len) (hm : len ≤ 9223372036854775807)
    (hc1 : ∀ i, i < len → w.cell? ⟨b1, o1 + i, none⟩ = some (.int .u8 ((xs.getD i 0 : Nat) : Int)))
    (hc2 : ∀ i, i < len → w.cell? ⟨b2, o2 + i, none⟩ = some (.int .u8 ((ys.getD i 0 : Nat) : Int))) :
    Calls Tryd.prog 23 #[.slice (some ⟨b1, o1, none⟩) len cap1, .slice (some ⟨b2, o2, none⟩) len cap2] w (RetD (.bool (decide (xs = ys))) w) := by
  go_enter Tryd.func23, Tryd.ntmps23
  go_wp2
  go_loopw [5] (fun i wr => ∃ k n : Nat, k ≤ len ∧ i = .int .i64 k ∧ xs.take k = ys.take k ∧ wr = w.drewN n) (fun i _ => len - (intOf i).toNat)
  case atStart => exact ⟨0, 0, Nat.zero_le _, rfl, rfl, rfl⟩
  case round =>
    obtain ⟨k, n, hk, rfl, htk, rfl⟩ := hrel
    have HT := Lib.hid htk
    clear htk
    by_cases hkl : k < len
    · have hx := hc1 k hkl
      have hy := hc2 k hkl
      rw [getD_at _ _ (by omega)] at hx hy
      obtain ⟨x, hxe⟩ : ∃ x, x = xs[k] := ⟨_, rfl⟩
      obtain ⟨y, hye⟩ : ∃ y, y = ys[k] := ⟨_, rfl⟩
      rw [← hxe] at hx
      rw [← hye] at hy
      have HX := Lib.hid hxe
      have HY := Lib.hid hye
      clear hc1 hc2 hxe hye
      have hx' : (w.drewN n).cell? ⟨b1, o1 + k, none⟩ = some (.int .u8 (x : Int)) := hx
      have hy' : (w.drewN n).cell? ⟨b2, o2 + k, none⟩ = some (.int .u8 (y : Int)) := hy
      have i0 : (0 : Int) ≤ (k : Int) := by omega
      have i1 : (k : Int) < (len : Int) := by omega
      by_cases hxy : x = y
      · subst hxy
        go_wp2
        go_quiet (fail)
        go_wp2
        go_roundw
        case rel => exact ⟨k + 1, n + nq, by omega, by go_num, take_step (by omega) (by omega) HT.out (by rw [← HX.out, ← HY.out]), by first | rfl | exact drewN_add _ _ _⟩
        case measure => simp [intOf]; omega
      · have hne : ((x : Int) != (y : Int)) = true := by simp; omega
        go_wp2
        go_quiet (fail)
        go_wp2
        go_ret
        refine ⟨ret_bool ?_, n + nq, by first | rfl | exact drewN_add _ _ _⟩
        symm
        simp only [decide_eq_false_iff_not]
        intro he
        subst he
        exact hxy (by rw [HX.out, HY.out])
    · go_wp2
      go_ret
      obtain rfl : k = len := by omega
      have := HT.out
      rw [List.take_of_length_le (by omega), List.take_of_length_le (by omega)] at this
      exact ⟨ret_bool (by simp [this]), n, rfl⟩

/-- Same: are they the same? -/
theorem same_c (a1 a2 : Option Addr) (len1 cap1 len2 cap2 : Nat) (xs ys : List Nat) (w : World) (h1 : Rd w a1 len1 xs) (h2 : Rd w a2 len2 ys) (hm : len1 ≤ 9223372036854775807) :
    Calls Tryd.prog 23 #[.slice a1 len1 cap1, .slice a2 len2 cap2] w (RetD (.bool (decide (xs = ys))) w) := by
  obtain ⟨hl1, _, hc1⟩ := h1
  obtain ⟨hl2, _, hc2⟩ := h2
  by_cases hl : len1 = len2
  · subst hl
    by_cases h0 : len1 = 0
    · subst h0
      obtain rfl : xs = [] := List.eq_nil_of_length_eq_zero hl1
      obtain rfl : ys = [] := List.eq_nil_of_length_eq_zero hl2
      exact same_nil a1 a2 cap1 cap2 w
    · rcases hc1 with h | ⟨b1, o1, rfl, _, hc1⟩
      · exact absurd h h0
      · rcases hc2 with h | ⟨b2, o2, rfl, _, hc2⟩
        · exact absurd h h0
        · exact same_some b1 o1 b2 o2 len1 cap1 cap2 xs ys w hl1 hl2 hm hc1 hc2
  · have hne : decide (xs = ys) = false := by
      simp only [decide_eq_false_iff_not]
      intro he
      subst he
      omega
    rw [hne]
    exact same_len a1 a2 len1 cap1 len2 cap2 w hl
end Go.Proofs.YthnfbdmkdpokcabDoor
