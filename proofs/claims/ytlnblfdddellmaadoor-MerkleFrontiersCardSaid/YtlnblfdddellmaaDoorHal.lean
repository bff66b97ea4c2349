/-
  The walks over split and the document's Half.
-/
import Derived.Test.YtlnblfdddellmaaDoorHlf
namespace Go.Proofs.YtlnblfdddellmaaDoor
open Go.RowKit
set_option linter.unusedVariables false
theorem wrap_pow (k : Nat) (h : k < 63) : wrap64 (2 ^ k) = ((2 ^ k : Nat) : Int) := by
  have h1 : 2 ^ k < 9223372036854775808 := Nat.pow_lt_pow_right (a := 2) (n := 63) (by omega) (by omega)
  have h2 : ((2 : Int) ^ k) = ((2 ^ k : Nat) : Int) := by simp
  rw [h2]
  obtain ⟨q, hq⟩ : ∃ q, q = 2 ^ k := ⟨_, rfl⟩
  rw [← hq] at h1 ⊢
  clear hq h2
  unfold wrap64
  omega
set_option maxRecDepth 100000 in
set_option maxHeartbeats 1000000 in
theorem split_m (m k : Nat) (w : World) (h0 : 0 < m) (h1 : m < 9223372036854775807) (hk : Nat.log2 m = k) (hk2 : k < 63) :
    Calls Tryd.prog 51 #[.int .i64 ((m + 1 : Nat) : Int)] w fun e w' => e = .returned (.int .i64 ((2 ^ k : Nat) : Int)) ∧ w = w' := by
  have q0 : (0 : Int) < (m : Int) := by omega
  have q1 : (m : Int) < 9223372036854775807 := by omega
  have HL := Lib.hid (fun W => len64_c m W h0 (by omega))
  rw [hk] at HL
  have hw : IntKind.u64.wrap (m : Int) = (m : Int) := by rw [IntKind.wrap_u64]; omega
  clear hk h0 h1
  go_enter Tryd.func51, Tryd.ntmps51
  go_wp2_with (first | (go_at_call 62; refine (HL.out _).mono ?_; rintro e w' ⟨rfl, rfl⟩))
  go_ret
  exact ⟨ret_int (wrap_pow k hk2), rfl⟩
theorem log_lt (m : Nat) (h0 : 0 < m) (h1 : m < 9223372036854775808) : Nat.log2 m < 63 := (Nat.log2_lt (by omega)).2 (by simpa using h1)
theorem split_c (n : Nat) (w : World) (h0 : 2 ≤ n) (h1 : n ≤ 9223372036854775807) :
    Calls Tryd.prog 51 #[.int .i64 (n : Int)] w fun e w' => e = .returned (.int .i64 (Mk.half n : Nat)) ∧ w = w' := by
  obtain ⟨m, rfl⟩ : ∃ m, n = m + 1 := ⟨n - 1, by omega⟩
  exact split_m m (Nat.log2 m) w (by omega) (by omega) rfl (log_lt m (by omega) (by omega))
set_option maxRecDepth 100000 in
set_option maxHeartbeats 1000000 in
theorem rhalf_c (n : Nat) (w : World) (h0 : 2 ≤ n) (h1 : n ≤ 9223372036854775807) :
    Calls Tryd.prog 37 #[.int .i64 (n : Int)] w fun e w' => e = .returned (.int .i64 (Mk.half n : Nat)) ∧ w = w' := by
  have q0 : (2 : Int) ≤ (n : Int) := by omega
  have q1 : (n : Int) ≤ 9223372036854775807 := by omega
  go_enter Tryd.func37, Tryd.ntmps37
  go_wp2
  go_loop [3] (fun k => ∃ q : Nat, q < n ∧ Hid (∃ e, q = 2 ^ e) ∧ k = .int .i64 q) (fun k => n - (intOf k).toNat)
  case atStart => exact ⟨1, by omega, ⟨0, rfl⟩, rfl⟩
  case round =>
    obtain ⟨q, hq, HE, rfl⟩ := hrel
    have q2 : (q : Int) < (n : Int) := by omega
    have q3 : 0 < q := by obtain ⟨e, he⟩ := HE.out; rw [he]; exact Nat.two_pow_pos _
    by_cases hlt : (q : Int) < (n : Int) - (q : Int)
    · have HE2 := Lib.hid (show ∃ e, 2 * q = 2 ^ e from by obtain ⟨e, he⟩ := HE.out; exact ⟨e + 1, by rw [he, Nat.pow_succ]; omega⟩)
      go_wp2
      go_round
      case rel => exact ⟨2 * q, by omega, HE2, by go_num⟩
      case measure => simp [intOf]; omega
    · have HV := Lib.hid (show Mk.half n = q from by obtain ⟨e, he⟩ := HE.out; rw [he]; exact Mk.half_eq n e (by omega) (by omega))
      go_wp2
      go_ret
      exact ⟨ret_int (by rw [HV.out]), rfl⟩
end Go.Proofs.YtlnblfdddellmaaDoor
