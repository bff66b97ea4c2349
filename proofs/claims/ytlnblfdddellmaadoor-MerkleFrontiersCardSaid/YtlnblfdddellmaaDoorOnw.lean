/-
  The walk over the library's OnesCount64, and over the document's Ones.
-/
import Derived.Test.YtlnblfdddellmaaDoorOne
namespace Go.Proofs.YtlnblfdddellmaaDoor
open Go.RowKit
set_option linter.unusedVariables false
namespace Onc
theorem m85 : msk 85 8 = 6148914691236517205 := rfl
theorem m51 : msk 51 8 = 3689348814741910323 := rfl
theorem m15 : msk 15 8 = 1085102592571150095 := rfl
end Onc
theorem and127 (q : Nat) (h : q < 9223372036854775808) : bits .and .i64 (q : Int) 127 = ((q % 128 : Nat) : Int) := by
  show IntKind.i64.wrap ((BitVec.ofInt 64 (q : Int) &&& BitVec.ofInt 64 127).toNat : Int) = _
  have h1 : (BitVec.ofInt 64 (q : Int) &&& BitVec.ofInt 64 127).toNat = (BitVec.ofInt 64 (q : Int)).toNat % 128 := by
    rw [BitVec.toNat_and, show (BitVec.ofInt 64 127).toNat = 2 ^ 7 - 1 by rfl, Nat.and_two_pow_sub_one_eq_mod]
  have h2 : ((BitVec.ofInt 64 (q : Int)).toNat : Int) % 128 = (q : Int) % 128 := by
    rw [BitVec.toNat_ofInt]
    omega
  rw [h1]
  have : IntKind.i64.wrap (((BitVec.ofInt 64 (q : Int)).toNat % 128 : Nat) : Int) = (((BitVec.ofInt 64 (q : Int)).toNat % 128 : Nat) : Int) := by
    simp [IntKind.wrap, IntKind.bits, IntKind.signed]
    omega
  rw [this]
  omega
set_option maxRecDepth 100000 in
set_option maxHeartbeats 4000000 in
theorem count_c (n : Nat) (w : World) (hn : n < 18446744073709551616) : Calls Tryd.prog 38 #[.int .u64 (n : Int)] w fun e w' => e = .returned (.int .i64 (ones n : Nat)) ∧ w = w' := by
  obtain ⟨A, hA⟩ : ∃ A, A = (n / 2) &&& 6148914691236517205 := ⟨_, rfl⟩
  obtain ⟨B, hB⟩ : ∃ B, B = n &&& 6148914691236517205 := ⟨_, rfl⟩
  obtain ⟨X1, hX1⟩ : ∃ X, X = A + B := ⟨_, rfl⟩
  obtain ⟨A2, hA2⟩ : ∃ A, A = (X1 / 4) &&& 3689348814741910323 := ⟨_, rfl⟩
  obtain ⟨B2, hB2⟩ : ∃ B, B = X1 &&& 3689348814741910323 := ⟨_, rfl⟩
  obtain ⟨X2, hX2⟩ : ∃ X, X = A2 + B2 := ⟨_, rfl⟩
  obtain ⟨Y3, hY3⟩ : ∃ X, X = X2 / 16 + X2 := ⟨_, rfl⟩
  obtain ⟨X3, hX3⟩ : ∃ X, X = Y3 &&& 1085102592571150095 := ⟨_, rfl⟩
  obtain ⟨X4, hX4⟩ : ∃ X, X = X3 + X3 / 256 := ⟨_, rfl⟩
  obtain ⟨X5, hX5⟩ : ∃ X, X = X4 + X4 / 65536 := ⟨_, rfl⟩
  obtain ⟨X6, hX6⟩ : ∃ X, X = X5 + X5 / 4294967296 := ⟨_, rfl⟩
  obtain ⟨r, hr⟩ : ∃ r, r = ones n := ⟨_, rfl⟩
  have hAl : A ≤ 6148914691236517205 := by rw [hA]; exact Nat.and_le_right
  have hBl : B ≤ 6148914691236517205 := by rw [hB]; exact Nat.and_le_right
  have hA2l : A2 ≤ 3689348814741910323 := by rw [hA2]; exact Nat.and_le_right
  have hB2l : B2 ≤ 3689348814741910323 := by rw [hB2]; exact Nat.and_le_right
  have hX1l : X1 < 18446744073709551616 := by omega
  have hX2l : X2 ≤ 7378697629483820646 := by omega
  have hY3l : Y3 < 18446744073709551616 := by omega
  have e3 : X3 = Onc.pc n + 256 * Onc.pc (n / 256) + 65536 * Onc.pc (n / 65536) + 16777216 * Onc.pc (n / 16777216) + 4294967296 * Onc.pc (n / 4294967296) + 1099511627776 * Onc.pc (n / 1099511627776) + 281474976710656 * Onc.pc (n / 281474976710656) + 72057594037927936 * Onc.pc (n / 72057594037927936) := by
    rw [← Onc.all_bytes, hX3, hY3, hX2, hA2, hB2, hX1, hA, hB]
    rfl
  obtain ⟨s4, s5, s6, s7⟩ := Onc.sums _ _ _ _ _ _ _ _ X4 X5 X6 X3 (Onc.pc_le n) (Onc.pc_le _) (Onc.pc_le _) (Onc.pc_le _) (Onc.pc_le _) (Onc.pc_le _) (Onc.pc_le _) (Onc.pc_le _) e3 hX4 hX5 hX6
  rw [← Onc.all_ones n hn, ← hr] at s7
  clear e3
  have f1 : bits .and .u64 ((n : Int) / 2) 6148914691236517205 = (A : Int) := by rw [hA]; exact u64_and_nat (n / 2) 6148914691236517205 (by omega) (by omega)
  have f2 : bits .and .u64 (n : Int) 6148914691236517205 = (B : Int) := by rw [hB]; exact u64_and_nat n 6148914691236517205 (by omega) (by omega)
  have f3 : IntKind.u64.wrap ((A : Int) + (B : Int)) = (X1 : Int) := by rw [IntKind.wrap_u64]; omega
  have f4 : bits .and .u64 ((X1 : Int) / 4) 3689348814741910323 = (A2 : Int) := by rw [hA2]; exact u64_and_nat (X1 / 4) 3689348814741910323 (by omega) (by omega)
  have f5 : bits .and .u64 (X1 : Int) 3689348814741910323 = (B2 : Int) := by rw [hB2]; exact u64_and_nat X1 3689348814741910323 (by omega) (by omega)
  have f6 : IntKind.u64.wrap ((A2 : Int) + (B2 : Int)) = (X2 : Int) := by rw [IntKind.wrap_u64]; omega
  have f7 : IntKind.u64.wrap ((X2 : Int) / 16 + (X2 : Int)) = (Y3 : Int) := by rw [IntKind.wrap_u64]; omega
  have f8 : bits .and .u64 (Y3 : Int) 1085102592571150095 = (X3 : Int) := by rw [hX3]; exact u64_and_nat Y3 1085102592571150095 (by omega) (by omega)
  have f9 : IntKind.u64.wrap ((X3 : Int) + (X3 : Int) / 256) = (X4 : Int) := by rw [IntKind.wrap_u64]; omega
  have fa : IntKind.u64.wrap ((X4 : Int) + (X4 : Int) / 65536) = (X5 : Int) := by rw [IntKind.wrap_u64]; omega
  have fb : IntKind.u64.wrap ((X5 : Int) + (X5 : Int) / 4294967296) = (X6 : Int) := by rw [IntKind.wrap_u64]; omega
  have fc : IntKind.i64.wrap (X6 : Int) = (X6 : Int) := by simp [IntKind.wrap, IntKind.bits, IntKind.signed]; omega
  have fc' : wrap64 (X6 : Int) = (X6 : Int) := by unfold wrap64; omega
  have fd : bits .and .i64 (X6 : Int) 127 = (r : Int) := by
    have h := and127 X6 s6
    rw [h, s7]
  clear hA hB hX1 hA2 hB2 hX2 hY3 hX3 hX4 hX5 hX6 hAl hBl hA2l hB2l hX1l hX2l hY3l s4 s5 s6 s7
  go_enter Tryd.func38, Tryd.ntmps38
  go_wp2
  go_ret
  exact ⟨rfl, rfl⟩
theorem ones_le63 (q : Nat) (h : q ≤ 9223372036854775807) : ones q ≤ 63 := ones_le 63 q (by simpa using (show q < 9223372036854775808 by omega))
set_option maxRecDepth 100000 in
set_option maxHeartbeats 2000000 in
theorem rones_c (n : Nat) (w : World) (hn : n ≤ 9223372036854775807) : Calls Tryd.prog 19 #[.int .i64 (n : Int)] w fun e w' => e = .returned (.int .i64 (ones n : Nat)) ∧ w = w' := by
  have hle := ones_le63 n hn
  obtain ⟨O, hO⟩ : ∃ O, O = ones n := ⟨_, rfl⟩
  rw [← hO] at hle ⊢
  have HO := Lib.hid hO
  clear hO
  go_enter Tryd.func19, Tryd.ntmps19
  go_wp2
  go_loop [0, 3] (fun qv kv => ∃ q k : Nat, qv = .int .i64 (q : Int) ∧ kv = .int .i64 (k : Int) ∧ q ≤ 9223372036854775807 ∧ Hid (k + ones q = O)) (fun qv _ => (intOf qv).toNat)
  case atStart => exact ⟨n, 0, rfl, rfl, hn, Lib.hid (by rw [Nat.zero_add]; exact HO.out.symm)⟩
  case round =>
    obtain ⟨q, k, rfl, rfl, hq, HI⟩ := hrel
    by_cases h0 : 0 < q
    · have h1 : k + q % 2 + ones (q / 2) = O := by have := HI.out; rw [ones_pos (by omega)] at this; omega
      have t1 : (q : Int).tmod 2 = ((q % 2 : Nat) : Int) := by rw [Int.tmod_eq_emod_of_nonneg (by omega)]; omega
      have t2 : (q : Int).tdiv 2 = ((q / 2 : Nat) : Int) := by rw [Int.tdiv_eq_ediv_of_nonneg (by omega)]; omega
      have hk : k ≤ 63 := by omega
      have hI0 : (0 : Int) < (q : Int) := by omega
      have H1 := Lib.hid h1
      clear h1 HI
      go_wp2
      go_round
      case rel => exact ⟨q / 2, k + q % 2, by go_num, by go_num, by omega, H1⟩
      case measure => simp [intOf]; omega
    · obtain rfl : q = 0 := by omega
      have : k = O := by have := HI.out; rw [ones_zero] at this; omega
      subst this
      go_wp2
      go_ret
      exact ⟨rfl, rfl⟩
end Go.Proofs.YtlnblfdddellmaaDoor
