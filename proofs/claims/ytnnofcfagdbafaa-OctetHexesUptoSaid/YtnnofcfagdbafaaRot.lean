/-
  The walks over octet.Rot and the document's Rot: both give 'Rotm.rot' at the number of bits modulo 32.
-/
import Derived.Test.YtnnofcfagdbafaaBase
import Derived.Test.YtnnofcfagdbafaaRotm
namespace Go.Proofs.Ytnnofcfagdbafaa
open Go.RowKit

theorem cast_div (x k : Nat) : ((x : Int) / 2 ^ k) = ((x / 2 ^ k : Nat) : Int) := by rw [Int.natCast_ediv, Int.natCast_pow]; rfl
theorem cast_mul (x k : Nat) : ((x : Int) * 2 ^ k % 4294967296) = ((x * 2 ^ k % 4294967296 : Nat) : Int) := by rw [Int.natCast_emod, Int.natCast_mul, Int.natCast_pow]; rfl
set_option maxHeartbeats 400000 in
theorem rot_c (x : Nat) (n : Int) (w : World) (hx : x < 4294967296) :
    Calls Try.prog 14 #[.int .u32 (x : Int), .int .i64 n] w fun e w' => e = .returned (.int .u32 ((Rotm.rot x (n % 32).toNat : Nat) : Int)) ∧ w = w' := by
  have h31 := Rotm.and31 n
  obtain ⟨k, hk, hkn⟩ : ∃ k : Nat, k < 32 ∧ n % 32 = (k : Int) := ⟨(n % 32).toNat, by omega, by omega⟩
  rw [hkn] at h31
  rw [hkn]
  clear hkn
  go_enter Try.func14, Try.ntmps14
  go_wp2
  go_ret
  refine ⟨ret_int ?_, rfl⟩
  rw [cast_div, cast_mul, u32_or_nat _ _ (Nat.lt_of_le_of_lt (Nat.div_le_self _ _) hx) (by omega), Rotm.rot_two x k hx hk]
  simp

theorem and_one (C : Nat) (h : C < 4294967296) : bits .and .u32 (C:Int) 1 = ((C % 2 : Nat) : Int) := by
  have := u32_and_nat C 1 h (by omega)
  rw [Nat.and_one_is_mod] at this
  exact this
theorem test_yes (x m : Nat) (hx : x < 4294967296) (h : x.testBit m = true) : bits .and .u32 ((x : Int) / 2 ^ m) 1 = 1 := by
  rw [cast_div, and_one _ (Nat.lt_of_le_of_lt (Nat.div_le_self _ _) hx)]
  rw [Nat.testBit_eq_decide_div_mod_eq] at h
  have := of_decide_eq_true h
  omega
theorem test_no (x m : Nat) (hx : x < 4294967296) (h : x.testBit m = false) : bits .and .u32 ((x : Int) / 2 ^ m) 1 = 0 := by
  rw [cast_div, and_one _ (Nat.lt_of_le_of_lt (Nat.div_le_self _ _) hx)]
  rw [Nat.testBit_eq_decide_div_mod_eq] at h
  have := of_decide_eq_false h
  omega

theorem laid_yes (x k m : Nat) (hb : x.testBit m = true) : Value.int IntKind.u32 (bits BinOp.or IntKind.u32 (↑(Rotm.laid x k m)) (2 ^ ((m + 32 - k) % 32) % 4294967296)) = Value.int IntKind.u32 ↑(Rotm.laid x k (m + 1)) := by
  have h2 : 2 ^ ((m + 32 - k) % 32) < 4294967296 := Nat.pow_lt_pow_right (a := 2) (n := 32) (by omega) (by omega)
  have e : ((2 : Int) ^ ((m + 32 - k) % 32) % 4294967296) = ((2 ^ ((m + 32 - k) % 32) : Nat) : Int) := by
    have := cast_mul 1 ((m + 32 - k) % 32)
    rw [Nat.one_mul, Nat.mod_eq_of_lt h2] at this
    rw [← this]
    simp
  rw [e, u32_or_nat _ _ (Rotm.laid_lt _ _ _) h2]
  simp only [Rotm.laid, hb, if_true]
theorem laid_no (x k m : Nat) (hb : x.testBit m = false) : Value.int IntKind.u32 ↑(Rotm.laid x k m) = Value.int IntKind.u32 ↑(Rotm.laid x k (m + 1)) := by
  simp [Rotm.laid, hb]

set_option maxHeartbeats 800000 in
theorem refRot_c (x : Nat) (n : Int) (w : World) (hx : x < 4294967296) (h1 : -9223372036854775808 ≤ n) (h2 : n ≤ 9223372036854775807) :
    Calls Try.prog 15 #[.int .u32 (x : Int), .int .i64 n] w fun e w' => e = .returned (.int .u32 ((Rotm.rot x (n % 32).toNat : Nat) : Int)) ∧ w = w' := by
  obtain ⟨t, ht, ht1, ht2, ht3⟩ : ∃ t, n.tmod 32 = t ∧ -32 < t ∧ t < 32 ∧ t % 32 = n % 32 := by
    refine ⟨_, rfl, ?_, ?_, ?_⟩
    · have := Int.tmod_lt_of_pos (-n) (b := 32) (by omega); rw [Int.neg_tmod] at this; omega
    · exact Int.tmod_lt_of_pos n (by omega)
    · rw [Int.tmod_eq_emod]; split <;> omega
  obtain ⟨k, hk, hkn⟩ : ∃ k : Nat, k < 32 ∧ t % 32 = (k : Int) := ⟨(t % 32).toNat, by omega, by omega⟩
  rw [← ht3, hkn]
  rw [show ((k : Int)).toNat = k by omega]
  clear ht3
  by_cases hneg : t < 0
  · have h32 : t + 32 = (k : Int) := by omega
    clear hkn
    go_enter Try.func15, Try.ntmps15
    go_wp2
    all_goals
      go_loop [6, 7] (fun o i => ∃ m : Nat, m ≤ 32 ∧ i = .int .i64 m ∧ o = .int .u32 (Rotm.laid x k m : Nat)) (fun _ i => 32 - (intOf i).toNat)
      case atStart => exact ⟨0, Nat.zero_le _, rfl, rfl⟩
      case round =>
        obtain ⟨m, hm, rfl, rfl⟩ := hrel
        cases hb : x.testBit m with
        | true =>
          have hB := test_yes x m hx hb
          go_wp2
          · go_round
            case rel => exact ⟨m + 1, by omega, by go_num, laid_yes x k m hb⟩
            case measure => simp [intOf]; omega
          · go_ret
            exact ⟨ret_int (by rw [show m = 32 by omega, Rotm.laid_all x k hx hk]), rfl⟩
        | false =>
          have hB := test_no x m hx hb
          go_wp2
          · go_round
            case rel => exact ⟨m + 1, by omega, by go_num, laid_no x k m hb⟩
            case measure => simp [intOf]; omega
          · go_ret
            exact ⟨ret_int (by rw [show m = 32 by omega, Rotm.laid_all x k hx hk]), rfl⟩
  · obtain rfl : t = (k : Int) := by omega
    clear hkn
    go_enter Try.func15, Try.ntmps15
    go_wp2
    all_goals
      go_loop [6, 7] (fun o i => ∃ m : Nat, m ≤ 32 ∧ i = .int .i64 m ∧ o = .int .u32 (Rotm.laid x k m : Nat)) (fun _ i => 32 - (intOf i).toNat)
      case atStart => exact ⟨0, Nat.zero_le _, rfl, rfl⟩
      case round =>
        obtain ⟨m, hm, rfl, rfl⟩ := hrel
        cases hb : x.testBit m with
        | true =>
          have hB := test_yes x m hx hb
          go_wp2
          · go_round
            case rel => exact ⟨m + 1, by omega, by go_num, laid_yes x k m hb⟩
            case measure => simp [intOf]; omega
          · go_ret
            exact ⟨ret_int (by rw [show m = 32 by omega, Rotm.laid_all x k hx hk]), rfl⟩
        | false =>
          have hB := test_no x m hx hb
          go_wp2
          · go_round
            case rel => exact ⟨m + 1, by omega, by go_num, laid_no x k m hb⟩
            case measure => simp [intOf]; omega
          · go_ret
            exact ⟨ret_int (by rw [show m = 32 by omega, Rotm.laid_all x k hx hk]), rfl⟩
end Go.Proofs.Ytnnofcfagdbafaa
