/-
  The walks over octet.Rot and the document's Rot: both give 'Rotm.rot' at the number of bits modulo 32.
-/
import Derived.Test.YthnfbdmkdpokcaaDoorBase
import Derived.Test.YthnfbdmkdpokcaaDoorRotm
namespace Go.Proofs.YthnfbdmkdpokcaaDoor
open Go.RowKit

theorem cast_div (x k : Nat) : ((x : Int) / 2 ^ k) = ((x / 2 ^ k : Nat) : Int) := by rw [Int.natCast_ediv, Int.natCast_pow]; rfl
theorem cast_mul (x k : Nat) : ((x : Int) * 2 ^ k % 4294967296) = ((x * 2 ^ k % 4294967296 : Nat) : Int) := by rw [Int.natCast_emod, Int.natCast_mul, Int.natCast_pow]; rfl
set_option maxHeartbeats 400000 in
theorem rot_c (x : Nat) (n : Int) (w : World) (hx : x < 4294967296) :
    Calls Tryd.prog 72 #[.int .u32 (x : Int), .int .i64 n] w fun e w' => e = .returned (.int .u32 ((Rotm.rot x (n % 32).toNat : Nat) : Int)) ∧ w = w' := by
  have h31 := Rotm.and31 n
  obtain ⟨k, hk, hkn⟩ : ∃ k : Nat, k < 32 ∧ n % 32 = (k : Int) := ⟨(n % 32).toNat, by omega, by omega⟩
  rw [hkn] at h31
  rw [hkn]
  clear hkn
  go_enter Tryd.func72, Tryd.ntmps72
  go_wp2
  go_ret
  refine ⟨ret_int ?_, rfl⟩
  rw [cast_div, cast_mul, u32_or_nat _ _ (Nat.lt_of_le_of_lt (Nat.div_le_self _ _) hx) (by omega), Rotm.rot_two x k hx hk]
  simp

theorem and_one (C : Nat) (h : C < 4294967296) : bits .and .u32 (C:Int) 1 = ((C % 2 : Nat) : Int) := by
  have := u32_and_nat C 1 h (by omega)
  rw [Nat.and_one_is_mod] at this
  exact this
theorem test_yes (x m : Nat) (hx : x < 4294967296) (h : x.testBit m = true) : bits .and .u32 ((x : Int) / 2 ^ m) 1 = 1 := by
  rw [cast_div, and_one _ (Nat.lt_of_le_of_lt (Nat.div_le_self _ _) hx)]
  rw [Nat.testBit_eq_decide_div_mod_eq] at h
  have := of_decide_eq_true h
  omega
theorem test_no (x m : Nat) (hx : x < 4294967296) (h : x.testBit m = false) : bits .and .u32 ((x : Int) / 2 ^ m) 1 = 0 := by
  rw [cast_div, and_one _ (Nat.lt_of_le_of_lt (Nat.div_le_self _ _) hx)]
  rw [Nat.testBit_eq_decide_div_mod_eq] at h
  have := of_decide_eq_false h
  omega

end Go.Proofs.YthnfbdmkdpokcaaDoor
