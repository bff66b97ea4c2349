/-
  Words turned to the right, on numbers: the document's way, bit by bit, and the program's, by two shifts, give the same.
-/
import Derived.RowKit
import Derived.Laws.BitsAllLaws
namespace Go.Proofs.YthnfbdmkdpokcaaDoor.Rotm
/-- x turned to the right by k -/
def rot (x : Nat) (k : Nat) : Nat := ((BitVec.ofNat 32 x).rotateRight k).toNat
theorem rot_lt (x k : Nat) : rot x k < 4294967296 := (BitVec.rotateRight _ _).isLt
theorem rot_mod (x k : Nat) : rot x (k % 32) = rot x k := by unfold rot; rw [BitVec.rotateRight_mod_eq_rotateRight]
/-- bit i of it -/
theorem rot_bit (x k i : Nat) (_hx : x < 4294967296) (hk : k < 32) (hi : i < 32) : (rot x k).testBit i = x.testBit ((i + k) % 32) := by
  unfold rot
  rw [BitVec.testBit_toNat, BitVec.getLsbD_rotateRight, Nat.mod_eq_of_lt hk]
  by_cases h : i < 32 - k
  · rw [decide_eq_true h, cond_true, Nat.mod_eq_of_lt (show i + k < 32 by omega), BitVec.getLsbD_ofNat]
    simp [show k + i < 32 by omega, Nat.add_comm]
  · rw [decide_eq_false h, cond_false, show (i + k) % 32 = i - (32 - k) by omega, BitVec.getLsbD_ofNat]
    simp [hi, show i - (32 - k) < 32 by omega]
theorem ext32 {a b : Nat} (ha : a < 4294967296) (hb : b < 4294967296) (h : ∀ i, i < 32 → a.testBit i = b.testBit i) : a = b := by
  apply Nat.eq_of_testBit_eq
  intro i
  by_cases hi : i < 32
  · exact h i hi
  · have h2 : 4294967296 ≤ 2 ^ i := Nat.pow_le_pow_right (n := 2) (by omega) (show 32 ≤ i by omega)
    rw [Nat.testBit_lt_two_pow (Nat.lt_of_lt_of_le ha h2), Nat.testBit_lt_two_pow (Nat.lt_of_lt_of_le hb h2)]
/-- by two shifts -/
theorem rot_two (x k : Nat) (hx : x < 4294967296) (hk : k < 32) : (x / 2 ^ k) ||| (x * 2 ^ (32 - k) % 4294967296) = rot x k := by
  have h1 : x / 2 ^ k < 2 ^ 32 := Nat.lt_of_le_of_lt (Nat.div_le_self _ _) hx
  refine ext32 (Nat.or_lt_two_pow (n := 32) h1 (by omega)) (rot_lt _ _) fun i hi => ?_
  rw [rot_bit x k i hx hk hi, Nat.testBit_or, Nat.testBit_div_two_pow, show (4294967296 : Nat) = 2 ^ 32 from rfl, Nat.testBit_mod_two_pow, Nat.testBit_mul_two_pow]
  by_cases h : i + k < 32
  · rw [Nat.mod_eq_of_lt h]
    simp [hi, show ¬ 32 - k ≤ i by omega]
  · have : x.testBit (i + k) = false := Nat.testBit_lt_two_pow (Nat.lt_of_lt_of_le hx (show 4294967296 ≤ 2 ^ (i + k) from Nat.pow_le_pow_right (n := 2) (by omega) (show 32 ≤ i + k by omega)))
    rw [this, show (i + k) % 32 = i - (32 - k) by omega]
    simp [hi, show 32 - k ≤ i by omega]
/-- the document's rounds: the first m bits are laid -/
def laid (x k : Nat) : Nat → Nat
  | 0 => 0
  | m + 1 => if x.testBit m then laid x k m ||| 2 ^ ((m + 32 - k) % 32) else laid x k m
theorem laid_lt (x k m : Nat) : laid x k m < 4294967296 := by
  induction m with
  | zero => simp [laid]
  | succ m ih =>
    simp only [laid]
    split
    · exact Nat.or_lt_two_pow (n := 32) ih (Nat.pow_lt_pow_right (by omega) (by omega))
    · exact ih
theorem laid_bit (x k m i : Nat) (hk : k < 32) (hm : m ≤ 32) (hi : i < 32) : (laid x k m).testBit i = (decide ((i + k) % 32 < m) && x.testBit ((i + k) % 32)) := by
  induction m with
  | zero => simp [laid]
  | succ m ih =>
    have ih := ih (by omega)
    simp only [laid]
    by_cases hb : x.testBit m
    · rw [if_pos hb, Nat.testBit_or, ih, Nat.testBit_two_pow]
      by_cases e : (i + k) % 32 = m
      · subst e
        simp [hb, show ((i + k) % 32 + 32 - k) % 32 = i by omega]
      · have : ¬ (m + 32 - k) % 32 = i := by omega
        simp only [this, decide_false, Bool.or_false]
        congr 1
        apply decide_eq_decide.2
        omega
    · rw [if_neg hb, ih]
      by_cases e : (i + k) % 32 = m
      · subst e
        simp [hb]
      · congr 1
        apply decide_eq_decide.2
        omega
theorem laid_all (x k : Nat) (hx : x < 4294967296) (hk : k < 32) : laid x k 32 = rot x k :=
  ext32 (laid_lt _ _ _) (rot_lt _ _) fun i hi => by
    rw [laid_bit x k 32 i hk (by omega) hi, rot_bit x k i hx hk hi]
    simp [Nat.mod_lt]
/-- there and back -/
theorem rot_back (x k : Nat) (hx : x < 4294967296) (hk : k < 32) : rot (rot x k) ((32 - k) % 32) = x :=
  ext32 (rot_lt _ _) hx fun i hi => by
    rw [rot_bit _ _ i (rot_lt _ _) (by omega) hi, rot_bit x k _ hx hk (by omega)]
    congr 1
    omega
/-- the lowest five bits of an integer -/
theorem and31 (n : Int) : bits .and .i64 n 31 = n % 32 := by
  show IntKind.i64.wrap ((BitVec.ofInt 64 n &&& BitVec.ofInt 64 31).toNat : Int) = _
  have h : (BitVec.ofInt 64 n &&& BitVec.ofInt 64 31).toNat = (BitVec.ofInt 64 n).toNat % 32 := by
    rw [BitVec.toNat_and, show (BitVec.ofInt 64 31).toNat = 2 ^ 5 - 1 by rfl, Nat.and_two_pow_sub_one_eq_mod]
  have h2 : ((BitVec.ofInt 64 n).toNat : Int) % 32 = n % 32 := by
    rw [BitVec.toNat_ofInt]
    omega
  rw [h]
  have : IntKind.i64.wrap (((BitVec.ofInt 64 n).toNat % 32 : Nat) : Int) = (((BitVec.ofInt 64 n).toNat % 32 : Nat) : Int) := by
    simp [IntKind.wrap, IntKind.bits, IntKind.signed]
    omega
  rw [this]
  omega
end Go.Proofs.YthnfbdmkdpokcaaDoor.Rotm
