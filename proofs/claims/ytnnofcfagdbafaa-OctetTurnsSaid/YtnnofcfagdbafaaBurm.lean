/-
  Bits turned in a list of bytes: a number of 32 bits laid over it at any place.
-/
import Derived.Test.YtnnofcfagdbafaaCrcm
import Derived.Laws.BitsAllLaws
namespace Go.Proofs.Ytnnofcfagdbafaa.Burm
open Crcm
theorem bytesOf_len (n t : Nat) : (bytesOf n t).length = n := by
  induction n generalizing t with
  | zero => rfl
  | succ n ih => simp [bytesOf, ih]
theorem bytesOf_get (n t j : Nat) (h : j < n) : (bytesOf n t)[j]? = some (t / 256 ^ j % 256) := by
  induction n generalizing t j with
  | zero => omega
  | succ n ih =>
    cases j with
    | zero => simp [bytesOf]
    | succ j =>
      simp only [bytesOf, List.getElem?_cons_succ]
      rw [ih (t / 256) j (by omega), Nat.div_div_eq_div_mul, Nat.pow_succ, Nat.mul_comm 256]
/-- the bytes of p, turned where the number t has bits -/
def over (p : List Nat) (t : Nat) : List Nat := List.zipWith (· ^^^ ·) p (bytesOf p.length t)
theorem over_len (p : List Nat) (t : Nat) : (over p t).length = p.length := by simp [over, bytesOf_len]
theorem over_get (p : List Nat) (t j : Nat) (h : j < p.length) : (over p t)[j]? = some (p[j] ^^^ (t / 256 ^ j % 256)) := by
  unfold over
  rw [List.getElem?_zipWith, bytesOf_get _ _ _ h, List.getElem?_eq_getElem h]
theorem over_zero (p : List Nat) : over p 0 = p := by
  apply List.ext_getElem?
  intro j
  by_cases h : j < p.length
  · rw [over_get p 0 j h, List.getElem?_eq_getElem h]; simp
  · rw [List.getElem?_eq_none (by rw [over_len]; omega), List.getElem?_eq_none (by omega)]
theorem byte_xor (x y j : Nat) : (x ^^^ y) / 256 ^ j % 256 = (x / 256 ^ j % 256) ^^^ (y / 256 ^ j % 256) := by
  rw [show (256 : Nat) ^ j = 2 ^ (8 * j) by rw [Nat.pow_mul]]
  rw [← Nat.shiftRight_eq_div_pow, ← Nat.shiftRight_eq_div_pow, ← Nat.shiftRight_eq_div_pow, Nat.shiftRight_xor_distrib]
  exact Nat.xor_mod_two_pow (n := 8)
theorem byte_pow (m j : Nat) : 2 ^ m / 256 ^ j % 256 = if m / 8 = j then 2 ^ (m % 8) else 0 := by
  rw [show (256 : Nat) ^ j = 2 ^ (8 * j) by rw [Nat.pow_mul]]
  by_cases h : m / 8 = j
  · rw [if_pos h, Nat.pow_div (by omega) (by omega), show m - 8 * j = m % 8 by omega]
    exact Nat.mod_eq_of_lt (Nat.pow_lt_pow_right (a := 2) (n := 8) (by omega) (by omega))
  · rw [if_neg h]
    by_cases h2 : m < 8 * j
    · rw [Nat.div_eq_of_lt (Nat.pow_lt_pow_right (by omega) h2)]
    · rw [Nat.pow_div (by omega) (by omega)]
      rw [show m - 8 * j = 8 + (m - 8 * j - 8) by omega, Nat.pow_add]
      exact Nat.mul_mod_right _ _
/-- one bit more is turned -/
theorem over_bit (p : List Nat) (x m : Nat) (hm : m < 8 * p.length) : over p (x ^^^ 2 ^ m) = (over p x).set (m / 8) ((over p x).getD (m / 8) 0 ^^^ 2 ^ (m % 8)) := by
  apply List.ext_getElem?
  intro j
  by_cases h : j < p.length
  · rw [over_get p _ j h, byte_xor, byte_pow, List.getElem?_set]
    by_cases e : m / 8 = j
    · rw [if_pos e, if_pos e, if_pos (by rw [over_len]; omega), List.getD_eq_getElem?_getD, e, over_get p x j h]
      simp [Nat.xor_assoc]
    · rw [if_neg e, if_neg e, over_get p x j h]; simp
  · rw [List.getElem?_eq_none (by rw [over_len]; omega), List.getElem?_eq_none (by rw [List.length_set, over_len]; omega)]
/-- the bits of turn below i, laid at t -/
def part (t turn i : Nat) : Nat := 2 ^ t * (turn % 2 ^ i)
theorem part_zero (t turn : Nat) : part t turn 0 = 0 := by simp [part, Nat.mod_one]
theorem part_no (t turn i : Nat) (h : turn.testBit i = false) : part t turn (i + 1) = part t turn i := by
  unfold part
  rw [Nat.testBit_eq_decide_div_mod_eq] at h
  have h' := of_decide_eq_false h
  rw [Nat.mod_pow_succ, show turn / 2 ^ i % 2 = 0 by omega]; simp
theorem part_yes (t turn i : Nat) (h : turn.testBit i = true) : part t turn (i + 1) = part t turn i ^^^ 2 ^ (t + i) := by
  unfold part
  rw [Nat.testBit_eq_decide_div_mod_eq] at h
  have h' := of_decide_eq_true h
  rw [Nat.mod_pow_succ, h', Nat.mul_one]
  have h1 : turn % 2 ^ i < 2 ^ i := Nat.mod_lt _ (Nat.pow_pos (by omega))
  have h2 : 2 ^ t * (turn % 2 ^ i) < 2 ^ (t + i) := by
    rw [Nat.pow_add]; exact Nat.mul_lt_mul_of_pos_left h1 (Nat.pow_pos (by omega))
  have h3 := Nat.two_pow_add_eq_or_of_lt h2 1
  have h4 : 2 ^ (t + i) * 1 ||| 2 ^ t * (turn % 2 ^ i) = 2 ^ t * (turn % 2 ^ i) ^^^ 2 ^ (t + i) := by
    apply Nat.eq_of_testBit_eq
    intro b
    rw [Nat.mul_one, Nat.testBit_or, Nat.testBit_xor, Nat.testBit_two_pow]
    by_cases hb : t + i = b
    · subst hb
      have : (2 ^ t * (turn % 2 ^ i)).testBit (t + i) = false := Nat.testBit_lt_two_pow h2
      simp [this]
    · simp [hb]
  rw [← h4, ← h3, Nat.mul_add, ← Nat.pow_add]
  omega
theorem part_all (t turn : Nat) (h : turn < 4294967296) : part t turn 32 = 2 ^ t * turn := by
  unfold part
  rw [Nat.mod_eq_of_lt (by omega)]
/-- other sums -/
theorem over_reg (p : List Nat) (t turn : Nat) (ht : turn < 4294967296) (h0 : turn ≠ 0) (hat : t + 32 ≤ 8 * p.length) (c : Nat) : reg c p ≠ reg c (over p (2 ^ t * turn)) :=
  burst p _ turn t ht h0 (over_len _ _).symm hat rfl c
theorem over_byte (p : List Nat) (t : Nat) (hp : ∀ z ∈ p, z < 256) : ∀ z ∈ over p t, z < 256 := by
  intro z hz
  obtain ⟨j, hj, rfl⟩ := List.getElem_of_mem hz
  have hj2 : j < p.length := by rw [over_len] at hj; exact hj
  have := over_get p t j hj2
  rw [List.getElem?_eq_getElem hj] at this
  have h1 := hp p[j] (List.getElem_mem _)
  have e := Option.some.inj this
  rw [e]
  exact Nat.xor_lt_two_pow (n := 8) (by omega) (by omega)
end Go.Proofs.Ytnnofcfagdbafaa.Burm
