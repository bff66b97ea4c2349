/- The CRC's register on numbers; a burst of 32 bits turns it. -/
import Derived.RowKit
namespace Go.Proofs.Ytihbgigledmliaa.Crcm
/-- one turn of the register, on numbers of any size -/
def s (x : Nat) : Nat := (x >>> 1) ^^^ (if x % 2 = 1 then 3988292384 else 0)
def sN : Nat → Nat → Nat
  | 0, x => x
  | n + 1, x => sN n (s x)
def byte (c : Nat) (b : Nat) : Nat := sN 8 (c ^^^ b)
/-- the register behind the bytes -/
def reg (c : Nat) (l : List Nat) : Nat := l.foldl byte c

theorem s_xor (a b : Nat) : s (a ^^^ b) = s a ^^^ s b := by
  unfold s
  rw [Nat.shiftRight_xor_distrib]
  have h : (a ^^^ b) % 2 = (a % 2 + b % 2) % 2 := by
    have h1 := Nat.xor_mod_two_pow (a := a) (b := b) (n := 1)
    simp only [Nat.pow_one] at h1
    rw [h1]
    rcases Nat.mod_two_eq_zero_or_one a with h | h <;> rcases Nat.mod_two_eq_zero_or_one b with h' | h' <;> rw [h, h'] <;> rfl
  rcases Nat.mod_two_eq_zero_or_one a with h1 | h1 <;> rcases Nat.mod_two_eq_zero_or_one b with h2 | h2 <;> rw [h, h1, h2] <;> simp
  · rw [← Nat.xor_assoc]
  · rw [Nat.xor_assoc, Nat.xor_comm (b >>> 1), ← Nat.xor_assoc]
  · rw [Nat.xor_assoc (a >>> 1), Nat.xor_comm 3988292384 (b >>> 1 ^^^ _), Nat.xor_assoc (b >>> 1)]; simp
theorem s_double (y : Nat) : s (2 * y) = y := by
  unfold s
  rw [Nat.shiftRight_eq_div_pow]
  have : 2 * y % 2 = 0 := by omega
  simp [this]
theorem sN_xor (n a b : Nat) : sN n (a ^^^ b) = sN n a ^^^ sN n b := by
  induction n generalizing a b with
  | zero => rfl
  | succ n ih => simp only [sN]; rw [s_xor, ih]
theorem sN_shift (n y : Nat) : sN n (2 ^ n * y) = y := by
  induction n generalizing y with
  | zero => simp [sN]
  | succ n ih =>
    simp only [sN]
    have : 2 ^ (n + 1) * y = 2 * (2 ^ n * y) := by rw [Nat.pow_succ]; rw [Nat.mul_comm (2 ^ n) 2, Nat.mul_assoc]
    rw [this, s_double, ih]
theorem sN_add (m n x : Nat) : sN (m + n) x = sN n (sN m x) := by
  induction m generalizing x with
  | zero => simp [sN]
  | succ m ih => rw [Nat.succ_add]; simp only [sN]; exact ih _
theorem s_lt (x : Nat) (h : x < 4294967296) : s x < 4294967296 := by
  unfold s
  have h1 : x >>> 1 < 2 ^ 32 := by rw [Nat.shiftRight_eq_div_pow]; omega
  have h2 : (if x % 2 = 1 then 3988292384 else 0) < 2 ^ 32 := by split <;> decide
  exact Nat.xor_lt_two_pow h1 h2
theorem s_ne (x : Nat) (h : x < 4294967296) (h0 : x ≠ 0) : s x ≠ 0 := by
  unfold s
  intro he
  by_cases ho : x % 2 = 1
  · rw [if_pos ho] at he
    have h1 : x >>> 1 = 3988292384 := by
      have := congrArg (· ^^^ 3988292384) he
      simpa [Nat.xor_assoc] using this
    rw [Nat.shiftRight_eq_div_pow] at h1
    omega
  · rw [if_neg ho] at he
    simp [Nat.shiftRight_eq_div_pow] at he
    omega
theorem sN_lt (n x : Nat) (h : x < 4294967296) : sN n x < 4294967296 := by
  induction n generalizing x with
  | zero => exact h
  | succ n ih => exact ih _ (s_lt x h)
theorem sN_ne (n x : Nat) (h : x < 4294967296) (h0 : x ≠ 0) : sN n x ≠ 0 := by
  induction n generalizing x with
  | zero => exact h0
  | succ n ih => exact ih _ (s_lt x h) (s_ne x h h0)
/-- bytes j of a great number -/
def bytesOf : Nat → Nat → List Nat
  | 0, _ => []
  | n + 1, t => t % 256 :: bytesOf n (t / 256)
theorem split256 (t : Nat) : t = (t % 256) ^^^ (2 ^ 8 * (t / 256)) := by
  have h := Nat.two_pow_add_eq_or_of_lt (i := 8) (b := t % 256) (by omega) (t / 256)
  have h2 : 2 ^ 8 * (t / 256) ||| t % 256 = 2 ^ 8 * (t / 256) ^^^ t % 256 := by
    apply Nat.eq_of_testBit_eq
    intro i
    rw [Nat.testBit_or, Nat.testBit_xor]
    rw [Nat.testBit_two_pow_mul]
    by_cases hi : 8 ≤ i
    · have : (t % 256).testBit i = false := Nat.testBit_lt_two_pow (Nat.lt_of_lt_of_le (show t % 256 < 2 ^ 8 by omega) (Nat.pow_le_pow_right (by omega) hi))
      simp [this]
    · simp [hi]
  rw [Nat.xor_comm, ← h2, ← h]
  omega
theorem reg_bytes (n t c : Nat) (h : t < 256 ^ n) : reg c (bytesOf n t) = sN (8 * n) (c ^^^ t) := by
  induction n generalizing t c with
  | zero => have : t = 0 := by simpa using h
            subst this; simp [reg, bytesOf, sN]
  | succ n ih =>
    have e : 8 * (n + 1) = 8 + 8 * n := by omega
    rw [e, sN_add]
    have hs : c ^^^ t = (c ^^^ (t % 256)) ^^^ (2 ^ 8 * (t / 256)) := by rw [Nat.xor_assoc, ← split256]
    rw [hs, sN_xor, sN_shift]
    show reg (byte c (t % 256)) (bytesOf n (t / 256)) = _
    rw [ih _ _ (by rw [Nat.pow_succ] at h; omega)]
    rfl
theorem reg_xor (l m : List Nat) (a b : Nat) (h : l.length = m.length) : reg (a ^^^ b) (List.zipWith (· ^^^ ·) l m) = reg a l ^^^ reg b m := by
  induction l generalizing m a b with
  | nil => cases m with
    | nil => rfl
    | cons _ _ => simp at h
  | cons x l ih => cases m with
    | nil => simp at h
    | cons y m =>
      simp only [List.zipWith_cons_cons, reg, List.foldl_cons]
      have e : byte (a ^^^ b) (x ^^^ y) = byte a x ^^^ byte b y := by
        unfold byte
        rw [← sN_xor]
        congr 1
        rw [Nat.xor_assoc, Nat.xor_assoc, ← Nat.xor_assoc b, Nat.xor_comm b x, Nat.xor_assoc x]
      rw [e]
      exact ih m _ _ (by simpa using h)
/-- THE BURST: bytes that differ by a number of 32 bits, turned to the left by at, have other registers -/
theorem burst (l m : List Nat) (t at_ : Nat) (ht : t < 4294967296) (h0 : t ≠ 0) (hl : l.length = m.length) (hat : at_ + 32 ≤ 8 * l.length)
    (hm : m = List.zipWith (· ^^^ ·) l (bytesOf l.length (2 ^ at_ * t))) (c : Nat) : reg c l ≠ reg c m := by
  intro he
  have hlen : (bytesOf l.length (2 ^ at_ * t)).length = l.length := by
    have : ∀ n t, (bytesOf n t).length = n := by
      intro n; induction n with
      | zero => intro t; rfl
      | succ n ih => intro t; simp [bytesOf, ih]
    exact this _ _
  have h1 := reg_xor l (bytesOf l.length (2 ^ at_ * t)) c 0 hlen.symm
  rw [← hm, Nat.xor_zero] at h1
  rw [h1] at he
  have h2 : reg 0 (bytesOf l.length (2 ^ at_ * t)) = 0 := by
    have := congrArg (reg c l ^^^ ·) he
    simpa [← Nat.xor_assoc] using this.symm
  rw [reg_bytes] at h2
  · rw [Nat.zero_xor] at h2
    have e : 8 * l.length = at_ + (8 * l.length - at_) := by omega
    rw [e, sN_add, sN_shift] at h2
    exact sN_ne _ _ ht h0 h2
  · have : (256 : Nat) ^ l.length = 2 ^ (8 * l.length) := by rw [show (256 : Nat) = 2 ^ 8 from rfl, ← Nat.pow_mul]
    rw [this]
    have e : 8 * l.length = at_ + 32 + (8 * l.length - at_ - 32) := by omega
    rw [e, Nat.pow_add, Nat.pow_add]
    have : 2 ^ at_ * t < 2 ^ at_ * 2 ^ 32 := Nat.mul_lt_mul_of_pos_left (by omega) (Nat.pow_pos (by omega))
    exact Nat.lt_of_lt_of_le this (Nat.le_mul_of_pos_right _ (Nat.pow_pos (by omega)))
end Go.Proofs.Ytihbgigledmliaa.Crcm
