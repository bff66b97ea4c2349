/-
  Numbers in groups of seven bits, on plain lists: what is written, what is read, why nothing is read.
-/
import Derived.RowKit
import Derived.Laws.BitsAllLaws
namespace Go.Proofs.Ytihbgigledmliaa.Cntm
/-- the groups of n -/
def cnt (n : Nat) : List Nat := if n < 128 then [n] else (n % 128 + 128) :: cnt (n / 128)
theorem cnt_lo {n : Nat} (h : n < 128) : cnt n = [n] := by rw [cnt, if_pos h]
theorem cnt_hi {n : Nat} (h : ¬ n < 128) : cnt n = (n % 128 + 128) :: cnt (n / 128) := by rw [cnt, if_neg h]
theorem cnt_ne (n : Nat) : cnt n ≠ [] := by
  by_cases h : n < 128
  · rw [cnt_lo h]; simp
  · rw [cnt_hi h]; simp
theorem cnt_len (k n : Nat) (h : n < 128 ^ (k + 1)) : (cnt n).length ≤ k + 1 := by
  induction k generalizing n with
  | zero => rw [cnt_lo (by simpa using h)]; simp
  | succ k ih =>
    by_cases hn : n < 128
    · rw [cnt_lo hn]; simp
    · rw [cnt_hi hn]
      have := ih (n / 128) (by rw [Nat.pow_succ] at h; omega)
      simp; omega
theorem cnt_len10 (n : Nat) (h : n < 18446744073709551616) : (cnt n).length ≤ 10 := cnt_len 9 n (by omega)
theorem cnt_byte (n : Nat) : ∀ z ∈ cnt n, z < 256 := by
  induction n using Nat.strongRecOn with
  | _ n ih =>
    intro z hz
    by_cases h : n < 128
    · rw [cnt_lo h] at hz; simp at hz; omega
    · rw [cnt_hi h] at hz
      rcases List.mem_cons.1 hz with e | e
      · omega
      · exact ih (n / 128) (by omega) z e
/-- what is read behind i groups that make n: the number, how many bytes in all, the error -/
def rd : Nat → Nat → List Nat → Nat × Nat × Nat
  | _, _, [] => (0, 0, 9)
  | i, n, c :: r => if (i = 9 ∧ 1 < c) ∨ (0 < i ∧ c = 0) then (0, 0, 10) else if c < 128 then (n + c % 128 * 2 ^ (7 * i), i + 1, 0) else rd (i + 1) (n + c % 128 * 2 ^ (7 * i)) r

theorem pow7 (i : Nat) : 2 ^ (7 * (i + 1)) = 128 * 2 ^ (7 * i) := by
  rw [show 7 * (i + 1) = 7 * i + 7 by omega, Nat.pow_add]; omega

/-- what is read begins with that number's groups -/
theorem rd_ok (zs : List Nat) : ∀ i n x u, (∀ z ∈ zs, z < 256) → rd i n zs = (x, u, 0) → ∃ m, x = n + m * 2 ^ (7 * i) ∧ i < u ∧ u ≤ i + zs.length ∧ zs.take (u - i) = cnt m ∧ (0 < i → 0 < m) := by
  induction zs with
  | nil => intro i n x u _ h; simp [rd] at h
  | cons c r ih =>
    intro i n x u hz h
    rw [rd] at h
    by_cases he : (i = 9 ∧ 1 < c) ∨ (0 < i ∧ c = 0)
    · rw [if_pos he] at h; simp at h
    · rw [if_neg he] at h
      by_cases hc : c < 128
      · rw [if_pos hc] at h
        simp only [Prod.mk.injEq, and_true] at h
        obtain ⟨rfl, rfl⟩ := h
        refine ⟨c, by rw [Nat.mod_eq_of_lt hc], by omega, by simp, ?_, by omega⟩
        rw [show i + 1 - i = 1 by omega, cnt_lo hc]; rfl
      · rw [if_neg hc] at h
        obtain ⟨m, rfl, h1, h2, h3, h4⟩ := ih _ _ _ _ (fun z hz' => hz z (List.mem_cons_of_mem _ hz')) h
        have hc2 := hz c List.mem_cons_self
        refine ⟨c % 128 + 128 * m, ?_, by omega, by simp; omega, ?_, by omega⟩
        · rw [pow7, Nat.add_assoc, Nat.add_mul, ← Nat.mul_assoc, Nat.mul_comm m 128]
        · rw [show u - i = (u - (i + 1)) + 1 by omega, List.take_succ_cons, h3, show cnt (c % 128 + 128 * m) = _ from cnt_hi (by have := h4 (by omega); omega)]
          rw [show (c % 128 + 128 * m) / 128 = m by omega, show (c % 128 + 128 * m) % 128 + 128 = c by omega]

/-- a number's groups are read as that number, whatever stands behind them -/
theorem rd_cnt (m : Nat) : ∀ i n rest, m < 2 ^ (64 - 7 * i) → (0 < i → 0 < m) → rd i n (cnt m ++ rest) = (n + m * 2 ^ (7 * i), i + (cnt m).length, 0) := by
  induction m using Nat.strongRecOn with
  | _ m ih =>
    intro i n rest hm hi
    have hi9 : i ≤ 9 := by
      by_cases h : i ≤ 9
      · exact h
      · have : 64 - 7 * i = 0 := by omega
        rw [this] at hm
        have := hi (by omega)
        omega
    by_cases h : m < 128
    · rw [cnt_lo h]
      simp only [List.cons_append, List.nil_append, rd]
      rw [if_neg, if_pos h, Nat.mod_eq_of_lt h]
      · simp
      · rintro (⟨rfl, h1⟩ | ⟨h1, rfl⟩)
        · simp at hm; omega
        · have := hi h1; omega
    · have h9 : i < 9 := by
        by_cases e : i = 9
        · subst e; simp at hm; omega
        · omega
      rw [cnt_hi h]
      simp only [List.cons_append, rd]
      rw [if_neg (by omega), if_neg (by omega), ih (m / 128) (by omega) (i + 1) _ rest ?_ (by omega)]
      · refine Prod.ext ?_ (Prod.ext ?_ rfl)
        · show n + (m % 128 + 128) % 128 * 2 ^ (7 * i) + m / 128 * 2 ^ (7 * (i + 1)) = n + m * 2 ^ (7 * i)
          rw [pow7, show (m % 128 + 128) % 128 = m % 128 by omega, ← Nat.mul_assoc, Nat.mul_comm (m / 128) 128, Nat.add_assoc, ← Nat.add_mul, Nat.mod_add_div]
        · simp; omega
      · have e : 64 - 7 * i = 7 + (64 - 7 * (i + 1)) := by omega
        rw [e, Nat.pow_add] at hm
        omega
/-- a byte short it ends too early -/
theorem rd_short (m : Nat) : ∀ i n, m < 2 ^ (64 - 7 * i) → (0 < i → 0 < m) → rd i n ((cnt m).take ((cnt m).length - 1)) = (0, 0, 9) := by
  induction m using Nat.strongRecOn with
  | _ m ih =>
    intro i n hm hi
    by_cases h : m < 128
    · rw [cnt_lo h]; simp [rd]
    · have h9 : i < 9 := by
        by_cases e : i < 9
        · exact e
        · have : 64 - 7 * i ≤ 1 := by omega
          have := Nat.pow_le_pow_right (n := 2) (by omega) this
          omega
      rw [cnt_hi h]
      have hl : 0 < (cnt (m / 128)).length := List.length_pos_iff.2 (cnt_ne _)
      rw [show (((m % 128 + 128) :: cnt (m / 128)).length - 1) = ((cnt (m / 128)).length - 1) + 1 by simp; omega, List.take_succ_cons, rd, if_neg (by omega), if_neg (by omega)]
      refine ih (m / 128) (by omega) (i + 1) _ ?_ (by omega)
      have e : 64 - 7 * i = 7 + (64 - 7 * (i + 1)) := by omega
      rw [e, Nat.pow_add] at hm
      omega
/-- one more group: what is known stays below its power -/
theorem step_lt (n c i : Nat) (h : n < 2 ^ (7 * i)) : n + c % 128 * 2 ^ (7 * i) < 2 ^ (7 * (i + 1)) := by
  rw [pow7]
  have : c % 128 * 2 ^ (7 * i) ≤ 127 * 2 ^ (7 * i) := Nat.mul_le_mul_right _ (by omega)
  omega
theorem or_add (n c i : Nat) (h : n < 2 ^ (7 * i)) : n ||| c % 128 * 2 ^ (7 * i) = n + c % 128 * 2 ^ (7 * i) := by
  have := Nat.two_pow_add_eq_or_of_lt h (c % 128)
  rw [Nat.mul_comm (c % 128), Nat.or_comm, ← this, Nat.add_comm]
theorem fits (n c i : Nat) (h : n < 2 ^ (7 * i)) (hi : i ≤ 9) (h9 : ¬ (i = 9 ∧ 1 < c)) : n + c % 128 * 2 ^ (7 * i) < 18446744073709551616 := by
  by_cases e : i = 9
  · subst e
    have : c % 128 ≤ 1 := by omega
    have : c % 128 * 2 ^ (7 * 9) ≤ 1 * 2 ^ (7 * 9) := Nat.mul_le_mul_right _ this
    omega
  · have h1 := step_lt n c i h
    have h2 : 2 ^ (7 * (i + 1)) ≤ 2 ^ 63 := Nat.pow_le_pow_right (by omega) (by omega)
    omega
end Go.Proofs.Ytihbgigledmliaa.Cntm
