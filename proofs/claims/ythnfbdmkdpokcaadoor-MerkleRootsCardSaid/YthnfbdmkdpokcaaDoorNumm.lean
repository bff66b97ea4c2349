/-
  Numbers and their bytes, on plain lists.
-/
import Derived.RowKit
import Derived.Laws.BitsAllLaws
namespace Go.Proofs.YthnfbdmkdpokcaaDoor.Numm
/-- the number whose bytes these are -/
def num (c : Nat) (zs : List Nat) : Nat := zs.foldl (fun n z => n * 256 + z) c
theorem num_snoc (c : Nat) (zs : List Nat) (k : Nat) (h : k < zs.length) : num c (zs.take (k + 1)) = num c (zs.take k) * 256 + zs[k] := by
  unfold num
  rw [List.take_succ_eq_append_getElem h, List.foldl_append]
  rfl
theorem num_lt (zs : List Nat) (hz : ∀ z ∈ zs, z < 256) : num 0 zs < 256 ^ zs.length := by
  have : ∀ c, num c zs < (c + 1) * 256 ^ zs.length := by
    induction zs with
    | nil => intro c; simp [num]
    | cons z zs ih =>
      intro c
      have h1 := ih (fun x hx => hz x (List.mem_cons_of_mem _ hx)) (c * 256 + z)
      have h2 := hz z List.mem_cons_self
      show num (c * 256 + z) zs < _
      refine Nat.lt_of_lt_of_le h1 ?_
      have e : (c + 1) * 256 ^ (zs.length + 1) = ((c + 1) * 256) * 256 ^ zs.length := by rw [Nat.pow_succ, Nat.mul_comm (256 ^ zs.length) 256, Nat.mul_assoc]
      rw [List.length_cons, e]
      exact Nat.mul_le_mul_right _ (by omega)
  simpa using this 0
theorem num_take_lt (zs : List Nat) (hz : ∀ z ∈ zs, z < 256) (hl : zs.length ≤ 8) (k : Nat) : num 0 (zs.take k) < 18446744073709551616 := by
  have h := num_lt (zs.take k) (fun z hm => hz z (List.mem_of_mem_take hm))
  have h2 : (zs.take k).length ≤ 8 := by rw [List.length_take]; omega
  have h3 : 256 ^ (zs.take k).length ≤ 256 ^ 8 := Nat.pow_le_pow_right (by omega) h2
  omega
/-- before the last byte there is room for one more -/
theorem num_take_lt7 (zs : List Nat) (hz : ∀ z ∈ zs, z < 256) (hl : zs.length ≤ 8) (k : Nat) (hk : k < zs.length) : num 0 (zs.take k) < 72057594037927936 := by
  have h := num_lt (zs.take k) (fun z hm => hz z (List.mem_of_mem_take hm))
  have h2 : (zs.take k).length ≤ 7 := by rw [List.length_take]; omega
  have h3 : 256 ^ (zs.take k).length ≤ 256 ^ 7 := Nat.pow_le_pow_right (by omega) h2
  omega
theorem or_low (n c : Nat) (hc : c < 256) : n * 256 ||| c = n * 256 + c := by
  have := Nat.two_pow_add_eq_or_of_lt (i := 8) hc n
  rw [Nat.mul_comm n 256]
  exact this.symm
/-- the bytes of a number, the most significant first -/
def put (n : Nat) : Nat → List Nat
  | 0 => []
  | k + 1 => put (n / 256) k ++ [n % 256]
theorem put_len (n k : Nat) : (put n k).length = k := by
  induction k generalizing n with
  | zero => rfl
  | succ k ih => simp [put, ih]
theorem put_byte (n k : Nat) : ∀ z ∈ put n k, z < 256 := by
  induction k generalizing n with
  | zero => simp [put]
  | succ k ih =>
    intro z hz
    simp only [put, List.mem_append, List.mem_singleton] at hz
    rcases hz with h | rfl
    · exact ih _ z h
    · omega
theorem put_get (n k i : Nat) (h : i < k) : (put n k).getD i 0 = n / 256 ^ (k - 1 - i) % 256 := by
  induction k generalizing n with
  | zero => omega
  | succ k ih =>
    by_cases hi : i = k
    · subst hi
      simp [put, put_len]
    · have h1 : i < (put (n / 256) k).length := by rw [put_len]; omega
      simp only [put, List.getD_eq_getElem?_getD, List.getElem?_append_left h1]
      have := ih (n / 256) (by omega)
      rw [List.getD_eq_getElem?_getD] at this
      rw [this, Nat.div_div_eq_div_mul, show k + 1 - 1 - i = (k - 1 - i) + 1 by omega, Nat.pow_succ, Nat.mul_comm (256 ^ _) 256]
/-- the first byte ahead -/
theorem put_head (n k : Nat) : put n (k + 1) = (n / 256 ^ k % 256) :: put n k := by
  induction k generalizing n with
  | zero => simp [put]
  | succ k ih =>
    rw [put, ih (n / 256)]
    rw [show put n (k + 1) = put (n / 256) k ++ [n % 256] from rfl]
    rw [Nat.div_div_eq_div_mul, ← Nat.pow_succ', List.cons_append]
theorem num_put (n k : Nat) : num 0 (put n k) = n % 256 ^ k := by
  induction k generalizing n with
  | zero => simp [put, num, Nat.mod_one]
  | succ k ih =>
    have e : num 0 (put (n / 256) k ++ [n % 256]) = num 0 (put (n / 256) k) * 256 + n % 256 := by
      unfold num; rw [List.foldl_append]; rfl
    rw [put, e, ih, Nat.pow_succ, Nat.mul_comm (256 ^ k) 256, Nat.mod_mul]
    omega
end Go.Proofs.YthnfbdmkdpokcaaDoor.Numm
