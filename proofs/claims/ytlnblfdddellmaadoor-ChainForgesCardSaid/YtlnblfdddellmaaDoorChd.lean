/-
  The digits of a sum, on plain lists: of two unlike sums each has a digit that is lower than the other one's.
-/
import Derived.Test.YtlnblfdddellmaaDoorZcl
import Derived.Test.YtlnblfdddellmaaDoorPkc
namespace Go.Proofs.YtlnblfdddellmaaDoor
open Go.RowKit
set_option linter.unusedVariables false
namespace Dg
def nib : List Nat → List Nat
  | [] => []
  | b :: m => b / 16 :: b % 16 :: nib m
def left : List Nat → Nat
  | [] => 0
  | b :: m => (30 - b / 16 - b % 16) + left m
def tail (s : Nat) : List Nat := [s / 256, s / 16 % 16, s % 16]
def digs (m : List Nat) : List Nat := nib m ++ tail (left m)
theorem nib_len (m : List Nat) : (nib m).length = 2 * m.length := by
  induction m with
  | nil => rfl
  | cons b m ih => simp only [nib, List.length_cons, ih]; omega
theorem digs_len (m : List Nat) : (digs m).length = 2 * m.length + 3 := by
  simp [digs, nib_len, tail]
theorem nib_app (a b : List Nat) : nib (a ++ b) = nib a ++ nib b := by
  induction a with
  | nil => rfl
  | cons x a ih => simp only [List.cons_append, nib, ih]
theorem left_app (a b : List Nat) : left (a ++ b) = left a + left b := by
  induction a with
  | nil => simp [left]
  | cons x a ih => simp only [List.cons_append, left, ih]; omega
theorem left_le (m : List Nat) : left m ≤ 30 * m.length := by
  induction m with
  | nil => simp [left]
  | cons x a ih => simp only [left, List.length_cons]; omega
theorem nib_lt (m : List Nat) (hm : ∀ z ∈ m, z < 256) : ∀ z ∈ nib m, z < 16 := by
  induction m with
  | nil => simp [nib]
  | cons b m ih =>
    intro z hz
    have hb := hm b (List.mem_cons_self ..)
    simp only [nib, List.mem_cons] at hz
    rcases hz with rfl | rfl | h
    · omega
    · omega
    · exact ih (fun x hx => hm x (List.mem_cons_of_mem _ hx)) z h
theorem digs_lt (m : List Nat) (hl : m.length = 32) (hm : ∀ z ∈ m, z < 256) : ∀ z ∈ digs m, z < 16 := by
  intro z hz
  have hs := left_le m
  simp only [digs, tail, List.mem_append, List.mem_cons, List.not_mem_nil, or_false] at hz
  rcases hz with h | rfl | rfl | rfl
  · exact nib_lt m hm z h
  · omega
  · omega
  · omega
def low (x y : List Nat) : Nat → Bool
  | 0 => false
  | k + 1 => low x y k || decide (x.getD k 0 < y.getD k 0)
theorem low_false {x y : List Nat} {k : Nat} (h : low x y k = false) : ∀ i, i < k → y.getD i 0 ≤ x.getD i 0 := by
  induction k with
  | zero => intro i hi; omega
  | succ k ih =>
    simp only [low, Bool.or_eq_false_iff, decide_eq_false_iff_not] at h
    intro i hi
    by_cases hk : i = k
    · subst hk; omega
    · exact ih h.1 i (by omega)
theorem low_self (x : List Nat) (k : Nat) : low x x k = false := by
  induction k with
  | zero => rfl
  | succ k ih => simp [low, ih]
theorem sums (a b : List Nat) (hl : a.length = b.length) (ha : ∀ z ∈ a, z < 256) (hb : ∀ z ∈ b, z < 256) (h : ∀ i, i < 2 * a.length → (nib b).getD i 0 ≤ (nib a).getD i 0) : left a ≤ left b ∧ (left a = left b → a = b) := by
  induction a generalizing b with
  | nil =>
    cases b with
    | nil => exact ⟨Nat.le_refl _, fun _ => rfl⟩
    | cons y b => simp at hl
  | cons x a ih =>
    cases b with
    | nil => simp at hl
    | cons y b =>
      have h0 := h 0 (by simp only [List.length_cons]; omega)
      have h1 := h 1 (by simp only [List.length_cons]; omega)
      have hx := ha x (List.mem_cons_self ..)
      have hy := hb y (List.mem_cons_self ..)
      obtain ⟨i1, i2⟩ := ih b (by simpa using hl) (fun z hz => ha z (List.mem_cons_of_mem _ hz)) (fun z hz => hb z (List.mem_cons_of_mem _ hz)) (fun i hi => by
        have := h (i + 1 + 1) (by simp only [List.length_cons]; omega)
        simpa only [nib, List.getD_cons_succ] using this)
      simp only [nib, List.getD_cons_zero, List.getD_cons_succ] at h0 h1
      simp only [left]
      refine ⟨by omega, fun e => ?_⟩
      rw [i2 (by omega), show x = y by omega]
theorem getD_app_left (a b : List Nat) (i : Nat) (h : i < a.length) : (a ++ b).getD i 0 = a.getD i 0 := by
  simp only [List.getD_eq_getElem?_getD]
  rw [List.getElem?_append_left h]
theorem getD_app_right (a b : List Nat) (i : Nat) : (a ++ b).getD (a.length + i) 0 = b.getD i 0 := by
  simp only [List.getD_eq_getElem?_getD]
  rw [List.getElem?_append_right (by omega), Nat.add_sub_cancel_left]
theorem low_ne (a b : List Nat) (hl : a.length = 32) (hl' : b.length = 32) (ha : ∀ z ∈ a, z < 256) (hb : ∀ z ∈ b, z < 256) (hne : a ≠ b) : low (digs a) (digs b) 67 = true := by
  cases h : low (digs a) (digs b) 67 with
  | true => rfl
  | false =>
    exfalso
    have hi := low_false h
    have hna := nib_len a
    have hnb := nib_len b
    obtain ⟨h1, h2⟩ := sums a b (by omega) ha hb (fun i h => by
      have := hi i (by omega)
      rwa [digs, digs, getD_app_left _ _ _ (by omega), getD_app_left _ _ _ (by omega)] at this)
    have key : ∀ i, i < 3 → (tail (left b)).getD i 0 ≤ (tail (left a)).getD i 0 := fun i h => by
      have := hi (64 + i) (by omega)
      have e1 : 64 = (nib a).length := by omega
      have e2 : 64 = (nib b).length := by omega
      rw [digs, digs] at this
      conv at this => lhs; rw [e2]
      conv at this => rhs; rw [e1]
      rwa [getD_app_right, getD_app_right] at this
    have k0 := key 0 (by omega)
    have k1 := key 1 (by omega)
    have k2 := key 2 (by omega)
    simp only [tail, List.getD_cons_zero, List.getD_cons_succ] at k0 k1 k2
    exact hne (h2 (by omega))
theorem low_eq (a b : List Nat) (hl : a.length = 32) (hl' : b.length = 32) (ha : ∀ z ∈ a, z < 256) (hb : ∀ z ∈ b, z < 256) : low (digs a) (digs b) 67 = !decide (a = b) := by
  by_cases h : a = b
  · subst h; rw [low_self]; simp
  · rw [low_ne a b hl hl' ha hb h]; simp [h]
end Dg
end Go.Proofs.YtlnblfdddellmaaDoor
