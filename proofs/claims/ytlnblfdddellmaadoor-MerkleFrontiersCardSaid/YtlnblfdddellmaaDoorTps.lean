/-
  The tops of a list of sums, plain: one more leaf carries; folded they are the root.
-/
import Derived.Test.YtlnblfdddellmaaDoorFbk
import Derived.Test.YtlnblfdddellmaaDoorOne
namespace Go.Proofs.YtlnblfdddellmaaDoor
open Go.RowKit
set_option linter.unusedVariables false
/-- the roots of the complete subtrees of at most 2 ^ i leaves -/
def topsF : Nat → Ds → Ds
  | 0, _ => []
  | i + 1, l => if 2 ^ i ≤ l.length then rootS (l.take (2 ^ i)) :: topsF i (l.drop (2 ^ i)) else topsF i l
theorem topsF_nil (i : Nat) : topsF i [] = [] := by
  induction i with
  | zero => rfl
  | succ i ih => rw [topsF, if_neg (by have := Nat.two_pow_pos i; simp), ih]
theorem topsF_d32 (i : Nat) : ∀ l : Ds, (∀ d ∈ l, D32 d) → ∀ d ∈ topsF i l, D32 d := by
  induction i with
  | zero => intro l h d hd; cases hd
  | succ i ih =>
    intro l h d hd
    rw [topsF] at hd
    split at hd
    · rcases List.mem_cons.1 hd with rfl | hd
      · exact d32_root _ (d32_take h _)
      · exact ih _ (d32_drop h _) d hd
    · exact ih _ h d hd
theorem ones_top (i : Nat) : ∀ r, r < 2 ^ i → ones (2 ^ i + r) = ones r + 1 := by
  induction i with
  | zero =>
    intro r hr
    obtain rfl : r = 0 := by simpa using hr
    rw [Nat.pow_zero, Nat.add_zero, Onc.ones_any 1, ones_zero]
  | succ i ih =>
    intro r hr
    rw [Nat.pow_succ] at hr ⊢
    rw [Onc.ones_any, Onc.ones_any r, show (2 ^ i * 2 + r) % 2 = r % 2 by omega, show (2 ^ i * 2 + r) / 2 = 2 ^ i + r / 2 by omega, ih (r / 2) (by omega)]
    omega
theorem topsF_len (i : Nat) : ∀ l : Ds, l.length < 2 ^ i → (topsF i l).length = ones l.length := by
  induction i with
  | zero =>
    intro l h
    rw [show l.length = 0 by simpa using h, ones_zero]
    rfl
  | succ i ih =>
    intro l h
    rw [Nat.pow_succ] at h
    rw [topsF]
    split
    · rename_i hl
      rw [List.length_cons, ih _ (by rw [List.length_drop]; omega), List.length_drop]
      have := ones_top i (l.length - 2 ^ i) (by omega)
      rw [show 2 ^ i + (l.length - 2 ^ i) = l.length by omega] at this
      exact this.symm
    · rename_i hl
      exact ih _ (by omega)
theorem ones_ne (n : Nat) (h : 0 < n) : 0 < ones n := by
  induction n using Nat.strongRecOn with
  | ind n ih =>
    rw [Onc.ones_any]
    by_cases h1 : n % 2 = 1
    · omega
    · have := ih (n / 2) (by omega) (by omega)
      omega
/-- folded they are the root -/
theorem topsF_fold (i : Nat) : ∀ l : Ds, 0 < l.length → l.length < 2 ^ i → foldS (topsF i l) = rootS l := by
  induction i with
  | zero => intro l h0 h; simp at h; rw [h] at h0; simp at h0
  | succ i ih =>
    intro l h0 h
    rw [Nat.pow_succ] at h
    have hp := Nat.two_pow_pos i
    rw [topsF]
    split
    · rename_i hl
      by_cases he : l.length = 2 ^ i
      · have e1 : l.drop (2 ^ i) = [] := List.drop_of_length_le (by omega)
        have e2 : l.take (2 ^ i) = l := List.take_of_length_le (by omega)
        rw [e1, e2, topsF_nil, foldS_one]
      · have hd : (l.drop (2 ^ i)).length = l.length - 2 ^ i := List.length_drop ..
        have hne : topsF i (l.drop (2 ^ i)) ≠ [] := fun e => by
          have h1 := topsF_len i (l.drop (2 ^ i)) (by omega)
          rw [e] at h1
          have := ones_ne (l.drop (2 ^ i)).length (by omega)
          simp only [List.length_nil] at h1
          omega
        rw [foldS_more _ _ hne, ih _ (by omega) (by omega), rootS_more l (by omega), Mk.half_eq l.length i (by omega) (by omega)]
    · exact ih _ h0 (by omega)
/-- a carry below a top bit -/
theorem carry_top (i : Nat) : ∀ (r f : Nat) (h top : List Nat) (ds : Ds), r < 2 ^ i → 2 ^ i + r < 2 ^ f → ds.length = ones r →
    carryS f (2 ^ i + r) (h :: ds) top = if r + 1 = 2 ^ i then [nodeS h ((carryS f r ds top).headD [])] else h :: carryS f r ds top := by
  induction i with
  | zero =>
    intro r f h top ds hr hf hl
    obtain rfl : r = 0 := by simpa using hr
    rw [ones_zero] at hl
    obtain rfl : ds = [] := List.eq_nil_of_length_eq_zero hl
    cases f with
    | zero => simp at hf
    | succ f =>
      rw [if_pos (by simp)]
      have e1 : carryS (f + 1) (2 ^ 0 + 0) [h] top = carryS f 0 [] (nodeS h top) := by rw [carryS, if_pos (by simp)]; rfl
      have e2 : ∀ (g : Nat) (t : List Nat), carryS g 0 [] t = [t] := by
        intro g t
        cases g with
        | zero => rfl
        | succ g => rw [carryS, if_neg (by simp)]; rfl
      rw [e1, e2, e2]
      rfl
  | succ i ih =>
    intro r f h top ds hr hf hl
    rw [Nat.pow_succ] at hr hf ⊢
    cases f with
    | zero => simp at hf; have := Nat.two_pow_pos i; omega
    | succ f =>
      rw [Nat.pow_succ] at hf
      by_cases hodd : r % 2 = 1
      · have hl1 : ds.length = ones (r / 2) + 1 := by rw [hl, ones_odd hodd]
        have hdl : ds.length - 1 = ones (r / 2) := by omega
        rw [carryS, if_pos (by omega)]
        have e1 : (h :: ds).take ((h :: ds).length - 1) = h :: ds.take (ds.length - 1) := by
          rw [List.length_cons, Nat.add_sub_cancel]
          obtain ⟨k, hk⟩ : ∃ k, ds.length = k + 1 := ⟨ds.length - 1, by omega⟩
          rw [hk, List.take_succ_cons, Nat.add_sub_cancel]
        have e2 : (h :: ds).getD ((h :: ds).length - 1) [] = ds.getD (ds.length - 1) [] := by
          rw [List.length_cons, Nat.add_sub_cancel]
          obtain ⟨k, hk⟩ : ∃ k, ds.length = k + 1 := ⟨ds.length - 1, by omega⟩
          rw [hk, List.getD_cons_succ, Nat.add_sub_cancel]
        rw [e1, e2, show (2 ^ i * 2 + r) / 2 = 2 ^ i + r / 2 by omega]
        rw [ih (r / 2) f h _ (ds.take (ds.length - 1)) (by omega) (by omega) (by rw [List.length_take]; omega)]
        have e3 : carryS (f + 1) r ds top = carryS f (r / 2) (ds.take (ds.length - 1)) (nodeS (ds.getD (ds.length - 1) []) top) := by rw [carryS, if_pos hodd]
        rw [e3]
        by_cases hq : r / 2 + 1 = 2 ^ i
        · rw [if_pos hq, if_pos (by omega)]
        · rw [if_neg hq, if_neg (by omega)]
      · rw [carryS, if_neg (by omega), if_neg (by omega)]
        rw [show carryS (f + 1) r ds top = ds ++ [top] by rw [carryS, if_neg hodd]]
        rfl
/-- where the leaf fills a tree -/
theorem carry_full (i : Nat) : ∀ (f : Nat) (l : Ds) (x : List Nat), l.length + 1 = 2 ^ i → l.length < 2 ^ f → carryS f l.length (topsF i l) x = [rootS (l ++ [x])] := by
  induction i with
  | zero =>
    intro f l x hl hf
    obtain rfl : l = [] := List.eq_nil_of_length_eq_zero (by simpa using hl)
    rw [topsF_nil, List.nil_append, rootS_one]
    cases f with
    | zero => rfl
    | succ f => show carryS (f + 1) 0 [] x = [x]; rw [carryS, if_neg (by simp)]; rfl
  | succ i ih =>
    intro f l x hl hf
    rw [Nat.pow_succ] at hl
    have hp := Nat.two_pow_pos i
    obtain ⟨r, hr⟩ : ∃ r, r = l.length - 2 ^ i := ⟨_, rfl⟩
    have hd : (l.drop (2 ^ i)).length = r := by rw [List.length_drop, hr]
    rw [topsF, if_pos (by omega)]
    conv => lhs; rw [show l.length = 2 ^ i + r by omega]
    rw [carry_top i r f _ x _ (by omega) (by omega) (by rw [topsF_len i _ (by omega), hd]), if_pos (by omega)]
    have h1 := ih f (l.drop (2 ^ i)) x (by omega) (by omega)
    rw [hd] at h1
    rw [h1, rootS_more (l ++ [x]) (by rw [List.length_append]; simp; omega)]
    have hh : Mk.half (l ++ [x]).length = 2 ^ i := Mk.half_eq _ i (by rw [List.length_append]; simp; omega) (by rw [List.length_append]; simp; omega)
    rw [hh, List.take_append_of_le_length (by omega), List.drop_append_of_le_length (by omega)]
    rfl
/-- one leaf more -/
theorem topsF_add (i : Nat) : ∀ (f : Nat) (l : Ds) (x : List Nat), l.length + 1 < 2 ^ i → l.length < 2 ^ f → carryS f l.length (topsF i l) x = topsF i (l ++ [x]) := by
  induction i with
  | zero => intro f l x h; simp at h
  | succ i ih =>
    intro f l x h hf
    rw [Nat.pow_succ] at h
    have hp := Nat.two_pow_pos i
    have hlx : (l ++ [x]).length = l.length + 1 := by rw [List.length_append]; rfl
    by_cases hl : 2 ^ i ≤ l.length
    · obtain ⟨r, hr⟩ : ∃ r, r = l.length - 2 ^ i := ⟨_, rfl⟩
      have hd : (l.drop (2 ^ i)).length = r := by rw [List.length_drop, hr]
      rw [topsF, if_pos hl, topsF, if_pos (by omega)]
      conv => lhs; rw [show l.length = 2 ^ i + r by omega]
      rw [carry_top i r f _ x _ (by omega) (by omega) (by rw [topsF_len i _ (by omega), hd]), if_neg (by omega)]
      have h1 := ih f (l.drop (2 ^ i)) x (by omega) (by omega)
      rw [hd] at h1
      rw [h1, List.take_append_of_le_length (by omega), List.drop_append_of_le_length (by omega)]
    · rw [topsF, if_neg hl, topsF]
      by_cases he : l.length + 1 = 2 ^ i
      · rw [if_pos (by omega), carry_full i f l x he hf, List.take_of_length_le (by omega), List.drop_of_length_le (by omega), topsF_nil]
      · rw [if_neg (by omega)]
        exact ih f l x (by omega) hf
end Go.Proofs.YtlnblfdddellmaaDoor
