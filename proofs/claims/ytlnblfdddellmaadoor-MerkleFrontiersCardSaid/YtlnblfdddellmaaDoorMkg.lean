/-
  What a proof tells of two roots, on plain lists.
-/
import Derived.Test.YtlnblfdddellmaaDoorMkm
namespace Go.Proofs.YtlnblfdddellmaaDoor.Mk
set_option linter.unusedVariables false
section
variable (N : D → D → D)
/-- both roots that a proof tells, and what is left of it -/
def grow (old : D) (m n : Nat) (whole : Bool) (way : List D) : Option (D × D × List D) :=
  if m = n ∨ n < 2 then (if whole then some (old, old, way) else match way with
    | [] => none
    | x :: r => some (x, x, r)) else
    if m ≤ half n then
      match grow old m (half n) whole way with
      | some (a, b, x :: r) => some (a, N b x, r)
      | _ => none
    else
      match grow old (m - half n) (n - half n) false way with
      | some (a, b, x :: r) => some (N x a, N x b, r)
      | _ => none
termination_by n
decreasing_by
  · exact half_lt n (by omega)
  · have := half_pos n; omega
theorem grow_whole (old : D) (n : Nat) (way : List D) : grow N old n n true way = some (old, old, way) := by rw [grow.eq_def, if_pos (.inl rfl)]; rfl
theorem grow_part (old : D) (n : Nat) (way : List D) : grow N old n n false way = match way with
    | [] => none
    | x :: r => some (x, x, r) := by rw [grow.eq_def, if_pos (.inl rfl)]; rfl
theorem grow_left (old : D) (m n : Nat) (whole : Bool) (way : List D) (h2 : 2 ≤ n) (hm : m ≠ n) (hi : m ≤ half n) : grow N old m n whole way = match grow N old m (half n) whole way with
      | some (a, b, x :: r) => some (a, N b x, r)
      | _ => none := by rw [grow.eq_def, if_neg (by omega), if_pos hi]
theorem grow_right (old : D) (m n : Nat) (whole : Bool) (way : List D) (h2 : 2 ≤ n) (hm : m ≠ n) (hi : ¬ m ≤ half n) : grow N old m n whole way = match grow N old (m - half n) (n - half n) false way with
      | some (a, b, x :: r) => some (N x a, N x b, r)
      | _ => none := by rw [grow.eq_def, if_neg (by omega), if_neg hi]
theorem grow_app (n : Nat) : ∀ (old : D) (m : Nat) (whole : Bool) (way : List D) (a b : D) (r : List D), 1 ≤ m → m ≤ n → grow N old m n whole way = some (a, b, r) → ∃ p, way = p ++ r ∧ ∀ v, grow N old m n whole (p ++ v) = some (a, b, v) := by
  induction n using Nat.strongRecOn with
  | ind n ih =>
    intro old m whole way a b r h1 hm h
    by_cases he : m = n
    · subst he
      cases whole with
      | true =>
        rw [grow_whole] at h
        simp only [Option.some.injEq, Prod.mk.injEq] at h
        obtain ⟨rfl, rfl, rfl⟩ := h
        exact ⟨[], rfl, fun v => grow_whole _ _ _ _⟩
      | false =>
        rw [grow_part] at h
        cases way with
        | nil => simp at h
        | cons x q =>
          simp only [Option.some.injEq, Prod.mk.injEq] at h
          obtain ⟨rfl, rfl, rfl⟩ := h
          exact ⟨[x], rfl, fun v => by rw [grow_part]; rfl⟩
    · have h2 : 2 ≤ n := by omega
      by_cases hi : m ≤ half n
      · rw [grow_left _ _ _ _ _ _ h2 he hi] at h
        cases hu : grow N old m (half n) whole way with
        | none => simp [hu] at h
        | some q =>
          obtain ⟨a', b', r'⟩ := q
          cases r' with
          | nil => simp [hu] at h
          | cons x r' =>
            simp only [hu, Option.some.injEq, Prod.mk.injEq] at h
            obtain ⟨rfl, rfl, rfl⟩ := h
            obtain ⟨p, rfl, hp⟩ := ih (half n) (half_lt n h2) old m whole way a' b' _ h1 hi hu
            refine ⟨p ++ [x], by simp, fun v => ?_⟩
            rw [grow_left _ _ _ _ _ _ h2 he hi, List.append_assoc, hp]
            rfl
      · rw [grow_right _ _ _ _ _ _ h2 he hi] at h
        cases hu : grow N old (m - half n) (n - half n) false way with
        | none => simp [hu] at h
        | some q =>
          obtain ⟨a', b', r'⟩ := q
          cases r' with
          | nil => simp [hu] at h
          | cons x r' =>
            simp only [hu, Option.some.injEq, Prod.mk.injEq] at h
            obtain ⟨rfl, rfl, rfl⟩ := h
            obtain ⟨p, rfl, hp⟩ := ih (n - half n) (by have := half_pos n; omega) old (m - half n) false way a' b' _ (by omega) (by omega) hu
            refine ⟨p ++ [x], by simp, fun v => ?_⟩
            rw [grow_right _ _ _ _ _ _ h2 he hi, List.append_assoc, hp]
            rfl
/-- what a proof of just the right length tells -/
def both (old : D) (m n : Nat) (whole : Bool) (way : List D) : Option (D × D) :=
  match grow N old m n whole way with
  | some (a, b, []) => some (a, b)
  | _ => none
theorem both_eq (old : D) (m n : Nat) (whole : Bool) (way : List D) (a b : D) : both N old m n whole way = some (a, b) ↔ grow N old m n whole way = some (a, b, []) := by
  unfold both
  split <;> rename_i h
  · rw [h]; simp
  · constructor
    · intro h; cases h
    · intro hd; exact absurd hd (h a b)
theorem both_whole (old : D) (n : Nat) (way : List D) : both N old n n true way = if way = [] then some (old, old) else none := by
  unfold both
  rw [grow_whole]
  cases way <;> simp
theorem both_part (old : D) (n : Nat) (way : List D) : both N old n n false way = match way with
    | [x] => some (x, x)
    | _ => none := by
  unfold both
  rw [grow_part]
  match way with
  | [] => rfl
  | [x] => rfl
  | x :: y :: r => rfl
theorem both_nil (old : D) (m n : Nat) (whole : Bool) (h1 : 1 ≤ m) (hm : m ≤ n) (h : m ≠ n ∨ whole = false) : both N old m n whole [] = none := by
  cases hb : both N old m n whole [] with
  | none => rfl
  | some q =>
    obtain ⟨a, b⟩ := q
    rw [both_eq] at hb
    by_cases he : m = n
    · subst he
      obtain h | rfl := h
      · exact absurd rfl h
      · rw [grow_part] at hb; simp at hb
    · have h2 : 2 ≤ n := by omega
      by_cases hi : m ≤ half n
      · rw [grow_left _ _ _ _ _ _ h2 he hi] at hb
        cases hu : grow N old m (half n) whole [] with
        | none => simp [hu] at hb
        | some q =>
          obtain ⟨a', b', r⟩ := q
          obtain ⟨p, hp, _⟩ := grow_app _ _ _ _ _ _ _ _ _ h1 hi hu
          have : r = [] := by
            have := congrArg List.length hp
            simp at this
            exact List.eq_nil_of_length_eq_zero (by omega)
          subst this
          simp [hu] at hb
      · rw [grow_right _ _ _ _ _ _ h2 he hi] at hb
        cases hu : grow N old (m - half n) (n - half n) false [] with
        | none => simp [hu] at hb
        | some q =>
          obtain ⟨a', b', r⟩ := q
          obtain ⟨p, hp, _⟩ := grow_app _ _ _ _ _ _ _ _ _ (by omega) (by omega) hu
          have : r = [] := by
            have := congrArg List.length hp
            simp at this
            exact List.eq_nil_of_length_eq_zero (by omega)
          subst this
          simp [hu] at hb
theorem both_left (old : D) (m n : Nat) (whole : Bool) (w : List D) (x : D) (h1 : 1 ≤ m) (hm : m < n) (hi : m ≤ half n) : both N old m n whole (w ++ [x]) = (both N old m (half n) whole w).map fun q => (q.1, N q.2 x) := by
  apply Option.ext
  rintro ⟨a, b⟩
  rw [both_eq, grow_left _ _ _ _ _ _ (by omega) (by omega) hi, Option.map_eq_some_iff]
  constructor
  · intro hh
    cases hu : grow N old m (half n) whole (w ++ [x]) with
    | none => simp [hu] at hh
    | some q =>
      obtain ⟨a', b', r⟩ := q
      cases r with
      | nil => simp [hu] at hh
      | cons y r =>
        simp only [hu, Option.some.injEq, Prod.mk.injEq] at hh
        obtain ⟨rfl, rfl, rfl⟩ := hh
        obtain ⟨p, hp, hv⟩ := grow_app _ _ _ _ _ _ _ _ _ h1 hi hu
        have e := List.append_inj' hp rfl
        obtain ⟨rfl, e2⟩ := e
        obtain rfl : x = y := by simpa using e2
        refine ⟨(a', b'), (both_eq _ _ _ _ _ _ _ _).2 ?_, rfl⟩
        have := hv []
        rwa [List.append_nil] at this
  · rintro ⟨⟨a', b'⟩, ht, hab⟩
    simp only [Prod.mk.injEq] at hab
    obtain ⟨rfl, rfl⟩ := hab
    rw [both_eq] at ht
    obtain ⟨p, hp, hv⟩ := grow_app _ _ _ _ _ _ _ _ _ h1 hi ht
    rw [List.append_nil] at hp
    subst hp
    rw [hv]
theorem both_right (old : D) (m n : Nat) (whole : Bool) (w : List D) (x : D) (h1 : 1 ≤ m) (hm : m < n) (hi : ¬ m ≤ half n) : both N old m n whole (w ++ [x]) = (both N old (m - half n) (n - half n) false w).map fun q => (N x q.1, N x q.2) := by
  apply Option.ext
  rintro ⟨a, b⟩
  rw [both_eq, grow_right _ _ _ _ _ _ (by omega) (by omega) hi, Option.map_eq_some_iff]
  constructor
  · intro hh
    cases hu : grow N old (m - half n) (n - half n) false (w ++ [x]) with
    | none => simp [hu] at hh
    | some q =>
      obtain ⟨a', b', r⟩ := q
      cases r with
      | nil => simp [hu] at hh
      | cons y r =>
        simp only [hu, Option.some.injEq, Prod.mk.injEq] at hh
        obtain ⟨rfl, rfl, rfl⟩ := hh
        obtain ⟨p, hp, hv⟩ := grow_app _ _ _ _ _ _ _ _ _ (by omega) (by omega) hu
        have e := List.append_inj' hp rfl
        obtain ⟨rfl, e2⟩ := e
        obtain rfl : x = y := by simpa using e2
        refine ⟨(a', b'), (both_eq _ _ _ _ _ _ _ _).2 ?_, rfl⟩
        have := hv []
        rwa [List.append_nil] at this
  · rintro ⟨⟨a', b'⟩, ht, hab⟩
    simp only [Prod.mk.injEq] at hab
    obtain ⟨rfl, rfl⟩ := hab
    rw [both_eq] at ht
    obtain ⟨p, hp, hv⟩ := grow_app _ _ _ _ _ _ _ _ _ (by omega) (by omega) ht
    rw [List.append_nil] at hp
    subst hp
    rw [hv]
/-- the proof of the first m leaves tells both roots -/
theorem both_proof (E : D) (n : Nat) : ∀ (l : List D) (m : Nat) (whole : Bool) (old : D), l.length = n → 1 ≤ m → m ≤ n → (whole = true → old = root E N (l.take m)) → both N old m n whole (part E N l m whole) = some (root E N (l.take m), root E N l) := by
  induction n using Nat.strongRecOn with
  | ind n ih =>
    intro l m whole old hl h1 hm ho
    by_cases he : m = n
    · subst he
      rw [← hl, part_all, List.take_length]
      cases whole with
      | true => rw [hl]; simp only [if_true]; rw [both_whole, if_pos rfl, ho rfl, ← hl, List.take_length]
      | false => rw [hl]; simp only [Bool.false_eq_true, if_false]; rw [both_part]
    · have h2 : 2 ≤ n := by omega
      have hk := half_lt n h2
      have hp := half_pos n
      have h2k := half_two n h2
      by_cases hi : m ≤ half n
      · rw [part_left _ _ _ _ _ (by omega) (by omega) (by rw [hl]; exact hi), hl, both_left _ _ _ _ _ _ _ h1 (by omega) hi]
        have := ih (half n) hk (l.take (half n)) m whole old (by rw [List.length_take]; omega) h1 hi (by rw [List.take_take, Nat.min_eq_left hi]; exact ho)
        rw [this, Option.map_some, List.take_take, Nat.min_eq_left hi, root_more E N l (by omega), hl]
      · rw [part_right _ _ _ _ _ (by omega) (by omega) (by rw [hl]; exact hi), hl, both_right _ _ _ _ _ _ _ h1 (by omega) hi]
        have := ih (n - half n) (by omega) (l.drop (half n)) (m - half n) false old (by rw [List.length_drop]; omega) (by omega) (by omega) (by simp)
        have hm2 : half m = half n := half_eq m (Nat.log2 (n - 1)) (by show half n < m; omega) (by show m ≤ 2 * half n; omega)
        have ht : root E N (l.take m) = N (root E N (l.take (half n))) (root E N ((l.drop (half n)).take (m - half n))) := by
          have hlm : (l.take m).length = m := by rw [List.length_take]; omega
          rw [root_more E N (l.take m) (by omega), hlm, hm2, List.take_take, Nat.min_eq_left (by omega), List.drop_take]
        rw [this, Option.map_some, ht, root_more E N l (by omega), hl]
end
end Go.Proofs.YtlnblfdddellmaaDoor.Mk
