/-
  Merkle trees on plain lists, over any function for a node and any sum of nothing.
-/
namespace Go.Proofs.YtlnblfdddellmaaDoor.Mk
set_option linter.unusedVariables false
abbrev D := List Nat
/-- the greatest power of two below n (n at least 2) -/
def half (n : Nat) : Nat := 2 ^ Nat.log2 (n - 1)
theorem half_lt (n : Nat) (h : 2 ≤ n) : half n < n := by
  have := Nat.log2_self_le (n := n - 1) (by omega)
  unfold half; omega
theorem half_pos (n : Nat) : 0 < half n := Nat.two_pow_pos _
theorem half_two (n : Nat) (h : 2 ≤ n) : n ≤ 2 * half n := by
  have := Nat.lt_log2_self (n := n - 1)
  unfold half; rw [Nat.pow_succ] at this; omega
theorem half_eq (n e : Nat) (h1 : 2 ^ e < n) (h2 : n ≤ 2 * 2 ^ e) : half n = 2 ^ e := by
  unfold half
  congr 1
  refine (Nat.log2_eq_iff (by omega)).2 ⟨by omega, by rw [Nat.pow_succ]; omega⟩
section
variable (E : D) (N : D → D → D)
def root (l : List D) : D :=
  if h : l.length < 2 then l.headD E else N (root (l.take (half l.length))) (root (l.drop (half l.length)))
termination_by l.length
decreasing_by
  · have := half_lt l.length (by omega); rw [List.length_take]; omega
  · have := half_pos l.length; rw [List.length_drop]; omega
theorem root_nil : root E N [] = E := by rw [root]; rfl
theorem root_one (d : D) : root E N [d] = d := by rw [root]; rfl
theorem root_more (l : List D) (h : 2 ≤ l.length) : root E N l = N (root E N (l.take (half l.length))) (root E N (l.drop (half l.length))) := by
  rw [root, dif_neg (by omega)]
def path (l : List D) (i : Nat) : List D :=
  if h : l.length < 2 then [] else
    if i < half l.length then path (l.take (half l.length)) i ++ [root E N (l.drop (half l.length))]
    else path (l.drop (half l.length)) (i - half l.length) ++ [root E N (l.take (half l.length))]
termination_by l.length
decreasing_by
  · have := half_lt l.length (by omega); rw [List.length_take]; omega
  · have := half_pos l.length; rw [List.length_drop]; omega
theorem path_less (l : List D) (i : Nat) (h : l.length < 2) : path E N l i = [] := by rw [path, dif_pos h]
theorem path_left (l : List D) (i : Nat) (h : 2 ≤ l.length) (hi : i < half l.length) : path E N l i = path E N (l.take (half l.length)) i ++ [root E N (l.drop (half l.length))] := by
  rw [path, dif_neg (by omega), if_pos hi]
theorem path_right (l : List D) (i : Nat) (h : 2 ≤ l.length) (hi : ¬ i < half l.length) : path E N l i = path E N (l.drop (half l.length)) (i - half l.length) ++ [root E N (l.take (half l.length))] := by
  rw [path, dif_neg (by omega), if_neg hi]
/-- P(m, n, whole) -/
def part (l : List D) (m : Nat) (whole : Bool) : List D :=
  if m = l.length ∨ l.length < 2 then (if whole then [] else [root E N l]) else
    if m ≤ half l.length then part (l.take (half l.length)) m whole ++ [root E N (l.drop (half l.length))]
    else part (l.drop (half l.length)) (m - half l.length) false ++ [root E N (l.take (half l.length))]
termination_by l.length
decreasing_by
  · have := half_lt l.length (by omega); rw [List.length_take]; omega
  · have := half_pos l.length; rw [List.length_drop]; omega
theorem part_all (l : List D) (whole : Bool) : part E N l l.length whole = if whole then [] else [root E N l] := by rw [part, if_pos (.inl rfl)]
theorem part_left (l : List D) (m : Nat) (whole : Bool) (h : 2 ≤ l.length) (hm : m ≠ l.length) (hi : m ≤ half l.length) : part E N l m whole = part E N (l.take (half l.length)) m whole ++ [root E N (l.drop (half l.length))] := by
  rw [part, if_neg (by omega), if_pos hi]
theorem part_right (l : List D) (m : Nat) (whole : Bool) (h : 2 ≤ l.length) (hm : m ≠ l.length) (hi : ¬ m ≤ half l.length) : part E N l m whole = part E N (l.drop (half l.length)) (m - half l.length) false ++ [root E N (l.take (half l.length))] := by
  rw [part, if_neg (by omega), if_neg hi]
/-- the root that a way tells, and what is left of the way -/
def up (n i : Nat) (leaf : D) (way : List D) : Option (D × List D) :=
  if n < 2 then some (leaf, way) else
    if i < half n then
      match up (half n) i leaf way with
      | some (d, x :: r) => some (N d x, r)
      | _ => none
    else
      match up (n - half n) (i - half n) leaf way with
      | some (d, x :: r) => some (N x d, r)
      | _ => none
termination_by n
decreasing_by
  · exact half_lt n (by omega)
  · have := half_pos n; omega
theorem up_less (n i : Nat) (leaf : D) (way : List D) (h : n < 2) : up N n i leaf way = some (leaf, way) := by rw [up, if_pos h]
theorem up_left (n i : Nat) (leaf : D) (way : List D) (h : 2 ≤ n) (hi : i < half n) : up N n i leaf way = match up N (half n) i leaf way with
      | some (d, x :: r) => some (N d x, r)
      | _ => none := by rw [up, if_neg (by omega), if_pos hi]
theorem up_right (n i : Nat) (leaf : D) (way : List D) (h : 2 ≤ n) (hi : ¬ i < half n) : up N n i leaf way = match up N (n - half n) (i - half n) leaf way with
      | some (d, x :: r) => some (N x d, r)
      | _ => none := by rw [up, if_neg (by omega), if_neg hi]
/-- what is left is the way's end, and what stands behind turns nothing -/
theorem up_app (n : Nat) : ∀ (i : Nat) (leaf : D) (way : List D) (d : D) (r : List D), up N n i leaf way = some (d, r) → ∃ p, way = p ++ r ∧ ∀ v, up N n i leaf (p ++ v) = some (d, v) := by
  induction n using Nat.strongRecOn with
  | ind n ih =>
    intro i leaf way d r h
    by_cases h2 : n < 2
    · rw [up_less _ _ _ _ _ h2] at h
      simp only [Option.some.injEq, Prod.mk.injEq] at h
      obtain ⟨rfl, rfl⟩ := h
      exact ⟨[], rfl, fun v => up_less _ _ _ _ _ h2⟩
    · by_cases hi : i < half n
      · rw [up_left _ _ _ _ _ (by omega) hi] at h
        cases hu : up N (half n) i leaf way with
        | none => simp [hu] at h
        | some q =>
          obtain ⟨d', r'⟩ := q
          cases r' with
          | nil => simp [hu] at h
          | cons x r' =>
            simp only [hu, Option.some.injEq, Prod.mk.injEq] at h
            obtain ⟨rfl, rfl⟩ := h
            obtain ⟨p, rfl, hp⟩ := ih (half n) (half_lt n (by omega)) i leaf way d' _ hu
            refine ⟨p ++ [x], by simp, fun v => ?_⟩
            rw [up_left _ _ _ _ _ (by omega) hi, List.append_assoc, hp]
            rfl
      · rw [up_right _ _ _ _ _ (by omega) hi] at h
        cases hu : up N (n - half n) (i - half n) leaf way with
        | none => simp [hu] at h
        | some q =>
          obtain ⟨d', r'⟩ := q
          cases r' with
          | nil => simp [hu] at h
          | cons x r' =>
            simp only [hu, Option.some.injEq, Prod.mk.injEq] at h
            obtain ⟨rfl, rfl⟩ := h
            obtain ⟨p, rfl, hp⟩ := ih (n - half n) (by have := half_pos n; omega) (i - half n) leaf way d' _ hu
            refine ⟨p ++ [x], by simp, fun v => ?_⟩
            rw [up_right _ _ _ _ _ (by omega) hi, List.append_assoc, hp]
            rfl
/-- what a way of just the right length tells -/
def top (n i : Nat) (leaf : D) (way : List D) : Option D :=
  match up N n i leaf way with
  | some (d, []) => some d
  | _ => none
theorem top_eq (n i : Nat) (leaf : D) (way : List D) (d : D) : top N n i leaf way = some d ↔ up N n i leaf way = some (d, []) := by
  unfold top
  split <;> rename_i h
  · rw [h]; simp
  · constructor
    · intro h; cases h
    · intro hd; exact absurd hd (h d)
theorem top_less (n i : Nat) (leaf : D) (way : List D) (h : n < 2) : top N n i leaf way = if way = [] then some leaf else none := by
  unfold top
  rw [up_less _ _ _ _ _ h]
  cases way <;> simp
theorem top_nil (n i : Nat) (leaf : D) (h : 2 ≤ n) : top N n i leaf [] = none := by
  cases ht : top N n i leaf [] with
  | none => rfl
  | some d =>
    rw [top_eq] at ht
    by_cases hi : i < half n
    · rw [up_left _ _ _ _ _ h hi] at ht
      cases hu : up N (half n) i leaf [] with
      | none => simp [hu] at ht
      | some q =>
        obtain ⟨d', r⟩ := q
        obtain ⟨p, hp, _⟩ := up_app _ _ _ _ _ _ _ hu
        have : r = [] := by
          have := congrArg List.length hp
          simp at this
          exact List.eq_nil_of_length_eq_zero (by omega)
        subst this
        simp [hu] at ht
    · rw [up_right _ _ _ _ _ h hi] at ht
      cases hu : up N (n - half n) (i - half n) leaf [] with
      | none => simp [hu] at ht
      | some q =>
        obtain ⟨d', r⟩ := q
        obtain ⟨p, hp, _⟩ := up_app _ _ _ _ _ _ _ hu
        have : r = [] := by
          have := congrArg List.length hp
          simp at this
          exact List.eq_nil_of_length_eq_zero (by omega)
        subst this
        simp [hu] at ht
theorem top_left (n i : Nat) (leaf : D) (w : List D) (x : D) (h : 2 ≤ n) (hi : i < half n) : top N n i leaf (w ++ [x]) = (top N (half n) i leaf w).map fun d => N d x := by
  apply Option.ext
  intro d
  rw [top_eq, up_left _ _ _ _ _ h hi, Option.map_eq_some_iff]
  constructor
  · intro hh
    cases hu : up N (half n) i leaf (w ++ [x]) with
    | none => simp [hu] at hh
    | some q =>
      obtain ⟨d', r⟩ := q
      cases r with
      | nil => simp [hu] at hh
      | cons y r =>
        simp only [hu, Option.some.injEq, Prod.mk.injEq] at hh
        obtain ⟨rfl, rfl⟩ := hh
        obtain ⟨p, hp, hv⟩ := up_app _ _ _ _ _ _ _ hu
        have e := List.append_inj' hp rfl
        obtain ⟨rfl, e2⟩ := e
        obtain rfl : x = y := by simpa using e2
        refine ⟨d', (top_eq _ _ _ _ _ _).2 ?_, rfl⟩
        have := hv []
        rwa [List.append_nil] at this
  · rintro ⟨d', ht, rfl⟩
    rw [top_eq] at ht
    obtain ⟨p, hp, hv⟩ := up_app _ _ _ _ _ _ _ ht
    rw [List.append_nil] at hp
    subst hp
    rw [hv]
theorem top_right (n i : Nat) (leaf : D) (w : List D) (x : D) (h : 2 ≤ n) (hi : ¬ i < half n) : top N n i leaf (w ++ [x]) = (top N (n - half n) (i - half n) leaf w).map fun d => N x d := by
  apply Option.ext
  intro d
  rw [top_eq, up_right _ _ _ _ _ h hi, Option.map_eq_some_iff]
  constructor
  · intro hh
    cases hu : up N (n - half n) (i - half n) leaf (w ++ [x]) with
    | none => simp [hu] at hh
    | some q =>
      obtain ⟨d', r⟩ := q
      cases r with
      | nil => simp [hu] at hh
      | cons y r =>
        simp only [hu, Option.some.injEq, Prod.mk.injEq] at hh
        obtain ⟨rfl, rfl⟩ := hh
        obtain ⟨p, hp, hv⟩ := up_app _ _ _ _ _ _ _ hu
        have e := List.append_inj' hp rfl
        obtain ⟨rfl, e2⟩ := e
        obtain rfl : x = y := by simpa using e2
        refine ⟨d', (top_eq _ _ _ _ _ _).2 ?_, rfl⟩
        have := hv []
        rwa [List.append_nil] at this
  · rintro ⟨d', ht, rfl⟩
    rw [top_eq] at ht
    obtain ⟨p, hp, hv⟩ := up_app _ _ _ _ _ _ _ ht
    rw [List.append_nil] at hp
    subst hp
    rw [hv]
/-- the way of a leaf leads to the root -/
theorem top_path (n : Nat) : ∀ (l : List D) (i : Nat), l.length = n → i < n → top N n i (l.getD i E) (path E N l i) = some (root E N l) := by
  induction n using Nat.strongRecOn with
  | ind n ih =>
    intro l i hl hi
    by_cases h2 : n < 2
    · rw [path_less _ _ _ _ (by omega), top_less _ _ _ _ _ h2, if_pos rfl]
      match l, hl with
      | [d], hl =>
        obtain rfl : i = 0 := by rw [List.length_singleton] at hl; omega
        rw [root_one]; rfl
      | [], hl => simp at hl; omega
      | _ :: _ :: _, hl => simp at hl; omega
    · have hk := half_lt n (by omega)
      have hp := half_pos n
      rw [root_more _ _ _ (by omega), hl]
      by_cases hik : i < half n
      · rw [path_left _ _ _ _ (by omega) (by rw [hl]; exact hik), hl, top_left _ _ _ _ _ _ (by omega) hik]
        have := ih (half n) hk (l.take (half n)) i (by rw [List.length_take]; omega) hik
        rw [show (l.take (half n)).getD i E = l.getD i E by simp [List.getD_eq_getElem?_getD, hik]] at this
        rw [this]
        rfl
      · rw [path_right _ _ _ _ (by omega) (by rw [hl]; exact hik), hl, top_right _ _ _ _ _ _ (by omega) hik]
        have := ih (n - half n) (by omega) (l.drop (half n)) (i - half n) (by rw [List.length_drop]; omega) (by omega)
        rw [show (l.drop (half n)).getD (i - half n) E = l.getD i E by simp [List.getD_eq_getElem?_getD, List.getElem?_drop, show half n + (i - half n) = i by omega]] at this
        rw [this]
        rfl
end
end Go.Proofs.YtlnblfdddellmaaDoor.Mk
