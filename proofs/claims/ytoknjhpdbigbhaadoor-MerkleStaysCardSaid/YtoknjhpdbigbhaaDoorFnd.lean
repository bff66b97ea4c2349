/-
  What the searches behind MerkleApart and MerkleStays find, on plain lists.
-/
import Derived.Test.YtoknjhpdbigbhaaDoorMpt
import Derived.Test.YtoknjhpdbigbhaaDoorRup
import Derived.Test.YtoknjhpdbigbhaaDoorReb
namespace Go.Proofs.YtoknjhpdbigbhaaDoor
set_option linter.unusedVariables false
def pairL (l r : List Nat) : List Nat := 1 :: (l ++ r)
theorem pairL_inj {a b c d : List Nat} (h : pairL a b = pairL c d) (hl : a.length = c.length) : a = c ∧ b = d := by
  unfold pairL at h
  exact List.append_inj (List.cons.inj h).2 hl
def apartB (a b : List Nat) : Bool := decide (Sha.sum a = Sha.sum b) && decide (a ≠ b)
theorem apart_true {a b c d : List Nat} (h : nodeS a b = nodeS c d) (hl : a.length = c.length) (hne : a ≠ c ∨ b ≠ d) : apartB (pairL a b) (pairL c d) = true := by
  unfold apartB
  rw [decide_eq_true (show Sha.sum (pairL a b) = Sha.sum (pairL c d) from h), decide_eq_true, Bool.and_true]
  intro he
  obtain ⟨h1, h2⟩ := pairL_inj he hl
  rcases hne with h3 | h3
  · exact h3 h1
  · exact h3 h2
/-- the search for two lists of bytes with one sum: of a way that leads from another leaf to the root -/
def findsB (l : Ds) (i : Nat) (leaf : List Nat) (way : Ds) : Bool :=
  if h : l.length < 2 ∨ way.length = 0 then false else
    if i < Mk.half l.length then
      match upS (Mk.half l.length) i leaf (way.take (way.length - 1)) with
      | none => false
      | some (d, _) => if d ≠ rootS (l.take (Mk.half l.length)) ∨ way.getD (way.length - 1) [] ≠ rootS (l.drop (Mk.half l.length)) then apartB (pairL d (way.getD (way.length - 1) [])) (pairL (rootS (l.take (Mk.half l.length))) (rootS (l.drop (Mk.half l.length))))
        else findsB (l.take (Mk.half l.length)) i leaf (way.take (way.length - 1))
    else
      match upS (l.length - Mk.half l.length) (i - Mk.half l.length) leaf (way.take (way.length - 1)) with
      | none => false
      | some (d, _) => if d ≠ rootS (l.drop (Mk.half l.length)) ∨ way.getD (way.length - 1) [] ≠ rootS (l.take (Mk.half l.length)) then apartB (pairL (way.getD (way.length - 1) []) d) (pairL (rootS (l.take (Mk.half l.length))) (rootS (l.drop (Mk.half l.length))))
        else findsB (l.drop (Mk.half l.length)) (i - Mk.half l.length) leaf (way.take (way.length - 1))
termination_by l.length
decreasing_by
  · have := Mk.half_lt l.length (by omega); rw [List.length_take]; omega
  · have := Mk.half_pos l.length; rw [List.length_drop]; omega
theorem last_two (low : Ds) (x : List Nat) : (low ++ [x]).take ((low ++ [x]).length - 1) = low ∧ (low ++ [x]).getD ((low ++ [x]).length - 1) [] = x ∧ (low ++ [x]).length ≠ 0 := by
  have e : (low ++ [x]).length = low.length + 1 := by simp
  rw [e, Nat.add_sub_cancel]
  exact ⟨by rw [List.take_append_of_le_length (Nat.le_refl _), List.take_length], by simp, by omega⟩
theorem finds_left {l : Ds} {i : Nat} {leaf : List Nat} {low : Ds} {x : List Nat} (h2 : 2 ≤ l.length) (hi : i < Mk.half l.length) : findsB l i leaf (low ++ [x]) = match upS (Mk.half l.length) i leaf low with
      | none => false
      | some (d, _) => if d ≠ rootS (l.take (Mk.half l.length)) ∨ x ≠ rootS (l.drop (Mk.half l.length)) then apartB (pairL d x) (pairL (rootS (l.take (Mk.half l.length))) (rootS (l.drop (Mk.half l.length)))) else findsB (l.take (Mk.half l.length)) i leaf low := by
  obtain ⟨e1, e2, e3⟩ := last_two low x
  rw [findsB, dif_neg (by omega), if_pos hi, e1, e2]
theorem finds_right {l : Ds} {i : Nat} {leaf : List Nat} {low : Ds} {x : List Nat} (h2 : 2 ≤ l.length) (hi : ¬ i < Mk.half l.length) : findsB l i leaf (low ++ [x]) = match upS (l.length - Mk.half l.length) (i - Mk.half l.length) leaf low with
      | none => false
      | some (d, _) => if d ≠ rootS (l.drop (Mk.half l.length)) ∨ x ≠ rootS (l.take (Mk.half l.length)) then apartB (pairL x d) (pairL (rootS (l.take (Mk.half l.length))) (rootS (l.drop (Mk.half l.length)))) else findsB (l.drop (Mk.half l.length)) (i - Mk.half l.length) leaf low := by
  obtain ⟨e1, e2, e3⟩ := last_two low x
  rw [findsB, dif_neg (by omega), if_neg hi, e1, e2]
theorem top_less_S {n i : Nat} {leaf : List Nat} {way : Ds} (h : n < 2) : topS n i leaf way = if way = [] then some leaf else none := Mk.top_less _ _ _ _ _ h
theorem d32_top {n i : Nat} {leaf d : List Nat} {way : Ds} (h : topS n i leaf way = some d) (hl : D32 leaf) : D32 d := by
  by_cases h2 : n < 2
  · rw [top_less_S h2] at h
    split at h
    · cases h; exact hl
    · cases h
  · rcases List.eq_nil_or_concat way with rfl | ⟨low, x, rfl⟩
    · rw [show topS n i leaf [] = none from Mk.top_nil _ _ _ _ (by omega)] at h; cases h
    · rw [List.concat_eq_append] at h
      by_cases hi : i < Mk.half n
      · rw [show topS n i leaf (low ++ [x]) = _ from Mk.top_left _ _ _ _ _ _ (by omega) hi] at h
        obtain ⟨y, _, rfl⟩ := Option.map_eq_some_iff.1 h
        exact d32_sum _
      · rw [show topS n i leaf (low ++ [x]) = _ from Mk.top_right _ _ _ _ _ _ (by omega) hi] at h
        obtain ⟨y, _, rfl⟩ := Option.map_eq_some_iff.1 h
        exact d32_sum _
theorem finds_true (n : Nat) : ∀ (l : Ds) (i : Nat) (leaf : List Nat) (way : Ds), l.length = n → i < n → (∀ d ∈ l, D32 d) → D32 leaf → (∀ d ∈ way, D32 d) → topS n i leaf way = some (rootS l) → leaf ≠ l.getD i [] → findsB l i leaf way = true := by
  induction n using Nat.strongRecOn with
  | ind n ih =>
    intro l i leaf way hn hi hl hf hw ht hne
    by_cases h2 : n < 2
    · exfalso
      rw [top_less_S h2] at ht
      split at ht
      · match l, hn with
        | [d], hn =>
          obtain rfl : i = 0 := by rw [List.length_singleton] at hn; omega
          rw [rootS_one] at ht
          exact hne (Option.some.inj ht)
        | [], hn => simp at hn; omega
        | _ :: _ :: _, hn => simp at hn; omega
      · cases ht
    · have hk := Mk.half_lt n (by omega)
      have hp := Mk.half_pos n
      have hroot := rootS_more l (by omega)
      have r1 : D32 (rootS (l.take (Mk.half n))) := d32_root _ (d32_take hl _)
      have r2 : D32 (rootS (l.drop (Mk.half n))) := d32_root _ (d32_drop hl _)
      rcases List.eq_nil_or_concat way with rfl | ⟨low, x, rfl⟩
      · rw [show topS n i leaf [] = none from Mk.top_nil _ _ _ _ (by omega)] at ht; cases ht
      · rw [List.concat_eq_append] at ht hw ⊢
        have hx : D32 x := hw x (by simp)
        have hlow : ∀ d ∈ low, D32 d := fun d hd => hw d (by simp [hd])
        by_cases hik : i < Mk.half n
        · rw [show topS n i leaf (low ++ [x]) = _ from Mk.top_left _ _ _ _ _ _ (by omega) hik] at ht
          obtain ⟨d, hd, he⟩ := Option.map_eq_some_iff.1 ht
          have hd' : topS (Mk.half n) i leaf low = some d := hd
          have h32 := d32_top hd' hf
          have hu : upS (Mk.half n) i leaf low = some (d, []) := (Mk.top_eq _ _ _ _ _ _).1 hd
          rw [finds_left (by omega) (by rw [hn]; exact hik), hn, hu]
          rw [hroot, hn] at he
          show (if _ then _ else _) = true
          split
          · rename_i h
            exact apart_true he (by rw [h32.1, r1.1]) h
          · rename_i h
            have h1 : d = rootS (l.take (Mk.half n)) := Decidable.byContradiction fun h1 => h (.inl h1)
            refine ih (Mk.half n) hk _ i leaf low (by rw [List.length_take]; omega) hik (d32_take hl _) hf hlow (by rw [hd', h1]) ?_
            rw [show (l.take (Mk.half n)).getD i [] = l.getD i [] by simp [List.getD_eq_getElem?_getD, hik]]
            exact hne
        · rw [show topS n i leaf (low ++ [x]) = _ from Mk.top_right _ _ _ _ _ _ (by omega) hik] at ht
          obtain ⟨d, hd, he⟩ := Option.map_eq_some_iff.1 ht
          have hd' : topS (n - Mk.half n) (i - Mk.half n) leaf low = some d := hd
          have hu : upS (n - Mk.half n) (i - Mk.half n) leaf low = some (d, []) := (Mk.top_eq _ _ _ _ _ _).1 hd
          rw [finds_right (by omega) (by rw [hn]; exact hik), hn, hu]
          rw [hroot, hn] at he
          show (if _ then _ else _) = true
          split
          · rename_i h
            exact apart_true he (by rw [hx.1, r1.1]) (Or.comm.1 h)
          · rename_i h
            have h1 : d = rootS (l.drop (Mk.half n)) := Decidable.byContradiction fun h1 => h (.inl h1)
            refine ih (n - Mk.half n) (by omega) _ (i - Mk.half n) leaf low (by rw [List.length_drop]; omega) (by omega) (d32_drop hl _) hf hlow (by rw [hd', h1]) ?_
            rw [show (l.drop (Mk.half n)).getD (i - Mk.half n) [] = l.getD i [] by simp [List.getD_eq_getElem?_getD, List.getElem?_drop, show Mk.half n + (i - Mk.half n) = i by omega]]
            exact hne
/-- the search in two lists of one length with one root -/
def differB (a b : Ds) : Bool :=
  if h : a.length ≠ b.length ∨ a.length < 2 then false else
    if rootS (a.take (Mk.half a.length)) ≠ rootS (b.take (Mk.half a.length)) ∨ rootS (a.drop (Mk.half a.length)) ≠ rootS (b.drop (Mk.half a.length)) then
      apartB (pairL (rootS (a.take (Mk.half a.length))) (rootS (a.drop (Mk.half a.length)))) (pairL (rootS (b.take (Mk.half a.length))) (rootS (b.drop (Mk.half a.length))))
    else if a.take (Mk.half a.length) ≠ b.take (Mk.half a.length) then differB (a.take (Mk.half a.length)) (b.take (Mk.half a.length))
    else differB (a.drop (Mk.half a.length)) (b.drop (Mk.half a.length))
termination_by a.length
decreasing_by
  · have := Mk.half_lt a.length (by omega); rw [List.length_take]; omega
  · have := Mk.half_pos a.length; rw [List.length_drop]; omega
theorem differ_less {a b : Ds} (h : a.length ≠ b.length ∨ a.length < 2) : differB a b = false := by rw [differB, dif_pos h]
theorem differ_more {a b : Ds} {k : Nat} (h1 : a.length = b.length) (h2 : 2 ≤ a.length) (hk : Mk.half a.length = k) : differB a b =
    if rootS (a.take k) ≠ rootS (b.take k) ∨ rootS (a.drop k) ≠ rootS (b.drop k) then apartB (pairL (rootS (a.take k)) (rootS (a.drop k))) (pairL (rootS (b.take k)) (rootS (b.drop k)))
    else if a.take k ≠ b.take k then differB (a.take k) (b.take k) else differB (a.drop k) (b.drop k) := by
  rw [differB, dif_neg (by omega), hk]
theorem differ_true (n : Nat) : ∀ (a b : Ds), a.length = n → b.length = n → (∀ d ∈ a, D32 d) → (∀ d ∈ b, D32 d) → rootS a = rootS b → a ≠ b → differB a b = true := by
  induction n using Nat.strongRecOn with
  | ind n ih =>
    intro a b ha hb da db hr hne
    by_cases h2 : n < 2
    · exfalso
      match a, b, ha, hb with
      | [], [], _, _ => exact hne rfl
      | [x], [y], _, _ => rw [rootS_one, rootS_one] at hr; exact hne (by rw [hr])
      | [], _ :: _, ha, hb => simp at ha hb; omega
      | _ :: _, [], ha, hb => simp at ha hb; omega
      | _ :: _ :: _, _, ha, _ => simp at ha; omega
      | _, _ :: _ :: _, _, hb => simp at hb; omega
    · have hk := Mk.half_lt n (by omega)
      have hp := Mk.half_pos n
      rw [differ_more (by omega) (by omega) (by rw [ha])]
      rw [rootS_more a (by omega), rootS_more b (by omega), ha, hb] at hr
      split
      · rename_i h
        exact apart_true hr (by rw [(d32_root _ (d32_take da _)).1, (d32_root _ (d32_take db _)).1]) h
      · rename_i h
        have e1 : rootS (a.take (Mk.half n)) = rootS (b.take (Mk.half n)) := Decidable.byContradiction fun h1 => h (.inl h1)
        have e2 : rootS (a.drop (Mk.half n)) = rootS (b.drop (Mk.half n)) := Decidable.byContradiction fun h1 => h (.inr h1)
        split
        · rename_i h3
          exact ih (Mk.half n) hk _ _ (by rw [List.length_take]; omega) (by rw [List.length_take]; omega) (d32_take da _) (d32_take db _) e1 h3
        · rename_i h3
          have e3 : a.take (Mk.half n) = b.take (Mk.half n) := Decidable.byContradiction h3
          refine ih (n - Mk.half n) (by omega) _ _ (by rw [List.length_drop]; omega) (by rw [List.length_drop]; omega) (d32_drop da _) (d32_drop db _) e2 fun h4 => hne ?_
          rw [← List.take_append_drop (Mk.half n) a, ← List.take_append_drop (Mk.half n) b, e3, h4]
/-- both roots that a proof tells, and what is left of it -/
def growS (old : List Nat) (m n : Nat) (whole : Bool) (way : Ds) : Option (List Nat × List Nat × Ds) := Mk.grow nodeS old m n whole way
/-- the search behind a proof that is taken -/
def straysB (a b : Ds) (whole : Bool) (way : Ds) : Bool :=
  if h : a.length = b.length then differB a b else
    if h2 : way.length = 0 ∨ b.length < 2 then false else
      if a.length ≤ Mk.half b.length then
        match growS (rootS a) a.length (Mk.half b.length) whole (way.take (way.length - 1)) with
        | none => false
        | some (_, y, _) => if y ≠ rootS (b.take (Mk.half b.length)) ∨ way.getD (way.length - 1) [] ≠ rootS (b.drop (Mk.half b.length)) then apartB (pairL y (way.getD (way.length - 1) [])) (pairL (rootS (b.take (Mk.half b.length))) (rootS (b.drop (Mk.half b.length))))
          else straysB a (b.take (Mk.half b.length)) whole (way.take (way.length - 1))
      else
        match growS zs32 (a.length - Mk.half b.length) (b.length - Mk.half b.length) false (way.take (way.length - 1)) with
        | none => false
        | some (x, y, _) => if way.getD (way.length - 1) [] ≠ rootS (b.take (Mk.half b.length)) ∨ y ≠ rootS (b.drop (Mk.half b.length)) then apartB (pairL (way.getD (way.length - 1) []) y) (pairL (rootS (b.take (Mk.half b.length))) (rootS (b.drop (Mk.half b.length))))
          else if way.getD (way.length - 1) [] ≠ rootS (a.take (Mk.half b.length)) ∨ x ≠ rootS (a.drop (Mk.half b.length)) then apartB (pairL (way.getD (way.length - 1) []) x) (pairL (rootS (a.take (Mk.half b.length))) (rootS (a.drop (Mk.half b.length))))
          else if a.take (Mk.half b.length) ≠ b.take (Mk.half b.length) then differB (a.take (Mk.half b.length)) (b.take (Mk.half b.length))
          else straysB (a.drop (Mk.half b.length)) (b.drop (Mk.half b.length)) false (way.take (way.length - 1))
termination_by b.length
decreasing_by
  · have := Mk.half_lt b.length (by omega); rw [List.length_take]; omega
  · have := Mk.half_pos b.length; rw [List.length_drop]; omega
theorem strays_same {a b : Ds} (h : a.length = b.length) (whole : Bool) (way : Ds) : straysB a b whole way = differB a b := by rw [straysB, dif_pos h]
theorem strays_nil {a b : Ds} (h : a.length ≠ b.length) (whole : Bool) : straysB a b whole [] = false := by rw [straysB, dif_neg h, dif_pos (.inl rfl)]
theorem strays_left {a b : Ds} {k : Nat} (h : a.length ≠ b.length) (h2 : 2 ≤ b.length) (hk : Mk.half b.length = k) (hi : a.length ≤ k) (whole : Bool) (low : Ds) (x : List Nat) : straysB a b whole (low ++ [x]) =
    match growS (rootS a) a.length k whole low with
    | none => false
    | some (_, y, _) => if y ≠ rootS (b.take k) ∨ x ≠ rootS (b.drop k) then apartB (pairL y x) (pairL (rootS (b.take k)) (rootS (b.drop k))) else straysB a (b.take k) whole low := by
  obtain ⟨e1, e2, e3⟩ := last_two low x
  subst hk
  rw [straysB, dif_neg h, dif_neg (by omega), if_pos hi, e1, e2]
theorem strays_right {a b : Ds} {k : Nat} (h : a.length ≠ b.length) (h2 : 2 ≤ b.length) (hk : Mk.half b.length = k) (hi : ¬ a.length ≤ k) (whole : Bool) (low : Ds) (s : List Nat) : straysB a b whole (low ++ [s]) =
    match growS zs32 (a.length - k) (b.length - k) false low with
    | none => false
    | some (x, y, _) => if s ≠ rootS (b.take k) ∨ y ≠ rootS (b.drop k) then apartB (pairL s y) (pairL (rootS (b.take k)) (rootS (b.drop k)))
      else if s ≠ rootS (a.take k) ∨ x ≠ rootS (a.drop k) then apartB (pairL s x) (pairL (rootS (a.take k)) (rootS (a.drop k)))
      else if a.take k ≠ b.take k then differB (a.take k) (b.take k) else straysB (a.drop k) (b.drop k) false low := by
  obtain ⟨e1, e2, e3⟩ := last_two low s
  subst hk
  rw [straysB, dif_neg h, dif_neg (by omega), if_neg hi, e1, e2]
theorem grow_old (n : Nat) : ∀ (o p : List Nat) (m : Nat) (way : Ds), growS o m n false way = growS p m n false way := by
  induction n using Nat.strongRecOn with
  | ind n ih =>
    intro o p m way
    unfold growS
    by_cases h : m = n ∨ n < 2
    · rw [Mk.grow.eq_def, if_pos h, Mk.grow.eq_def nodeS p, if_pos h]
      rfl
    · by_cases hi : m ≤ Mk.half n
      · rw [Mk.grow_left _ _ _ _ _ _ (by omega) (by omega) hi, Mk.grow_left _ _ _ _ _ _ (by omega) (by omega) hi]
        have := ih (Mk.half n) (Mk.half_lt n (by omega)) o p m way
        unfold growS at this
        rw [this]
      · rw [Mk.grow_right _ _ _ _ _ _ (by omega) (by omega) hi, Mk.grow_right _ _ _ _ _ _ (by omega) (by omega) hi]
        have := ih (n - Mk.half n) (by have := Mk.half_pos n; omega) o p (m - Mk.half n) way
        unfold growS at this
        rw [this]
theorem d32_both (n : Nat) : ∀ (old : List Nat) (m : Nat) (whole : Bool) (way : Ds) (x y : List Nat), 1 ≤ m → m ≤ n → D32 old → (∀ d ∈ way, D32 d) → bothS old m n whole way = some (x, y) → D32 x ∧ D32 y := by
  intro old m whole way x y h1 hm ho hw h
  unfold bothS at h
  by_cases he : m = n
  · subst he
    cases whole with
    | true =>
      rw [Mk.both_whole] at h
      split at h
      · cases h; exact ⟨ho, ho⟩
      · cases h
    | false =>
      rw [Mk.both_part] at h
      split at h
      · cases h; exact ⟨hw _ (by simp), hw _ (by simp)⟩
      · cases h
  · rcases List.eq_nil_or_concat way with rfl | ⟨low, s, rfl⟩
    · rw [Mk.both_nil _ _ _ _ _ h1 hm (.inl he)] at h; cases h
    · rw [List.concat_eq_append] at h hw
      by_cases hi : m ≤ Mk.half n
      · rw [Mk.both_left _ _ _ _ _ _ _ h1 (by omega) hi] at h
        obtain ⟨q, hq, he2⟩ := Option.map_eq_some_iff.1 h
        cases he2
        have := Mk.half_lt n (by omega)
        exact ⟨(d32_both (Mk.half n) old m whole low q.1 q.2 h1 hi ho (fun d hd => hw d (by simp [hd])) hq).1, d32_sum _⟩
      · rw [Mk.both_right _ _ _ _ _ _ _ h1 (by omega) hi] at h
        obtain ⟨q, hq, he2⟩ := Option.map_eq_some_iff.1 h
        cases he2
        exact ⟨d32_sum _, d32_sum _⟩
termination_by n
theorem both_grow {old : List Nat} {m n : Nat} {whole : Bool} {way : Ds} {x y : List Nat} (h : bothS old m n whole way = some (x, y)) : growS old m n whole way = some (x, y, []) := (Mk.both_eq _ _ _ _ _ _ _ _).1 h
theorem strays_true (n : Nat) : ∀ (a b : Ds) (m : Nat) (whole : Bool) (old : List Nat) (way : Ds), a.length = m → b.length = n → 1 ≤ m → m ≤ n → (∀ d ∈ a, D32 d) → (∀ d ∈ b, D32 d) → (∀ d ∈ way, D32 d) → (whole = true → old = rootS a) → bothS old m n whole way = some (rootS a, rootS b) → a ≠ b.take m → straysB a b whole way = true := by
  induction n using Nat.strongRecOn with
  | ind n ih =>
    intro a b m whole old way ha hb h1 hm da db dw hw h hne
    by_cases he : m = n
    · subst he
      rw [strays_same (by omega)]
      refine differ_true m a b ha hb da db ?_ (by rw [List.take_of_length_le (by omega)] at hne; exact hne)
      unfold bothS at h
      cases whole with
      | true =>
        rw [Mk.both_whole] at h
        split at h
        · simp only [Option.some.injEq, Prod.mk.injEq] at h; exact h.1.symm.trans h.2
        · cases h
      | false =>
        rw [Mk.both_part] at h
        split at h
        · simp only [Option.some.injEq, Prod.mk.injEq] at h; exact h.1.symm.trans h.2
        · cases h
    · have h2 : 2 ≤ n := by omega
      have hk := Mk.half_lt n h2
      have hp := Mk.half_pos n
      have h2k := Mk.half_two n h2
      have r1 : D32 (rootS (b.take (Mk.half n))) := d32_root _ (d32_take db _)
      rcases List.eq_nil_or_concat way with rfl | ⟨low, s, rfl⟩
      · unfold bothS at h
        rw [Mk.both_nil _ _ _ _ _ h1 hm (.inl he)] at h; cases h
      · rw [List.concat_eq_append] at h dw ⊢
        have ds : D32 s := dw s (by simp)
        have dlow : ∀ d ∈ low, D32 d := fun d hd => dw d (by simp [hd])
        have hroot := rootS_more b (by omega)
        rw [hb] at hroot
        by_cases hi : m ≤ Mk.half n
        · rw [show bothS old m n whole (low ++ [s]) = _ from Mk.both_left _ _ _ _ _ _ _ h1 (by omega) hi] at h
          obtain ⟨⟨x, y⟩, hq, he2⟩ := Option.map_eq_some_iff.1 h
          simp only [Prod.mk.injEq] at he2
          obtain ⟨rfl, hy⟩ := he2
          have hq' : bothS (rootS a) m (Mk.half n) whole low = some (rootS a, y) := by
            cases whole with
            | true => rw [hw rfl] at hq; exact hq
            | false =>
              unfold bothS Mk.both
              have := grow_old (Mk.half n) (rootS a) old m low
              unfold growS at this
              rw [this]
              exact hq
          have dy : D32 y := (d32_both (Mk.half n) (rootS a) m whole low _ _ h1 hi (d32_root _ da) dlow hq').2
          rw [strays_left (by omega) (by omega) (by rw [hb]) (by omega), ha, both_grow hq']
          rw [hroot] at hy
          show (if _ then _ else _) = true
          split
          · rename_i h3
            exact apart_true hy (by rw [dy.1, r1.1]) h3
          · rename_i h3
            have e1 : y = rootS (b.take (Mk.half n)) := Decidable.byContradiction fun h4 => h3 (.inl h4)
            refine ih (Mk.half n) hk a (b.take (Mk.half n)) m whole (rootS a) low ha (by rw [List.length_take]; omega) h1 hi da (d32_take db _) dlow (fun _ => rfl) (by rw [hq', e1]) ?_
            rw [List.take_take, Nat.min_eq_left hi]
            exact hne
        · rw [show bothS old m n whole (low ++ [s]) = _ from Mk.both_right _ _ _ _ _ _ _ h1 (by omega) hi] at h
          obtain ⟨⟨x, y⟩, hq, he2⟩ := Option.map_eq_some_iff.1 h
          simp only [Prod.mk.injEq] at he2
          obtain ⟨hx, hy⟩ := he2
          have hm2 : Mk.half m = Mk.half n := Mk.half_eq m (Nat.log2 (n - 1)) (by show Mk.half n < m; omega) (by show m ≤ 2 * Mk.half n; omega)
          have hra := rootS_more a (by omega)
          rw [ha, hm2] at hra
          have r2 : D32 (rootS (a.take (Mk.half n))) := d32_root _ (d32_take da _)
          have hq' : bothS zs32 (m - Mk.half n) (n - Mk.half n) false low = some (x, y) := by
            unfold bothS Mk.both
            have := grow_old (n - Mk.half n) zs32 old (m - Mk.half n) low
            unfold growS at this
            rw [this]
            exact hq
          rw [strays_right (by omega) (by omega) (by rw [hb]) (by omega), ha, hb, both_grow hq']
          rw [hroot] at hy
          rw [hra] at hx
          show (if _ then _ else _) = true
          split
          · rename_i h3
            exact apart_true hy (by rw [ds.1, r1.1]) h3
          · rename_i h3
            have e1 : y = rootS (b.drop (Mk.half n)) := Decidable.byContradiction fun h4 => h3 (.inr h4)
            split
            · rename_i h4
              exact apart_true hx (by rw [ds.1, r2.1]) h4
            · rename_i h4
              have e2 : x = rootS (a.drop (Mk.half n)) := Decidable.byContradiction fun h5 => h4 (.inr h5)
              have e3 : s = rootS (b.take (Mk.half n)) := Decidable.byContradiction fun h5 => h3 (.inl h5)
              have e4 : s = rootS (a.take (Mk.half n)) := Decidable.byContradiction fun h5 => h4 (.inl h5)
              split
              · rename_i h5
                exact differ_true (Mk.half n) _ _ (by rw [List.length_take]; omega) (by rw [List.length_take]; omega) (d32_take da _) (d32_take db _) (by rw [← e4, e3]) h5
              · rename_i h5
                have e5 : a.take (Mk.half n) = b.take (Mk.half n) := Decidable.byContradiction h5
                refine ih (n - Mk.half n) (by omega) _ _ (m - Mk.half n) false zs32 low (by rw [List.length_drop]; omega) (by rw [List.length_drop]; omega) (by omega) (by omega) (d32_drop da _) (d32_drop db _) dlow (by simp) (by rw [hq', e1, e2]) fun h6 => hne ?_
                rw [← List.take_append_drop (Mk.half n) a, e5, h6, ← List.take_add, show Mk.half n + (m - Mk.half n) = m by omega]
end Go.Proofs.YtoknjhpdbigbhaaDoor
