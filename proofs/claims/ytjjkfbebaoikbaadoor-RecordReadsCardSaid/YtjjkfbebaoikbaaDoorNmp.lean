/-
  Names, plain: the document's machine of states against the program's parts and runs; tags; media types. Lists of bytes.
-/
import Derived.RowKit
import Derived.Lib.SlTrimSet
import Derived.Lib.Hide
namespace Go.Proofs.Nm
set_option linter.unusedVariables false

def smallB (c : UInt8) : Bool := (97 ≤ c && c ≤ 122) || (48 ≤ c && c ≤ 57)
def signB (c : UInt8) : Bool := smallB c || (65 ≤ c && c ≤ 90)
/-- the document's machine -/
def goR : Nat → List UInt8 → Bool
  | st, [] => st == 1
  | st, c :: l => if smallB c then goR 1 l else if c == 47 && st == 1 then goR 0 l else if c == 46 && st == 1 then goR 2 l else if c == 95 && st == 1 then goR 3 l
    else if c == 95 && st == 3 then goR 2 l else if c == 45 && (st == 1 || st == 4) then goR 4 l else false
/-- the program: behind a run -/
def aftS : List UInt8 → List UInt8
  | [] => []
  | c :: l => if c == 45 then l.dropWhile (· == 45) else if c == 95 then (match l with | [] => [] | d :: m => if d == 95 then m else d :: m) else if c == 46 then l else c :: l

theorem goR_zero (l : List UInt8) : goR 0 l = goR 2 l := by
  cases l with
  | nil => rfl
  | cons c l => simp [goR]
theorem goR_small (st : Nat) (c : UInt8) (l : List UInt8) (h : smallB c = true) : goR st (c :: l) = goR 1 l := by simp [goR, h]
theorem goR_run (l : List UInt8) : goR 1 l = goR 1 (l.dropWhile smallB) := by
  induction l with
  | nil => rfl
  | cons c l ih =>
    by_cases h : smallB c = true
    · rw [goR_small _ _ _ h, ih, List.dropWhile_cons, if_pos h]
    · rw [List.dropWhile_cons, if_neg h]
theorem goR_four (l : List UInt8) : goR 4 l = goR 2 (l.dropWhile (· == 45)) := by
  induction l with
  | nil => rfl
  | cons c l ih =>
    by_cases h : c = 45
    · subst h
      rw [List.dropWhile_cons, if_pos (by rfl), ← ih]
      simp [goR, smallB]
    · rw [List.dropWhile_cons, if_neg (by simpa using h)]
      simp [goR, h]
theorem goR_sep (c : UInt8) (l : List UInt8) (h : smallB c = false) (hs : c ≠ 47) : goR 1 (c :: l) = goR 2 (aftS (c :: l)) := by
  dsimp only [aftS]
  by_cases h1 : c = 45
  · subst h1
    rw [if_pos (by rfl), ← goR_four]
    simp [goR, smallB]
  rw [if_neg (by simpa using h1)]
  by_cases h2 : c = 95
  · subst h2
    rw [if_pos (by rfl)]
    cases l with
    | nil => rfl
    | cons d m =>
      by_cases h3 : d = 95
      · subst h3
        simp [goR, smallB]
      · simp [goR, smallB, h3]
  rw [if_neg (by simpa using h2)]
  by_cases h3 : c = 46
  · subst h3
    rw [if_pos (by rfl)]
    simp [goR, smallB]
  rw [if_neg (by simpa using h3)]
  simp [goR, h, h1, h2, h3, hs]
/-- one round of the program's: s, and what its run leaves -/
theorem goR_round (l : List UInt8) (h0 : l.dropWhile smallB ≠ l) : goR 2 l = goR 1 (l.dropWhile smallB) := by
  cases l with
  | nil => simp at h0
  | cons c l =>
    by_cases h : smallB c = true
    · rw [goR_small _ _ _ h, goR_run, List.dropWhile_cons, if_pos h]
    · rw [List.dropWhile_cons, if_neg h] at h0; exact absurd rfl h0
theorem goR_none (l : List UInt8) (h0 : (l.dropWhile smallB).length = l.length) (hs : 47 ∉ l) : goR 2 l = false := by
  cases l with
  | nil => rfl
  | cons c l =>
    by_cases h : smallB c = true
    · rw [List.dropWhile_cons, if_pos h] at h0
      have := (List.dropWhile_sublist smallB (l := l)).length_le
      simp at h0; omega
    · simp [goR, h]
theorem goR_part (l : List UInt8) (h0 : (l.dropWhile smallB).length ≠ l.length) (h1 : l.dropWhile smallB ≠ []) (hs : 47 ∉ l) : goR 2 l = goR 2 (aftS (l.dropWhile smallB)) := by
  rw [goR_round l (fun h => h0 (by rw [h]))]
  have hm : ∀ x ∈ l.dropWhile smallB, x ∈ l := fun x hx => (List.dropWhile_sublist smallB).subset hx
  have hd : ∀ c m, l.dropWhile smallB = c :: m → smallB c = false := fun c m he => by
    have := List.head_dropWhile_not (p := smallB) (l := l) (by simpa using h1)
    simpa [he] using this
  cases hl : l.dropWhile smallB with
  | nil => exact absurd hl h1
  | cons c m => exact goR_sep c m (hd c m hl) (fun e => hs (hm _ (by rw [hl, e]; simp)))
theorem aftS_mem (l : List UInt8) : ∀ x ∈ aftS l, x ∈ l := by
  intro x hx
  unfold aftS at hx
  split at hx
  · exact hx
  · rename_i c m
    split at hx
    · exact List.mem_cons_of_mem _ ((List.dropWhile_sublist _).subset hx)
    · split at hx
      · split at hx
        · simp at hx
        · split at hx
          · simp [hx]
          · exact List.mem_cons_of_mem _ hx
      · split at hx
        · exact List.mem_cons_of_mem _ hx
        · exact hx
theorem aftS_len (l : List UInt8) : (aftS l).length ≤ l.length := by
  unfold aftS
  split
  · simp
  · rename_i c m
    split
    · have := (List.dropWhile_sublist (· == (45 : UInt8)) (l := m)).length_le
      simp; omega
    · split
      · split
        · simp
        · split <;> simp <;> omega
      · split <;> simp

/-- the pieces about a byte -/
def cutL (x : UInt8) : List UInt8 → List UInt8 × Option (List UInt8)
  | [] => ([], none)
  | c :: l => if c == x then ([], some l) else (c :: (cutL x l).1, (cutL x l).2)
theorem cutL_none (x : UInt8) (l : List UInt8) (h : x ∉ l) : cutL x l = (l, none) := by
  induction l with
  | nil => rfl
  | cons c l ih =>
    simp only [List.mem_cons, not_or] at h
    unfold cutL
    rw [if_neg (by simpa using fun e => h.1 e.symm), ih h.2]
theorem cutL_some (x : UInt8) (p r : List UInt8) (h : x ∉ p) : cutL x (p ++ x :: r) = (p, some r) := by
  induction p with
  | nil => simp [cutL]
  | cons c p ih =>
    simp only [List.mem_cons, not_or] at h
    rw [List.cons_append]
    unfold cutL
    rw [if_neg (by simpa using fun e => h.1 e.symm), ih h.2]
theorem cutL_not (x : UInt8) (l : List UInt8) : x ∉ (cutL x l).1 := by
  induction l with
  | nil => simp [cutL]
  | cons c l ih =>
    unfold cutL
    split
    · simp
    · rename_i h
      simp only [List.mem_cons, not_or]
      exact ⟨fun e => h (by simp [e]), ih⟩
theorem cutL_back (x : UInt8) (l : List UInt8) : (∃ r, (cutL x l).2 = some r ∧ l = (cutL x l).1 ++ x :: r) ∨ ((cutL x l).2 = none ∧ l = (cutL x l).1 ∧ x ∉ l) := by
  by_cases h : x ∈ l
  · obtain ⟨p, r, rfl, hp⟩ : ∃ p r, l = p ++ x :: r ∧ x ∉ p := by
      induction l with
      | nil => simp at h
      | cons c l ih =>
        by_cases e : x = c
        · exact ⟨[], l, by simp [e], by simp⟩
        · have : x ∈ l := by simpa [e] using h
          obtain ⟨p, r, rfl, hp⟩ := ih this
          exact ⟨c :: p, r, rfl, by simp [e, hp]⟩
    rw [cutL_some x p r hp]
    exact .inl ⟨r, rfl, rfl⟩
  · rw [cutL_none x l h]
    exact .inr ⟨rfl, rfl, h⟩
theorem cutL_len (x : UInt8) (l r : List UInt8) (h : (cutL x l).2 = some r) : r.length < l.length := by
  rcases cutL_back x l with ⟨q, hq, he⟩ | ⟨hn, _⟩
  · rw [h] at hq
    obtain rfl := Option.some.inj hq
    rw [he]; simp; omega
  · rw [h] at hn; cases hn
theorem cutL_at (x : UInt8) (l : List UInt8) (k : Nat) (h : x ∉ l.take k) (hk : l[k]? = some x) : cutL x l = (l.take k, some (l.drop (k + 1))) := by
  obtain ⟨hi, he⟩ := List.getElem?_eq_some_iff.1 hk
  have hl : l = l.take k ++ x :: l.drop (k + 1) := by
    conv => lhs; rw [← List.take_append_drop k l]
    rw [List.drop_eq_getElem_cons hi, he]
  have := cutL_some x (l.take k) (l.drop (k + 1)) h
  rw [← hl] at this
  exact this
/-- all pieces -/
def splitL (x : UInt8) (l : List UInt8) : List (List UInt8) :=
  match h : (cutL x l).2 with
  | none => [(cutL x l).1]
  | some r => (cutL x l).1 :: splitL x r
termination_by l.length
decreasing_by exact cutL_len x l r h
theorem splitL_none (x : UInt8) (l : List UInt8) (h : x ∉ l) : splitL x l = [l] := by
  unfold splitL
  have e := cutL_none x l h
  split
  · rw [e]
  · rename_i r hr; rw [e] at hr; cases hr
theorem splitL_some (x : UInt8) (p r : List UInt8) (h : x ∉ p) : splitL x (p ++ x :: r) = p :: splitL x r := by
  rw [splitL]
  have e := cutL_some x p r h
  split
  · rename_i hr; rw [e] at hr; cases hr
  · rename_i q hr
    rw [e] at hr ⊢
    obtain rfl := Option.some.inj hr
    rfl
theorem splitL_mem (x : UInt8) (l : List UInt8) : ∀ p ∈ splitL x l, x ∉ p := by
  generalize hn : l.length = n
  induction n using Nat.strongRecOn generalizing l with
  | _ n ih =>
    intro p hp
    rcases cutL_back x l with ⟨r, hr, he⟩ | ⟨_, he, hx⟩
    · rw [he, splitL_some x _ _ (cutL_not x l)] at hp
      rcases List.mem_cons.1 hp with rfl | hp
      · exact cutL_not x l
      · exact ih _ (by rw [← hn]; exact cutL_len x l r hr) r rfl p hp
    · rw [splitL_none x l hx] at hp
      obtain rfl := by simpa using hp
      exact hx
theorem splitL_len (x : UInt8) (l : List UInt8) : ∀ p ∈ splitL x l, p.length ≤ l.length := by
  generalize hn : l.length = n
  induction n using Nat.strongRecOn generalizing l with
  | _ n ih =>
    intro p hp
    rcases cutL_back x l with ⟨r, hr, he⟩ | ⟨_, he, hx⟩
    · have hl := congrArg List.length he
      simp only [List.length_append, List.length_cons] at hl
      rw [he, splitL_some x _ _ (cutL_not x l)] at hp
      rcases List.mem_cons.1 hp with rfl | hp
      · omega
      · have := ih _ (by rw [← hn]; exact cutL_len x l r hr) r rfl p hp
        omega
    · rw [splitL_none x l hx] at hp
      obtain rfl : p = l := by simpa using hp
      omega
theorem goR_app (p r : List UInt8) (h : 47 ∉ p) : ∀ st, goR st (p ++ 47 :: r) = (goR st p && goR 0 r) := by
  induction p with
  | nil =>
    intro st
    rw [List.nil_append]
    by_cases e : st = 1
    · subst e; simp [goR, smallB]
    · simp [goR, smallB, e]
  | cons c p ih =>
    simp only [List.mem_cons, not_or] at h
    intro st
    have hc : (c == 47) = false := by simpa using fun e => h.1 e.symm
    rw [List.cons_append]
    simp only [goR, hc, Bool.false_and, Bool.false_eq_true, if_false, ih h.2]
    split
    · rfl
    · split
      · rfl
      · split
        · rfl
        · split
          · rfl
          · split
            · rfl
            · rfl
theorem goR_any (p r : List UInt8) : ∀ st, goR st (p ++ 47 :: r) = (goR st p && goR 0 r) := by
  induction p with
  | nil =>
    intro st
    rw [List.nil_append]
    by_cases e : st = 1
    · subst e; simp [goR, smallB]
    · simp [goR, smallB, e]
  | cons c p ih =>
    intro st
    rw [List.cons_append]
    simp only [goR, ih]
    split
    · rfl
    · split
      · rfl
      · split
        · rfl
        · split
          · rfl
          · split
            · rfl
            · split
              · rfl
              · rfl
/-- A name of a repository is its parts. -/
theorem goR_split (l : List UInt8) : goR 0 l = (splitL 47 l).all (goR 2) := by
  generalize hn : l.length = n
  induction n using Nat.strongRecOn generalizing l with
  | _ n ih =>
    rcases cutL_back 47 l with ⟨r, hr, he⟩ | ⟨_, he, hx⟩
    · have hc := cutL_not 47 l
      rw [he, splitL_some 47 _ _ hc, goR_app _ _ hc, List.all_cons, ih _ (by rw [← hn]; exact cutL_len 47 l r hr) r rfl, goR_zero]
    · rw [splitL_none 47 l hx, goR_zero]; simp

def repoB (l : List UInt8) : Bool := goR 0 l && decide (l.length ≤ 128)
theorem repoB_join (a b : List UInt8) (ha : repoB a = true) (hb : repoB b = true) (h : a.length + b.length < 128) : repoB (a ++ 47 :: b) = true := by
  unfold repoB at ha hb ⊢
  simp only [Bool.and_eq_true, decide_eq_true_eq] at ha hb
  rw [goR_any, ha.1, hb.1]
  simp; omega
theorem repoB_cut (a : List UInt8) (k : Nat) (ha : repoB a = true) (hk : a[k]? = some 47) : repoB (a.take k) = true ∧ repoB (a.drop (k + 1)) = true := by
  obtain ⟨hi, he⟩ := List.getElem?_eq_some_iff.1 hk
  have hl : a = a.take k ++ 47 :: a.drop (k + 1) := by
    conv => lhs; rw [← List.take_append_drop k a]
    rw [List.drop_eq_getElem_cons hi, he]
  have hg : goR 0 a = (goR 0 (a.take k) && goR 0 (a.drop (k + 1))) := by
    conv => lhs; rw [hl]
    exact goR_any _ _ 0
  unfold repoB at ha ⊢
  simp only [Bool.and_eq_true, decide_eq_true_eq, hg] at ha
  obtain ⟨⟨h1, h2⟩, h3⟩ := ha
  rw [h1, h2]
  simp only [List.length_take, List.length_drop, Bool.true_and, decide_eq_true_eq]
  constructor <;> omega
/-- tags -/
def tagB (c : UInt8) : Bool := signB c || c == 95
def isTagL (l : List UInt8) : Bool := match l with
  | [] => false
  | c :: m => tagB c && m.all (fun c => tagB c || c == 46 || c == 45)
/-- media types: the document's machine: halves, begun -/
def moreB (c : UInt8) : Bool := [33, 35, 36, 38, 45, 94, 95, 46, 43].contains c
def goM : Nat → Bool → List UInt8 → Bool
  | h, b, [] => b && h == 2
  | h, b, c :: l => if c == 47 && b then goM (h + 1) false l else if signB c || (b && moreB c) then goM h true l else false
def halfL (l : List UInt8) : Bool := match l with
  | [] => false
  | c :: m => signB c && m.all (fun c => signB c || moreB c)
theorem goM_big (l : List UInt8) : ∀ h b, 2 < h → goM h b l = false := by
  induction l with
  | nil => intro h b hh; simp [goM]; omega
  | cons c l ih =>
    intro h b hh
    unfold goM
    split
    · exact ih _ _ (by omega)
    · split
      · exact ih _ _ hh
      · rfl
theorem goM_two (l : List UInt8) : goM 2 true l = l.all (fun c => signB c || moreB c) := by
  induction l with
  | nil => rfl
  | cons c l ih =>
    unfold goM
    by_cases h : c = 47
    · subst h
      rw [if_pos (by rfl), goM_big _ _ _ (by omega)]
      rw [List.all_cons]
      have : (signB 47 || moreB 47) = false := by decide
      rw [this]; rfl
    · rw [if_neg (by simp [h]), ih, List.all_cons]
      cases signB c <;> cases moreB c <;> simp
theorem goM_half (l : List UInt8) : goM 2 false l = halfL l := by
  cases l with
  | nil => rfl
  | cons c l =>
    rw [show halfL (c :: l) = (signB c && l.all fun c => signB c || moreB c) from rfl]
    unfold goM
    rw [if_neg (by simp), goM_two]
    generalize (l.all fun c => signB c || moreB c) = A
    cases signB c <;> simp
theorem goM_one (l : List UInt8) (p r : List UInt8) (h : 47 ∉ p) : goM 1 true (p ++ 47 :: r) = (p.all (fun c => signB c || moreB c) && halfL r) := by
  induction p with
  | nil =>
    rw [List.nil_append]
    unfold goM
    rw [if_pos (by rfl), goM_half]; rfl
  | cons c p ih =>
    simp only [List.mem_cons, not_or] at h
    rw [List.cons_append]
    unfold goM
    have hc : (c == 47) = false := by simpa using fun e => h.1 e.symm
    rw [hc, ih h.2, List.all_cons]
    generalize (p.all fun c => signB c || moreB c) = A
    cases signB c <;> cases moreB c <;> simp
theorem goM_none (l : List UInt8) (h : 47 ∉ l) : ∀ b, goM 1 b l = false := by
  induction l with
  | nil => intro b; cases b <;> rfl
  | cons c l ih =>
    simp only [List.mem_cons, not_or] at h
    intro b
    unfold goM
    have hc : (c == 47) = false := by simpa using fun e => h.1 e.symm
    rw [hc]
    simp only [Bool.false_and, Bool.false_eq_true, if_false, ih h.2]
    split <;> rfl
def mediaL (l : List UInt8) : Bool := match (cutL 47 l).2 with
  | none => false
  | some r => halfL (cutL 47 l).1 && halfL r
theorem goM_media (l : List UInt8) : goM 1 false l = mediaL l := by
  rcases cutL_back 47 l with ⟨r, hr, he⟩ | ⟨hn, he, hx⟩
  · unfold mediaL
    rw [hr]
    have hc := cutL_not 47 l
    generalize hp : (cutL 47 l).1 = p at hc he ⊢
    rw [he]
    cases p with
    | nil =>
      rw [List.nil_append]
      unfold goM
      rw [if_neg (by simp), if_neg (by decide)]
      rfl
    | cons c p =>
      simp only [List.mem_cons, not_or] at hc
      rw [List.cons_append]
      rw [show halfL (c :: p) = (signB c && p.all fun c => signB c || moreB c) from rfl]
      unfold goM
      have hcc : (c == 47) = false := by simpa using fun e => hc.1 e.symm
      rw [hcc, goM_one (p ++ 47 :: r) p r hc.2]
      generalize (p.all fun c => signB c || moreB c) = A
      show _ = ((signB c && A) && halfL r)
      generalize halfL r = B
      cases signB c <;> simp
  · unfold mediaL
    rw [hn]
    exact goM_none l hx false
theorem goR_step (st : Nat) (c : UInt8) (l : List UInt8) : goR st (c :: l) = (if smallB c then goR 1 l else if c == 47 && st == 1 then goR 0 l else if c == 46 && st == 1 then goR 2 l else if c == 95 && st == 1 then goR 3 l
    else if c == 95 && st == 3 then goR 2 l else if c == 45 && (st == 1 || st == 4) then goR 4 l else false) := rfl
theorem goR_stepI (st : Nat) (c : UInt8) (l : List UInt8) : goR st (c :: l) = (if smallB c = true then goR 1 l else if (c.toNat : Int) = 47 then (if (st : Int) = 1 then goR 0 l else false) else if (c.toNat : Int) = 46 then (if (st : Int) = 1 then goR 2 l else false)
    else if (c.toNat : Int) = 95 then (if (st : Int) = 1 then goR 3 l else if (st : Int) = 3 then goR 2 l else false) else if (c.toNat : Int) = 45 then (if (st : Int) = 1 ∨ (st : Int) = 4 then goR 4 l else false) else false) := by
  have q : ∀ x : UInt8, ∀ n : Int, (x.toNat : Int) = n → ((c == x) = true ↔ (c.toNat : Int) = n) := fun x n h => by
    rw [beq_iff_eq, ← h, Int.natCast_inj]; exact UInt8.toNat_inj.symm
  have q1 := q 47 47 rfl
  have q2 := q 46 46 rfl
  have q3 := q 95 95 rfl
  have q4 := q 45 45 rfl
  have s1 : ((st == 1) = true) = ((st : Int) = 1) := by rw [beq_iff_eq]; exact propext ⟨fun h => by omega, fun h => by omega⟩
  have s3 : ((st == 3) = true) = ((st : Int) = 3) := by rw [beq_iff_eq]; exact propext ⟨fun h => by omega, fun h => by omega⟩
  have s4 : ((st == 4) = true) = ((st : Int) = 4) := by rw [beq_iff_eq]; exact propext ⟨fun h => by omega, fun h => by omega⟩
  rw [goR_step]
  simp only [Bool.and_eq_true, Bool.or_eq_true, q1, q2, q3, q4, s1, s3, s4]
  by_cases a : smallB c = true
  · rw [if_pos a, if_pos a]
  rw [if_neg a, if_neg a]
  by_cases a1 : (c.toNat : Int) = 47
  · simp [a1]
  by_cases a2 : (c.toNat : Int) = 46
  · simp [a2]
  by_cases a3 : (c.toNat : Int) = 95
  · simp [a3]
  simp [a1, a2, a3, Bool.and_assoc]
theorem drop_step {l : List UInt8} {k : Nat} {c : UInt8} (h : l[k]? = some c) : l.drop k = c :: l.drop (k + 1) := by
  obtain ⟨hi, he⟩ := List.getElem?_eq_some_iff.1 h
  rw [List.drop_eq_getElem_cons hi, he]
end Go.Proofs.Nm
