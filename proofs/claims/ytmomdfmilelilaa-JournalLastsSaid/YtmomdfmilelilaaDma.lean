/-
  The document's disk on plain lists: files in the order of their names, changes; a view of files by blocks, and what takes a change back.
-/
import Derived.Orders
namespace Go.Proofs.Ytmomdfmilelilaa
set_option linter.unusedVariables false
/-- a change, as the document has it -/
structure DCh where
  kind : Nat
  a : ByteArray
  b : ByteArray
  p : List Nat
abbrev Fls := List (ByteArray × List Nat)
abbrev ltB (a b : ByteArray) : Prop := a.data.toList < b.data.toList
theorem ba_ext {a b : ByteArray} (h : a.data.toList = b.data.toList) : a = b := by
  cases a; cases b
  congr 1
  exact Array.toList_inj.1 h
theorem ltB_irrefl (a : ByteArray) : ¬ ltB a a := List.lt_irrefl _
theorem ltB_trans {a b c : ByteArray} (h : ltB a b) (k : ltB b c) : ltB a c := List.lt_trans h k
theorem ltB_of {a b : ByteArray} (h : ¬ ltB a b) (hn : a ≠ b) : ltB b a := by
  by_cases k : ltB b a
  · exact k
  · exact absurd (ba_ext (List.le_antisymm (List.not_lt.1 k) (List.not_lt.1 h))) hn
def lookF : Fls → ByteArray → Option (List Nat)
  | [], _ => none
  | x :: l, n => if x.1 = n then some x.2 else lookF l n
def withoutF : Fls → ByteArray → Fls
  | [], _ => []
  | x :: l, n => if x.1 = n then withoutF l n else x :: withoutF l n
def withF : Fls → ByteArray × List Nat → Fls
  | [], f => [f]
  | x :: l, f => if ltB f.1 x.1 then f :: x :: l else x :: withF l f
def doF (l : Fls) (c : DCh) : Fls :=
  if c.kind = 0 then withF l (c.a, [])
  else if c.kind = 1 then withF (withoutF l c.a) (c.a, (lookF l c.a).getD [] ++ c.p)
  else if c.kind = 2 then withoutF l c.a
  else withF (withoutF (withoutF l c.a) c.b) (c.b, (lookF l c.a).getD [])
theorem doF0 (l : Fls) (s b : ByteArray) (p : List Nat) : doF l ⟨0, s, b, p⟩ = withF l (s, []) := rfl
theorem doF1 (l : Fls) (s b : ByteArray) (p : List Nat) : doF l ⟨1, s, b, p⟩ = withF (withoutF l s) (s, (lookF l s).getD [] ++ p) := rfl
theorem doF2 (l : Fls) (s b : ByteArray) (p : List Nat) : doF l ⟨2, s, b, p⟩ = withoutF l s := rfl
theorem doF3 (l : Fls) (s b : ByteArray) (p : List Nat) : doF l ⟨3, s, b, p⟩ = withF (withoutF (withoutF l s) b) (b, (lookF l s).getD []) := rfl
def usedF : Fls → Nat
  | [] => 0
  | x :: l => x.2.length + usedF l
def Srt (l : Fls) : Prop := l.Pairwise fun x y => ltB x.1 y.1
theorem lookF_mem : ∀ {l : Fls} {n z}, lookF l n = some z → (n, z) ∈ l
  | [], n, z, h => by cases h
  | x :: l, n, z, h => by
    unfold lookF at h
    split at h
    · rename_i e
      cases h
      subst e
      exact List.mem_cons_self
    · exact List.mem_cons_of_mem _ (lookF_mem h)
theorem lookF_none : ∀ {l : Fls} {n}, lookF l n = none → ∀ x ∈ l, x.1 ≠ n
  | [], n, _, x, hx => by cases hx
  | y :: l, n, h, x, hx => by
    unfold lookF at h
    split at h
    · cases h
    · rename_i e
      rcases List.mem_cons.1 hx with rfl | hx
      · exact e
      · exact lookF_none h x hx
theorem lookF_none_of : ∀ {l : Fls} {n}, (∀ x ∈ l, x.1 ≠ n) → lookF l n = none
  | [], n, _ => rfl
  | y :: l, n, h => by
    unfold lookF
    rw [if_neg (h y List.mem_cons_self)]
    exact lookF_none_of fun x hx => h x (List.mem_cons_of_mem _ hx)
theorem lookF_of_mem : ∀ {l : Fls} {x}, Srt l → x ∈ l → lookF l x.1 = some x.2
  | [], x, _, h => by cases h
  | y :: l, x, hs, h => by
    unfold lookF
    rcases List.mem_cons.1 h with rfl | h
    · rw [if_pos rfl]
    · have hlt := (List.pairwise_cons.1 hs).1 x h
      rw [if_neg fun e => ltB_irrefl x.1 (by rw [e] at hlt; exact hlt)]
      exact lookF_of_mem (List.pairwise_cons.1 hs).2 h
theorem mem_withF {f : ByteArray × List Nat} : ∀ {l : Fls} {x}, x ∈ withF l f ↔ x = f ∨ x ∈ l
  | [], x => by simp [withF]
  | y :: l, x => by
    unfold withF
    split
    · simp
    · rw [List.mem_cons, mem_withF, List.mem_cons]
      constructor
      · rintro (h | h | h)
        · exact .inr (.inl h)
        · exact .inl h
        · exact .inr (.inr h)
      · rintro (h | h | h)
        · exact .inr (.inl h)
        · exact .inl h
        · exact .inr (.inr h)
theorem mem_withoutF {n : ByteArray} : ∀ {l : Fls} {x}, x ∈ withoutF l n ↔ x ∈ l ∧ x.1 ≠ n
  | [], x => by simp [withoutF]
  | y :: l, x => by
    unfold withoutF
    split
    · rename_i e
      rw [mem_withoutF, List.mem_cons]
      constructor
      · rintro ⟨h, k⟩
        exact ⟨.inr h, k⟩
      · rintro ⟨h | h, k⟩
        · subst h; exact absurd e k
        · exact ⟨h, k⟩
    · rename_i e
      rw [List.mem_cons, mem_withoutF, List.mem_cons]
      constructor
      · rintro (h | ⟨h, k⟩)
        · subst h; exact ⟨.inl rfl, e⟩
        · exact ⟨.inr h, k⟩
      · rintro ⟨h | h, k⟩
        · exact .inl h
        · exact .inr ⟨h, k⟩
theorem srt_with {f : ByteArray × List Nat} : ∀ {l : Fls}, Srt l → (∀ x ∈ l, x.1 ≠ f.1) → Srt (withF l f)
  | [], _, _ => by simp [withF, Srt]
  | y :: l, hs, hn => by
    obtain ⟨h1, h2⟩ := List.pairwise_cons.1 hs
    unfold withF
    split
    · rename_i hlt
      refine List.pairwise_cons.2 ⟨fun x hx => ?_, hs⟩
      rcases List.mem_cons.1 hx with rfl | hx
      · exact hlt
      · exact ltB_trans hlt (h1 x hx)
    · rename_i hlt
      refine List.pairwise_cons.2 ⟨fun x hx => ?_, srt_with h2 fun x hx => hn x (List.mem_cons_of_mem _ hx)⟩
      rcases mem_withF.1 hx with rfl | hx
      · exact ltB_of hlt (hn y List.mem_cons_self).symm
      · exact h1 x hx
theorem srt_without {n : ByteArray} : ∀ {l : Fls}, Srt l → Srt (withoutF l n)
  | [], _ => List.Pairwise.nil
  | y :: l, hs => by
    obtain ⟨h1, h2⟩ := List.pairwise_cons.1 hs
    unfold withoutF
    split
    · exact srt_without h2
    · exact List.pairwise_cons.2 ⟨fun x hx => h1 x (mem_withoutF.1 hx).1, srt_without h2⟩
theorem look_with {f : ByteArray × List Nat} (n : ByteArray) : ∀ {l : Fls}, lookF l f.1 = none → lookF (withF l f) n = if n = f.1 then some f.2 else lookF l n
  | [], _ => by
    simp only [withF, lookF]
    by_cases e : n = f.1
    · rw [if_pos e.symm, if_pos e]
    · rw [if_neg fun h => e h.symm, if_neg e]
  | y :: l, h => by
    have hy : y.1 ≠ f.1 := lookF_none h y List.mem_cons_self
    have hl : lookF l f.1 = none := by
      unfold lookF at h
      rwa [if_neg hy] at h
    unfold withF
    split
    · by_cases e : n = f.1
      · rw [if_pos e]
        show (if f.1 = n then _ else _) = _
        rw [if_pos e.symm]
      · rw [if_neg e]
        show (if f.1 = n then _ else _) = _
        rw [if_neg fun h => e h.symm]
    · show (if y.1 = n then _ else lookF (withF l f) n) = _
      rw [look_with n hl]
      show _ = if n = f.1 then some f.2 else (if y.1 = n then some y.2 else lookF l n)
      by_cases e : n = f.1
      · rw [if_pos e, if_pos e, if_neg (fun h => hy (h.trans e))]
      · rw [if_neg e, if_neg e]
theorem look_without (m n : ByteArray) : ∀ {l : Fls}, lookF (withoutF l m) n = if n = m then none else lookF l n
  | [] => by simp [withoutF, lookF]
  | y :: l => by
    unfold withoutF
    split
    · rename_i e
      rw [look_without m n]
      by_cases h : n = m
      · rw [if_pos h, if_pos h]
      · rw [if_neg h, if_neg h]
        show _ = if y.1 = n then _ else _
        rw [if_neg fun k => h (k.symm.trans e)]
    · rename_i e
      show (if y.1 = n then _ else lookF (withoutF l m) n) = _
      rw [look_without m n]
      show _ = if n = m then none else (if y.1 = n then some y.2 else lookF l n)
      by_cases h : n = m
      · rw [if_pos h, if_pos h, if_neg fun k => e (k.trans h)]
      · rw [if_neg h, if_neg h]
theorem used_with (f : ByteArray × List Nat) : ∀ l : Fls, usedF (withF l f) = usedF l + f.2.length
  | [] => by simp [withF, usedF]
  | y :: l => by
    unfold withF
    split
    · simp only [usedF]; omega
    · simp only [usedF, used_with f l]; omega
theorem without_none {n : ByteArray} : ∀ {l : Fls}, lookF l n = none → withoutF l n = l
  | [], _ => rfl
  | y :: l, h => by
    have hy : y.1 ≠ n := lookF_none h y List.mem_cons_self
    unfold lookF at h
    rw [if_neg hy] at h
    unfold withoutF
    rw [if_neg hy, without_none h]
theorem used_without {n : ByteArray} : ∀ {l : Fls}, Srt l → usedF (withoutF l n) + ((lookF l n).getD []).length = usedF l
  | [], _ => rfl
  | y :: l, hs => by
    obtain ⟨h1, h2⟩ := List.pairwise_cons.1 hs
    unfold withoutF lookF
    by_cases e : y.1 = n
    · rw [if_pos e, if_pos e, without_none]
      · simp only [usedF, Option.getD_some]; omega
      · exact lookF_none_of fun x hx k => ltB_irrefl y.1 (by have := h1 x hx; rwa [k, ← e] at this)
    · rw [if_neg e, if_neg e]
      have := used_without (n := n) h2
      simp only [usedF]; omega
theorem length_with (f : ByteArray × List Nat) : ∀ l : Fls, (withF l f).length = l.length + 1
  | [] => rfl
  | y :: l => by
    unfold withF
    split
    · rfl
    · simp [length_with f l]
theorem length_without {n : ByteArray} : ∀ {l : Fls}, Srt l → (withoutF l n).length + (if (lookF l n).isSome then 1 else 0) = l.length
  | [], _ => rfl
  | y :: l, hs => by
    obtain ⟨h1, h2⟩ := List.pairwise_cons.1 hs
    unfold withoutF lookF
    by_cases e : y.1 = n
    · rw [if_pos e, if_pos e, without_none]
      · simp
      · exact lookF_none_of fun x hx k => ltB_irrefl y.1 (by have := h1 x hx; rwa [k, ← e] at this)
    · rw [if_neg e, if_neg e]
      have := length_without (n := n) h2
      simp only [List.length_cons]; omega
/-- two lists in order that say the same of each name are one -/
theorem srt_ext : ∀ {l m : Fls}, Srt l → Srt m → (∀ n, lookF l n = lookF m n) → l = m
  | [], [], _, _, _ => rfl
  | [], y :: m, _, _, h => by
    have := h y.1
    simp [lookF] at this
  | x :: l, [], _, _, h => by
    have := h x.1
    simp [lookF] at this
  | x :: l, y :: m, hl, hm, h => by
    obtain ⟨h1, h2⟩ := List.pairwise_cons.1 hl
    obtain ⟨h3, h4⟩ := List.pairwise_cons.1 hm
    have hxy : x.1 = y.1 := by
      have a1 := lookF_mem ((h x.1).symm.trans (lookF_of_mem hl List.mem_cons_self))
      have a2 := lookF_mem ((h y.1).trans (lookF_of_mem hm List.mem_cons_self))
      rcases List.mem_cons.1 a1 with a1 | a1
      · exact congrArg Prod.fst a1
      · rcases List.mem_cons.1 a2 with a2 | a2
        · exact (congrArg Prod.fst a2).symm
        · exact absurd (ltB_trans (h1 _ a2) (h3 _ a1)) (ltB_irrefl _)
    have hx2 : x.2 = y.2 := by
      have := h x.1
      simp only [lookF, if_true, hxy] at this
      exact Option.some.inj this
    have e : x = y := Prod.ext hxy hx2
    subst e
    congr 1
    refine srt_ext h2 h4 fun n => ?_
    by_cases k : x.1 = n
    · rw [lookF_none_of (l := l) fun z hz e => ltB_irrefl z.1 (by have := h1 z hz; rwa [k, ← e] at this), lookF_none_of (l := m) fun z hz e => ltB_irrefl z.1 (by have := h3 z hz; rwa [k, ← e] at this)]
    · have := h n
      simp only [lookF, if_neg k] at this
      exact this
end Go.Proofs.Ytmomdfmilelilaa
