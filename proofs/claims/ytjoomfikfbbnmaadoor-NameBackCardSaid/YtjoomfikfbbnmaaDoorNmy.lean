/-
  A reference and its text, plain: what is shown is read back, and what is read is shown again.
-/
import Derived.Test.YtjoomfikfbbnmaaDoorNmx
namespace Go.Proofs.YtjoomfikfbbnmaaDoor
set_option linter.unusedVariables false
open Go.RowKit Go.Proofs.Nm
theorem goR_mem (l : List UInt8) : ∀ st, goR st l = true → ∀ c ∈ l, c ≠ 58 ∧ c ≠ 64 := by
  induction l with
  | nil => intro st _ c hc; cases hc
  | cons c l ih =>
    intro st h d hd
    have key : (∃ s', goR s' l = true) ∧ c ≠ 58 ∧ c ≠ 64 := by
      unfold goR at h
      by_cases h1 : smallB c = true
      · rw [if_pos h1] at h
        refine ⟨⟨_, h⟩, ?_, ?_⟩
        · rintro rfl; exact absurd h1 (by decide)
        · rintro rfl; exact absurd h1 (by decide)
      rw [if_neg h1] at h
      have ne : ∀ x : UInt8, c = x → x ≠ 58 → x ≠ 64 → c ≠ 58 ∧ c ≠ 64 := fun x e h1 h2 => by subst e; exact ⟨h1, h2⟩
      split at h
      · rename_i hc
        simp only [Bool.and_eq_true, beq_iff_eq] at hc
        exact ⟨⟨_, h⟩, ne 47 hc.1 (by decide) (by decide)⟩
      · split at h
        · rename_i hc
          simp only [Bool.and_eq_true, beq_iff_eq] at hc
          exact ⟨⟨_, h⟩, ne 46 hc.1 (by decide) (by decide)⟩
        · split at h
          · rename_i hc
            simp only [Bool.and_eq_true, beq_iff_eq] at hc
            exact ⟨⟨_, h⟩, ne 95 hc.1 (by decide) (by decide)⟩
          · split at h
            · rename_i hc
              simp only [Bool.and_eq_true, beq_iff_eq] at hc
              exact ⟨⟨_, h⟩, ne 95 hc.1 (by decide) (by decide)⟩
            · split at h
              · rename_i hc
                simp only [Bool.and_eq_true, beq_iff_eq] at hc
                exact ⟨⟨_, h⟩, ne 45 hc.1 (by decide) (by decide)⟩
              · cases h
    rcases List.mem_cons.1 hd with rfl | hd
    · exact key.2
    · obtain ⟨s', hs'⟩ := key.1
      exact ih s' hs' d hd
theorem repoB_mem {a : List UInt8} (h : repoB a = true) : 58 ∉ a ∧ 64 ∉ a := by
  unfold repoB at h
  rw [Bool.and_eq_true] at h
  exact ⟨fun hc => (goR_mem a 0 h.1 58 hc).1 rfl, fun hc => (goR_mem a 0 h.1 64 hc).2 rfl⟩
theorem tagOk_mem {b : List UInt8} (h : tagOk b = true) : 64 ∉ b ∧ b ≠ [] := by
  unfold tagOk at h
  rw [Bool.and_eq_true] at h
  cases b with
  | nil => exact absurd h.1 (by decide)
  | cons c m =>
    have h1 : (tagB c && m.all (fun c => tagB c || c == 46 || c == 45)) = true := h.1
    rw [Bool.and_eq_true] at h1
    refine ⟨fun hc => ?_, by simp⟩
    rcases List.mem_cons.1 hc with rfl | hc
    · exact absurd h1.1 (by decide)
    · exact absurd (List.all_eq_true.1 h1.2 _ hc) (by decide)
/-- what is written of a reference is read as that reference -/
theorem back_show (a b : List UInt8) (p : Bool) (x : List Nat) (hx : D32 x) (S : List UInt8) (h : shs a b p x = (S, 0)) : prs S = (refC a b p (if p = true then x else zs32), 0) := by
  unfold shs at h
  cases hR : repoB a with
  | false => rw [hR] at h; simp at h
  | true =>
    rw [hR, if_pos rfl] at h
    obtain ⟨m1, m2⟩ := repoB_mem hR
    have hp : pz (T (txL x)) = some x := by
      have := pz_text x hx.1 hx.2
      unfold txL
      exact this
    have h2 : (p = true → prs2 a b (some (txL x)) = (refC a b true x, 0)) := fun _ => by unfold prs2; simp only [hp]
    cases hb : b.isEmpty with
    | true =>
      obtain rfl : b = [] := List.isEmpty_iff.1 hb
      rw [if_pos (.inl rfl)] at h
      obtain rfl := (Prod.mk.inj h).1
      cases p with
      | false =>
        have e : showL a [] false x = a := by unfold showL; simp
        rw [e]
        unfold prs
        rw [cutL_none 64 a m2]
        simp only []
        rw [cutL_none 58 a m1, if_pos hR]
        rfl
      | true =>
        have e : showL a [] true x = a ++ 64 :: txL x := by unfold showL; simp
        rw [e]
        unfold prs
        rw [cutL_some 64 a _ m2]
        simp only []
        rw [cutL_none 58 a m1, if_pos hR]
        exact h2 rfl
    | false =>
      cases hT : tagOk b with
      | false => rw [hb, hT] at h; simp at h
      | true =>
        rw [if_pos (.inr hT)] at h
        obtain rfl := (Prod.mk.inj h).1
        obtain ⟨m3, _⟩ := tagOk_mem hT
        have m4 : (64 : UInt8) ∉ a ++ 58 :: b := by
          simp only [List.mem_append, List.mem_cons, not_or]
          exact ⟨m2, by decide, m3⟩
        cases p with
        | false =>
          have e : showL a b false x = a ++ 58 :: b := by unfold showL; rw [hb]; simp
          rw [e]
          unfold prs
          rw [cutL_none 64 _ m4]
          simp only []
          rw [cutL_some 58 a b m1, if_pos hR]
          simp only [prs1]
          rw [if_pos hT]
          rfl
        | true =>
          have e : showL a b true x = (a ++ 58 :: b) ++ 64 :: txL x := by unfold showL; rw [hb]; simp
          rw [e]
          unfold prs
          rw [cutL_some 64 _ _ m4]
          simp only []
          rw [cutL_some 58 a b m1, if_pos hR]
          simp only [prs1]
          rw [if_pos hT]
          exact h2 rfl
/-- a text that is a reference is what it is shown as -/
theorem back_read (l : List UInt8) (h : (prs l).2 = 0) : ∃ (a b : List UInt8) (p : Bool) (x : List Nat), D32 x ∧ prs l = (refC a b p x, 0) ∧ shs a b p x = (l, 0) := by
  unfold prs at h ⊢
  obtain ⟨p1, hp1⟩ : ∃ p, (cutL 64 l).1 = p := ⟨_, rfl⟩
  obtain ⟨o1, ho1⟩ : ∃ p, (cutL 64 l).2 = p := ⟨_, rfl⟩
  obtain ⟨a, ha⟩ : ∃ p, (cutL 58 p1).1 = p := ⟨_, rfl⟩
  obtain ⟨o2, ho2⟩ : ∃ p, (cutL 58 p1).2 = p := ⟨_, rfl⟩
  have b1 := cutL_back 64 l
  have b2 := cutL_back 58 p1
  rw [hp1, ho1] at b1
  rw [ha, ho2] at b2
  rw [hp1, ha, ho1, ho2] at h ⊢
  cases hR : repoB a with
  | false => rw [hR] at h; simp at h
  | true =>
    rw [hR, if_pos rfl] at h
    rw [if_pos rfl]
    have tail : ∀ r2 : List UInt8, (r2.isEmpty = true ∨ tagOk r2 = true) → (prs2 a r2 o1).2 = 0 → p1 = (if r2.isEmpty = true then a else a ++ 58 :: r2) → ∃ (a' b : List UInt8) (p : Bool) (x : List Nat), D32 x ∧ prs2 a r2 o1 = (refC a' b p x, 0) ∧ shs a' b p x = (l, 0) := by
      intro r2 hr h0 hpl
      have hs : ∀ p x, shs a r2 p x = (showL a r2 p x, 0) := fun p x => by unfold shs; rw [hR, if_pos rfl, if_pos hr]
      rcases b1 with ⟨r1, e1, e2⟩ | ⟨e1, e2, _⟩
      · subst e1
        cases hz : pz (T r1) with
        | none => unfold prs2 at h0; simp only [hz] at h0; cases h0
        | some d =>
          have hd := pz_d32 hz
          refine ⟨a, r2, true, d, hd, by unfold prs2; simp only [hz], ?_⟩
          rw [hs]
          have ht : txL d = r1 := by
            have := pz_back hz
            unfold txL
            rw [this]
          unfold showL
          rw [← hpl, ht, if_pos rfl, e2]
      · subst e1
        refine ⟨a, r2, false, zs32, d32_zs, rfl, ?_⟩
        rw [hs]
        unfold showL
        rw [← hpl, e2]
        simp
    rcases b2 with ⟨r2, e1, e2⟩ | ⟨e1, e2, _⟩
    · subst e1
      simp only [prs1] at h ⊢
      cases hT : tagOk r2 with
      | false => rw [hT] at h; simp at h
      | true =>
        rw [hT, if_pos rfl] at h
        rw [if_pos rfl]
        obtain ⟨_, hne⟩ := tagOk_mem hT
        exact tail r2 (.inr hT) h (by rw [if_neg (fun he => hne (List.isEmpty_iff.1 he))]; exact e2)
    · subst e1
      simp only [prs1] at h ⊢
      exact tail [] (.inl rfl) h e2
end Go.Proofs.YtjoomfikfbbnmaaDoor
