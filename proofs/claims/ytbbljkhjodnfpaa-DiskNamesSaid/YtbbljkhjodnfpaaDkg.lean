/-
  A disk in memory: which names it has behind each change.
-/
import Derived.Test.YtbbljkhjodnfpaaDkf
namespace Go.Proofs.Ytbbljkhjodnfpaa
open Go.RowKit Go.Maps
set_option linter.unusedVariables false
theorem DKr.tidy {B : Nat} {S : Dsk} {w : World} (h : DKr B S w) : Tidy S.D := by
  rcases h.hm with ⟨_, h1⟩ | ⟨b, _, _, h3⟩
  · rw [h1]; exact tidy_empty
  · exact h3.tidy mapLaw
theorem at_put {S : Dsk} (h : IsMap S.D) (m b : Nat) (f : Fil) (x : ByteArray) : (S.put m b f).at x = if x = f.nm then some b else S.at x := by
  unfold Dsk.at Dsk.put
  by_cases e : x = f.nm
  · subst e
    simp only [if_true]
    rw [atKey_put_same h (by trivial)]
    simp
  · rw [if_neg e]
    simp only
    rw [atKey_put_other (fun y => e (keyS_inj y))]
theorem at_drop {S : Dsk} (f : Fil) (x : ByteArray) : (S.drop f).at x = if x = f.nm then none else S.at x := by
  unfold Dsk.at Dsk.drop
  by_cases e : x = f.nm
  · subst e
    simp only [if_true]
    rw [atKey_del_same]
  · rw [if_neg e]
    simp only
    rw [atKey_del_other (fun y => e (keyS_inj y))]
theorem DKr.has {B : Nat} {S : Dsk} {w : World} (h : DKr B S w) (s : ByteArray) : Maps.has S.D (keyS s) = (S.at s).isSome := by
  rcases h.hr s with h0 | ⟨b, f, h1, h2, h3⟩
  · rw [h0]
    unfold Dsk.at
    rw [atKey_of_not_has h0]
    rfl
  · have e : S.at s = some b := by unfold Dsk.at; rw [h1]; simp
    rw [e]
    cases hh : Maps.has S.D (keyS s) with
    | true => rfl
    | false =>
      rw [atKey_of_not_has hh] at h1
      cases h1
theorem step_same {S : Dsk} (hf : S.fuse = -1) : S.step = (S, 0) := by
  unfold Dsk.step
  rw [if_neg (by omega), if_neg (by omega)]
/-- behind a Create that nothing refused -/
theorem made_facts {B d : Nat} {S : Dsk} {w : World} (h : DK B d S w) (s : ByteArray) (b m : Nat) (v : Value) (ha : S.at s = none) :
    (∀ x, (S.made s b m v).at x = if x = s then some b else S.at x) ∧ Maps.size (S.made s b m v).D = Maps.size S.D + 1 := by
  have hm : IsMap (S.file b ⟨s, .slice none 0 0, []⟩).D := h.rest.tidy.isMap
  refine ⟨fun x => ?_, ?_⟩
  · exact at_put hm m b ⟨s, .slice none 0 0, []⟩ x
  · show Maps.size (S.D.put (keyS s) _) = _
    rw [size_put h.rest.tidy, h.rest.has, ha]
    rfl
/-- behind a Remove that nothing refused -/
theorem gone_facts {B d : Nat} {S : Dsk} {w : World} (h : DK B d S w) (f : Fil) (b : Nat) (v : Value) (ha : S.at f.nm = some b) :
    (∀ x, (S.gone f b v).at x = if x = f.nm then none else S.at x) ∧ Maps.size (S.gone f b v).D + 1 = Maps.size S.D := by
  refine ⟨fun x => at_drop f x, ?_⟩
  have := size_del (k := keyS f.nm) h.rest.tidy
  rw [h.rest.has, ha] at this
  exact this
end Go.Proofs.Ytbbljkhjodnfpaa
