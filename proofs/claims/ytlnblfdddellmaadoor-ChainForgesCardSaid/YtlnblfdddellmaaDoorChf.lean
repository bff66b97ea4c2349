/-
  Forged signatures on plain lists: sums that climb to one end meet, or show two lists of bytes with one sum.
-/
import Derived.Test.YtlnblfdddellmaaDoorChm
namespace Go.Proofs.YtlnblfdddellmaaDoor
open Go.RowKit
set_option linter.unusedVariables false
namespace Ch
def col (key c : Nat) : Nat → Nat → List Nat → List Nat → Bool
  | 0, _, _, _ => false
  | n + 1, f, x, y => if x = y then false else if stepS key c f x = stepS key c f y then true else col key c n (f + 1) (stepS key c f x) (stepS key c f y)
def meetsB (key c : Nat) (x : List Nat) (f : Nat) (y : List Nat) (t : Nat) : Bool :=
  if f < t then decide (climbS key c x f (t - f) = y) || col key c (15 - t) t (climbS key c x f (t - f)) y
  else col key c (15 - f) f x (climbS key c y t (f - t))
theorem climb_front (key c : Nat) (x : List Nat) (f n : Nat) : climbS key c x f (n + 1) = climbS key c (stepS key c f x) (f + 1) n := by
  rw [Nat.add_comm, climb_add]; rfl
theorem col_true (key c n : Nat) : ∀ (f : Nat) (x y : List Nat), x ≠ y → climbS key c x f n = climbS key c y f n → col key c n f x y = true := by
  induction n with
  | zero => intro f x y hne h; exact absurd h hne
  | succ n ih =>
    intro f x y hne h
    rw [climb_front, climb_front] at h
    rw [col, if_neg hne]
    by_cases e : stepS key c f x = stepS key c f y
    · rw [if_pos e]
    · rw [if_neg e]; exact ih _ _ _ e h
theorem meets_low (key c : Nat) (x y : List Nat) (f t : Nat) (hf : f < t) (ht : t ≤ 15) (h : climbS key c x f (15 - f) = climbS key c y t (15 - t)) : meetsB key c x f y t = true := by
  rw [meetsB, if_pos hf]
  by_cases e : climbS key c x f (t - f) = y
  · simp [e]
  · rw [col_true key c _ _ _ _ e]
    · simp
    · have := climb_add key c x f (t - f) (15 - t)
      rw [show t - f + (15 - t) = 15 - f by omega, show f + (t - f) = t by omega] at this
      rw [← this, h]
theorem meets_same (key c : Nat) (x y : List Nat) (f : Nat) (hne : x ≠ y) (h : climbS key c x f (15 - f) = climbS key c y f (15 - f)) : meetsB key c x f y f = true := by
  rw [meetsB, if_neg (by omega), Nat.sub_self]
  exact col_true key c _ _ _ _ hne h
theorem low_some {x y : List Nat} {k : Nat} (h : Dg.low x y k = true) : ∃ i, i < k ∧ x.getD i 0 < y.getD i 0 := by
  induction k with
  | zero => simp [Dg.low] at h
  | succ k ih =>
    simp only [Dg.low, Bool.or_eq_true, decide_eq_true_eq] at h
    rcases h with h | h
    · obtain ⟨i, hi, hl⟩ := ih h; exact ⟨i, by omega, hl⟩
    · exact ⟨k, by omega, h⟩
theorem ends_get (seed : List Nat) (key c : Nat) (hc : c < 67) : (endsS seed key).getD c [] = climbS key c (secS seed key c) 0 15 := by
  unfold endsS
  rw [List.getD_eq_getElem?_getD, List.getElem?_map, List.getElem?_range hc]; rfl
theorem sign_get (seed : List Nat) (key : Nat) (m : List Nat) (c : Nat) (hc : c < 67) : (signS seed key m).getD c [] = climbS key c (secS seed key c) 0 ((Dg.digs m).getD c 0) := by
  unfold signS
  rw [List.getD_eq_getElem?_getD, List.getElem?_map, List.getElem?_range hc]; rfl
theorem tops_get (key : Nat) (m : List Nat) (sig : List (List Nat)) (c : Nat) (hc : c < 67) : (topsS key m sig).getD c [] = climbS key c (sig.getD c []) ((Dg.digs m).getD c 0) (15 - (Dg.digs m).getD c 0) := by
  unfold topsS
  rw [List.getD_eq_getElem?_getD, List.getElem?_map, List.getElem?_range hc]; rfl
/-- what is taken for a key, and isn't its own, meets it somewhere -/
theorem forged (seed : List Nat) (key : Nat) (honest m : List Nat) (sig : List (List Nat)) (hh : D32 honest) (hm : D32 m) (hl : sig.length = 67) (ht : topsS key m sig = endsS seed key) (hn : ¬ (m = honest ∧ sig = signS seed key honest)) :
    ∃ c, c < 67 ∧ meetsB key c (sig.getD c []) ((Dg.digs m).getD c 0) ((signS seed key honest).getD c []) ((Dg.digs honest).getD c 0) = true := by
  have key15 : ∀ c, c < 67 → climbS key c (sig.getD c []) ((Dg.digs m).getD c 0) (15 - (Dg.digs m).getD c 0) = climbS key c ((signS seed key honest).getD c []) ((Dg.digs honest).getD c 0) (15 - (Dg.digs honest).getD c 0) := by
    intro c hc
    have h1 : (topsS key m sig).getD c [] = (endsS seed key).getD c [] := by rw [ht]
    rw [tops_get _ _ _ _ hc, ends_get _ _ _ hc] at h1
    have hd := dig_le honest hh c
    rw [h1, sign_get _ _ _ _ hc]
    have := climb_add key c (secS seed key c) 0 ((Dg.digs honest).getD c 0) (15 - (Dg.digs honest).getD c 0)
    rw [Nat.zero_add, show (Dg.digs honest).getD c 0 + (15 - (Dg.digs honest).getD c 0) = 15 by omega] at this
    exact this
  by_cases e : m = honest
  · subst e
    have hs : sig ≠ signS seed key m := fun h => hn ⟨rfl, h⟩
    have : ∃ c, c < 67 ∧ sig.getD c [] ≠ (signS seed key m).getD c [] := by
      apply Classical.byContradiction
      intro hno
      apply hs
      apply List.ext_getElem?
      intro i
      by_cases hi : i < 67
      · have : sig.getD i [] = (signS seed key m).getD i [] := Classical.byContradiction fun h => hno ⟨i, hi, h⟩
        have hl2 : (signS seed key m).length = 67 := by simp [signS]
        rw [List.getElem?_eq_getElem (by omega), List.getElem?_eq_getElem (by omega)]
        rw [List.getD_eq_getElem?_getD, List.getD_eq_getElem?_getD, List.getElem?_eq_getElem (by omega), List.getElem?_eq_getElem (by omega)] at this
        simpa using this
      · rw [List.getElem?_eq_none (by omega), List.getElem?_eq_none (by simp [signS]; omega)]
    obtain ⟨c, hc, hne⟩ := this
    exact ⟨c, hc, meets_same key c _ _ _ hne (key15 c hc)⟩
  · have hlow := Dg.low_ne m honest hm.1 hh.1 hm.2 hh.2 e
    obtain ⟨c, hc, hlt⟩ := low_some hlow
    exact ⟨c, hc, meets_low key c _ _ _ _ hlt (dig_le honest hh c) (key15 c hc)⟩
end Ch
end Go.Proofs.YtlnblfdddellmaaDoor
