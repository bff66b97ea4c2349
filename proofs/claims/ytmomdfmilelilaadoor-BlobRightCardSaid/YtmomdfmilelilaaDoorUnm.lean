/-
  Digits read back, on plain lists.
-/
import Derived.RowKit
import Derived.Laws.BitsAllLaws
namespace Go.Proofs.YtmomdfmilelilaaDoor.Unm
/-- what a digit stands for -/
def hv (c : Nat) : Option Nat := if 48 ≤ c ∧ c ≤ 57 then some (c - 48) else if 97 ≤ c ∧ c ≤ 102 then some (c - 87) else none
/-- the bytes that a text of digits stands for -/
def un : List Nat → Option (List Nat)
  | [] => some []
  | [_] => none
  | x :: y :: r => match hv x, hv y with
    | some a, some b => (un r).map fun l => (16 * a + b) :: l
    | _, _ => none
theorem hv_lt {c v : Nat} (h : hv c = some v) : v < 16 := by
  unfold hv at h
  split at h
  · simp at h; omega
  · split at h
    · simp at h; omega
    · simp at h
theorem un_odd (l : List Nat) (h : l.length % 2 = 1) : un l = none := by
  induction l using un.induct with
  | case1 => simp at h
  | case2 x => rfl
  | case3 x y r a b ha hb ih => rw [un, ha, hb, ih (by simp at h; omega)]; rfl
  | case4 x y r hn => rw [un]; split <;> simp_all
end Go.Proofs.YtmomdfmilelilaaDoor.Unm
