/-
  The walk over the document's Extends; what Extends says, of any numbers.
-/
import Derived.Test.YtoknjhpdbigbhaaDoorGrr
import Derived.Test.YtoknjhpdbigbhaaDoorExz
namespace Go.Proofs.YtoknjhpdbigbhaaDoor
open Go.RowKit
set_option linter.unusedVariables false
def RE3 (w : World) (old root : List Nat) (g : Nat) (x : List Nat) (W : World) : Prop := R2 w old root W ∧ Brow W g 31 x
theorem both_none {old : List Nat} {m n : Nat} {way : Ds} (h : growS old m n true way = none) (root : List Nat) : decide (bothS old m n true way = some (old, root)) = false := by
  unfold bothS Mk.both
  rw [show Mk.grow nodeS old m n true way = none from h]
  rfl
theorem both_more {old x y s : List Nat} {m n : Nat} {way r : Ds} (h : growS old m n true way = some (x, y, s :: r)) (root : List Nat) : decide (bothS old m n true way = some (old, root)) = false := by
  unfold bothS Mk.both
  rw [show Mk.grow nodeS old m n true way = some (x, y, s :: r) from h]
  rfl
theorem both_just {old x y : List Nat} {m n : Nat} {way : Ds} (h : growS old m n true way = some (x, y, [])) (root : List Nat) : decide (bothS old m n true way = some (old, root)) = (decide (x = old) && decide (y = root)) := by
  unfold bothS Mk.both
  rw [show Mk.grow nodeS old m n true way = some (x, y, []) from h]
  simp only [Option.some.injEq, Prod.mk.injEq, Bool.decide_and]
/-- what Extends says, of any numbers -/
def exB (old : List Nat) (m : Int) (root : List Nat) (n : Int) (way : Ds) : Bool :=
  if m < 0 ∨ n < m then false else if m = 0 then decide (way.length = 0) && (decide (old = Sha.sum []) && (decide (n.toNat ≠ 0) || decide (root = Sha.sum []))) else decide (bothS old m.toNat n.toNat true way = some (old, root))
theorem ext_g (m n : Int) (old root : List Nat) (a : Option Addr) (l cap : Nat) (way : Ds) (w : World) (hn : n ≤ 9223372036854775807) (ho : D32 old) (hr : D32 root) (hw : DR w a l way) (hlc : l ≤ cap) (hcm : cap ≤ 9223372036854775807) (ht : Tab w) :
    Calls Tryd.prog 21 #[.agg (cellsOf old).toArray, .int .i64 m, .agg (cellsOf root).toArray, .int .i64 n, .slice a l cap] w fun e w' => e = .returned (.bool (exB old m root n way)) ∧ Below w.heap.size w w' := by
  unfold exB
  by_cases h : m < 0 ∨ n < m
  · rw [if_pos h]; exact ext_no old root m n a l cap w h
  · rw [if_neg h]
    have e2 : n = (n.toNat : Int) := by omega
    by_cases h0 : m = 0
    · subst h0
      rw [if_pos rfl, hw.1]
      have := ext_zero old root n.toNat a l cap w (by omega) ho hr ht
      rw [← e2] at this
      exact this
    · rw [if_neg h0]
      have e1 : m = (m.toNat : Int) := by omega
      have := ext_yes old root m.toNat n.toNat a l cap way w (by omega) (by omega) (by omega) ho hr hw hlc hcm ht
      rw [← e1, ← e2] at this
      exact this
end Go.Proofs.YtoknjhpdbigbhaaDoor
