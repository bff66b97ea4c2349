/-
  The walk over ChainClimbs.
-/
import Derived.Test.YtlnblfdddellmaaDoorChs
namespace Go.Proofs.YtlnblfdddellmaaDoor
open Go.RowKit
set_option linter.unusedVariables false
section
variable {P : Program} {ops : Array Oper} {Q : Exit → Act → World → Prop} {md : Region.Mode} {S : World → Prop}
theorem anyH_neqC (i : Nat) {d : Nat} {t t' : TypeId} {x y : Operand} {gd : Option (Nat × Bool)} (xs ys : Array Value) (b : Bool) {fuel : Nat} {listed : Array Bool} {a : Act} {w : World}
    (hi : (ops[i]?.map fun o => (o.dst, o.op, o.guard)) = some (some d, Op.binOp .neq t x y t', gd)) (hw : ∀ o : Oper, o.guard = gd → Region.wanted o (yielded ops a.tmps) = true) (hs : Region.noSelect ops = true) (hf : Region.free md ops listed i = true) (hr : (Region.ready md ops listed).contains i = true)
    (hQ : ∀ c a w, Q (.panic c) (a.put (some d) (.bool !b)) w → Q (.panic c) a w) (hx : a.eval x = .agg xs) (hy : a.eval y = .agg ys) (hm : P.eqGuardType P.depth t = false)
    (hrun : ∀ W, (Op.equalIn 10000 t (.agg xs) (.agg ys)).run P W = .ok b W) (hS : S w)
    (h : wpAnyH P md ops Q S fuel (listed.setIfInBounds i true) (a.put (some d) (.bool !b)) w) : wpAnyH P md ops Q S (fuel + 1) listed a w :=
  anyH_pureG i (.bool !b) hi hw hs hf hr hQ (fun o ho W hW => by
    unfold execOp
    simp only [ho, hx, hy, Sem.run_bind, run_eqGuard_agg W .neq t x y xs ys hm, run_neq_struct, hrun W, Result.andThen_ok, Sem.run_pure]) hS h
end
/-- what came in, and the sum that is told -/
def CC (w : World) (g : Nat) (x y : List Nat) (W : World) : Prop := Brow W w.heap.size 31 x ∧ Brow W g 32 y ∧ Below w.heap.size w W
theorem CC.below {w W W' : World} {g : Nat} {x y : List Nat} (h : CC w g x y W) (hb : Below W.heap.size W W') : CC w g x y W' :=
  ⟨h.1.below hb h.1.lt, h.2.1.below hb h.2.1.lt, h.2.2.trans (hb.mono h.2.2.size)⟩
theorem CC.drew {w W : World} {g : Nat} {x y : List Nat} (h : CC w g x y W) : CC w g x y W.drew := ⟨h.1.drew, h.2.1.drew, h.2.2.drew⟩
theorem CC.lay {w W : World} {x y : List Nat} (h : B1 w 31 x W) (V : Obj) (hV : V = .cells (cellsOf zs32).toArray 32 (0, 0)) : CC w W.heap.size x y ((W.alloc V).setRow W.heap.size (cellsOf y).toArray) := by
  subst hV
  have hb := ((Below.refl W.heap.size W).alloc (Nat.le_refl _) (.cells (cellsOf zs32).toArray 32 (0, 0))).setRow (Nat.le_refl _) (cellsOf y).toArray
  exact ⟨h.1.below hb h.1.lt, (Brow.new W 32 zs32).setRow, h.2.trans (hb.mono h.2.size)⟩
theorem CC.more {w W : World} {g : Nat} {x y z : List Nat} (h : CC w g x y W) (V : Obj) (hV : V = .cells (cellsOf zs32).toArray 32 (0, 0)) : CC w g x y ((W.alloc V).setRow W.heap.size (cellsOf z).toArray) ∧ Brow ((W.alloc V).setRow W.heap.size (cellsOf z).toArray) W.heap.size 32 z := by
  subst hV
  have hb := ((Below.refl W.heap.size W).alloc (Nat.le_refl _) (.cells (cellsOf zs32).toArray 32 (0, 0))).setRow (Nat.le_refl _) (cellsOf z).toArray
  exact ⟨h.below hb, (Brow.new W 32 zs32).setRow⟩
end Go.Proofs.YtlnblfdddellmaaDoor
