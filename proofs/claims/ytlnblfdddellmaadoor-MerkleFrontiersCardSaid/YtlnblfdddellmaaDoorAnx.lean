/-
  Steps of a region that draws its order: two sums compared.
-/
import Derived.Test.YtlnblfdddellmaaDoorPth
namespace Go.Proofs.YtlnblfdddellmaaDoor
open Go.RowKit
set_option linter.unusedVariables false
section
variable {P : Program} {ops : Array Oper} {Q : Exit → Act → World → Prop} {md : Region.Mode} {S : World → Prop}
theorem anyH_neqG (i : Nat) {d : Nat} {t t' : TypeId} {x y : Operand} {gd : Option (Nat × Bool)} (xs ys : Array Value) (b : Bool) {fuel : Nat} {listed : Array Bool} {a : Act} {w : World}
    (hi : (ops[i]?.map fun o => (o.dst, o.op, o.guard)) = some (some d, Op.binOp .neq t x y t', gd)) (hw : ∀ o : Oper, o.guard = gd → Region.wanted o (yielded ops a.tmps) = true) (hs : Region.noSelect ops = true) (hf : Region.free md ops listed i = true) (hr : (Region.ready md ops listed).contains i = true)
    (hQ : ∀ c a w, Q (.panic c) (a.put (some d) (.bool !b)) w → Q (.panic c) a w) (hx : a.eval x = .agg xs) (hy : a.eval y = .agg ys) (hm : P.eqGuardType P.depth t = false)
    (hrun : ∀ W, (Op.equalIn 10000 t (.agg xs) (.agg ys)).run P W = .ok b W) (hS : S w)
    (h : wpAnyH P md ops Q S fuel (listed.setIfInBounds i true) (a.put (some d) (.bool !b)) w) : wpAnyH P md ops Q S (fuel + 1) listed a w :=
  anyH_pureG i (.bool !b) hi hw hs hf hr hQ (fun o ho W hW => by
    unfold execOp
    simp only [ho, hx, hy, Sem.run_bind, run_eqGuard_agg W .neq t x y xs ys hm, run_neq_struct, hrun W, Result.andThen_ok, Sem.run_pure]) hS h
end
theorem eqD {T E : TypeId} (hT : DT T E) (W : World) {a : List Nat} (ha : D32 a) : (Op.equalIn 10000 E (.agg (cellsOf a).toArray) (.agg (cellsOf a).toArray)).run Tryd.prog W = .ok true W := by
  simpa using eq_dig E 32 hT.undE W a a ha.1 ha.1 ha.2 ha.2
theorem eqDD {T E : TypeId} (hT : DT T E) (W : World) {a b : List Nat} (ha : D32 a) (hb : D32 b) : (Op.equalIn 10000 E (.agg (cellsOf a).toArray) (.agg (cellsOf b).toArray)).run Tryd.prog W = .ok (decide (a = b)) W := eq_dig E 32 hT.undE W a b ha.1 hb.1 ha.2 hb.2
end Go.Proofs.YtlnblfdddellmaaDoor
