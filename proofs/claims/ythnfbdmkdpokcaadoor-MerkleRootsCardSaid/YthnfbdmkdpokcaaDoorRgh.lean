/-
  Steps of a region that draws its order, under a condition that is kept: loads are taken first.
-/
import Derived.Test.YthnfbdmkdpokcaaDoorReg
import Derived.OrdersHeld
import Derived.Deep.RegionHeld
namespace Go.Proofs.YthnfbdmkdpokcaaDoor
open Go.RowKit
set_option linter.unusedVariables false
section
variable {P : Program} {ops : Array Oper} {Q : Exit → Act → World → Prop} {md : Region.Mode} {S : World → Prop}
/-- what yields in every world that meets S is taken first -/
theorem anyH_pure (i : Nat) {d : Nat} {op : Op} (v : Value) {fuel : Nat} {listed : Array Bool} {a : Act} {w : World}
    (hi : (ops[i]?.map fun o => (o.dst, o.op, o.guard)) = some (some d, op, none)) (hs : Region.noSelect ops = true) (hf : Region.free md ops listed i = true) (hr : (Region.ready md ops listed).contains i = true)
    (hQ : ∀ c a w, Q (.panic c) (a.put (some d) v) w → Q (.panic c) a w) (hy : ∀ o : Oper, o.op = op → ∀ W, S W → (execOp a.eval o).run P W = .ok (.value v) W) (hS : S w)
    (h : wpAnyH P md ops Q S fuel (listed.setIfInBounds i true) (a.put (some d) v) w) : wpAnyH P md ops Q S (fuel + 1) listed a w := by
  cases ho : ops[i]? with
  | none => simp [ho] at hi
  | some o =>
    simp only [ho, Option.map_some, Option.some.injEq, Prod.mk.injEq] at hi
    obtain ⟨h1, h2, h3⟩ := hi
    refine wpAnyH_take ho hs hf hr ?_ (Or.inl ⟨wanted_plain h3 a, hy o h2⟩) hS ?_
    · rw [h1]; exact hQ
    · rw [h1]; exact h
theorem anyH_load (i : Nat) {d : Nat} {ty : TypeId} {x : Operand} {p : Value} (v : Value) {fuel : Nat} {listed : Array Bool} {a : Act} {w : World}
    (hi : (ops[i]?.map fun o => (o.dst, o.op, o.guard)) = some (some d, Op.load ty x, none)) (hs : Region.noSelect ops = true) (hf : Region.free md ops listed i = true) (hr : (Region.ready md ops listed).contains i = true)
    (hQ : ∀ c a w, Q (.panic c) (a.put (some d) v) w → Q (.panic c) a w) (hx : a.eval x = p) (hy : ∀ W, S W → (Instr.loadAt ty p).run P W = .ok v W) (hS : S w)
    (h : wpAnyH P md ops Q S fuel (listed.setIfInBounds i true) (a.put (some d) v) w) : wpAnyH P md ops Q S (fuel + 1) listed a w :=
  anyH_pure i v hi hs hf hr hQ (fun o ho W hW => by unfold execOp; simp only [ho, hx, hy W hW, Sem.run_bind, Result.andThen_ok, Sem.run_pure]) hS h
/-- a call alone may come up: by its contract; the condition is shown anew -/
theorem anyH_call (i : Nat) {d : Option Tmp} {f : FuncId} {xs : Array Operand} {ts : Array TypeId} {vs : Array Value} {fuel : Nat} {listed : Array Bool} {a : Act} {w : World} {R : Ending → World → Prop}
    (h0 : Region.ready md ops listed = [i]) (hi : (ops[i]?.map fun o => (o.dst, o.op, o.guard)) = some (d, Op.call { callee := .value (.func f), args := xs, argTypes := ts }, none)) (hx : xs.map a.eval = vs)
    (hf : (callFunc f vs).run P w = .ok (.enter f vs) w) (hc : Calls P f vs w R)
    (h : ∀ e w', R e w' → ∃ v, e = .returned v ∧ S w' ∧ (S w' → wpAnyH P md ops Q S fuel (listed.setIfInBounds i true) (a.put d v) w')) : wpAnyH P md ops Q S (fuel + 1) listed a w := by
  refine wpAnyH_all h0 (by simp) ?_
  intro k hk
  simp only [List.mem_cons, List.not_mem_nil, or_false] at hk
  subst hk
  cases ho : ops[k]? with
  | none => simp [ho] at hi
  | some o =>
    simp only [ho, Option.map_some, Option.some.injEq, Prod.mk.injEq] at hi
    obtain ⟨h1, h2, h3⟩ := hi
    unfold wpOp
    simp only [ho, wanted_plain h3, if_true]
    refine .inl ?_
    have hr : (execOp a.eval o).run P w = .ok (.enter f vs) w := by
      unfold execOp
      rw [h2]
      simp [resolve, invoke, hx, Act.eval, go_sem, hf]
    unfold Oper.wp
    rw [hr]
    refine hc.mono fun e w' hR => ?_
    obtain ⟨v, rfl, hS, hv⟩ := h e w' hR
    rw [h1]
    exact ⟨hS, hv hS⟩
/-- the same where the operation bears a guard that lets it be -/
theorem anyH_pureG (i : Nat) {d : Nat} {op : Op} {gd : Option (Nat × Bool)} (v : Value) {fuel : Nat} {listed : Array Bool} {a : Act} {w : World}
    (hi : (ops[i]?.map fun o => (o.dst, o.op, o.guard)) = some (some d, op, gd)) (hw : ∀ o : Oper, o.guard = gd → Region.wanted o (yielded ops a.tmps) = true) (hs : Region.noSelect ops = true) (hf : Region.free md ops listed i = true) (hr : (Region.ready md ops listed).contains i = true)
    (hQ : ∀ c a w, Q (.panic c) (a.put (some d) v) w → Q (.panic c) a w) (hy : ∀ o : Oper, o.op = op → ∀ W, S W → (execOp a.eval o).run P W = .ok (.value v) W) (hS : S w)
    (h : wpAnyH P md ops Q S fuel (listed.setIfInBounds i true) (a.put (some d) v) w) : wpAnyH P md ops Q S (fuel + 1) listed a w := by
  cases ho : ops[i]? with
  | none => simp [ho] at hi
  | some o =>
    simp only [ho, Option.map_some, Option.some.injEq, Prod.mk.injEq] at hi
    obtain ⟨h1, h2, h3⟩ := hi
    refine wpAnyH_take ho hs hf hr ?_ (Or.inl ⟨hw o h3, hy o h2⟩) hS ?_
    · rw [h1]; exact hQ
    · rw [h1]; exact h
/-- an operation that its guard keeps out -/
theorem anyH_skip (i : Nat) {d : Nat} {op : Op} {gd : Option (Nat × Bool)} {fuel : Nat} {listed : Array Bool} {a : Act} {w : World}
    (hi : (ops[i]?.map fun o => (o.dst, o.op, o.guard)) = some (some d, op, gd)) (hw : ∀ o : Oper, o.guard = gd → Region.wanted o (yielded ops a.tmps) = false) (hs : Region.noSelect ops = true) (hf : Region.free md ops listed i = true) (hr : (Region.ready md ops listed).contains i = true)
    (hQ : ∀ c a w, Q (.panic c) (a.put (some d) undef) w → Q (.panic c) a w) (hS : S w)
    (h : wpAnyH P md ops Q S fuel (listed.setIfInBounds i true) (a.put (some d) undef) w) : wpAnyH P md ops Q S (fuel + 1) listed a w := by
  cases ho : ops[i]? with
  | none => simp [ho] at hi
  | some o =>
    simp only [ho, Option.map_some, Option.some.injEq, Prod.mk.injEq] at hi
    obtain ⟨h1, h2, h3⟩ := hi
    refine wpAnyH_take ho hs hf hr ?_ (Or.inr ⟨hw o h3, rfl⟩) hS ?_
    · rw [h1]; exact hQ
    · rw [h1]; exact h
theorem anyH_loadG (i : Nat) {d : Nat} {ty : TypeId} {x : Operand} {gd : Option (Nat × Bool)} {p : Value} (v : Value) {fuel : Nat} {listed : Array Bool} {a : Act} {w : World}
    (hi : (ops[i]?.map fun o => (o.dst, o.op, o.guard)) = some (some d, Op.load ty x, gd)) (hw : ∀ o : Oper, o.guard = gd → Region.wanted o (yielded ops a.tmps) = true) (hs : Region.noSelect ops = true) (hf : Region.free md ops listed i = true) (hr : (Region.ready md ops listed).contains i = true)
    (hQ : ∀ c a w, Q (.panic c) (a.put (some d) v) w → Q (.panic c) a w) (hx : a.eval x = p) (hy : ∀ W, S W → (Instr.loadAt ty p).run P W = .ok v W) (hS : S w)
    (h : wpAnyH P md ops Q S fuel (listed.setIfInBounds i true) (a.put (some d) v) w) : wpAnyH P md ops Q S (fuel + 1) listed a w :=
  anyH_pureG i v hi hw hs hf hr hQ (fun o ho W hW => by unfold execOp; simp only [ho, hx, hy W hW, Sem.run_bind, Result.andThen_ok, Sem.run_pure]) hS h
theorem anyH_eqG (i : Nat) {d : Nat} {t t' : TypeId} {x y : Operand} {gd : Option (Nat × Bool)} (xs ys : Array Value) (b : Bool) {fuel : Nat} {listed : Array Bool} {a : Act} {w : World}
    (hi : (ops[i]?.map fun o => (o.dst, o.op, o.guard)) = some (some d, Op.binOp .eql t x y t', gd)) (hw : ∀ o : Oper, o.guard = gd → Region.wanted o (yielded ops a.tmps) = true) (hs : Region.noSelect ops = true) (hf : Region.free md ops listed i = true) (hr : (Region.ready md ops listed).contains i = true)
    (hQ : ∀ c a w, Q (.panic c) (a.put (some d) (.bool b)) w → Q (.panic c) a w) (hx : a.eval x = .agg xs) (hy : a.eval y = .agg ys) (hm : P.eqGuardType P.depth t = false)
    (hrun : ∀ W, (Op.equalIn 10000 t (.agg xs) (.agg ys)).run P W = .ok b W) (hS : S w)
    (h : wpAnyH P md ops Q S fuel (listed.setIfInBounds i true) (a.put (some d) (.bool b)) w) : wpAnyH P md ops Q S (fuel + 1) listed a w :=
  anyH_pureG i (.bool b) hi hw hs hf hr hQ (fun o ho W hW => by
    unfold execOp
    simp only [ho, hx, hy, Sem.run_bind, run_eqGuard_agg W .eql t x y xs ys hm, run_eql_struct, hrun W, Result.andThen_ok, Sem.run_pure]) hS h
theorem anyH_callG (i : Nat) {d : Option Tmp} {f : FuncId} {xs : Array Operand} {ts : Array TypeId} {gd : Option (Nat × Bool)} {vs : Array Value} {fuel : Nat} {listed : Array Bool} {a : Act} {w : World} {R : Ending → World → Prop}
    (h0 : Region.ready md ops listed = [i]) (hi : (ops[i]?.map fun o => (o.dst, o.op, o.guard)) = some (d, Op.call { callee := .value (.func f), args := xs, argTypes := ts }, gd)) (hw : ∀ o : Oper, o.guard = gd → Region.wanted o (yielded ops a.tmps) = true) (hx : xs.map a.eval = vs)
    (hf : (callFunc f vs).run P w = .ok (.enter f vs) w) (hc : Calls P f vs w R)
    (h : ∀ e w', R e w' → ∃ v, e = .returned v ∧ S w' ∧ (S w' → wpAnyH P md ops Q S fuel (listed.setIfInBounds i true) (a.put d v) w')) : wpAnyH P md ops Q S (fuel + 1) listed a w := by
  refine wpAnyH_all h0 (by simp) ?_
  intro k hk
  simp only [List.mem_cons, List.not_mem_nil, or_false] at hk
  subst hk
  cases ho : ops[k]? with
  | none => simp [ho] at hi
  | some o =>
    simp only [ho, Option.map_some, Option.some.injEq, Prod.mk.injEq] at hi
    obtain ⟨h1, h2, h3⟩ := hi
    unfold wpOp
    simp only [ho, hw o h3, if_true]
    refine .inl ?_
    have hr : (execOp a.eval o).run P w = .ok (.enter f vs) w := by
      unfold execOp
      rw [h2]
      simp [resolve, invoke, hx, Act.eval, go_sem, hf]
    unfold Oper.wp
    rw [hr]
    refine hc.mono fun e w' hR => ?_
    obtain ⟨v, rfl, hS, hv⟩ := h e w' hR
    rw [h1]
    exact ⟨hS, hv hS⟩
/-- a load whose guard lets it be -/
theorem wpList_loadg {rest : List Oper} {o : Oper} {a : Act} {w : World} (ty : TypeId) (x : Operand) (ho : o.op = .load ty x) (hw : Region.wanted o (yielded ops a.tmps) = true) (p : Value) (hx : a.eval x = p) (v : Value)
    (hrun : (Instr.loadAt ty p).run P w = .ok v w) (h : wpList P ops Q rest (a.put o.dst v) w) : wpList P ops Q (o :: rest) a w := by
  rw [wpList, if_pos hw]
  refine .inl ?_
  unfold Oper.wp execOp
  simp only [ho, hx, hrun, Sem.run_bind, Result.andThen_ok, Sem.run_pure]
  exact h
/-- two sums are compared -/
theorem wpList_eqg {rest : List Oper} {o : Oper} {a : Act} {w : World} (t t' : TypeId) (x y : Operand) (ho : o.op = .binOp .eql t x y t') (hw : Region.wanted o (yielded ops a.tmps) = true) (xs ys : Array Value) (hx : a.eval x = .agg xs) (hy : a.eval y = .agg ys)
    (hm : P.eqGuardType P.depth t = false) (b : Bool) (hrun : (Op.equalIn 10000 t (.agg xs) (.agg ys)).run P w = .ok b w) (h : wpList P ops Q rest (a.put o.dst (.bool b)) w) : wpList P ops Q (o :: rest) a w := by
  rw [wpList, if_pos hw]
  refine .inl ?_
  unfold Oper.wp execOp
  simp only [ho, hx, hy, Sem.run_bind, run_eqGuard_agg w .eql t x y xs ys hm, run_eql_struct, hrun, Result.andThen_ok, Sem.run_pure]
  exact h
theorem anyH_begin {id : Nat} {a : Act} {w : World} (hm : P.follows .mixedOrders = true) (h : wpAnyH P .any ops Q S ops.size (Array.replicate ops.size false) a w.drew) : (Code.region id ops true).wp P Q a w :=
  wp_region_held hm h
end
end Go.Proofs.YthnfbdmkdpokcaaDoor
